/-
  Layer 4 (ether): an address out of its text.
-/
import Derived.Test.YtklolalgbcgdiaaPrintMac
import Derived.Test.YtklolalgbcgdiaaShelf
import Derived.Deep.DeepCutAuto
namespace Go.Proofs.Ytklolalgbcgdiaa
open Go.RowKit

def hexv (c : Int) : Int := if 48 ≤ c ∧ c ≤ 57 then c - 48 else if 97 ≤ c ∧ c ≤ 102 then c - 87 else -1
theorem hexv_bd (c : Int) : -1 ≤ hexv c ∧ hexv c < 16 := by
  unfold hexv
  split
  · omega
  · split <;> omega
theorem index_hex : ∀ n : Fin 256, Lib.indexByte [48, 49, 50, 51, 52, 53, 54, 55, 56, 57, 97, 98, 99, 100, 101, 102] n.val.toUInt8 = hexv n.val := by decide +kernel
theorem index_hex_of (c : Int) (h0 : 0 ≤ c) (h1 : c < 256) : Lib.indexByte [48, 49, 50, 51, 52, 53, 54, 55, 56, 57, 97, 98, 99, 100, 101, 102] c.toNat.toUInt8 = hexv c := by
  have := index_hex ⟨c.toNat, by omega⟩
  rw [this]; congr 1; simp; omega

def badB (zs : List Int) (i : Nat) : Bool := decide (hexv (zs.getD (3 * i) 0) < 0) || decide (hexv (zs.getD (3 * i + 1) 0) < 0) || (decide (0 < i) && (zs.getD (3 * i - 1) 0 != 58))
def macAt (zs : List Int) (i : Nat) : Int := hexv (zs.getD (3 * i) 0) * 16 + hexv (zs.getD (3 * i + 1) 0)
def macCell (zs : List Int) (k i : Nat) : Value := .int .u8 (if i < k then macAt zs i else 0)
def macCells (zs : List Int) (k : Nat) : Array Value := #[macCell zs k 0, macCell zs k 1, macCell zs k 2, macCell zs k 3, macCell zs k 4, macCell zs k 5]
theorem macCells_put (zs : List Int) (k : Nat) (h : k < 6) : (macCells zs k).setIfInBounds k (.int .u8 (macAt zs k)) = macCells zs (k + 1) := by
  rcases (show k = 0 ∨ k = 1 ∨ k = 2 ∨ k = 3 ∨ k = 4 ∨ k = 5 by omega) with rfl | rfl | rfl | rfl | rfl | rfl <;> simp [macCells, macCell]
def parseBad (zs : List Int) : Bool := zs.length != 17 || (List.range 6).any (badB zs)
def parseVal (zs : List Int) : Value := if parseBad zs then .tuple #[.agg #[.int .u8 0, .int .u8 0, .int .u8 0, .int .u8 0, .int .u8 0, .int .u8 0], .int .i64 2] else .tuple #[.agg #[.int .u8 (macAt zs 0), .int .u8 (macAt zs 1), .int .u8 (macAt zs 2), .int .u8 (macAt zs 3), .int .u8 (macAt zs 4), .int .u8 (macAt zs 5)], .int .i64 0]
theorem parse_bad (zs : List Int) (k : Nat) (hk : k < 6) (h : badB zs k = true) : parseVal zs = .tuple #[.agg #[.int .u8 0, .int .u8 0, .int .u8 0, .int .u8 0, .int .u8 0, .int .u8 0], .int .i64 2] := by
  have : parseBad zs = true := by
    unfold parseBad
    rw [Bool.or_eq_true]
    exact .inr (List.any_eq_true.2 ⟨k, List.mem_range.2 hk, h⟩)
  rw [parseVal, if_pos this]
theorem parse_long (zs : List Int) (h : zs.length ≠ 17) : parseVal zs = .tuple #[.agg #[.int .u8 0, .int .u8 0, .int .u8 0, .int .u8 0, .int .u8 0, .int .u8 0], .int .i64 2] := by
  have : parseBad zs = true := by
    unfold parseBad
    rw [Bool.or_eq_true]
    exact .inl (by simpa using h)
  rw [parseVal, if_pos this]
theorem parse_good (zs : List Int) (hl : zs.length = 17) (h : ∀ k, k < 6 → badB zs k = false) : parseVal zs = .tuple #[.agg #[.int .u8 (macAt zs 0), .int .u8 (macAt zs 1), .int .u8 (macAt zs 2), .int .u8 (macAt zs 3), .int .u8 (macAt zs 4), .int .u8 (macAt zs 5)], .int .i64 0] := by
  have : parseBad zs = false := by
    unfold parseBad
    simp only [Bool.or_eq_false_iff, List.any_eq_false, List.mem_range]
    exact ⟨by simp [hl], fun k hk => by rw [h k hk]; simp⟩
  rw [parseVal, this]; rfl

theorem or_digits : ∀ a b : Fin 16, bits .or .i64 ((a.val : Int) * 16) (b.val : Int) = (a.val : Int) * 16 + (b.val : Int) := by decide +kernel
theorem or_digits_of (a b : Int) (h0 : 0 ≤ a) (h1 : a < 16) (h2 : 0 ≤ b) (h3 : b < 16) : bits .or .i64 (a * 16) b = a * 16 + b := by
  have := or_digits ⟨a.toNat, by omega⟩ ⟨b.toNat, by omega⟩
  simpa [Int.toNat_of_nonneg h0, Int.toNat_of_nonneg h2] using this

theorem macCells_at (zs : List Int) (k : Nat) (h : k < 6) : (macCells zs k)[k]? = some (.int .u8 0) := by
  rcases (show k = 0 ∨ k = 1 ∨ k = 2 ∨ k = 3 ∨ k = 4 ∨ k = 5 by omega) with rfl | rfl | rfl | rfl | rfl | rfl <;> simp [macCells, macCell]
theorem hexdigit_any (c : Int) (h0 : 0 ≤ c) (h1 : c < 256) (w : World) : Calls Try.prog 34 #[.string ⟨#[48, 49, 50, 51, 52, 53, 54, 55, 56, 57, 97, 98, 99, 100, 101, 102]⟩, .int .u8 c] w fun e w' => e = .returned (.int .i64 (hexv c)) ∧ w = w' :=
  (Try.strings_IndexByte _ _ _).mono fun e w' ⟨he, hw⟩ => ⟨by rw [he]; exact ret_int (index_hex_of c h0 h1), hw.symm⟩

set_option maxHeartbeats 2000000 in
theorem parse_any (zs : List Int) (w : World) (hz : ∀ z ∈ zs, 0 ≤ z ∧ z < 256) (hlen : zs.length ≤ 9223372036854775807) :
    Calls Try.prog 19 #[.string (strOfNums zs)] w fun e w' => e = .returned (parseVal zs) ∧ Below w.heap.size w w' := by
  have hsz : (strOfNums zs).size = zs.length := strOfNums_size zs
  have hat := fun (k : IntKind) (i : Int) (n : Nat) (hi : i = n) (hn : n < zs.length) (w : World) => run_at (P := Try.prog) Try.underlying9 zs hz k i n hi hn w
  generalize strOfNums zs = s at hsz hat
  by_cases h17 : zs.length = 17
  · have hpb := Lib.hid (parse_bad zs)
    have hpg := Lib.hid (parse_good zs h17)
    rw [h17] at hsz
    generalize parseVal zs = pv at hpb hpg
    clear hlen
    go_enter Try.func19, Try.ntmps19
    go_wp2
    go_loopw [12] (fun i wr => ∃ k : Nat, k ≤ 6 ∧ i = .int .i64 k ∧ (∀ j, j < k → badB zs j = false) ∧ Box w.heap.size 23 #[.int .u8 0, .int .u8 0, .int .u8 0, .int .u8 0, .int .u8 0, .int .u8 0] wr ∧ Box (w.heap.size + 1) 23 (macCells zs k) wr ∧ Below w.heap.size w wr) (fun i _ => 6 - (intOf i).toNat)
    case atStart =>
      refine ⟨0, Nat.zero_le _, rfl, fun j hj => by omega, (Box.made _ _ _).past _, Box.madeAt (by simp), (by repeat (with_reducible first | exact Below.refl _ _ | assumption | refine Below.drew ?_ | refine below_drewN ?_ _ | refine Below.alloc ?_ (by simp) _ | refine Below.setCell ?_ (by first | (simp; done) | omega | (simp; omega)) _ | refine Below.alloc ?_ (by simp; omega) _))⟩
    case round =>
      obtain ⟨k, hk, rfl, hgood, hb0, hb1, hbel⟩ := hrel
      have e0 := hb0.at_ 0; have e1 := hb0.at_ 1; have e2 := hb0.at_ 2; have e3 := hb0.at_ 3; have e4 := hb0.at_ 4; have e5 := hb0.at_ 5
      have o0 := hb0.open_ 0; have o1 := hb0.open_ 1; have o2 := hb0.open_ 2; have o3 := hb0.open_ 3; have o4 := hb0.open_ 4; have o5 := hb0.open_ 5
      by_cases hlt : k < 6
      · have hx := hat .i64 (3 * k) (3 * k) (by omega) (by omega)
        have hy := hat .i64 (3 * k + 1) (3 * k + 1) (by omega) (by omega)
        have hxb := hz (zs.getD (3 * k) 0) (by rw [List.getD_eq_getElem?_getD, List.getElem?_eq_getElem (by omega)]; exact List.getElem_mem _)
        have hyb := hz (zs.getD (3 * k + 1) 0) (by rw [List.getD_eq_getElem?_getD, List.getElem?_eq_getElem (by omega)]; exact List.getElem_mem _)
        have hbad := Lib.hid (show badB zs k = (decide (hexv (zs.getD (3 * k) 0) < 0) || decide (hexv (zs.getD (3 * k + 1) 0) < 0) || (decide (0 < k) && (zs.getD (3 * k - 1) 0 != 58))) from rfl)
        have hval := Lib.hid (show macAt zs k = hexv (zs.getD (3 * k) 0) * 16 + hexv (zs.getD (3 * k + 1) 0) from rfl)
        have hb1c : wr.cell? ⟨w.heap.size + 1, k, none⟩ = some (.int .u8 0) := (hb1.at_ k).trans (macCells_at zs k hlt)
        have hb1o := hb1.open_ k
        have hnext := Lib.hid (macCells_put zs k hlt)
        have hbx := hexv_bd (zs.getD (3 * k) 0)
        have hby := hexv_bd (zs.getD (3 * k + 1) 0)
        generalize zs.getD (3 * k) 0 = x at hx hxb hbad hval hbx
        generalize zs.getD (3 * k + 1) 0 = y at hy hyb hbad hval hby
        obtain ⟨hx0, hx1⟩ := hxb
        obtain ⟨hy0, hy1⟩ := hyb
        obtain ⟨hbx0, hbx1⟩ := hbx
        obtain ⟨hby0, hby1⟩ := hby
        go_wp2_with fail
        refine (hexdigit_any x hx0 hx1 _).mono ?_
        rintro e w1 ⟨rfl, rfl⟩
        go_wp2_with fail
        refine (hexdigit_any y hy0 hy1 _).mono ?_
        rintro e w1 ⟨rfl, rfl⟩
        generalize hexv x = a at hbad hval hbx0 hbx1
        generalize hexv y = b at hbad hval hby0 hby1
        have hsz' := Lib.hid hsz; clear hsz
        by_cases hc1 : a < 0
        · have q := hpb.out k hlt (by rw [hbad.out]; simp [hc1])
          go_wp2
          refine bodyPost_ret (v := .tuple #[.agg #[.int .u8 0, .int .u8 0, .int .u8 0, .int .u8 0, .int .u8 0, .int .u8 0], .int .i64 2]) (by simp [results, Try.results19, go_sem, e0, e1, e2, e3, e4, e5]) rfl ⟨by rw [q], (by repeat (with_reducible first | exact Below.refl _ _ | assumption | refine Below.drew ?_ | refine below_drewN ?_ _ | refine Below.alloc ?_ (by simp) _ | refine Below.setCell ?_ (by first | (simp; done) | omega | (simp; omega)) _ | refine Below.alloc ?_ (by simp; omega) _))⟩
        have hc1' : 0 ≤ a := by omega
        clear hc1
        by_cases hc2 : b < 0
        · have q := hpb.out k hlt (by rw [hbad.out]; simp [hc2])
          go_wp2
          refine bodyPost_ret (v := .tuple #[.agg #[.int .u8 0, .int .u8 0, .int .u8 0, .int .u8 0, .int .u8 0, .int .u8 0], .int .i64 2]) (by simp [results, Try.results19, go_sem, e0, e1, e2, e3, e4, e5]) rfl ⟨by rw [q], (by repeat (with_reducible first | exact Below.refl _ _ | assumption | refine Below.drew ?_ | refine below_drewN ?_ _ | refine Below.alloc ?_ (by simp) _ | refine Below.setCell ?_ (by first | (simp; done) | omega | (simp; omega)) _ | refine Below.alloc ?_ (by simp; omega) _))⟩
        have hc2' : 0 ≤ b := by omega
        clear hc2
        have hor := or_digits_of a b hc1' hbx1 hc2' hby1
        have fin : ∀ (W : World), badB zs k = false → Box w.heap.size 23 #[.int .u8 0, .int .u8 0, .int .u8 0, .int .u8 0, .int .u8 0, .int .u8 0] (wr.setCell ⟨w.heap.size + 1, k, none⟩ (.int .u8 (a * 16 + b))) ∧ Box (w.heap.size + 1) 23 (macCells zs (k + 1)) (wr.setCell ⟨w.heap.size + 1, k, none⟩ (.int .u8 (a * 16 + b))) ∧ Below w.heap.size w (wr.setCell ⟨w.heap.size + 1, k, none⟩ (.int .u8 (a * 16 + b))) ∧ ∀ j, j < k + 1 → badB zs j = false := fun W hg => by
          refine ⟨hb0.aside (by simp) _, ?_, hbel.setCell (p := ⟨w.heap.size + 1, k, none⟩) (by simp) _, fun j hj => ?_⟩
          · have := hb1.put k (.int .u8 (a * 16 + b))
            rw [← hval.out, hnext.out] at this
            rw [← hval.out]; exact this
          · by_cases e : j = k
            · rw [e]; exact hg
            · exact hgood j (by omega)
        have Fin := Lib.hid fin; clear fin
        by_cases hk0 : 0 < k
        · have hc := hat .i64 (3 * k - 1) (3 * k - 1) (by omega) (by omega)
          generalize zs.getD (3 * k - 1) 0 = c at hc hbad
          by_cases hcc : c = 58
          · subst hcc
            clear hgood hat
            go_wp2
            go_roundw
            case rel =>
              obtain ⟨q1, q2, q3, q4⟩ := Fin.out wr (by rw [hbad.out]; simp; omega)
              exact ⟨k + 1, by omega, by go_num, q4, q1, q2, q3⟩
            case measure => simp [intOf]; omega
          · have hcc' : (c == 58) = false := by simpa using hcc
            have hcn : (c != 58) = true := by simpa using hcc
            have q := Lib.hid (hpb.out k hlt (by rw [hbad.out]; simp [hk0, hcc]))
            clear hgood hat
            go_wp2
            refine bodyPost_ret (v := .tuple #[.agg #[.int .u8 0, .int .u8 0, .int .u8 0, .int .u8 0, .int .u8 0, .int .u8 0], .int .i64 2]) (by simp [results, Try.results19, go_sem, e0, e1, e2, e3, e4, e5]) rfl ⟨by rw [q], (by repeat (with_reducible first | exact Below.refl _ _ | assumption | refine Below.drew ?_ | refine below_drewN ?_ _ | refine Below.alloc ?_ (by simp) _ | refine Below.setCell ?_ (by first | (simp; done) | omega | (simp; omega)) _ | refine Below.alloc ?_ (by simp; omega) _))⟩
        · clear hgood hat
          go_wp2
          go_roundw
          case rel =>
            obtain ⟨q1, q2, q3, q4⟩ := Fin.out wr (by rw [hbad.out]; simp [hk0]; omega)
            exact ⟨k + 1, by omega, by go_num, q4, q1, q2, q3⟩
          case measure => simp [intOf]; omega
      · obtain rfl : k = 6 := by omega
        have q := Lib.hid (hpg.out hgood)
        have p0 := hb1.at_ 0; have p1 := hb1.at_ 1; have p2 := hb1.at_ 2; have p3 := hb1.at_ 3; have p4 := hb1.at_ 4; have p5 := hb1.at_ 5
        simp [macCells, macCell] at p0 p1 p2 p3 p4 p5
        clear hgood hat hb1
        go_wp2
        refine bodyPost_ret (v := .tuple #[.agg #[.int .u8 (macAt zs 0), .int .u8 (macAt zs 1), .int .u8 (macAt zs 2), .int .u8 (macAt zs 3), .int .u8 (macAt zs 4), .int .u8 (macAt zs 5)], .int .i64 0]) (by simp [results, Try.results19, go_sem, e0, e1, e2, e3, e4, e5]) rfl ⟨by rw [q.out], (by repeat (with_reducible first | exact Below.refl _ _ | assumption | refine Below.drew ?_ | refine below_drewN ?_ _ | refine Below.alloc ?_ (by simp) _ | refine Below.setCell ?_ (by first | (simp; done) | omega | (simp; omega)) _ | refine Below.alloc ?_ (by simp; omega) _))⟩
  · have hne : ((zs.length : Int) != 17) = true := by simpa using (show (zs.length : Int) ≠ 17 by omega)
    have q := Lib.hid (parse_long zs h17)
    clear hat
    go_enter Try.func19, Try.ntmps19
    go_wp2
    refine bodyPost_ret (v := .tuple #[.agg #[.int .u8 0, .int .u8 0, .int .u8 0, .int .u8 0, .int .u8 0, .int .u8 0], .int .i64 2]) (by simp [results, Try.results19, go_sem]) rfl ⟨by rw [q.out], (by repeat (with_reducible first | exact Below.refl _ _ | assumption | refine Below.drew ?_ | refine below_drewN ?_ _ | refine Below.alloc ?_ (by simp) _ | refine Below.setCell ?_ (by first | (simp; done) | omega | (simp; omega)) _ | refine Below.alloc ?_ (by simp; omega) _))⟩
end Go.Proofs.Ytklolalgbcgdiaa
