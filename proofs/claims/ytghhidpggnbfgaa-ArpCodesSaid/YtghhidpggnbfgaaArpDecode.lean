/-
  Layer 5: a message out of bytes.
-/
import Derived.Test.YtghhidpggnbfgaaArpDec8
import Derived.Test.YtghhidpggnbfgaaShelf
import Derived.Test.YtghhidpggnbfgaaApp
import Derived.Test.YtghhidpggnbfgaaRow2
import Derived.BigQuiet
import Derived.Lib.SlBytesConst
import Derived.Deep.DeepCutAuto
namespace Go.Proofs.Ytghhidpggnbfgaa
open Go.RowKit
theorem or_word : ∀ a b : Int, 0 ≤ a → a < 256 → 0 ≤ b → b < 256 → bits .or .i64 (a * 256) b = a * 256 + b := by
  intro a b h1 h2 h3 h4
  obtain ⟨a, rfl⟩ := Int.eq_ofNat_of_zero_le h1
  obtain ⟨b, rfl⟩ := Int.eq_ofNat_of_zero_le h3
  have e1 : (BitVec.ofInt 64 ((a : Int) * 256)).toNat = a * 256 := by
    rw [show ((a : Int) * 256) = ((a * 256 : Nat) : Int) by omega, BitVec.ofInt_natCast, BitVec.toNat_ofNat]; exact Nat.mod_eq_of_lt (by omega)
  have e2 : (BitVec.ofInt 64 (b : Int)).toNat = b := by
    rw [BitVec.ofInt_natCast, BitVec.toNat_ofNat]; exact Nat.mod_eq_of_lt (by omega)
  show IntKind.i64.wrap ((BitVec.ofInt 64 ((a : Int) * 256) ||| BitVec.ofInt 64 (b : Int)).toNat : Int) = _
  rw [BitVec.toNat_or, e1, e2, nat_join 8 (a * 256) b (by omega) (by omega), IntWalk.i64_in _ (by omega)]
  omega
def headB (bs : List Int) : Bool := Lib.hasPrefix (Lib.bytesOf bs) (Lib.bytesOf [0, 1, 8, 0, 6, 4])
def arpOf (bs : List Int) (op : Int) : Array Value := #[.int .i64 op, .int .u8 (bs.getD 8 0), .int .u8 (bs.getD 9 0), .int .u8 (bs.getD 10 0), .int .u8 (bs.getD 11 0), .int .u8 (bs.getD 12 0), .int .u8 (bs.getD 13 0), .bool false, .int .u64 0, .int .u64 (acc4 (bs.getD 14 0) (bs.getD 15 0) (bs.getD 16 0) (bs.getD 17 0) 4), .int .u8 (bs.getD 18 0), .int .u8 (bs.getD 19 0), .int .u8 (bs.getD 20 0), .int .u8 (bs.getD 21 0), .int .u8 (bs.getD 22 0), .int .u8 (bs.getD 23 0), .bool false, .int .u64 0, .int .u64 (acc4 (bs.getD 24 0) (bs.getD 25 0) (bs.getD 26 0) (bs.getD 27 0) 4)]
theorem byte_at {bs : List Int} (hz : ∀ z ∈ bs, 0 ≤ z ∧ z < 256) (i : Nat) : 0 ≤ bs.getD i 0 ∧ bs.getD i 0 < 256 := by
  rw [List.getD_eq_getElem?_getD]
  rcases Nat.lt_or_ge i bs.length with h | h
  · rw [List.getElem?_eq_getElem h]; exact hz _ (List.getElem_mem h)
  · rw [List.getElem?_eq_none h]; simp
abbrev headCells : Array Value := #[.int .u8 0, .int .u8 1, .int .u8 8, .int .u8 0, .int .u8 6, .int .u8 4]
theorem head_any (g o n c : Nat) (bs : List Int) (w : World) (hl : bs.length = n) (hnc : n ≤ c) (low : ∀ i, i < n → ∀ W', Below w.heap.size w W' → W'.cell? ⟨g, o + i, none⟩ = some (.int .u8 (bs.getD i 0))) (W : World) (hW : Below w.heap.size w W) :
    Calls Try.prog 30 #[.slice (some ⟨g, o, none⟩) n c, .slice (some ⟨W.heap.size, 0, none⟩) 6 6] (W.alloc (.cells #[.int .u8 0, .int .u8 1, .int .u8 8, .int .u8 0, .int .u8 6, .int .u8 4] 5 (6, 7))) fun e w' => e = .returned (.bool (headB bs)) ∧ (W.alloc (.cells #[.int .u8 0, .int .u8 1, .int .u8 8, .int .u8 0, .int .u8 6, .int .u8 4] 5 (6, 7))) = w' := by
  have h9 := cells_of_block (heap_alloc_new W (.cells #[.int .u8 0, .int .u8 1, .int .u8 8, .int .u8 0, .int .u8 6, .int .u8 4] 5 (6, 7)))
  have hw' := hW.alloc hW.size (.cells #[.int .u8 0, .int .u8 1, .int .u8 8, .int .u8 0, .int .u8 6, .int .u8 4] 5 (6, 7))
  generalize (W.alloc (.cells #[.int .u8 0, .int .u8 1, .int .u8 8, .int .u8 0, .int .u8 6, .int .u8 4] 5 (6, 7))) = V at h9 hw'
  refine (Try.bytes_HasPrefix_all (some ⟨g, o, none⟩) (some ⟨W.heap.size, 0, none⟩) n c 6 6 bs [0, 1, 8, 0, 6, 4] V hl rfl hnc ?_ ?_).mono fun e w' ⟨h1, h2⟩ => ⟨h1, h2.symm⟩
  · exact fun _ => ⟨g, o, rfl, fun i hi => low i hi _ hw'⟩
  · refine fun _ => ⟨W.heap.size, 0, rfl, fun i hi => ?_⟩
    have ha : (⟨W.heap.size, 0 + i, none⟩ : Addr) = (⟨W.heap.size, 0, none⟩ : Addr).add i := by unfold Addr.add; split <;> simp_all
    rw [ha]
    refine h9 i _ ?_
    rcases (show i = 0 ∨ i = 1 ∨ i = 2 ∨ i = 3 ∨ i = 4 ∨ i = 5 by omega) with rfl | rfl | rfl | rfl | rfl | rfl <;> rfl
set_option maxRecDepth 100000 in
set_option maxHeartbeats 600000 in
theorem decode5_good (g o n c : Nat) (bs : List Int) (op : Int) (w : World) (hl : bs.length = n) (hz : ∀ z ∈ bs, 0 ≤ z ∧ z < 256) (hn : 28 ≤ n) (hnc : n ≤ c) (hcm : c ≤ 9223372036854775807) (hg : g < w.heap.size) (hcell : ∀ i, i < n → w.cell? ⟨g, o + i, none⟩ = some (.int .u8 (bs.getD i 0)))
    (hhead : headB bs = true) (hop : bs.getD 6 0 * 256 + bs.getD 7 0 = op) (h12 : op = 1 ∨ op = 2) :
    Calls Try.prog 16 #[.slice (some ⟨g, o, none⟩) n c] w fun e w' => e = .returned (.tuple #[.agg (arpOf bs op), .int .i64 0]) ∧ Below w.heap.size w w' := by
  have low : ∀ i, i < n → ∀ W', Below w.heap.size w W' → W'.cell? ⟨g, o + i, none⟩ = some (.int .u8 (bs.getD i 0)) := fun i hi W' h => (h.cell (p := ⟨g, o + i, none⟩) hg).trans (hcell i hi)
  have hb0 := (Below.refl w.heap.size w).alloc (Nat.le_refl _) (.cells #[.int .i64 0, .int .u8 0, .int .u8 0, .int .u8 0, .int .u8 0, .int .u8 0, .int .u8 0, .bool false, .int .u64 0, .int .u64 0, .int .u8 0, .int .u8 0, .int .u8 0, .int .u8 0, .int .u8 0, .int .u8 0, .bool false, .int .u64 0, .int .u64 0] 28)
  have hbx0 := Box.made w 28 #[.int .i64 0, .int .u8 0, .int .u8 0, .int .u8 0, .int .u8 0, .int .u8 0, .int .u8 0, .bool false, .int .u64 0, .int .u64 0, .int .u8 0, .int .u8 0, .int .u8 0, .int .u8 0, .int .u8 0, .int .u8 0, .bool false, .int .u64 0, .int .u64 0]
  have x6 := low 6 (by omega) _ hb0
  have x7 := low 7 (by omega) _ hb0
  obtain ⟨p6, q6⟩ := byte_at hz 6
  obtain ⟨p7, q7⟩ := byte_at hz 7
  have hor := or_word _ _ p6 q6 p7 q7
  generalize bs.getD 6 0 = b6 at x6 p6 q6 hor hop
  generalize bs.getD 7 0 = b7 at x7 p7 q7 hor hop
  rw [hop] at hor
  have hn28 : (28 : Int) ≤ n := by omega
  have HZ := Lib.hid (byte_at hz)
  have HL := Lib.hid low
  have HC := Lib.hid hcell
  have HLen := Lib.hid hl
  have HO := Lib.hid hop
  have HH := Lib.hid (fun W hW => head_any g o n c bs w hl hnc low W hW)
  rw [hhead] at HH
  clear hop hcell low hl hz hhead
  go_enter Try.func16, Try.ntmps16
  go_upto_region 3 with fail
  go_quiet (fail)
  go_upto_region 4 with fail
  have b1 := below_drewN hb0 nq
  have z1 := hbx0.drawnN nq
  generalize ((w.alloc (.cells #[.int .i64 0, .int .u8 0, .int .u8 0, .int .u8 0, .int .u8 0, .int .u8 0, .int .u8 0, .bool false, .int .u64 0, .int .u64 0, .int .u8 0, .int .u8 0, .int .u8 0, .int .u8 0, .int .u8 0, .int .u8 0, .bool false, .int .u64 0, .int .u64 0] 28)).drewN nq) = w1 at b1 z1
  clear x6 x7 hor hb0 hbx0
  have hcv := Lib.run_convert_bytes_const (P := Try.prog) w1 29 5 headCells 6 6 Try.underlying29 Try.underlying5
  simp only [headCells, List.size_toArray, List.length_cons, List.length_nil, Nat.reduceAdd] at hcv
  rcases h12 with hop1 | hop1
  all_goals
    obtain ⟨k, hk⟩ : ∃ k : Int, k = op := ⟨_, rfl⟩
    subst hop1
    go_wp2_with fail
    refine (HH.out _ b1).mono ?_
    rintro e w2 ⟨rfl, rfl⟩
    have b2 := b1.alloc b1.size (.cells headCells 5 (6, 7))
    have z2 := z1.past (.cells headCells 5 (6, 7))
    simp only [headCells] at b2 z2
    generalize (w1.alloc (.cells #[.int .u8 0, .int .u8 1, .int .u8 8, .int .u8 0, .int .u8 6, .int .u8 4] 5 (6, 7))) = w2 at b2 z2
    clear hcv HH b1 z1
    have HL := HL.out
    have HZ := HZ.out
    have HF1 := Lib.hid (from4 g (o + 14) (c - 14) (bs.getD 14 0) (bs.getD 15 0) (bs.getD 16 0) (bs.getD 17 0) w2 (Nat.lt_of_lt_of_le hg b2.size) (HL 14 (by omega) _ b2) (HL 15 (by omega) _ b2) (HL 16 (by omega) _ b2) (HL 17 (by omega) _ b2) (HZ 14) (HZ 15) (HZ 16) (HZ 17))
    have HF2 := Lib.hid (fun W hW => from4 g (o + 24) (c - 24) (bs.getD 24 0) (bs.getD 25 0) (bs.getD 26 0) (bs.getD 27 0) W (Nat.lt_of_lt_of_le hg (Below.size hW)) (HL 24 (by omega) _ hW) (HL 25 (by omega) _ hW) (HL 26 (by omega) _ hW) (HL 27 (by omega) _ hW) (HZ 24) (HZ 25) (HZ 26) (HZ 27))
    have HLH := Lib.hid HL
    clear HL HZ
    have q18 : (18 : Int) ≤ c := by omega
    have q28 : (28 : Int) ≤ c := by omega
    have n14 : ¬ c = 14 := by omega
    have n24 : ¬ c = 24 := by omega
    obtain ⟨lo, hlo⟩ : ∃ x, acc4 (bs.getD 14 0) (bs.getD 15 0) (bs.getD 16 0) (bs.getD 17 0) 4 = x := ⟨_, rfl⟩
    obtain ⟨hi, hhi⟩ : ∃ x, acc4 (bs.getD 24 0) (bs.getD 25 0) (bs.getD 26 0) (bs.getD 27 0) 4 = x := ⟨_, rfl⟩
    rw [hlo] at HF1
    rw [hhi] at HF2
    replace hlo := Lib.hid hlo
    replace hhi := Lib.hid hhi
    go_wp2_with fail
    refine HF1.out.mono ?_
    rintro e w3 ⟨rfl, hb3⟩
    have b3 := b2.trans (hb3.mono b2.size)
    have z3 := z2.under hb3 z2.inside
    have kF0 := Box.made w3 26 #[.bool false, .int .u64 0, .int .u64 lo]
    have b4 := b3.alloc b3.size (.cells #[.bool false, .int .u64 0, .int .u64 lo] 26)
    have z4 := z3.past (.cells #[.bool false, .int .u64 0, .int .u64 lo] 26)
    clear hb3 HF1
    go_wp2_with fail
    refine (HF2.out _ b4).mono ?_
    rintro e w5 ⟨rfl, hb5⟩
    have b5 := b4.trans (hb5.mono b4.size)
    have z5 := z4.under hb5 z4.inside
    have kF1 := kF0.under hb5 kF0.inside
    have kT := Box.made w5 26 #[.bool false, .int .u64 0, .int .u64 hi]
    have kF := kF1.past (.cells #[.bool false, .int .u64 0, .int .u64 hi] 26)
    have bb6 := b5.alloc b5.size (.cells #[.bool false, .int .u64 0, .int .u64 hi] 26)
    have z6 := z5.past (.cells #[.bool false, .int .u64 0, .int .u64 hi] 26)
    go_upto_region 8 with fail
    have HL := HLH.out
    refine dec8 g o n c w.heap.size _ _ _ lo hi (bs.getD 8 0) (bs.getD 9 0) (bs.getD 10 0) (bs.getD 11 0) (bs.getD 12 0) (bs.getD 13 0) (bs.getD 18 0) (bs.getD 19 0) (bs.getD 20 0) (bs.getD 21 0) (bs.getD 22 0) (bs.getD 23 0) _ _ rfl hn hnc hcm (Nat.lt_of_lt_of_le hg bb6.size) z6 kF kT (HL 8 (by omega) _ bb6) (HL 9 (by omega) _ bb6) (HL 10 (by omega) _ bb6) (HL 11 (by omega) _ bb6) (HL 12 (by omega) _ bb6) (HL 13 (by omega) _ bb6) (HL 18 (by omega) _ bb6) (HL 19 (by omega) _ bb6) (HL 20 (by omega) _ bb6) (HL 21 (by omega) _ bb6) (HL 22 (by omega) _ bb6) (HL 23 (by omega) _ bb6) _ _ _ _ _ _ _ _ _ _ _ _ _ _ _ _ _ _ _ _ _ _ _ _ _ _ _ _ _ _ _ _ _ _ _ _ _ _ _ _ _ _ _ _ _ _ _ _ _ _ _ _ _ _ _ _ (fun W W' hW hz ho => ?_)
    clear HL
    go_wp2
    have b7 := bb6.trans (hW.mono bb6.size)
    have b8 : Below w.heap.size w W' := (ho.stays (X := fun _ => False) (Stays.of_below b7) (Nat.le_refl _)).below
    refine ret_box2 (v := .int .i64 0) Try.results16 Try.underlying28 rfl (by kernel_rfl) rfl rfl hz rfl ⟨?_, b8⟩
    unfold arpOf
    rw [hlo.out, hhi.out]
end Go.Proofs.Ytghhidpggnbfgaa
