/-
  Layer 5: a message's bytes.
-/
import Derived.Test.YtghhidpggnbfgaaApp
import Derived.Test.YtghhidpggnbfgaaDeck0
import Derived.Test.YtghhidpggnbfgaaMac
import Derived.Test.YtghhidpggnbfgaaRow
import Derived.BigQuiet
import Derived.Deep.RegionLawGrows
import Derived.Lib.SlBytesConst
import Derived.Deep.DeepCutAuto
namespace Go.Proofs.Ytghhidpggnbfgaa
open Go.RowKit
theorem infoU8 : (Try.prog.info? 5).map (fun i => (i.zero, i.size, i.bytes)) = some (some (.int .u8 0), 1, 1) := by kernel_rfl
def be4 (n : Int) : List Int := [n / 16777216 % 256, n / 65536 % 256, n / 256 % 256, n % 256]
set_option maxHeartbeats 1000000 in
theorem number4_any (n : Int) (w : World) (h0 : 0 ≤ n) (h1 : n < 18446744073709551616) :
    Calls Try.prog 34 #[.slice none 0 0, .int .u64 n, .int .i64 4] w fun e w' => ∃ v, e = .returned v ∧ w'.ownsRow w.heap.size 5 1 v 4 ((be4 n).map (Value.int .u8)) ∧ Below w.heap.size w w' := by
  go_enter Try.func34, Try.ntmps34
  go_wp2_with fail
  go_loopw [0, 7] (fun v i wr => ∃ j : Nat, j ≤ 4 ∧ i = .int .i64 (3 - (j : Int)) ∧ wr.ownsRow w.heap.size 5 1 v j (((be4 n).take j).map (Value.int .u8)) ∧ Below w.heap.size w wr) (fun _ i _ => (intOf i + 1).toNat)
  case atStart => exact ⟨0, by omega, rfl, World.ownsRow_nil _ _ _ _, Below.refl _ _⟩
  case round =>
    obtain ⟨j, hj, rfl, hown, hbel⟩ := hrel
    have hsz := hbel.size
    rcases (show j = 4 ∨ j = 0 ∨ j = 1 ∨ j = 2 ∨ j = 3 by omega) with rfl | rfl | rfl | rfl | rfl
    · go_wp2_with fail
      go_ret
      exact ⟨_, rfl, hown, hbel⟩
    · go_wp2_with (at_builtin; refine push_lit rfl _ _ 29 rfl _ 5 (.int .u8 0) 1 Try.underlying29 infoU8 rfl (by omega) _ _ _ rfl (hown) [ .int .u8 (n / 16777216 % 256)] rfl (by simp [Value.oneCell']) (by simp) (by first | omega | (simp; done) | (simp; omega)) (by first | omega | (simp; done) | (simp; omega)) ?_)
      intro v3 w3 hown3 hgr3
      have hb3 := lit_below hbel hown hgr3 (Nat.le_refl _) hsz
      go_wp2
      go_roundw
      case rel => exact ⟨1, by omega, by go_num, by simpa [be4] using hown3, hb3⟩
      case measure => simp [intOf]
    · go_wp2_with (at_builtin; refine push_lit rfl _ _ 29 rfl _ 5 (.int .u8 0) 1 Try.underlying29 infoU8 rfl (by omega) _ _ _ rfl (hown) [ .int .u8 (n / 65536 % 256)] rfl (by simp [Value.oneCell']) (by simp) (by first | omega | (simp; done) | (simp; omega)) (by first | omega | (simp; done) | (simp; omega)) ?_)
      intro v3 w3 hown3 hgr3
      have hb3 := lit_below hbel hown hgr3 (Nat.le_refl _) hsz
      go_wp2
      go_roundw
      case rel => exact ⟨2, by omega, by go_num, by simpa [be4] using hown3, hb3⟩
      case measure => simp [intOf]
    · go_wp2_with (at_builtin; refine push_lit rfl _ _ 29 rfl _ 5 (.int .u8 0) 1 Try.underlying29 infoU8 rfl (by omega) _ _ _ rfl (hown) [ .int .u8 (n / 256 % 256)] rfl (by simp [Value.oneCell']) (by simp) (by first | omega | (simp; done) | (simp; omega)) (by first | omega | (simp; done) | (simp; omega)) ?_)
      intro v3 w3 hown3 hgr3
      have hb3 := lit_below hbel hown hgr3 (Nat.le_refl _) hsz
      go_wp2
      go_roundw
      case rel => exact ⟨3, by omega, by go_num, by simpa [be4] using hown3, hb3⟩
      case measure => simp [intOf]
    · go_wp2_with (at_builtin; refine push_lit rfl _ _ 29 rfl _ 5 (.int .u8 0) 1 Try.underlying29 infoU8 rfl (by omega) _ _ _ rfl (hown) [ .int .u8 (n % 256)] rfl (by simp [Value.oneCell']) (by simp) (by first | omega | (simp; done) | (simp; omega)) (by first | omega | (simp; done) | (simp; omega)) ?_)
      intro v3 w3 hown3 hgr3
      have hb3 := lit_below hbel hown hgr3 (Nat.le_refl _) hsz
      go_wp2
      go_roundw
      case rel => exact ⟨4, by omega, by go_num, by simpa [be4] using hown3, hb3⟩
      case measure => simp [intOf]

set_option maxHeartbeats 400000 in
theorem avalid4 (hi lo : Int) (w : World) : Calls Try.prog 33 #[.agg #[.bool false, .int .u64 hi, .int .u64 lo]] w fun e w' => e = .returned (.bool (decide (hi = 0) && decide (lo ≤ 4294967295))) ∧ Below w.heap.size w w' := by
  have hb := Box.made w 26 #[.bool false, .int .u64 hi, .int .u64 lo]
  have hb_0 := hb.at_ 0; have hb_1 := hb.at_ 1; have hb_2 := hb.at_ 2
  go_enter Try.func33, Try.ntmps33
  by_cases h1 : hi = 0
  · subst h1
    go_wp2
    all_goals
      go_ret
      refine ⟨?_, (by repeat (with_reducible first | exact Below.refl _ _ | assumption | refine Below.drew ?_ | refine below_drewN ?_ _ | refine Below.alloc ?_ (by simp) _ | refine Below.setCell ?_ (by first | (simp; done) | omega | (simp; omega)) _ | refine Below.alloc ?_ (by simp; omega) _))⟩
      simp_all
  · have h2 : (hi == 0) = false := by simpa using h1
    go_wp2
    go_ret
    refine ⟨?_, (by repeat (with_reducible first | exact Below.refl _ _ | assumption | refine Below.drew ?_ | refine below_drewN ?_ _ | refine Below.alloc ?_ (by simp) _ | refine Below.setCell ?_ (by first | (simp; done) | omega | (simp; omega)) _ | refine Below.alloc ?_ (by simp; omega) _))⟩
    simp [h1]
set_option maxHeartbeats 400000 in
theorem bytes4_any (lo : Int) (w : World) (h0 : 0 ≤ lo) (h1 : lo ≤ 4294967295) : Calls Try.prog 27 #[.agg #[.bool false, .int .u64 0, .int .u64 lo]] w fun e w' => ∃ v, e = .returned v ∧ w'.ownsRow w.heap.size 5 1 v 4 ((be4 lo).map (Value.int .u8)) ∧ Below w.heap.size w w' := by
  have hb := Box.made w 26 #[.bool false, .int .u64 0, .int .u64 lo]
  have hbl := (Below.refl w.heap.size w).alloc (Nat.le_refl _) (.cells #[.bool false, .int .u64 0, .int .u64 lo] 26)
  have hv := Lib.hid (fun w => avalid4 0 lo w)
  go_enter Try.func27, Try.ntmps27
  have hb_0 := hb.at_ 0; have hb_1 := hb.at_ 1; have hb_2 := hb.at_ 2
  go_wp2_with fail
  refine (hv.out _).mono ?_
  rintro e w1 ⟨rfl, hb1⟩
  have hbx := hb.under hb1 hb.inside
  have hbl1 := hbl.trans (hb1.mono (by simp))
  have hd : decide (lo ≤ 4294967295) = true := by simpa using h1
  clear hb_0 hb_1 hb_2 hb hb1 hbl hv
  have hbx_0 := hbx.at_ 0; have hbx_1 := hbx.at_ 1; have hbx_2 := hbx.at_ 2
  go_wp2_with fail
  refine (number4_any lo _ h0 (by omega)).mono ?_
  rintro e w2 ⟨v, rfl, hown, hb2⟩
  go_wp2
  go_ret
  exact ⟨v, rfl, own_less hown hbl1.size, hbl1.trans (hb2.mono hbl1.size)⟩

set_option maxHeartbeats 400000 in
theorem valid4_yes (lo : Int) (w : World) (h1 : lo ≤ 4294967295) : Calls Try.prog 28 #[.agg #[.bool false, .int .u64 0, .int .u64 lo]] w fun e w' => e = .returned (.bool true) ∧ Below w.heap.size w w' := by
  have hb := Box.made w 26 #[.bool false, .int .u64 0, .int .u64 lo]
  have hbl := (Below.refl w.heap.size w).alloc (Nat.le_refl _) (.cells #[.bool false, .int .u64 0, .int .u64 lo] 26)
  have hv := Lib.hid (fun w => avalid4 0 lo w)
  have hd : decide (lo ≤ 4294967295) = true := by simpa using h1
  go_enter Try.func28, Try.ntmps28
  have hb_0 := hb.at_ 0; have hb_1 := hb.at_ 1; have hb_2 := hb.at_ 2
  go_wp2_with fail
  refine (hv.out _).mono ?_
  rintro e w1 ⟨rfl, hb1⟩
  go_wp2
  go_ret
  exact ⟨rfl, hbl.trans (hb1.mono (by simp))⟩
set_option maxHeartbeats 1000000 in
theorem valid5_any (op : Int) (a0 a1 a2 a3 a4 a5 : Int) (lo : Int) (b0 b1 b2 b3 b4 b5 : Int) (hi : Int) (w : World) (h0 : op = 1 ∨ op = 2) (h1 : lo ≤ 4294967295) (h2 : hi ≤ 4294967295) :
    Calls Try.prog 12 #[.agg #[.int .i64 op, .int .u8 a0, .int .u8 a1, .int .u8 a2, .int .u8 a3, .int .u8 a4, .int .u8 a5, .bool false, .int .u64 0, .int .u64 lo, .int .u8 b0, .int .u8 b1, .int .u8 b2, .int .u8 b3, .int .u8 b4, .int .u8 b5, .bool false, .int .u64 0, .int .u64 hi]] w fun e w' => e = .returned (.bool true) ∧ Below w.heap.size w w' := by
  have hb := Box.made w 28 #[.int .i64 op, .int .u8 a0, .int .u8 a1, .int .u8 a2, .int .u8 a3, .int .u8 a4, .int .u8 a5, .bool false, .int .u64 0, .int .u64 lo, .int .u8 b0, .int .u8 b1, .int .u8 b2, .int .u8 b3, .int .u8 b4, .int .u8 b5, .bool false, .int .u64 0, .int .u64 hi]
  have hbl := (Below.refl w.heap.size w).alloc (Nat.le_refl _) (.cells #[.int .i64 op, .int .u8 a0, .int .u8 a1, .int .u8 a2, .int .u8 a3, .int .u8 a4, .int .u8 a5, .bool false, .int .u64 0, .int .u64 lo, .int .u8 b0, .int .u8 b1, .int .u8 b2, .int .u8 b3, .int .u8 b4, .int .u8 b5, .bool false, .int .u64 0, .int .u64 hi] 28)
  have hv := Lib.hid (fun w => valid4_yes lo w h1)
  have hv' := Lib.hid (fun w => valid4_yes hi w h2)
  go_enter Try.func12, Try.ntmps12
  have hb_0 := hb.at_ 0; have hb_1 := hb.at_ 1; have hb_2 := hb.at_ 2; have hb_3 := hb.at_ 3; have hb_4 := hb.at_ 4; have hb_5 := hb.at_ 5; have hb_6 := hb.at_ 6; have hb_7 := hb.at_ 7; have hb_8 := hb.at_ 8; have hb_9 := hb.at_ 9; have hb_10 := hb.at_ 10; have hb_11 := hb.at_ 11; have hb_12 := hb.at_ 12; have hb_13 := hb.at_ 13; have hb_14 := hb.at_ 14; have hb_15 := hb.at_ 15; have hb_16 := hb.at_ 16; have hb_17 := hb.at_ 17; have hb_18 := hb.at_ 18
  rcases h0 with rfl | rfl
  all_goals
    go_wp2_with fail
    refine (hv.out _).mono ?_
    rintro e w1 ⟨rfl, hb1⟩
    have hbx := hb.under hb1 hb.inside
    have hbl1 := hbl.trans (hb1.mono (by simp))
    clear hb_0 hb_1 hb_2 hb_3 hb_4 hb_5 hb_6 hb_7 hb_8 hb_9 hb_10 hb_11 hb_12 hb_13 hb_14 hb_15 hb_16 hb_17 hb_18 hv
    have hbx_0 := hbx.at_ 0; have hbx_1 := hbx.at_ 1; have hbx_2 := hbx.at_ 2; have hbx_3 := hbx.at_ 3; have hbx_4 := hbx.at_ 4; have hbx_5 := hbx.at_ 5; have hbx_6 := hbx.at_ 6; have hbx_7 := hbx.at_ 7; have hbx_8 := hbx.at_ 8; have hbx_9 := hbx.at_ 9; have hbx_10 := hbx.at_ 10; have hbx_11 := hbx.at_ 11; have hbx_12 := hbx.at_ 12; have hbx_13 := hbx.at_ 13; have hbx_14 := hbx.at_ 14; have hbx_15 := hbx.at_ 15; have hbx_16 := hbx.at_ 16; have hbx_17 := hbx.at_ 17; have hbx_18 := hbx.at_ 18
    go_wp2_with fail
    refine (hv'.out _).mono ?_
    rintro e w2 ⟨rfl, hb2⟩
    go_wp2
    go_ret
    exact ⟨rfl, hbl1.trans (hb2.mono hbl1.size)⟩

theorem cells_of_block {w : World} {g : Nat} {cs : Array Value} {t : TypeId} {fr : Nat × Nat} (h : w.heap[g]? = some (.cells cs t fr)) : ∀ (j : Nat) (u : Value), cs.toList[j]? = some u → w.cell? ((⟨g, 0, none⟩ : Addr).add j) = some u := fun j u hj => by
  have hadd : (⟨g, 0, none⟩ : Addr).add j = ⟨g, j, none⟩ := by unfold Addr.add; split <;> simp_all
  rw [hadd, cell_of_row w g j cs t fr h]
  simpa using hj
/-- append to a constant's bytes: a new row. -/
theorem push_head {P : Program} {ops : Array Oper} {rest : List Oper} {o : Oper} {a : Act} {Q : Exit → Act → World → Prop} {W : World} (hgd : o.guard = none) (s x : Operand) (t : TypeId)
    (ho : o.op = .call { callee := .builtin .append, args := #[s, x], argTypes := #[t, t] })
    (e : TypeId) (z : Value) (bytes : Nat) (ht : P.underlying t = some (.slice e)) (hi : (P.info? e).map (fun i => (i.zero, i.size, i.bytes)) = some (some z, 1, bytes)) (hz : z.cells.size = 1) (hby : bytes ≤ 16)
    (g1 g2 : Nat) (olds news : List Value) (fr fr' : Nat × Nat) (hs : a.eval s = .slice (some ⟨g1, 0, none⟩) olds.length olds.length) (hx : a.eval x = .slice (some ⟨g2, 0, none⟩) news.length news.length)
    (h1 : W.heap[g1]? = some (.cells olds.toArray e fr)) (h2 : W.heap[g2]? = some (.cells news.toArray e fr')) (hone : ∀ u ∈ news, u.oneCell' = true) (hpos : 0 < news.length) (hlen : olds.length + news.length ≤ 1000)
    (h : ∀ v' w', w'.ownsRow W.heap.size e 1 v' (olds.length + news.length) (olds ++ news) → W.grownBy w' none → wpList P ops Q rest (a.put o.dst v') w') : wpList P ops Q (o :: rest) a W := by
  obtain ⟨i, hi0, k0, k1, k2⟩ := info_parts hi
  refine wpList_plain hgd fun K hK => ?_
  have hw := Lib.hid hK
  have := step_append_grows (P := P) (ops := ops) (o := o) (a := a) (w := W) (K := K) (Q := Q) (E := True) hgd s x t ho e i z 1 bytes ht hi0 k0 k1 k2 hz (by omega) (some ⟨g1, 0, none⟩) olds.length olds.length olds hs (fun h => by cases h) (by omega)
    (fun b hb j u hj => by injection hb with hb; subst hb; exact cells_of_block h1 j u (by simpa using hj)) ⟨g2, 0, none⟩ news.length news.length news hx (by omega) (fun j u hj => cells_of_block h2 j u (by simpa using hj)) hone (by omega) (by unfold maxLen; omega)
    (by calc (olds.length + news.length) * bytes ≤ 1000 * 16 := Nat.mul_le_mul hlen hby
          _ ≤ _ := by omega) (fun v' w' r1 r2 => hK _ _ (h v' w' r1 r2))
  rwa [if_pos (by simp [Region.wanted, hgd])] at this
def arpBytes (op : Int) (l : List Int) (lo : Int) (k : List Int) (hi : Int) : List Int := [0, 1, 8, 0, 6, 4] ++ [0, op] ++ l ++ be4 lo ++ k ++ be4 hi
set_option maxHeartbeats 2000000 in
theorem encode5_any (op : Int) (a0 a1 a2 a3 a4 a5 : Int) (lo : Int) (b0 b1 b2 b3 b4 b5 : Int) (hi : Int) (w : World) (h0 : op = 1 ∨ op = 2) (h1 : 0 ≤ lo ∧ lo ≤ 4294967295) (h2 : 0 ≤ hi ∧ hi ≤ 4294967295) :
    Calls Try.prog 11 #[.agg #[.int .i64 op, .int .u8 a0, .int .u8 a1, .int .u8 a2, .int .u8 a3, .int .u8 a4, .int .u8 a5, .bool false, .int .u64 0, .int .u64 lo, .int .u8 b0, .int .u8 b1, .int .u8 b2, .int .u8 b3, .int .u8 b4, .int .u8 b5, .bool false, .int .u64 0, .int .u64 hi]] w fun e w' => ∃ v, e = .returned (.tuple #[v, .int .i64 0]) ∧ w'.ownsRow w.heap.size 5 1 v 28 ((arpBytes op [a0, a1, a2, a3, a4, a5] lo [b0, b1, b2, b3, b4, b5] hi).map (Value.int .u8)) ∧ Below w.heap.size w w' := by
  have hb := Box.made w 28 #[.int .i64 op, .int .u8 a0, .int .u8 a1, .int .u8 a2, .int .u8 a3, .int .u8 a4, .int .u8 a5, .bool false, .int .u64 0, .int .u64 lo, .int .u8 b0, .int .u8 b1, .int .u8 b2, .int .u8 b3, .int .u8 b4, .int .u8 b5, .bool false, .int .u64 0, .int .u64 hi]
  have hbl := (Below.refl w.heap.size w).alloc (Nat.le_refl _) (.cells #[.int .i64 op, .int .u8 a0, .int .u8 a1, .int .u8 a2, .int .u8 a3, .int .u8 a4, .int .u8 a5, .bool false, .int .u64 0, .int .u64 lo, .int .u8 b0, .int .u8 b1, .int .u8 b2, .int .u8 b3, .int .u8 b4, .int .u8 b5, .bool false, .int .u64 0, .int .u64 hi] 28)
  have hop : op % 256 = op := by omega
  have hopw : IntKind.u8.wrap op = op := by rcases h0 with rfl | rfl <;> rfl
  have HB1 := Lib.hid (fun w => bytes4_any lo w h1.1 h1.2)
  have HB2 := Lib.hid (fun w => bytes4_any hi w h2.1 h2.2)
  have HV := Lib.hid (fun w => valid5_any op a0 a1 a2 a3 a4 a5 lo b0 b1 b2 b3 b4 b5 hi w h0 h1.2 h2.2)
  go_enter Try.func11, Try.ntmps11
  go_wp2_with (refine load_box (t := 28) Try.underlying28 rfl (by kernel_rfl) rfl hb ?_)
  go_wp2_with fail
  refine (HV.out _).mono ?_
  rintro e w1 ⟨rfl, hb1⟩
  have hb := hb.under hb1 hb.inside
  have hbl := hbl.trans (hb1.mono (by simp))
  have hsz := hbl.size
  have hin := hb.inside
  have hcv := Lib.run_convert_bytes_const (P := Try.prog) w1 29 5 #[.int .u8 0, .int .u8 1, .int .u8 8, .int .u8 0, .int .u8 6, .int .u8 4] 6 6 Try.underlying29 Try.underlying5
  have hbx := hb.past (.cells #[.int .u8 0, .int .u8 1, .int .u8 8, .int .u8 0, .int .u8 6, .int .u8 4] 5 (6, 7))
  simp only [List.size_toArray, List.length_cons, List.length_nil, Nat.reduceAdd] at hcv
  have hl1 := hbl.alloc hsz (.cells #[.int .u8 0, .int .u8 1, .int .u8 8, .int .u8 0, .int .u8 6, .int .u8 4] 5 (6, 7))
  have hg1 := heap_alloc_new w1 (.cells #[.int .u8 0, .int .u8 1, .int .u8 8, .int .u8 0, .int .u8 6, .int .u8 4] 5 (6, 7))
  have hbx_0 := hbx.at_ 0; have hbx_1 := hbx.at_ 1; have hbx_2 := hbx.at_ 2; have hbx_3 := hbx.at_ 3; have hbx_4 := hbx.at_ 4; have hbx_5 := hbx.at_ 5; have hbx_6 := hbx.at_ 6; have hbx_7 := hbx.at_ 7; have hbx_8 := hbx.at_ 8; have hbx_9 := hbx.at_ 9; have hbx_10 := hbx.at_ 10; have hbx_11 := hbx.at_ 11; have hbx_12 := hbx.at_ 12; have hbx_13 := hbx.at_ 13; have hbx_14 := hbx.at_ 14; have hbx_15 := hbx.at_ 15; have hbx_16 := hbx.at_ 16; have hbx_17 := hbx.at_ 17; have hbx_18 := hbx.at_ 18
  go_wp2_with (at_builtin; refine push_head rfl (.tmp 9) (.tmp 13) 29 rfl 5 (.int .u8 0) 1 Try.underlying29 infoU8 rfl (by omega) w1.heap.size (w1.heap.size + 1) [.int .u8 0, .int .u8 1, .int .u8 8, .int .u8 0, .int .u8 6, .int .u8 4] [.int .u8 0, .int .u8 op] (6, 7) (0, 0) rfl rfl ?_ ?_ (by simp [Value.oneCell']) (by simp) (by simp) ?_)
  · show ((w1.heap.push _).push _)[w1.heap.size]? = _
    simp [Array.getElem?_push]
  · have h9 := heap_alloc_new (w1.alloc (.cells #[.int .u8 0, .int .u8 1, .int .u8 8, .int .u8 0, .int .u8 6, .int .u8 4] 5 (6, 7))) (.cells #[.int .u8 0, .int .u8 op] 5)
    simpa using h9
  intro v3 w3 hown3 hgr3
  have hbl3 : Below w.heap.size w w3 := (hl1.alloc (by simp; omega) _).grown hgr3 (by simp; omega) (fun j h => by cases h)
  have hbx3 := (hbx.past _).grow hgr3 (Option.some_ne_none _)
  have hown3 := own_less (base' := w.heap.size + 1) hown3 (by omega)
  have hin3 := hbx3.inside
  clear hbx_0 hbx_1 hbx_2 hbx_3 hbx_4 hbx_5 hbx_6 hbx_7 hbx_8 hbx_9 hbx_10 hbx_11 hbx_12 hbx_13 hbx_14 hbx_15 hbx_16 hbx_17 hbx_18 hcv hl1 hg1 hgr3 hb hbl HV
  have hsz3 := hbl3.size
  have hbx3_0 := hbx3.at_ 0; have hbx3_1 := hbx3.at_ 1; have hbx3_2 := hbx3.at_ 2; have hbx3_3 := hbx3.at_ 3; have hbx3_4 := hbx3.at_ 4; have hbx3_5 := hbx3.at_ 5; have hbx3_6 := hbx3.at_ 6; have hbx3_7 := hbx3.at_ 7; have hbx3_8 := hbx3.at_ 8; have hbx3_9 := hbx3.at_ 9; have hbx3_10 := hbx3.at_ 10; have hbx3_11 := hbx3.at_ 11; have hbx3_12 := hbx3.at_ 12; have hbx3_13 := hbx3.at_ 13; have hbx3_14 := hbx3.at_ 14; have hbx3_15 := hbx3.at_ 15; have hbx3_16 := hbx3.at_ 16; have hbx3_17 := hbx3.at_ 17; have hbx3_18 := hbx3.at_ 18
  go_wp2_with (at_builtin; refine push_all rfl _ _ 29 rfl _ 5 (.int .u8 0) 1 Try.underlying29 infoU8 rfl (by omega) _ _ _ rfl (hown3) _ _ _ _ (( [a0, a1, a2, a3, a4, a5]).map (Value.int .u8)) rfl (by first | rfl | (simp; done) | (simp; omega)) (by omega) ( lies_part hbx3 _ rfl) (by simp [Value.oneCell']) (by first | omega | (simp; done) | (simp; omega)) (by first | omega | (simp; done) | (simp; omega)) ?_)
  intro v4 w4 hown4 hgr4
  have hbl4 := hbl3.grown hgr4 hsz3 (fun j hj => by have := (hown3.lt j hj).1; omega)
  have hbx4 := hbx3.grow hgr4 (fun h => by have := (hown3.lt _ h.symm).1; omega)
  have hin4 := hbx4.inside
  have hsz4 := hbl4.size
  clear hbx3_0 hbx3_1 hbx3_2 hbx3_3 hbx3_4 hbx3_5 hbx3_6 hbx3_7 hbx3_8 hbx3_9 hbx3_10 hbx3_11 hbx3_12 hbx3_13 hbx3_14 hbx3_15 hbx3_16 hbx3_17 hbx3_18 hgr4 hown3 hbx3 hbl3
  have hbx4_0 := hbx4.at_ 0; have hbx4_1 := hbx4.at_ 1; have hbx4_2 := hbx4.at_ 2; have hbx4_3 := hbx4.at_ 3; have hbx4_4 := hbx4.at_ 4; have hbx4_5 := hbx4.at_ 5; have hbx4_6 := hbx4.at_ 6; have hbx4_7 := hbx4.at_ 7; have hbx4_8 := hbx4.at_ 8; have hbx4_9 := hbx4.at_ 9; have hbx4_10 := hbx4.at_ 10; have hbx4_11 := hbx4.at_ 11; have hbx4_12 := hbx4.at_ 12; have hbx4_13 := hbx4.at_ 13; have hbx4_14 := hbx4.at_ 14; have hbx4_15 := hbx4.at_ 15; have hbx4_16 := hbx4.at_ 16; have hbx4_17 := hbx4.at_ 17; have hbx4_18 := hbx4.at_ 18
  go_wp2_with fail
  refine (HB1.out _).mono ?_
  rintro e w5 ⟨v5, rfl, hown5, hb5⟩
  have hbl5 := hbl4.trans (hb5.mono hbl4.size)
  have hbx5 := hbx4.under hb5 hbx4.inside
  have hown45 := own_under hown4 hb5 (Nat.le_refl _)
  obtain ⟨A5, c5, rfl, -, -, -, k5⟩ := own_open hown5
  have hin5 := hbx5.inside
  have hsz5 := hbl5.size
  clear hbx4_0 hbx4_1 hbx4_2 hbx4_3 hbx4_4 hbx4_5 hbx4_6 hbx4_7 hbx4_8 hbx4_9 hbx4_10 hbx4_11 hbx4_12 hbx4_13 hbx4_14 hbx4_15 hbx4_16 hbx4_17 hbx4_18
  go_wp2_with (at_builtin; refine push_all rfl _ _ 29 rfl _ 5 (.int .u8 0) 1 Try.underlying29 infoU8 rfl (by omega) _ _ _ rfl (hown45) _ _ _ _ (( be4 lo).map (Value.int .u8)) rfl (by first | rfl | (simp; done) | (simp; omega)) (by omega) ( k5) (by simp [Value.oneCell']) (by first | omega | (simp; done) | (simp; omega)) (by first | omega | (simp; done) | (simp; omega)) ?_)
  intro v6 w6 hown6 hgr6
  have hbl6 := hbl5.grown hgr6 hsz5 (fun j hj => by have := (hown45.lt j hj).1; omega)
  have hbx6 := hbx5.grow hgr6 (fun h => by have := (hown45.lt _ h.symm).1; omega)
  have hin6 := hbx6.inside
  have hsz6 := hbl6.size
  clear hgr6 hown45 hown4 hown5 k5 hb5
  have hbx6_0 := hbx6.at_ 0; have hbx6_1 := hbx6.at_ 1; have hbx6_2 := hbx6.at_ 2; have hbx6_3 := hbx6.at_ 3; have hbx6_4 := hbx6.at_ 4; have hbx6_5 := hbx6.at_ 5; have hbx6_6 := hbx6.at_ 6; have hbx6_7 := hbx6.at_ 7; have hbx6_8 := hbx6.at_ 8; have hbx6_9 := hbx6.at_ 9; have hbx6_10 := hbx6.at_ 10; have hbx6_11 := hbx6.at_ 11; have hbx6_12 := hbx6.at_ 12; have hbx6_13 := hbx6.at_ 13; have hbx6_14 := hbx6.at_ 14; have hbx6_15 := hbx6.at_ 15; have hbx6_16 := hbx6.at_ 16; have hbx6_17 := hbx6.at_ 17; have hbx6_18 := hbx6.at_ 18
  go_wp2_with (at_builtin; refine push_all rfl _ _ 29 rfl _ 5 (.int .u8 0) 1 Try.underlying29 infoU8 rfl (by omega) _ _ _ rfl (hown6) _ _ _ _ (( [b0, b1, b2, b3, b4, b5]).map (Value.int .u8)) rfl (by first | rfl | (simp; done) | (simp; omega)) (by omega) ( lies_part hbx6 _ rfl) (by simp [Value.oneCell']) (by first | omega | (simp; done) | (simp; omega)) (by first | omega | (simp; done) | (simp; omega)) ?_)
  intro v7 w7 hown7 hgr7
  have hbl7 := hbl6.grown hgr7 hsz6 (fun j hj => by have := (hown6.lt j hj).1; omega)
  have hbx7 := hbx6.grow hgr7 (fun h => by have := (hown6.lt _ h.symm).1; omega)
  have hin7 := hbx7.inside
  have hsz7 := hbl7.size
  clear hbx6_0 hbx6_1 hbx6_2 hbx6_3 hbx6_4 hbx6_5 hbx6_6 hbx6_7 hbx6_8 hbx6_9 hbx6_10 hbx6_11 hbx6_12 hbx6_13 hbx6_14 hbx6_15 hbx6_16 hbx6_17 hbx6_18 hgr7 hown6
  have hbx7_0 := hbx7.at_ 0; have hbx7_1 := hbx7.at_ 1; have hbx7_2 := hbx7.at_ 2; have hbx7_3 := hbx7.at_ 3; have hbx7_4 := hbx7.at_ 4; have hbx7_5 := hbx7.at_ 5; have hbx7_6 := hbx7.at_ 6; have hbx7_7 := hbx7.at_ 7; have hbx7_8 := hbx7.at_ 8; have hbx7_9 := hbx7.at_ 9; have hbx7_10 := hbx7.at_ 10; have hbx7_11 := hbx7.at_ 11; have hbx7_12 := hbx7.at_ 12; have hbx7_13 := hbx7.at_ 13; have hbx7_14 := hbx7.at_ 14; have hbx7_15 := hbx7.at_ 15; have hbx7_16 := hbx7.at_ 16; have hbx7_17 := hbx7.at_ 17; have hbx7_18 := hbx7.at_ 18
  go_wp2_with fail
  refine (HB2.out _).mono ?_
  rintro e w8 ⟨v8, rfl, hown8, hb8⟩
  have hbl8 := hbl7.trans (hb8.mono hbl7.size)
  have hown78 := own_under hown7 hb8 (Nat.le_refl _)
  obtain ⟨A8, c8, rfl, -, -, -, k8⟩ := own_open hown8
  have hsz8 := hbl8.size
  have hin8 := Nat.lt_of_lt_of_le hin7 hb8.size
  clear hbx7_0 hbx7_1 hbx7_2 hbx7_3 hbx7_4 hbx7_5 hbx7_6 hbx7_7 hbx7_8 hbx7_9 hbx7_10 hbx7_11 hbx7_12 hbx7_13 hbx7_14 hbx7_15 hbx7_16 hbx7_17 hbx7_18
  go_wp2_with (at_builtin; refine push_all rfl _ _ 29 rfl _ 5 (.int .u8 0) 1 Try.underlying29 infoU8 rfl (by omega) _ _ _ rfl (hown78) _ _ _ _ (( be4 hi).map (Value.int .u8)) rfl (by first | rfl | (simp; done) | (simp; omega)) (by omega) ( k8) (by simp [Value.oneCell']) (by first | omega | (simp; done) | (simp; omega)) (by first | omega | (simp; done) | (simp; omega)) ?_)
  intro v9 w9 hown9 hgr9
  have hbl9 := hbl8.grown hgr9 hsz8 (fun j hj => by have := (hown78.lt j hj).1; omega)
  go_wp2
  go_ret2
  refine ⟨_, rfl, ?_, hbl9⟩
  have h9 := own_less (base' := w.heap.size) hown9 (by omega)
  simpa [arpBytes, be4] using h9
end Go.Proofs.Ytghhidpggnbfgaa
