/-
  Layer 4 (ether): which frames are valid, and their bytes.
-/
import Derived.Test.YtklolalgbcgdiaaEther
import Derived.Test.YtklolalgbcgdiaaClone
import Derived.Test.YtklolalgbcgdiaaPush
import Derived.Test.YtklolalgbcgdiaaUse
import Derived.Deep.DeepCutAuto
namespace Go.Proofs.Ytklolalgbcgdiaa
open Go.RowKit
theorem infoU8 : (Try.prog.info? 5).map (fun i => (i.zero, i.size, i.bytes)) = some (some (.int .u8 0), 1, 1) := by kernel_rfl

def typeOk (y : Int) : Bool := decide (1536 ≤ y) && decide (y ≤ 65535) && (y != 33024)
def frameOk (vl y : Int) (m : Nat) : Bool := decide (0 ≤ vl) && decide (vl ≤ 4094) && typeOk y && decide (m ≤ 1500)
def frameBytes (ds : List Int) (vl y : Int) (bs : List Int) : List Int := ds ++ (if vl = 0 then [] else [129, 0, vl / 256, vl % 256]) ++ [y / 256, y % 256] ++ bs

set_option maxHeartbeats 400000 in
theorem vtype_any (y : Int) (w : World) : Calls Try.prog 39 #[.int .i64 y] w fun e w' => e = .returned (.bool (typeOk y)) ∧ w = w' := by
  go_enter Try.func39, Try.ntmps39
  go_wp2
  all_goals
    go_ret
    refine ⟨?_, rfl⟩
    simp [typeOk]
    try omega

set_option maxHeartbeats 1000000 in
theorem valid_any (d0 d1 d2 d3 d4 d5 d6 d7 d8 d9 d10 d11 : Int) (vl y : Int) (A : Option Addr) (m c : Nat) (w : World) (hm : m ≤ 9223372036854775807) :
    Calls Try.prog 28 #[.agg #[.int .u8 d0, .int .u8 d1, .int .u8 d2, .int .u8 d3, .int .u8 d4, .int .u8 d5, .int .u8 d6, .int .u8 d7, .int .u8 d8, .int .u8 d9, .int .u8 d10, .int .u8 d11, .int .i64 vl, .int .i64 y, .slice A m c]] w fun e w' => e = .returned (.bool (frameOk vl y m)) ∧ Below w.heap.size w w' := by
  have ht := Lib.hid (fun w => vtype_any y w)
  unfold frameOk
  generalize typeOk y = q at ht
  by_cases h1 : 0 ≤ vl
  · by_cases h2 : vl ≤ 4094
    · go_enter Try.func28, Try.ntmps28
      go_wp2_with fail
      refine (ht.out _).mono ?_
      rintro e w1 ⟨rfl, rfl⟩
      cases q
      all_goals
        go_wp2
        all_goals
          go_ret
          refine ⟨?_, (by repeat (with_reducible first | exact Below.refl _ _ | assumption | refine Below.drew ?_ | refine below_drewN ?_ _ | refine Below.alloc ?_ (by simp) _ | refine Below.setCell ?_ (by first | (simp; done) | omega | (simp; omega)) _ | refine Below.alloc ?_ (by simp; omega) _))⟩
          simp [h1, h2]
          try omega
    · go_enter Try.func28, Try.ntmps28
      go_wp2
      go_ret
      refine ⟨?_, (by repeat (with_reducible first | exact Below.refl _ _ | assumption | refine Below.drew ?_ | refine below_drewN ?_ _ | refine Below.alloc ?_ (by simp) _ | refine Below.setCell ?_ (by first | (simp; done) | omega | (simp; omega)) _ | refine Below.alloc ?_ (by simp; omega) _))⟩
      simp [h2]
      try (intros; omega)
  · go_enter Try.func28, Try.ntmps28
    go_wp2
    go_ret
    refine ⟨?_, (by repeat (with_reducible first | exact Below.refl _ _ | assumption | refine Below.drew ?_ | refine below_drewN ?_ _ | refine Below.alloc ?_ (by simp) _ | refine Below.setCell ?_ (by first | (simp; done) | omega | (simp; omega)) _ | refine Below.alloc ?_ (by simp; omega) _))⟩
    simp [h1]
    try (intros; omega)

/-- The first, and the second six of a frame's cells, as bytes. -/
theorem lies_low {b : Nat} {t : TypeId} {d0 d1 d2 d3 d4 d5 d6 d7 d8 d9 d10 d11 : Int} {u v s : Value} {W : World} (h : Box b t #[.int .u8 d0, .int .u8 d1, .int .u8 d2, .int .u8 d3, .int .u8 d4, .int .u8 d5, .int .u8 d6, .int .u8 d7, .int .u8 d8, .int .u8 d9, .int .u8 d10, .int .u8 d11, u, v, s] W) : Lies W.heap.size (some ⟨b, 0, none⟩) ([d0, d1, d2, d3, d4, d5].map (Value.int .u8)) W := lies_part h _ rfl
theorem lies_high {b : Nat} {t : TypeId} {d0 d1 d2 d3 d4 d5 d6 d7 d8 d9 d10 d11 : Int} {u v s : Value} {W : World} (h : Box b t #[.int .u8 d0, .int .u8 d1, .int .u8 d2, .int .u8 d3, .int .u8 d4, .int .u8 d5, .int .u8 d6, .int .u8 d7, .int .u8 d8, .int .u8 d9, .int .u8 d10, .int .u8 d11, u, v, s] W) : Lies W.heap.size (some ⟨b, 6, none⟩) ([d6, d7, d8, d9, d10, d11].map (Value.int .u8)) W := lies_part h _ rfl
theorem lies_keep {B : Nat} {A : Option Addr} {xs : List Value} {w w' : World} (h : Lies B A xs w) (hb : Below w.heap.size w w') (hB : B ≤ w.heap.size) : Lies B A xs w' := h.below (hb.mono hB)

set_option maxHeartbeats 2000000 in
theorem encode_yes (d0 d1 d2 d3 d4 d5 d6 d7 d8 d9 d10 d11 : Int) (vl y : Int) (A : Option Addr) (m c : Nat) (bs : List Int) (w : World) (hok : frameOk vl y m = true) (hl : bs.length = m) (hA : A = none → c = 0) (hlies : Lies w.heap.size A (bs.map (Value.int .u8)) w) :
    Calls Try.prog 26 #[.agg #[.int .u8 d0, .int .u8 d1, .int .u8 d2, .int .u8 d3, .int .u8 d4, .int .u8 d5, .int .u8 d6, .int .u8 d7, .int .u8 d8, .int .u8 d9, .int .u8 d10, .int .u8 d11, .int .i64 vl, .int .i64 y, .slice A m c]] w fun e w' => ∃ v, e = .returned (.tuple #[v, .int .i64 0]) ∧ w'.ownsRow w.heap.size 5 1 v (frameBytes [d0, d1, d2, d3, d4, d5, d6, d7, d8, d9, d10, d11] vl y bs).length ((frameBytes [d0, d1, d2, d3, d4, d5, d6, d7, d8, d9, d10, d11] vl y bs).map (Value.int .u8)) ∧ Below w.heap.size w w' := by
  have hk : 0 ≤ vl ∧ vl ≤ 4094 ∧ 1536 ≤ y ∧ y ≤ 65535 ∧ m ≤ 1500 := by simp [frameOk, typeOk] at hok; omega
  obtain ⟨v0, v1, y0, y1, hm⟩ := hk
  have hval := Lib.hid (fun w => valid_any d0 d1 d2 d3 d4 d5 d6 d7 d8 d9 d10 d11 vl y A m c w (by omega))
  rw [hok] at hval
  have hb := Box.made w 42 #[.int .u8 d0, .int .u8 d1, .int .u8 d2, .int .u8 d3, .int .u8 d4, .int .u8 d5, .int .u8 d6, .int .u8 d7, .int .u8 d8, .int .u8 d9, .int .u8 d10, .int .u8 d11, .int .i64 vl, .int .i64 y, .slice A m c]
  have hlies0 := hlies.alloc (Nat.le_refl _) (.cells #[.int .u8 d0, .int .u8 d1, .int .u8 d2, .int .u8 d3, .int .u8 d4, .int .u8 d5, .int .u8 d6, .int .u8 d7, .int .u8 d8, .int .u8 d9, .int .u8 d10, .int .u8 d11, .int .i64 vl, .int .i64 y, .slice A m c] 42)
  have hbel0 := (Below.refl w.heap.size w).alloc (Nat.le_refl _) (.cells #[.int .u8 d0, .int .u8 d1, .int .u8 d2, .int .u8 d3, .int .u8 d4, .int .u8 d5, .int .u8 d6, .int .u8 d7, .int .u8 d8, .int .u8 d9, .int .u8 d10, .int .u8 d11, .int .i64 vl, .int .i64 y, .slice A m c] 42)
  go_enter Try.func26, Try.ntmps26
  go_wp2_with fail
  refine (hval.out _).mono ?_
  rintro e w1 ⟨rfl, hb1⟩
  have hb := hb.under hb1 hb.inside
  have hlies1 := hlies0.below (hb1.mono (by simp))
  have hbel1 := hbel0.trans (hb1.mono (by simp))
  have hbw := hb.inside
  have hb_0 := hb.at_ 0; have hb_1 := hb.at_ 1; have hb_2 := hb.at_ 2; have hb_3 := hb.at_ 3; have hb_4 := hb.at_ 4; have hb_5 := hb.at_ 5; have hb_6 := hb.at_ 6; have hb_7 := hb.at_ 7; have hb_8 := hb.at_ 8; have hb_9 := hb.at_ 9; have hb_10 := hb.at_ 10; have hb_11 := hb.at_ 11; have hb_12 := hb.at_ 12; have hb_13 := hb.at_ 13; have hb_14 := hb.at_ 14
  go_upto_region 3 with fail
  go_cut [4] (fun v wx => wx.ownsRow (w.heap.size + 1) 5 1 v 12 ([d0, d1, d2, d3, d4, d5, d6, d7, d8, d9, d10, d11].map (Value.int .u8)) ∧ Below (w.heap.size + 1) w1 wx)
  case first =>
    refine wp_region_tail 5 (fun _ => False) (fun _ => True) (Stays (fun _ => False)) [isV ?v0r1, isV ?v1r1, .fact (fun _ v W => W.ownsRow w1.heap.size 5 1 v 6 ([d0, d1, d2, d3, d4, d5].map (Value.int .u8))), isV ?v3r1, isV ?v4r1] (by kernel_rfl) (by kernel_rfl) (by kernel_rfl) (by kernel_rfl) trivial (fun _ h => False.elim h) (fun _ _ _ h => h) ?spr1 ?enr1
    case spr1 =>
      -- 0: Op.fieldAddr 42 t1 0
      refine specs_cons (cst _ rfl fun env ρ W hW hI hF hS => ?_) ?_
      · have e1 := hS.at 1 (by kernel_rfl) (slot_base (by kernel_rfl))
        go_simp
        try with_reducible rfl
      -- 1: Op.slice 23 t8 none none none
      refine specs_cons (cst _ rfl fun env ρ W hW hI hF hS => ?_) ?_
      · have hc := stays_cells hW; have e8 := (hS.at 8 (by kernel_rfl) (v := env 0) (by kernel_rfl)).trans (hF 0 (by kernel_rfl))
        go_simp
        try with_reducible rfl
      -- 2: Op.call { value (Operand.func 38), args := #[t9], argTypes := #[33] }
      refine specs_cons (call_fact _ rfl (fun _ _ _ _ _ h => h) (fun _ _ _ _ hs h => own_under h hs.below (Nat.le_refl _)) fun env ρ W hW hI hF hS => ?_) ?_
      · have hc := stays_cells hW; have cf := hS.func; have e9 := (hS.at 9 (by kernel_rfl) (v := env 1) (by kernel_rfl)).trans (hF 1 (by kernel_rfl))
        have hbx := hb.under hW.of_drew.below hb.inside
        refine ⟨_, _, ?_, (clone_any (B := W.heap.size) (some ⟨w.heap.size, 0, none⟩) 6 6 [d0, d1, d2, d3, d4, d5] W rfl (by omega) (lies_low hbx)).mono ?_⟩
        · go_simp
        · rintro e w' ⟨v, rfl, ho, hbe⟩
          exact ⟨_, rfl, Stays.of_below hbe, trivial, own_less ho hW.size⟩
      -- 3: Op.fieldAddr 42 t1 1
      refine specs_cons (cst _ rfl fun env ρ W hW hI hF hS => ?_) ?_
      · have e1 := hS.at 1 (by kernel_rfl) (slot_base (by kernel_rfl))
        go_simp
        try with_reducible rfl
      -- 4: Op.slice 23 t11 none none none
      refine specs_cons (cst _ rfl fun env ρ W hW hI hF hS => ?_) ?_
      · have hc := stays_cells hW; have e11 := (hS.at 11 (by kernel_rfl) (v := env 3) (by kernel_rfl)).trans (hF 3 (by kernel_rfl))
        go_simp
        try with_reducible rfl
      exact specs_nil
    case enr1 =>
      intro env W K
      have f0 : env 0 = _ := K.facts 0 (by decide) rfl
      have f1 : env 1 = _ := K.facts 1 (by decide) rfl
      obtain o2 := K.facts 2 (by decide) rfl
      have f3 : env 3 = _ := K.facts 3 (by decide) rfl
      have f4 : env 4 = _ := K.facts 4 (by decide) rfl
      have hgrow := K.stays.of_drew.below
      clear K
      simp only [List.take_succ_cons, List.take_zero, List.drop_zero, List.drop_succ_cons, putAll, Nat.reduceAdd]
      simp only [Act.put, List.setIfInBounds_toArray, List.set_cons_succ, List.set_cons_zero, f0, f1, f3, f4]
      clear f0 f1 f3 f4
      have hbx := hb.under hgrow hb.inside
      have hsz3 := hgrow.size
      go_wp2_with (at_builtin; refine push_all rfl _ _ 33 rfl _ 5 (.int .u8 0) 1 Try.underlying33 infoU8 rfl (by omega) _ _ _ rfl (o2) _ _ _ _ (( [d6, d7, d8, d9, d10, d11]).map (Value.int .u8)) rfl (by first | rfl | (simp; done) | (simp; omega)) (by omega) ( lies_high hbx) (by simp [Value.oneCell']) (by first | omega | (simp; done) | (simp; omega)) (by first | omega | (simp; done) | (simp; omega)) ?_)
      intro v2 w2 hown2 hgr2
      go_wp2
      go_meet
      refine ⟨own_less (by simpa using hown2) (by omega), ?_⟩
      exact ((hgrow.mono (by omega)).grown hgr2 (by have := hgrow.size; omega) (fun j hj => by have := (o2.lt j hj).1; omega))
  case rest =>
    obtain ⟨hown, hbw2⟩ := hcut
    have hb := hb.under (hbw2.mono (Nat.le_refl _)) (by omega)
    have hlies2 := hlies1.below (hbw2.mono (by omega))
    have hbel2 := hbel1.trans (hbw2.mono (by omega))
    have hsz2 := hbw2.size
    clear hb_0 hb_1 hb_2 hb_3 hb_4 hb_5 hb_6 hb_7 hb_8 hb_9 hb_10 hb_11 hb_12 hb_13 hb_14 hlies1 hlies0 hb1 hbel1 hbel0 hval
    have hb_0 := hb.at_ 0; have hb_1 := hb.at_ 1; have hb_2 := hb.at_ 2; have hb_3 := hb.at_ 3; have hb_4 := hb.at_ 4; have hb_5 := hb.at_ 5; have hb_6 := hb.at_ 6; have hb_7 := hb.at_ 7; have hb_8 := hb.at_ 8; have hb_9 := hb.at_ 9; have hb_10 := hb.at_ 10; have hb_11 := hb.at_ 11; have hb_12 := hb.at_ 12; have hb_13 := hb.at_ 13; have hb_14 := hb.at_ 14
    go_upto_if 16 with fail
    go_cut [4] (fun v wx => wx.ownsRow (w.heap.size + 1) 5 1 v ([d0, d1, d2, d3, d4, d5, d6, d7, d8, d9, d10, d11] ++ (if vl = 0 then [] else [129, 0, vl / 256, vl % 256])).length (([d0, d1, d2, d3, d4, d5, d6, d7, d8, d9, d10, d11] ++ (if vl = 0 then [] else [129, 0, vl / 256, vl % 256])).map (Value.int .u8)) ∧ Below (w.heap.size + 1) wc wx)
    case first =>
      by_cases hv : vl = 0
      · have hvb : (vl != 0) = false := by simpa using hv
        go_wp2
        go_meet
        rw [if_pos hv]
        exact ⟨by simpa using hown, Below.refl _ _⟩
      · have hvb : (vl != 0) = true := by simpa using hv
        go_wp2_with (at_builtin; refine push_lit rfl _ _ 33 rfl _ 5 (.int .u8 0) 1 Try.underlying33 infoU8 rfl (by omega) _ _ _ rfl (hown) [ .int .u8 129, .int .u8 0, .int .u8 (vl / 256), .int .u8 (vl % 256)] rfl (by simp [Value.oneCell']) (by simp) (by first | omega | (simp; done) | (simp; omega)) (by first | omega | (simp; done) | (simp; omega)) ?_)
        intro v3 w3 hown3 hgr3
        go_wp2
        go_meet
        rw [if_neg hv]
        exact ⟨by simpa using hown3, lit_below (Below.refl _ _) hown hgr3 (Nat.le_refl _) (by omega)⟩
    case rest =>
      obtain ⟨hown, hbw3⟩ := hcut
      have hcl : ([d0, d1, d2, d3, d4, d5, d6, d7, d8, d9, d10, d11] ++ (if vl = 0 then [] else [129, 0, vl / 256, vl % 256])).length ≤ 16 := by split <;> simp
      have hfb : frameBytes [d0, d1, d2, d3, d4, d5, d6, d7, d8, d9, d10, d11] vl y bs = ([d0, d1, d2, d3, d4, d5, d6, d7, d8, d9, d10, d11] ++ (if vl = 0 then [] else [129, 0, vl / 256, vl % 256])) ++ [y / 256, y % 256] ++ bs := rfl
      have Hfb := Lib.hid hfb; clear hfb
      generalize ([d0, d1, d2, d3, d4, d5, d6, d7, d8, d9, d10, d11] ++ (if vl = 0 then [] else [129, 0, vl / 256, vl % 256])) = hd at hown hcl Hfb
      have hb := hb.under hbw3 (by omega)
      have hlies3 := hlies2.below (hbw3.mono (by omega))
      have hbel3 := hbel2.trans (hbw3.mono (by omega))
      have hsz3 := hbw3.size
      clear hb_0 hb_1 hb_2 hb_3 hb_4 hb_5 hb_6 hb_7 hb_8 hb_9 hb_10 hb_11 hb_12 hb_13 hb_14 hlies2 hbel2 hbw2
      have hb_0 := hb.at_ 0; have hb_1 := hb.at_ 1; have hb_2 := hb.at_ 2; have hb_3 := hb.at_ 3; have hb_4 := hb.at_ 4; have hb_5 := hb.at_ 5; have hb_6 := hb.at_ 6; have hb_7 := hb.at_ 7; have hb_8 := hb.at_ 8; have hb_9 := hb.at_ 9; have hb_10 := hb.at_ 10; have hb_11 := hb.at_ 11; have hb_12 := hb.at_ 12; have hb_13 := hb.at_ 13; have hb_14 := hb.at_ 14
      go_wp2_with (at_builtin; refine push_lit rfl _ _ 33 rfl _ 5 (.int .u8 0) 1 Try.underlying33 infoU8 rfl (by omega) _ _ _ rfl (hown) [ .int .u8 (y / 256), .int .u8 (y % 256)] rfl (by simp [Value.oneCell']) (by simp) (by first | omega | (simp; done) | (simp; omega)) (by first | omega | (simp; done) | (simp; omega)) ?_)
      intro v4 w4 hown4 hgr4
      have hbw4 : Below (w.heap.size + 1) _ w4 := lit_below (Below.refl _ _) hown hgr4 (Nat.le_refl _) (by omega)
      have hb := hb.under hbw4 (by omega)
      have hlies4 := hlies3.below (hbw4.mono (by omega))
      have hbel4 := hbel3.trans (hbw4.mono (by omega))
      have hsz4 := hbw4.size
      clear hb_0 hb_1 hb_2 hb_3 hb_4 hb_5 hb_6 hb_7 hb_8 hb_9 hb_10 hb_11 hb_12 hb_13 hb_14 hgr4 hown
      have hb_0 := hb.at_ 0; have hb_1 := hb.at_ 1; have hb_2 := hb.at_ 2; have hb_3 := hb.at_ 3; have hb_4 := hb.at_ 4; have hb_5 := hb.at_ 5; have hb_6 := hb.at_ 6; have hb_7 := hb.at_ 7; have hb_8 := hb.at_ 8; have hb_9 := hb.at_ 9; have hb_10 := hb.at_ 10; have hb_11 := hb.at_ 11; have hb_12 := hb.at_ 12; have hb_13 := hb.at_ 13; have hb_14 := hb.at_ 14
      go_wp2_with (at_builtin; refine push_any rfl _ _ 33 rfl _ 5 (.int .u8 0) 1 Try.underlying33 infoU8 rfl (by omega) _ _ _ rfl (hown4) _ _ _ _ (( bs).map (Value.int .u8)) rfl (by first | rfl | (simp; done) | (simp; omega)) ( hA) ( hlies4) (by simp [Value.oneCell']) (by first | omega | (simp; done) | (simp; omega)) (by first | omega | (simp; done) | (simp; omega)) ?_)
      intro v5 w5 hown5 hgr5
      go_wp2
      go_ret2
      refine ⟨_, rfl, ?_, ?_⟩
      · rw [Hfb.out]
        have h5 := own_less (base' := w.heap.size) hown5 (by omega)
        have e5 : (hd ++ [y / 256, y % 256] ++ bs).length = hd.length + [Value.int .u8 (y / 256), Value.int .u8 (y % 256)].length + m := by simp [hl]; omega
        rw [e5]
        simpa using h5
      · exact hbel4.grown hgr5 (by omega) (fun j hj => by have := (hown4.lt j hj).1; omega)
set_option maxHeartbeats 400000 in
theorem encode_no (d0 d1 d2 d3 d4 d5 d6 d7 d8 d9 d10 d11 : Int) (vl y : Int) (A : Option Addr) (m c : Nat) (w : World) (hok : frameOk vl y m = false) (hm : m ≤ 9223372036854775807) :
    Calls Try.prog 26 #[.agg #[.int .u8 d0, .int .u8 d1, .int .u8 d2, .int .u8 d3, .int .u8 d4, .int .u8 d5, .int .u8 d6, .int .u8 d7, .int .u8 d8, .int .u8 d9, .int .u8 d10, .int .u8 d11, .int .i64 vl, .int .i64 y, .slice A m c]] w fun e w' => e = .returned (.tuple #[.slice none 0 0, .int .i64 1]) ∧ Below w.heap.size w w' := by
  have hval := Lib.hid (fun w => valid_any d0 d1 d2 d3 d4 d5 d6 d7 d8 d9 d10 d11 vl y A m c w hm)
  rw [hok] at hval
  go_enter Try.func26, Try.ntmps26
  go_wp2_with fail
  refine (hval.out _).mono ?_
  rintro e w1 ⟨rfl, hb1⟩
  go_wp2
  go_ret2
  exact ⟨rfl, ((Below.refl _ _).alloc (Nat.le_refl _) _).trans (hb1.mono (by simp))⟩
end Go.Proofs.Ytklolalgbcgdiaa
