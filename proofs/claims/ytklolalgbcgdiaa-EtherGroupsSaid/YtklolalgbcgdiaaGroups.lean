/-
  'EtherGroups' (layer 4): the walk.
-/
import Derived.Test.YtklolalgbcgdiaaAwake4
import Derived.Test.YtklolalgbcgdiaaUse
import Derived.Deep.DeepCutAuto
namespace Go.Proofs.Ytklolalgbcgdiaa
open Go.RowKit
set_option maxHeartbeats 2000000 in
set_option maxRecDepth 100000 in
theorem groups_any (v1 : Bool) (i1 l1 : Int) (v2 : Bool) (i2 l2 n c : Int) (w : World) (_k1 : 0 ≤ i1) (_k2 : i1 < 18446744073709551616) (h1 : 0 ≤ l1) (h2 : l1 < 18446744073709551616) (_k3 : 0 ≤ i2) (_k4 : i2 < 18446744073709551616) (h3 : 0 ≤ l2) (h4 : l2 < 18446744073709551616) (hc0 : 0 ≤ c) (hc1 : c < 256) :
    Calls Try.prog 6 #[.agg #[.bool v1, .int .u64 i1, .int .u64 l1], .agg #[.bool v2, .int .u64 i2, .int .u64 l2], .int .i64 n, .int .u8 c] w fun e w' => e = .returned (.bool true) ∧ Below w.heap.size w w' := by
  go_enter Try.func6, Try.ntmps6
  go_upto_region 2 with fail
  go_cut [9, 10] (fun p q wx => ∃ g g' : Nat, p = .pointer (some ⟨g, 0, none⟩) ∧ q = .pointer (some ⟨g', 0, none⟩) ∧ Box g 23 #[.int .u8 51, .int .u8 51, .int .u8 255, .int .u8 (l1 / 65536 % 256), .int .u8 (l1 / 256 % 256), .int .u8 (l1 % 256)] wx ∧ Box g' 23 #[.int .u8 51, .int .u8 51, .int .u8 255, .int .u8 (l2 / 65536 % 256), .int .u8 (l2 / 256 % 256), .int .u8 (l2 % 256)] wx ∧
      Box w.heap.size 26 #[.bool true, .int .u64 i1, .int .u64 l1] wx ∧ Box (w.heap.size + 1) 26 #[.bool true, .int .u64 i2, .int .u64 l2] wx ∧ Below w.heap.size w wx)
  case first =>
    refine wp_region_tail 8 (fun _ => False) (fun _ => True) (Low (fun _ => False) _) [isV ?v0r1, isV (.agg #[.int .u8 51, .int .u8 51, .int .u8 255, .int .u8 (l1 / 65536 % 256), .int .u8 (l1 / 256 % 256), .int .u8 (l1 % 256)]), isV ?v2r1, isV (.agg #[.int .u8 51, .int .u8 51, .int .u8 255, .int .u8 (l2 / 65536 % 256), .int .u8 (l2 / 256 % 256), .int .u8 (l2 % 256)]), .made 23 #[.int .u8 0, .int .u8 0, .int .u8 0, .int .u8 0, .int .u8 0, .int .u8 0], .made 23 #[.int .u8 0, .int .u8 0, .int .u8 0, .int .u8 0, .int .u8 0, .int .u8 0], .put 4 23 fun _ => #[.int .u8 51, .int .u8 51, .int .u8 255, .int .u8 (l1 / 65536 % 256), .int .u8 (l1 / 256 % 256), .int .u8 (l1 % 256)], .put 5 23 fun _ => #[.int .u8 51, .int .u8 51, .int .u8 255, .int .u8 (l2 / 65536 % 256), .int .u8 (l2 / 256 % 256), .int .u8 (l2 % 256)]] (by kernel_rfl) (by kernel_rfl) (by kernel_rfl) (by kernel_rfl) trivial (fun _ h => False.elim h) (fun _ _ h h' => low_of_stays h h') ?spr1 ?enr1
    case spr1 =>
      -- 0: Op.load 26 t4
      refine specs_cons (cst _ rfl fun env ρ W hW hI hF hS => ?_) ?_
      · have hc := stays_cells hW; have e4 := hS.at 4 (by kernel_rfl) (slot_base (by kernel_rfl))
        go_simp
        try with_reducible rfl
      -- 1: Op.call { value (Operand.func 21), args := #[t13], argTypes := #[26] }
      refine specs_cons (call_cst _ rfl (fun _ _ _ h => h) (f := ?ff1r1) (args := ?aa1r1) fun env ρ W hW hI hF hS => ⟨?ru1r1, ?ca1r1⟩) ?nx1r1
      case ru1r1 =>
        have hc := stays_cells hW; have cf := hS.func; have e13 := (hS.at 13 (by kernel_rfl) (v := env 0) (by kernel_rfl)).trans (hF 0 (by kernel_rfl))
        go_simp
        constructor <;> rfl
      case ca1r1 => exact (solicited_yes _ _ W h1 h2)
      -- 2: Op.load 26 t5
      refine specs_cons (cst _ rfl fun env ρ W hW hI hF hS => ?_) ?_
      · have hc := stays_cells hW; have e5 := hS.at 5 (by kernel_rfl) (slot_base (by kernel_rfl))
        go_simp
        try with_reducible rfl
      -- 3: Op.call { value (Operand.func 21), args := #[t15], argTypes := #[26] }
      refine specs_cons (call_cst _ rfl (fun _ _ _ h => h) (f := ?ff3r1) (args := ?aa3r1) fun env ρ W hW hI hF hS => ⟨?ru3r1, ?ca3r1⟩) ?nx3r1
      case ru3r1 =>
        have hc := stays_cells hW; have cf := hS.func; have e15 := (hS.at 15 (by kernel_rfl) (v := env 2) (by kernel_rfl)).trans (hF 2 (by kernel_rfl))
        go_simp
        constructor <;> rfl
      case ca3r1 => exact (solicited_yes _ _ W h3 h4)
      -- 4: Op.alloc 23
      refine specs_cons (box_made _ _ rfl (fun _ _ _ h => h) fun ρ W => ?_) ?_
      · go_simp
      -- 5: Op.alloc 23
      refine specs_cons (box_made _ _ rfl (fun _ _ _ h => h) fun ρ W => ?_) ?_
      · go_simp
      -- 6: Op.store 23 t9 t14
      refine specs_cons (box_put 4 _ _ _ rfl (by simp) (by kernel_rfl) rfl (fun _ _ _ _ _ h => h) fun env ρ W g hW hI hF hS he hb => ?_) ?_
      · have e9 := hS.at 9 (by kernel_rfl) (v := env 4) (by kernel_rfl); have e14 := (hS.at 14 (by kernel_rfl) (v := env 1) (by kernel_rfl)).trans (hF 1 (by kernel_rfl))
        replace he : _ = Value.pointer (some ⟨g, 0, none⟩) := he
        have b0 := hb.at_ 0; have o0 := hb.open_ 0
        have b1 := hb.at_ 1; have o1 := hb.open_ 1
        have b2 := hb.at_ 2; have o2 := hb.open_ 2
        have b3 := hb.at_ 3; have o3 := hb.open_ 3
        have b4 := hb.at_ 4; have o4 := hb.open_ 4
        have b5 := hb.at_ 5; have o5 := hb.open_ 5
        refine ⟨_, (by go_simp; rfl), ?_, ?_⟩
        · exact ((((((hb).put 0 _).put 1 _).put 2 _).put 3 _).put 4 _).put 5 _
        · exact ((((((OnlyBlock.refl _ _).setCell (by rfl) _).setCell (by rfl) _).setCell (by rfl) _).setCell (by rfl) _).setCell (by rfl) _).setCell (by rfl) _
      -- 7: Op.store 23 t10 t16
      refine specs_cons (box_put 5 _ _ _ rfl (by simp) (by kernel_rfl) rfl (fun _ _ _ _ _ h => h) fun env ρ W g hW hI hF hS he hb => ?_) ?_
      · have e10 := hS.at 10 (by kernel_rfl) (v := env 5) (by kernel_rfl); have e16 := (hS.at 16 (by kernel_rfl) (v := env 3) (by kernel_rfl)).trans (hF 3 (by kernel_rfl))
        replace he : _ = Value.pointer (some ⟨g, 0, none⟩) := he
        have b0 := hb.at_ 0; have o0 := hb.open_ 0
        have b1 := hb.at_ 1; have o1 := hb.open_ 1
        have b2 := hb.at_ 2; have o2 := hb.open_ 2
        have b3 := hb.at_ 3; have o3 := hb.open_ 3
        have b4 := hb.at_ 4; have o4 := hb.open_ 4
        have b5 := hb.at_ 5; have o5 := hb.open_ 5
        refine ⟨_, (by go_simp; rfl), ?_, ?_⟩
        · exact ((((((hb).put 0 _).put 1 _).put 2 _).put 3 _).put 4 _).put 5 _
        · exact ((((((OnlyBlock.refl _ _).setCell (by rfl) _).setCell (by rfl) _).setCell (by rfl) _).setCell (by rfl) _).setCell (by rfl) _).setCell (by rfl) _
      exact specs_nil
    case enr1 =>
      intro env W K
      have f0 : env 0 = _ := K.facts 0 (by decide) rfl
      have f1 : env 1 = _ := K.facts 1 (by decide) rfl
      have f2 : env 2 = _ := K.facts 2 (by decide) rfl
      have f3 : env 3 = _ := K.facts 3 (by decide) rfl
      obtain ⟨g4, k4, l4, b4⟩ := K.facts 6 (by decide) rfl
      obtain ⟨g5, k5, l5, b5⟩ := K.facts 7 (by decide) rfl
      have hgrow := K.stays.of_drew.below
      clear K
      simp only [List.take_succ_cons, List.take_nil, List.drop_nil, List.drop_succ_cons, putAll, Nat.reduceAdd, wpList]
      simp only [Act.put, List.setIfInBounds_toArray, List.set_cons_succ, List.set_cons_zero, f0, f1, f2, f3]
      clear f0 f1 f2 f3
      go_wp2_with fail
      go_meet
      have m1 := (Box.made w 26 #[.bool true, .int .u64 i1, .int .u64 l1]).past (.cells #[.bool true, .int .u64 i2, .int .u64 l2] 26)
      have m2 := Box.made (w.alloc (.cells #[.bool true, .int .u64 i1, .int .u64 l1] 26)) 26 #[.bool true, .int .u64 i2, .int .u64 l2]
      refine ⟨g4, g5, rfl, rfl, b4, b5, m1.under hgrow m1.inside, ?_, ?_⟩
      · have m3 := m2.under hgrow m2.inside
        simpa using m3
      · exact Below.trans (b := (w.alloc (.cells #[.bool true, .int .u64 i1, .int .u64 l1] 26)).alloc (.cells #[.bool true, .int .u64 i2, .int .u64 l2] 26)) (by repeat (with_reducible first | exact Below.refl _ _ | assumption | refine Below.drew ?_ | refine below_drewN ?_ _ | refine Below.alloc ?_ (by simp) _ | refine Below.setCell ?_ (by simp) _ | refine Below.alloc ?_ (by simp; omega) _)) (hgrow.mono (by simp; omega))
  case rest =>
    obtain ⟨g, g', rfl, rfl, b1, b2, b3, b4, hbel⟩ := hcut
    have G1 := Lib.hid fun W => group_any 51 51 255 (l1 / 65536 % 256) (l1 / 256 % 256) (l1 % 256) W (by omega) (by omega)
    have G2 := Lib.hid fun W => group_any 255 255 255 255 255 255 W (by omega) (by omega)
    have G3 := Lib.hid fun W => group_any 2 0 (n / 16777216 % 256) (n / 65536 % 256) (n / 256 % 256) (n % 256) W (by omega) (by omega)
    have R1 := Lib.hid fun W => reserved_any 51 51 255 (l1 / 65536 % 256) (l1 / 256 % 256) (l1 % 256) W
    have R2 := Lib.hid fun W => reserved_any 255 255 255 255 255 255 W
    have R3 : Hid (∀ W, Calls Try.prog 14 #[.agg #[.int .u8 1, .int .u8 128, .int .u8 194, .int .u8 0, .int .u8 0, .int .u8 (c % 16)]] W fun e w' => e = .returned (.bool true) ∧ Below W.heap.size W w') := Lib.hid fun W => by
      have h := reserved_any 1 128 194 0 0 (c % 16) W
      have hr : resB 1 128 194 0 0 (c % 16) = true := by unfold resB; simp; omega
      rw [hr] at h
      exact h
    have hand : bits .and .u8 c 15 = c % 16 := by go_bits2
    have hand1 : bits .and .u64 l1 16777215 = l1 % 16777216 := by go_bits2
    have hand2 : bits .and .u64 l2 16777215 = l2 % 16777216 := by go_bits2
    have heq := fun W => @eq_mac W 51 51 255 (l1 / 65536 % 256) (l1 / 256 % 256) (l1 % 256) 51 51 255 (l2 / 65536 % 256) (l2 / 256 % 256) (l2 % 256)
    have heq0 := fun W => @eq_mac W 0 0 0 0 0 0 0 0 0 0 0 0
    have hsame : ([51, 51, 255, l1 / 65536 % 256, l1 / 256 % 256, l1 % 256] == [51, 51, 255, l2 / 65536 % 256, l2 / 256 % 256, l2 % 256]) = (l1 % 16777216 == l2 % 16777216) := by
      rw [Bool.eq_iff_iff]
      simp
      omega
    rw [hsame] at heq
    clear hsame
    generalize hq : (l1 % 16777216 == l2 % 16777216) = q at heq
    have b1_0 := b1.at_ 0; have b1_1 := b1.at_ 1; have b1_2 := b1.at_ 2; have b1_3 := b1.at_ 3; have b1_4 := b1.at_ 4; have b1_5 := b1.at_ 5
    have b2_0 := b2.at_ 0; have b2_1 := b2.at_ 1; have b2_2 := b2.at_ 2; have b2_3 := b2.at_ 3; have b2_4 := b2.at_ 4; have b2_5 := b2.at_ 5
    have b3_0 := b3.at_ 0; have b3_1 := b3.at_ 1; have b3_2 := b3.at_ 2
    have b4_0 := b4.at_ 0; have b4_1 := b4.at_ 1; have b4_2 := b4.at_ 2
    have hg1 := b1.inside
    have hg2 := b2.inside
    have hg3 := b3.inside
    have hg4 := b4.inside
    go_upto_region 3 with fail
    refine wp_region_tail 51 (fun _ => False) (fun _ => True) (Stays (fun _ => False)) [isV ?v0r2, isV (.bool true), isV ?v2r2, isV (.agg #[.int .u8 255, .int .u8 255, .int .u8 255, .int .u8 255, .int .u8 255, .int .u8 255]), isV (.bool true), isV ?v5r2, isV ?v6r2, isV ?v7r2, isV (.bool false), isV ?v9r2, isV ?v10r2, isV ?v11r2, isV (.agg #[.int .u8 255, .int .u8 255, .int .u8 255, .int .u8 255, .int .u8 255, .int .u8 255]), isV (.bool false), isV ?v14r2, isV ?v15r2, isV ?v16r2, isV ?v17r2, isV (.agg #[.int .u8 2, .int .u8 0, .int .u8 (n / 16777216 % 256), .int .u8 (n / 65536 % 256), .int .u8 (n / 256 % 256), .int .u8 (n % 256)]), isV (.bool false), isV ?v20r2, isV ?v21r2, isV ?v22r2, isV ?v23r2, isV ?v24r2, isV ?v25r2, isV ?v26r2, isV ?v27r2, isV ?v28r2, isV ?v29r2, isV ?v30r2, isV ?v31r2, isV ?v32r2, isV (.bool true), isV ?v34r2, isV ?v35r2, isV ?v36r2, isV ?v37r2, isV ?v38r2, isV (.bool true), isV ?v40r2, isV ?v41r2, isV ?v42r2, isV (.agg #[.int .u8 0, .int .u8 0, .int .u8 0, .int .u8 0, .int .u8 0, .int .u8 0]), isV ?v44r2, isV ?v45r2, isV ?v46r2, isV ?v47r2, isV (.bool true), isV ?v49r2, isV ?v50r2] (by kernel_rfl) (by kernel_rfl) (by kernel_rfl) (by kernel_rfl) trivial (fun _ h => False.elim h) (fun _ _ _ h => h) ?spr2 ?enr2
    case spr2 =>
      -- 0: Op.load 23 t9
      refine specs_cons (cst _ rfl fun env ρ W hW hI hF hS => ?_) ?_
      · have hc := stays_cells hW; have e9 := hS.at 9 (by kernel_rfl) (slot_base (by kernel_rfl))
        go_simp
        try with_reducible rfl
      -- 1: Op.call { value (Operand.func 12), args := #[t17], argTypes := #[23] }
      refine specs_cons (call_cst _ rfl (fun _ _ _ h => h) (f := ?ff1r2) (args := ?aa1r2) fun env ρ W hW hI hF hS => ⟨?ru1r2, ?ca1r2⟩) ?nx1r2
      case ru1r2 =>
        have hc := stays_cells hW; have cf := hS.func; have e17 := (hS.at 17 (by kernel_rfl) (v := env 0) (by kernel_rfl)).trans (hF 0 (by kernel_rfl))
        go_simp
        constructor <;> rfl
      case ca1r2 => exact (G1.out W)
      -- 2: Op.move t18
      refine specs_cons (cst _ rfl fun env ρ W hW hI hF hS => ?_) ?_
      · have e18 := (hS.at 18 (by kernel_rfl) (v := env 1) (by kernel_rfl)).trans (hF 1 (by kernel_rfl))
        go_simp
        try with_reducible rfl
      -- 3: Op.call { value (Operand.func 16), args := #[], argTypes := #[] } [2 True]
      refine specs_cons (call_cst_on _ rfl rfl (fun _ _ _ h => h) (f := ?ff3r2) (args := ?aa3r2) fun env ρ W hW hI hF hS => ⟨?gu3r2, ?ru3r2, ?ca3r2⟩) ?nx3r2
      case gu3r2 =>
        have e19 := (hS.at 19 (by kernel_rfl) (v := env 2) (by kernel_rfl)).trans (hF 2 (by kernel_rfl))
        exact e19
      case ru3r2 =>
        have hc := stays_cells hW; have cf := hS.func; have e19 := (hS.at 19 (by kernel_rfl) (v := env 2) (by kernel_rfl)).trans (hF 2 (by kernel_rfl))
        go_simp
        constructor <;> rfl
      case ca3r2 => exact (broadcast_any W)
      -- 4: Op.call { value (Operand.func 12), args := #[t20], argTypes := #[23] } [2 True]
      refine specs_cons (call_cst_on _ rfl rfl (fun _ _ _ h => h) (f := ?ff4r2) (args := ?aa4r2) fun env ρ W hW hI hF hS => ⟨?gu4r2, ?ru4r2, ?ca4r2⟩) ?nx4r2
      case gu4r2 =>
        have e19 := (hS.at 19 (by kernel_rfl) (v := env 2) (by kernel_rfl)).trans (hF 2 (by kernel_rfl))
        exact e19
      case ru4r2 =>
        have hc := stays_cells hW; have cf := hS.func; have e20 := (hS.at 20 (by kernel_rfl) (v := env 3) (by kernel_rfl)).trans (hF 3 (by kernel_rfl)); have e19 := (hS.at 19 (by kernel_rfl) (v := env 2) (by kernel_rfl)).trans (hF 2 (by kernel_rfl))
        go_simp
        constructor <;> rfl
      case ca4r2 => exact (G2.out W)
      -- 5: Op.pick t19 t21 (const (Value.bool false))
      refine specs_cons (cst _ rfl fun env ρ W hW hI hF hS => ?_) ?_
      · have cc := hS.const; have e19 := (hS.at 19 (by kernel_rfl) (v := env 2) (by kernel_rfl)).trans (hF 2 (by kernel_rfl)); have e21 := (hS.at 21 (by kernel_rfl) (v := env 4) (by kernel_rfl)).trans (hF 4 (by kernel_rfl))
        go_simp
        try with_reducible rfl
      -- 6: Op.move t22
      refine specs_cons (cst _ rfl fun env ρ W hW hI hF hS => ?_) ?_
      · have e22 := (hS.at 22 (by kernel_rfl) (v := env 5) (by kernel_rfl)).trans (hF 5 (by kernel_rfl))
        go_simp
        try with_reducible rfl
      -- 7: Op.load 23 t9 [6 True]
      refine specs_cons (cst_on _ rfl rfl fun env ρ W hW hI hF hS => ⟨?_, ?_⟩) ?_
      · have e23 := (hS.at 23 (by kernel_rfl) (v := env 6) (by kernel_rfl)).trans (hF 6 (by kernel_rfl))
        exact e23
      · have hc := stays_cells hW; have e9 := hS.at 9 (by kernel_rfl) (slot_base (by kernel_rfl)); have e23 := (hS.at 23 (by kernel_rfl) (v := env 6) (by kernel_rfl)).trans (hF 6 (by kernel_rfl))
        go_simp
        try with_reducible rfl
      -- 8: Op.call { value (Operand.func 14), args := #[t24], argTypes := #[23] } [6 True]
      refine specs_cons (call_cst_on _ rfl rfl (fun _ _ _ h => h) (f := ?ff8r2) (args := ?aa8r2) fun env ρ W hW hI hF hS => ⟨?gu8r2, ?ru8r2, ?ca8r2⟩) ?nx8r2
      case gu8r2 =>
        have e23 := (hS.at 23 (by kernel_rfl) (v := env 6) (by kernel_rfl)).trans (hF 6 (by kernel_rfl))
        exact e23
      case ru8r2 =>
        have hc := stays_cells hW; have cf := hS.func; have e24 := (hS.at 24 (by kernel_rfl) (v := env 7) (by kernel_rfl)).trans (hF 7 (by kernel_rfl)); have e23 := (hS.at 23 (by kernel_rfl) (v := env 6) (by kernel_rfl)).trans (hF 6 (by kernel_rfl))
        go_simp
        constructor <;> rfl
      case ca8r2 => exact (R1.out W)
      -- 9: Op.unOp UnOp.not 4 t25 [6 True]
      refine specs_cons (cst_on _ rfl rfl fun env ρ W hW hI hF hS => ⟨?_, ?_⟩) ?_
      · have e23 := (hS.at 23 (by kernel_rfl) (v := env 6) (by kernel_rfl)).trans (hF 6 (by kernel_rfl))
        exact e23
      · have e25 := (hS.at 25 (by kernel_rfl) (v := env 8) (by kernel_rfl)).trans (hF 8 (by kernel_rfl)); have e23 := (hS.at 23 (by kernel_rfl) (v := env 6) (by kernel_rfl)).trans (hF 6 (by kernel_rfl))
        go_simp
        try with_reducible rfl
      -- 10: Op.pick t23 t26 (const (Value.bool false))
      refine specs_cons (cst _ rfl fun env ρ W hW hI hF hS => ?_) ?_
      · have cc := hS.const; have e23 := (hS.at 23 (by kernel_rfl) (v := env 6) (by kernel_rfl)).trans (hF 6 (by kernel_rfl)); have e26 := (hS.at 26 (by kernel_rfl) (v := env 9) (by kernel_rfl)).trans (hF 9 (by kernel_rfl))
        go_simp
        try with_reducible rfl
      -- 11: Op.move t27
      refine specs_cons (cst _ rfl fun env ρ W hW hI hF hS => ?_) ?_
      · have e27 := (hS.at 27 (by kernel_rfl) (v := env 10) (by kernel_rfl)).trans (hF 10 (by kernel_rfl))
        go_simp
        try with_reducible rfl
      -- 12: Op.call { value (Operand.func 16), args := #[], argTypes := #[] } [11 True]
      refine specs_cons (call_cst_on _ rfl rfl (fun _ _ _ h => h) (f := ?ff12r2) (args := ?aa12r2) fun env ρ W hW hI hF hS => ⟨?gu12r2, ?ru12r2, ?ca12r2⟩) ?nx12r2
      case gu12r2 =>
        have e28 := (hS.at 28 (by kernel_rfl) (v := env 11) (by kernel_rfl)).trans (hF 11 (by kernel_rfl))
        exact e28
      case ru12r2 =>
        have hc := stays_cells hW; have cf := hS.func; have e28 := (hS.at 28 (by kernel_rfl) (v := env 11) (by kernel_rfl)).trans (hF 11 (by kernel_rfl))
        go_simp
        constructor <;> rfl
      case ca12r2 => exact (broadcast_any W)
      -- 13: Op.call { value (Operand.func 14), args := #[t29], argTypes := #[23] } [11 True]
      refine specs_cons (call_cst_on _ rfl rfl (fun _ _ _ h => h) (f := ?ff13r2) (args := ?aa13r2) fun env ρ W hW hI hF hS => ⟨?gu13r2, ?ru13r2, ?ca13r2⟩) ?nx13r2
      case gu13r2 =>
        have e28 := (hS.at 28 (by kernel_rfl) (v := env 11) (by kernel_rfl)).trans (hF 11 (by kernel_rfl))
        exact e28
      case ru13r2 =>
        have hc := stays_cells hW; have cf := hS.func; have e29 := (hS.at 29 (by kernel_rfl) (v := env 12) (by kernel_rfl)).trans (hF 12 (by kernel_rfl)); have e28 := (hS.at 28 (by kernel_rfl) (v := env 11) (by kernel_rfl)).trans (hF 11 (by kernel_rfl))
        go_simp
        constructor <;> rfl
      case ca13r2 => exact (R2.out W)
      -- 14: Op.unOp UnOp.not 4 t30 [11 True]
      refine specs_cons (cst_on _ rfl rfl fun env ρ W hW hI hF hS => ⟨?_, ?_⟩) ?_
      · have e28 := (hS.at 28 (by kernel_rfl) (v := env 11) (by kernel_rfl)).trans (hF 11 (by kernel_rfl))
        exact e28
      · have e30 := (hS.at 30 (by kernel_rfl) (v := env 13) (by kernel_rfl)).trans (hF 13 (by kernel_rfl)); have e28 := (hS.at 28 (by kernel_rfl) (v := env 11) (by kernel_rfl)).trans (hF 11 (by kernel_rfl))
        go_simp
        try with_reducible rfl
      -- 15: Op.pick t28 t31 (const (Value.bool false))
      refine specs_cons (cst _ rfl fun env ρ W hW hI hF hS => ?_) ?_
      · have cc := hS.const; have e28 := (hS.at 28 (by kernel_rfl) (v := env 11) (by kernel_rfl)).trans (hF 11 (by kernel_rfl)); have e31 := (hS.at 31 (by kernel_rfl) (v := env 14) (by kernel_rfl)).trans (hF 14 (by kernel_rfl))
        go_simp
        try with_reducible rfl
      -- 16: Op.move t32
      refine specs_cons (cst _ rfl fun env ρ W hW hI hF hS => ?_) ?_
      · have e32 := (hS.at 32 (by kernel_rfl) (v := env 15) (by kernel_rfl)).trans (hF 15 (by kernel_rfl))
        go_simp
        try with_reducible rfl
      -- 17: Op.move t2 [16 True]
      refine specs_cons (cst_on _ rfl rfl fun env ρ W hW hI hF hS => ⟨?_, ?_⟩) ?_
      · have e33 := (hS.at 33 (by kernel_rfl) (v := env 16) (by kernel_rfl)).trans (hF 16 (by kernel_rfl))
        exact e33
      · have e2 := hS.at 2 (by kernel_rfl) (slot_base (by kernel_rfl)); have e33 := (hS.at 33 (by kernel_rfl) (v := env 16) (by kernel_rfl)).trans (hF 16 (by kernel_rfl))
        go_simp
        try with_reducible rfl
      -- 18: Op.call { value (Operand.func 33), args := #[t34], argTypes := #[3] } [16 True]
      refine specs_cons (call_cst_on _ rfl rfl (fun _ _ _ h => h) (f := ?ff18r2) (args := ?aa18r2) fun env ρ W hW hI hF hS => ⟨?gu18r2, ?ru18r2, ?ca18r2⟩) ?nx18r2
      case gu18r2 =>
        have e33 := (hS.at 33 (by kernel_rfl) (v := env 16) (by kernel_rfl)).trans (hF 16 (by kernel_rfl))
        exact e33
      case ru18r2 =>
        have hc := stays_cells hW; have cf := hS.func; have e34 := (hS.at 34 (by kernel_rfl) (v := env 17) (by kernel_rfl)).trans (hF 17 (by kernel_rfl)); have e33 := (hS.at 33 (by kernel_rfl) (v := env 16) (by kernel_rfl)).trans (hF 16 (by kernel_rfl))
        go_simp
        constructor <;> rfl
      case ca18r2 => exact (mac_any n W)
      -- 19: Op.call { value (Operand.func 12), args := #[t35], argTypes := #[23] } [16 True]
      refine specs_cons (call_cst_on _ rfl rfl (fun _ _ _ h => h) (f := ?ff19r2) (args := ?aa19r2) fun env ρ W hW hI hF hS => ⟨?gu19r2, ?ru19r2, ?ca19r2⟩) ?nx19r2
      case gu19r2 =>
        have e33 := (hS.at 33 (by kernel_rfl) (v := env 16) (by kernel_rfl)).trans (hF 16 (by kernel_rfl))
        exact e33
      case ru19r2 =>
        have hc := stays_cells hW; have cf := hS.func; have e35 := (hS.at 35 (by kernel_rfl) (v := env 18) (by kernel_rfl)).trans (hF 18 (by kernel_rfl)); have e33 := (hS.at 33 (by kernel_rfl) (v := env 16) (by kernel_rfl)).trans (hF 16 (by kernel_rfl))
        go_simp
        constructor <;> rfl
      case ca19r2 => exact (G3.out W)
      -- 20: Op.unOp UnOp.not 4 t36 [16 True]
      refine specs_cons (cst_on _ rfl rfl fun env ρ W hW hI hF hS => ⟨?_, ?_⟩) ?_
      · have e33 := (hS.at 33 (by kernel_rfl) (v := env 16) (by kernel_rfl)).trans (hF 16 (by kernel_rfl))
        exact e33
      · have e36 := (hS.at 36 (by kernel_rfl) (v := env 19) (by kernel_rfl)).trans (hF 19 (by kernel_rfl)); have e33 := (hS.at 33 (by kernel_rfl) (v := env 16) (by kernel_rfl)).trans (hF 16 (by kernel_rfl))
        go_simp
        try with_reducible rfl
      -- 21: Op.pick t33 t37 (const (Value.bool false))
      refine specs_cons (cst _ rfl fun env ρ W hW hI hF hS => ?_) ?_
      · have cc := hS.const; have e33 := (hS.at 33 (by kernel_rfl) (v := env 16) (by kernel_rfl)).trans (hF 16 (by kernel_rfl)); have e37 := (hS.at 37 (by kernel_rfl) (v := env 20) (by kernel_rfl)).trans (hF 20 (by kernel_rfl))
        go_simp
        try with_reducible rfl
      -- 22: Op.move t38
      refine specs_cons (cst _ rfl fun env ρ W hW hI hF hS => ?_) ?_
      · have e38 := (hS.at 38 (by kernel_rfl) (v := env 21) (by kernel_rfl)).trans (hF 21 (by kernel_rfl))
        go_simp
        try with_reducible rfl
      -- 23: Op.load 23 t9 [22 True]
      refine specs_cons (cst_on _ rfl rfl fun env ρ W hW hI hF hS => ⟨?_, ?_⟩) ?_
      · have e39 := (hS.at 39 (by kernel_rfl) (v := env 22) (by kernel_rfl)).trans (hF 22 (by kernel_rfl))
        exact e39
      · have hc := stays_cells hW; have e9 := hS.at 9 (by kernel_rfl) (slot_base (by kernel_rfl)); have e39 := (hS.at 39 (by kernel_rfl) (v := env 22) (by kernel_rfl)).trans (hF 22 (by kernel_rfl))
        go_simp
        try with_reducible rfl
      -- 24: Op.load 23 t10 [22 True]
      refine specs_cons (cst_on _ rfl rfl fun env ρ W hW hI hF hS => ⟨?_, ?_⟩) ?_
      · have e39 := (hS.at 39 (by kernel_rfl) (v := env 22) (by kernel_rfl)).trans (hF 22 (by kernel_rfl))
        exact e39
      · have hc := stays_cells hW; have e10 := hS.at 10 (by kernel_rfl) (slot_base (by kernel_rfl)); have e39 := (hS.at 39 (by kernel_rfl) (v := env 22) (by kernel_rfl)).trans (hF 22 (by kernel_rfl))
        go_simp
        try with_reducible rfl
      -- 25: Op.binOp BinOp.eql 23 t40 t41 23 [22 True]
      refine specs_cons (cst_on _ rfl rfl fun env ρ W hW hI hF hS => ⟨?_, ?_⟩) ?_
      · have e39 := (hS.at 39 (by kernel_rfl) (v := env 22) (by kernel_rfl)).trans (hF 22 (by kernel_rfl))
        exact e39
      · have hc := stays_cells hW; have e40 := (hS.at 40 (by kernel_rfl) (v := env 23) (by kernel_rfl)).trans (hF 23 (by kernel_rfl)); have e41 := (hS.at 41 (by kernel_rfl) (v := env 24) (by kernel_rfl)).trans (hF 24 (by kernel_rfl)); have e39 := (hS.at 39 (by kernel_rfl) (v := env 22) (by kernel_rfl)).trans (hF 22 (by kernel_rfl))
        go_simp
        try with_reducible rfl
      -- 26: Op.fieldAddr 26 t4 2 [22 True]
      refine specs_cons (cst_on _ rfl rfl fun env ρ W hW hI hF hS => ⟨?_, ?_⟩) ?_
      · have e39 := (hS.at 39 (by kernel_rfl) (v := env 22) (by kernel_rfl)).trans (hF 22 (by kernel_rfl))
        exact e39
      · have e4 := hS.at 4 (by kernel_rfl) (slot_base (by kernel_rfl)); have e39 := (hS.at 39 (by kernel_rfl) (v := env 22) (by kernel_rfl)).trans (hF 22 (by kernel_rfl))
        go_simp
        try with_reducible rfl
      -- 27: Op.load 24 t43 [22 True]
      refine specs_cons (cst_on _ rfl rfl fun env ρ W hW hI hF hS => ⟨?_, ?_⟩) ?_
      · have e39 := (hS.at 39 (by kernel_rfl) (v := env 22) (by kernel_rfl)).trans (hF 22 (by kernel_rfl))
        exact e39
      · have hc := stays_cells hW; have e43 := (hS.at 43 (by kernel_rfl) (v := env 26) (by kernel_rfl)).trans (hF 26 (by kernel_rfl)); have e39 := (hS.at 39 (by kernel_rfl) (v := env 22) (by kernel_rfl)).trans (hF 22 (by kernel_rfl))
        go_simp
        try with_reducible rfl
      -- 28: Op.binOp BinOp.and 24 t44 (const (16777215:u64)) 24 [22 True]
      refine specs_cons (cst_on _ rfl rfl fun env ρ W hW hI hF hS => ⟨?_, ?_⟩) ?_
      · have e39 := (hS.at 39 (by kernel_rfl) (v := env 22) (by kernel_rfl)).trans (hF 22 (by kernel_rfl))
        exact e39
      · have hc := stays_cells hW; have cc := hS.const; have e44 := (hS.at 44 (by kernel_rfl) (v := env 27) (by kernel_rfl)).trans (hF 27 (by kernel_rfl)); have e39 := (hS.at 39 (by kernel_rfl) (v := env 22) (by kernel_rfl)).trans (hF 22 (by kernel_rfl))
        go_simp
        try with_reducible rfl
      -- 29: Op.fieldAddr 26 t5 2 [22 True]
      refine specs_cons (cst_on _ rfl rfl fun env ρ W hW hI hF hS => ⟨?_, ?_⟩) ?_
      · have e39 := (hS.at 39 (by kernel_rfl) (v := env 22) (by kernel_rfl)).trans (hF 22 (by kernel_rfl))
        exact e39
      · have e5 := hS.at 5 (by kernel_rfl) (slot_base (by kernel_rfl)); have e39 := (hS.at 39 (by kernel_rfl) (v := env 22) (by kernel_rfl)).trans (hF 22 (by kernel_rfl))
        go_simp
        try with_reducible rfl
      -- 30: Op.load 24 t46 [22 True]
      refine specs_cons (cst_on _ rfl rfl fun env ρ W hW hI hF hS => ⟨?_, ?_⟩) ?_
      · have e39 := (hS.at 39 (by kernel_rfl) (v := env 22) (by kernel_rfl)).trans (hF 22 (by kernel_rfl))
        exact e39
      · have hc := stays_cells hW; have e46 := (hS.at 46 (by kernel_rfl) (v := env 29) (by kernel_rfl)).trans (hF 29 (by kernel_rfl)); have e39 := (hS.at 39 (by kernel_rfl) (v := env 22) (by kernel_rfl)).trans (hF 22 (by kernel_rfl))
        go_simp
        try with_reducible rfl
      -- 31: Op.binOp BinOp.and 24 t47 (const (16777215:u64)) 24 [22 True]
      refine specs_cons (cst_on _ rfl rfl fun env ρ W hW hI hF hS => ⟨?_, ?_⟩) ?_
      · have e39 := (hS.at 39 (by kernel_rfl) (v := env 22) (by kernel_rfl)).trans (hF 22 (by kernel_rfl))
        exact e39
      · have hc := stays_cells hW; have cc := hS.const; have e47 := (hS.at 47 (by kernel_rfl) (v := env 30) (by kernel_rfl)).trans (hF 30 (by kernel_rfl)); have e39 := (hS.at 39 (by kernel_rfl) (v := env 22) (by kernel_rfl)).trans (hF 22 (by kernel_rfl))
        go_simp
        try with_reducible rfl
      -- 32: Op.binOp BinOp.eql 24 t45 t48 24 [22 True]
      refine specs_cons (cst_on _ rfl rfl fun env ρ W hW hI hF hS => ⟨?_, ?_⟩) ?_
      · have e39 := (hS.at 39 (by kernel_rfl) (v := env 22) (by kernel_rfl)).trans (hF 22 (by kernel_rfl))
        exact e39
      · have hc := stays_cells hW; have e45 := (hS.at 45 (by kernel_rfl) (v := env 28) (by kernel_rfl)).trans (hF 28 (by kernel_rfl)); have e48 := (hS.at 48 (by kernel_rfl) (v := env 31) (by kernel_rfl)).trans (hF 31 (by kernel_rfl)); have e39 := (hS.at 39 (by kernel_rfl) (v := env 22) (by kernel_rfl)).trans (hF 22 (by kernel_rfl))
        go_simp
        try with_reducible rfl
      -- 33: Op.binOp BinOp.eql 4 t42 t49 4 [22 True]
      refine specs_cons (cst_on _ rfl rfl fun env ρ W hW hI hF hS => ⟨?_, ?_⟩) ?_
      · have e39 := (hS.at 39 (by kernel_rfl) (v := env 22) (by kernel_rfl)).trans (hF 22 (by kernel_rfl))
        exact e39
      · have hc := stays_cells hW; have e42 := (hS.at 42 (by kernel_rfl) (v := env 25) (by kernel_rfl)).trans (hF 25 (by kernel_rfl)); have e49 := (hS.at 49 (by kernel_rfl) (v := env 32) (by kernel_rfl)).trans (hF 32 (by kernel_rfl)); have e39 := (hS.at 39 (by kernel_rfl) (v := env 22) (by kernel_rfl)).trans (hF 22 (by kernel_rfl))
        go_simp
        try with_reducible rfl
      -- 34: Op.pick t39 t50 (const (Value.bool false))
      refine specs_cons (cst _ rfl fun env ρ W hW hI hF hS => ?_) ?_
      · have cc := hS.const; have e39 := (hS.at 39 (by kernel_rfl) (v := env 22) (by kernel_rfl)).trans (hF 22 (by kernel_rfl)); have e50 := (hS.at 50 (by kernel_rfl) (v := env 33) (by kernel_rfl)).trans (hF 33 (by kernel_rfl))
        go_simp
        try with_reducible rfl
      -- 35: Op.move t51
      refine specs_cons (cst _ rfl fun env ρ W hW hI hF hS => ?_) ?_
      · have e51 := (hS.at 51 (by kernel_rfl) (v := env 34) (by kernel_rfl)).trans (hF 34 (by kernel_rfl))
        go_simp
        try with_reducible rfl
      -- 36: Op.move t3 [35 True]
      refine specs_cons (cst_on _ rfl rfl fun env ρ W hW hI hF hS => ⟨?_, ?_⟩) ?_
      · have e52 := (hS.at 52 (by kernel_rfl) (v := env 35) (by kernel_rfl)).trans (hF 35 (by kernel_rfl))
        exact e52
      · have e3 := hS.at 3 (by kernel_rfl) (slot_base (by kernel_rfl)); have e52 := (hS.at 52 (by kernel_rfl) (v := env 35) (by kernel_rfl)).trans (hF 35 (by kernel_rfl))
        go_simp
        try with_reducible rfl
      -- 37: Op.binOp BinOp.and 5 t53 (const (15:u8)) 5 [35 True]
      refine specs_cons (cst_on _ rfl rfl fun env ρ W hW hI hF hS => ⟨?_, ?_⟩) ?_
      · have e52 := (hS.at 52 (by kernel_rfl) (v := env 35) (by kernel_rfl)).trans (hF 35 (by kernel_rfl))
        exact e52
      · have hc := stays_cells hW; have cc := hS.const; have e53 := (hS.at 53 (by kernel_rfl) (v := env 36) (by kernel_rfl)).trans (hF 36 (by kernel_rfl)); have e52 := (hS.at 52 (by kernel_rfl) (v := env 35) (by kernel_rfl)).trans (hF 35 (by kernel_rfl))
        go_simp
        try with_reducible rfl
      -- 38: Op.build 23 #[(0, const (1:u8)), (1, const (128:u8)), (2, const (194:u [35 True]
      refine specs_cons (cst_on _ rfl rfl fun env ρ W hW hI hF hS => ⟨?_, ?_⟩) ?_
      · have e52 := (hS.at 52 (by kernel_rfl) (v := env 35) (by kernel_rfl)).trans (hF 35 (by kernel_rfl))
        exact e52
      · have cc := hS.const; have e54 := (hS.at 54 (by kernel_rfl) (v := env 37) (by kernel_rfl)).trans (hF 37 (by kernel_rfl)); have e52 := (hS.at 52 (by kernel_rfl) (v := env 35) (by kernel_rfl)).trans (hF 35 (by kernel_rfl))
        go_simp
        try with_reducible rfl
      -- 39: Op.call { value (Operand.func 14), args := #[t55], argTypes := #[23] } [35 True]
      refine specs_cons (call_cst_on _ rfl rfl (fun _ _ _ h => h) (f := ?ff39r2) (args := ?aa39r2) fun env ρ W hW hI hF hS => ⟨?gu39r2, ?ru39r2, ?ca39r2⟩) ?nx39r2
      case gu39r2 =>
        have e52 := (hS.at 52 (by kernel_rfl) (v := env 35) (by kernel_rfl)).trans (hF 35 (by kernel_rfl))
        exact e52
      case ru39r2 =>
        have hc := stays_cells hW; have cf := hS.func; have e55 := (hS.at 55 (by kernel_rfl) (v := env 38) (by kernel_rfl)).trans (hF 38 (by kernel_rfl)); have e52 := (hS.at 52 (by kernel_rfl) (v := env 35) (by kernel_rfl)).trans (hF 35 (by kernel_rfl))
        go_simp
        constructor <;> rfl
      case ca39r2 => exact (R3.out W)
      -- 40: Op.pick t52 t56 (const (Value.bool false))
      refine specs_cons (cst _ rfl fun env ρ W hW hI hF hS => ?_) ?_
      · have cc := hS.const; have e52 := (hS.at 52 (by kernel_rfl) (v := env 35) (by kernel_rfl)).trans (hF 35 (by kernel_rfl)); have e56 := (hS.at 56 (by kernel_rfl) (v := env 39) (by kernel_rfl)).trans (hF 39 (by kernel_rfl))
        go_simp
        try with_reducible rfl
      -- 41: Op.move t57
      refine specs_cons (cst _ rfl fun env ρ W hW hI hF hS => ?_) ?_
      · have e57 := (hS.at 57 (by kernel_rfl) (v := env 40) (by kernel_rfl)).trans (hF 40 (by kernel_rfl))
        go_simp
        try with_reducible rfl
      -- 42: Op.build 26 #[(2, const (5:u64))] [41 True]
      refine specs_cons (cst_on _ rfl rfl fun env ρ W hW hI hF hS => ⟨?_, ?_⟩) ?_
      · have e58 := (hS.at 58 (by kernel_rfl) (v := env 41) (by kernel_rfl)).trans (hF 41 (by kernel_rfl))
        exact e58
      · have cc := hS.const; have e58 := (hS.at 58 (by kernel_rfl) (v := env 41) (by kernel_rfl)).trans (hF 41 (by kernel_rfl))
        go_simp
        try with_reducible rfl
      -- 43: Op.call { value (Operand.func 21), args := #[t59], argTypes := #[26] } [41 True]
      refine specs_cons (call_cst_on _ rfl rfl (fun _ _ _ h => h) (f := ?ff43r2) (args := ?aa43r2) fun env ρ W hW hI hF hS => ⟨?gu43r2, ?ru43r2, ?ca43r2⟩) ?nx43r2
      case gu43r2 =>
        have e58 := (hS.at 58 (by kernel_rfl) (v := env 41) (by kernel_rfl)).trans (hF 41 (by kernel_rfl))
        exact e58
      case ru43r2 =>
        have hc := stays_cells hW; have cf := hS.func; have e59 := (hS.at 59 (by kernel_rfl) (v := env 42) (by kernel_rfl)).trans (hF 42 (by kernel_rfl)); have e58 := (hS.at 58 (by kernel_rfl) (v := env 41) (by kernel_rfl)).trans (hF 41 (by kernel_rfl))
        go_simp
        constructor <;> rfl
      case ca43r2 => exact (solicited_no 0 5 W)
      -- 44: Op.build 23 #[] [41 True]
      refine specs_cons (cst_on _ rfl rfl fun env ρ W hW hI hF hS => ⟨?_, ?_⟩) ?_
      · have e58 := (hS.at 58 (by kernel_rfl) (v := env 41) (by kernel_rfl)).trans (hF 41 (by kernel_rfl))
        exact e58
      · have e58 := (hS.at 58 (by kernel_rfl) (v := env 41) (by kernel_rfl)).trans (hF 41 (by kernel_rfl))
        go_simp
        try with_reducible rfl
      -- 45: Op.binOp BinOp.eql 23 t60 t61 23 [41 True]
      refine specs_cons (cst_on _ rfl rfl fun env ρ W hW hI hF hS => ⟨?_, ?_⟩) ?_
      · have e58 := (hS.at 58 (by kernel_rfl) (v := env 41) (by kernel_rfl)).trans (hF 41 (by kernel_rfl))
        exact e58
      · have hc := stays_cells hW; have e60 := (hS.at 60 (by kernel_rfl) (v := env 43) (by kernel_rfl)).trans (hF 43 (by kernel_rfl)); have e61 := (hS.at 61 (by kernel_rfl) (v := env 44) (by kernel_rfl)).trans (hF 44 (by kernel_rfl)); have e58 := (hS.at 58 (by kernel_rfl) (v := env 41) (by kernel_rfl)).trans (hF 41 (by kernel_rfl))
        go_simp
        try with_reducible rfl
      -- 46: Op.pick t58 t62 (const (Value.bool false))
      refine specs_cons (cst _ rfl fun env ρ W hW hI hF hS => ?_) ?_
      · have cc := hS.const; have e58 := (hS.at 58 (by kernel_rfl) (v := env 41) (by kernel_rfl)).trans (hF 41 (by kernel_rfl)); have e62 := (hS.at 62 (by kernel_rfl) (v := env 45) (by kernel_rfl)).trans (hF 45 (by kernel_rfl))
        go_simp
        try with_reducible rfl
      -- 47: Op.move t63
      refine specs_cons (cst _ rfl fun env ρ W hW hI hF hS => ?_) ?_
      · have e63 := (hS.at 63 (by kernel_rfl) (v := env 46) (by kernel_rfl)).trans (hF 46 (by kernel_rfl))
        go_simp
        try with_reducible rfl
      -- 48: Op.call { value (Operand.func 8), args := #[], argTypes := #[] } [47 True]
      refine specs_cons (call_cst_on _ rfl rfl (fun _ _ _ h => h) (f := ?ff48r2) (args := ?aa48r2) fun env ρ W hW hI hF hS => ⟨?gu48r2, ?ru48r2, ?ca48r2⟩) ?nx48r2
      case gu48r2 =>
        have e64 := (hS.at 64 (by kernel_rfl) (v := env 47) (by kernel_rfl)).trans (hF 47 (by kernel_rfl))
        exact e64
      case ru48r2 =>
        have hc := stays_cells hW; have cf := hS.func; have e64 := (hS.at 64 (by kernel_rfl) (v := env 47) (by kernel_rfl)).trans (hF 47 (by kernel_rfl))
        go_simp
        constructor <;> rfl
      case ca48r2 => exact (awake4_any W)
      -- 49: Op.pick t64 t65 (const (Value.bool false))
      refine specs_cons (cst _ rfl fun env ρ W hW hI hF hS => ?_) ?_
      · have cc := hS.const; have e64 := (hS.at 64 (by kernel_rfl) (v := env 47) (by kernel_rfl)).trans (hF 47 (by kernel_rfl)); have e65 := (hS.at 65 (by kernel_rfl) (v := env 48) (by kernel_rfl)).trans (hF 48 (by kernel_rfl))
        go_simp
        try with_reducible rfl
      -- 50: Op.assign t66
      refine specs_cons (cst _ rfl fun env ρ W hW hI hF hS => ?_) ?_
      · have e66 := (hS.at 66 (by kernel_rfl) (v := env 49) (by kernel_rfl)).trans (hF 49 (by kernel_rfl))
        go_simp
        try with_reducible rfl
      exact specs_nil
    case enr2 =>
      intro env W K
      have f0 : env 0 = _ := K.facts 0 (by decide) rfl
      have f1 : env 1 = _ := K.facts 1 (by decide) rfl
      have f2 : env 2 = _ := K.facts 2 (by decide) rfl
      have f3 : env 3 = _ := K.facts 3 (by decide) rfl
      have f4 : env 4 = _ := K.facts 4 (by decide) rfl
      have f5 : env 5 = _ := K.facts 5 (by decide) rfl
      have f6 : env 6 = _ := K.facts 6 (by decide) rfl
      have f7 : env 7 = _ := K.facts 7 (by decide) rfl
      have f8 : env 8 = _ := K.facts 8 (by decide) rfl
      have f9 : env 9 = _ := K.facts 9 (by decide) rfl
      have f10 : env 10 = _ := K.facts 10 (by decide) rfl
      have f11 : env 11 = _ := K.facts 11 (by decide) rfl
      have f12 : env 12 = _ := K.facts 12 (by decide) rfl
      have f13 : env 13 = _ := K.facts 13 (by decide) rfl
      have f14 : env 14 = _ := K.facts 14 (by decide) rfl
      have f15 : env 15 = _ := K.facts 15 (by decide) rfl
      have f16 : env 16 = _ := K.facts 16 (by decide) rfl
      have f17 : env 17 = _ := K.facts 17 (by decide) rfl
      have f18 : env 18 = _ := K.facts 18 (by decide) rfl
      have f19 : env 19 = _ := K.facts 19 (by decide) rfl
      have f20 : env 20 = _ := K.facts 20 (by decide) rfl
      have f21 : env 21 = _ := K.facts 21 (by decide) rfl
      have f22 : env 22 = _ := K.facts 22 (by decide) rfl
      have f23 : env 23 = _ := K.facts 23 (by decide) rfl
      have f24 : env 24 = _ := K.facts 24 (by decide) rfl
      have f25 : env 25 = _ := K.facts 25 (by decide) rfl
      have f26 : env 26 = _ := K.facts 26 (by decide) rfl
      have f27 : env 27 = _ := K.facts 27 (by decide) rfl
      have f28 : env 28 = _ := K.facts 28 (by decide) rfl
      have f29 : env 29 = _ := K.facts 29 (by decide) rfl
      have f30 : env 30 = _ := K.facts 30 (by decide) rfl
      have f31 : env 31 = _ := K.facts 31 (by decide) rfl
      have f32 : env 32 = _ := K.facts 32 (by decide) rfl
      have f33 : env 33 = _ := K.facts 33 (by decide) rfl
      have f34 : env 34 = _ := K.facts 34 (by decide) rfl
      have f35 : env 35 = _ := K.facts 35 (by decide) rfl
      have f36 : env 36 = _ := K.facts 36 (by decide) rfl
      have f37 : env 37 = _ := K.facts 37 (by decide) rfl
      have f38 : env 38 = _ := K.facts 38 (by decide) rfl
      have f39 : env 39 = _ := K.facts 39 (by decide) rfl
      have f40 : env 40 = _ := K.facts 40 (by decide) rfl
      have f41 : env 41 = _ := K.facts 41 (by decide) rfl
      have f42 : env 42 = _ := K.facts 42 (by decide) rfl
      have f43 : env 43 = _ := K.facts 43 (by decide) rfl
      have f44 : env 44 = _ := K.facts 44 (by decide) rfl
      have f45 : env 45 = _ := K.facts 45 (by decide) rfl
      have f46 : env 46 = _ := K.facts 46 (by decide) rfl
      have f47 : env 47 = _ := K.facts 47 (by decide) rfl
      have f48 : env 48 = _ := K.facts 48 (by decide) rfl
      have f49 : env 49 = _ := K.facts 49 (by decide) rfl
      have f50 : env 50 = _ := K.facts 50 (by decide) rfl
      have hgrow := K.stays.of_drew.below
      clear K
      simp only [List.take_succ_cons, List.take_nil, List.drop_nil, List.drop_succ_cons, putAll, Nat.reduceAdd, wpList]
      simp only [Act.put, List.setIfInBounds_toArray, List.set_cons_succ, List.set_cons_zero, f0, f1, f2, f3, f4, f5, f6, f7, f8, f9, f10, f11, f12, f13, f14, f15, f16, f17, f18, f19, f20, f21, f22, f23, f24, f25, f26, f27, f28, f29, f30, f31, f32, f33, f34, f35, f36, f37, f38, f39, f40, f41, f42, f43, f44, f45, f46, f47, f48, f49, f50]
      clear f0 f1 f2 f3 f4 f5 f6 f7 f8 f9 f10 f11 f12 f13 f14 f15 f16 f17 f18 f19 f20 f21 f22 f23 f24 f25 f26 f27 f28 f29 f30 f31 f32 f33 f34 f35 f36 f37 f38 f39 f40 f41 f42 f43 f44 f45 f46 f47 f48 f49 f50
      go_wp2
      go_ret
      exact ⟨rfl, hbel.trans (hgrow.mono hbel.size)⟩
end Go.Proofs.Ytklolalgbcgdiaa
