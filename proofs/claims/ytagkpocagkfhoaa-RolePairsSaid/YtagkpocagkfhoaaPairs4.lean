/-
  RolePairs: what one pair asks.
-/
import Derived.Test.YtagkpocagkfhoaaRole1
import Derived.Test.YtagkpocagkfhoaaPart
namespace Go.Proofs.Ytagkpocagkfhoaa
open Go.RowKit
set_option maxRecDepth 100000 in
set_option maxHeartbeats 2000000 in
theorem pairs4 (G : Nat) (x y : Int) (w0 : World) (hG : Box G 3 #[.int .i64 x, .int .i64 y] w0)
    {Q : Exit → Act → World → Prop} (z0 z1 z2 z3 z4 z5 z7 z8 z9 z10 z11 z12 z13 z14 z15 z16 z17 z18 z19 z20 z21 z22 z23 z24 z25 z26 z27 z28 z29 z30 z31 z32 z33 z34 z35 z36 z37 z38 z39 z40 z41 z42 z43 z44 z45 z46 z47 z48 z49 z50 : Value)
    (h : ∀ (W : World), Below w0.heap.size w0 W → Q .normal { tmps := #[z0, z1, z2, z3, z4, z5, .slice (some ⟨G, 0, none⟩) 2 2, z7, z8, z9, z10, z11, z12, z13, z14, z15, z16, z17, z18, z19, z20, z21, z22, .slice (some ⟨G, 0, none⟩) 2 2, .pointer (some ⟨G, 0, none⟩), .int .i64 x, .int .i64 (invR x), .slice (some ⟨G, 0, none⟩) 2 2, .pointer (some ⟨G, 0, none⟩), .int .i64 x, .int .i64 (invR x), .bool false, .bool false, .slice (some ⟨G, 0, none⟩) 2 2, .pointer (some ⟨G, 0, none⟩), .int .i64 x, .slice (some ⟨G, 0, none⟩) 2 2, .pointer (some ⟨G, 1, none⟩), .int .i64 y, .bool (fitsR x y), .slice (some ⟨G, 0, none⟩) 2 2, .pointer (some ⟨G, 0, none⟩), .int .i64 x, .slice (some ⟨G, 0, none⟩) 2 2, .pointer (some ⟨G, 1, none⟩), .int .i64 y, .bool (fitsR x y), .bool false, .bool false, z49, z50], defers := [] } W) :
    (regionAt Try.f3 4).wp Try.prog Q { tmps := #[z0, z1, z2, z3, z4, z5, .slice (some ⟨G, 0, none⟩) 2 2, z7, z8, z9, z10, z11, z12, z13, z14, z15, z16, z17, z18, z19, z20, z21, z22, z23, z24, z25, z26, z27, z28, z29, z30, z31, z32, z33, z34, z35, z36, z37, z38, z39, z40, z41, z42, z43, z44, z45, z46, z47, z48, z49, z50], defers := [] } w0 := by
  have hGi := hG.inside
  have hG0 := hG.at_ 0; have hG1 := hG.at_ 1
  conv in (regionAt _ _) => whnf
  refine Code.wp_mono (Q := fun e a w => match e with | .normal => Q .normal a w | _ => False) (fun e a w hx => by cases e <;> first | exact hx | exact hx.elim) ?_
  refine wp_region_tail 26 (fun _ => False) (fun _ => True) (Stays (fun _ => False)) [isV (.slice (some ⟨G, 0, none⟩) 2 2), isV (.pointer (some ⟨G, 0, none⟩)), isV (.int .i64 x), isV (.int .i64 (invR x)), isV (.slice (some ⟨G, 0, none⟩) 2 2), isV (.pointer (some ⟨G, 0, none⟩)), isV (.int .i64 x), isV (.int .i64 (invR x)), isV (.bool false), isV (.bool false), isV (.slice (some ⟨G, 0, none⟩) 2 2), isV (.pointer (some ⟨G, 0, none⟩)), isV (.int .i64 x), isV (.slice (some ⟨G, 0, none⟩) 2 2), isV (.pointer (some ⟨G, 1, none⟩)), isV (.int .i64 y), isV (.bool (fitsR x y)), isV (.slice (some ⟨G, 0, none⟩) 2 2), isV (.pointer (some ⟨G, 0, none⟩)), isV (.int .i64 x), isV (.slice (some ⟨G, 0, none⟩) 2 2), isV (.pointer (some ⟨G, 1, none⟩)), isV (.int .i64 y), isV (.bool (fitsR x y)), isV (.bool false), isV (.bool false)] (by kernel_rfl) (by kernel_rfl) (by kernel_rfl) (by kernel_rfl) trivial (fun _ h => False.elim h) (fun _ _ _ h => h) ?spr1 ?enr1
  case spr1 =>
    -- 0: Op.move t6
    refine specs_cons (cst _ rfl fun env ρ W hW hI hF hS => ?_) ?_
    · have e6 := hS.at 6 (by kernel_rfl) (slot_base (by kernel_rfl))
      go_simp
      try with_reducible rfl
    -- 1: Op.indexAddr 22 t23 (const (0:i64))
    refine specs_cons (cst _ rfl fun env ρ W hW hI hF hS => ?_) ?_
    · have hc := stays_cells hW; have cc := hS.const; have e23 := (hS.at 23 (by kernel_rfl) (v := env 0) (by kernel_rfl)).trans (hF 0 (by kernel_rfl))
      go_simp
      try with_reducible rfl
    -- 2: Op.load 3 t24
    refine specs_cons (cst _ rfl fun env ρ W hW hI hF hS => ?_) ?_
    · have hc := stays_cells hW; have e24 := (hS.at 24 (by kernel_rfl) (v := env 1) (by kernel_rfl)).trans (hF 1 (by kernel_rfl))
      go_simp
      try with_reducible rfl
    -- 3: Op.call { value (Operand.func 9), args := #[t25], argTypes := #[3] }
    refine specs_cons (call_cst _ rfl (fun _ _ _ h => h) (f := ?ff3r1) (args := ?aa3r1) fun env ρ W hW hI hF hS => ⟨?ru3r1, ?ca3r1⟩) ?nx3r1
    case ru3r1 =>
      have hc := stays_cells hW; have cf := hS.func; have e25 := (hS.at 25 (by kernel_rfl) (v := env 2) (by kernel_rfl)).trans (hF 2 (by kernel_rfl))
      go_simp
      constructor <;> rfl
    case ca3r1 => exact inverse_any x W
    -- 4: Op.move t6
    refine specs_cons (cst _ rfl fun env ρ W hW hI hF hS => ?_) ?_
    · have e6 := hS.at 6 (by kernel_rfl) (slot_base (by kernel_rfl))
      go_simp
      try with_reducible rfl
    -- 5: Op.indexAddr 22 t27 (const (0:i64))
    refine specs_cons (cst _ rfl fun env ρ W hW hI hF hS => ?_) ?_
    · have hc := stays_cells hW; have cc := hS.const; have e27 := (hS.at 27 (by kernel_rfl) (v := env 4) (by kernel_rfl)).trans (hF 4 (by kernel_rfl))
      go_simp
      try with_reducible rfl
    -- 6: Op.load 3 t28
    refine specs_cons (cst _ rfl fun env ρ W hW hI hF hS => ?_) ?_
    · have hc := stays_cells hW; have e28 := (hS.at 28 (by kernel_rfl) (v := env 5) (by kernel_rfl)).trans (hF 5 (by kernel_rfl))
      go_simp
      try with_reducible rfl
    -- 7: Op.call { value (Operand.func 10), args := #[t29], argTypes := #[3] }
    refine specs_cons (call_cst _ rfl (fun _ _ _ h => h) (f := ?ff7r1) (args := ?aa7r1) fun env ρ W hW hI hF hS => ⟨?ru7r1, ?ca7r1⟩) ?nx7r1
    case ru7r1 =>
      have hc := stays_cells hW; have cf := hS.func; have e29 := (hS.at 29 (by kernel_rfl) (v := env 6) (by kernel_rfl)).trans (hF 6 (by kernel_rfl))
      go_simp
      constructor <;> rfl
    case ca7r1 => exact same_below (rinverse_any x W)
    -- 8: Op.binOp BinOp.neq 3 t26 t30 3
    refine specs_cons (cst _ rfl fun env ρ W hW hI hF hS => ?_) ?_
    · have hc := stays_cells hW; have e26 := (hS.at 26 (by kernel_rfl) (v := env 3) (by kernel_rfl)).trans (hF 3 (by kernel_rfl)); have e30 := (hS.at 30 (by kernel_rfl) (v := env 7) (by kernel_rfl)).trans (hF 7 (by kernel_rfl))
      go_simp
      try with_reducible rfl
    -- 9: Op.move t31
    refine specs_cons (cst _ rfl fun env ρ W hW hI hF hS => ?_) ?_
    · have e31 := (hS.at 31 (by kernel_rfl) (v := env 8) (by kernel_rfl)).trans (hF 8 (by kernel_rfl))
      go_simp
      try with_reducible rfl
    -- 10: Op.move t6 [9 False]
    refine specs_cons (cst_on _ rfl rfl fun env ρ W hW hI hF hS => ⟨?_, ?_⟩) ?_
    · have e32 := (hS.at 32 (by kernel_rfl) (v := env 9) (by kernel_rfl)).trans (hF 9 (by kernel_rfl))
      exact e32
    · have e6 := hS.at 6 (by kernel_rfl) (slot_base (by kernel_rfl)); have e32 := (hS.at 32 (by kernel_rfl) (v := env 9) (by kernel_rfl)).trans (hF 9 (by kernel_rfl))
      go_simp
      try with_reducible rfl
    -- 11: Op.indexAddr 22 t33 (const (0:i64)) [9 False]
    refine specs_cons (cst_on _ rfl rfl fun env ρ W hW hI hF hS => ⟨?_, ?_⟩) ?_
    · have e32 := (hS.at 32 (by kernel_rfl) (v := env 9) (by kernel_rfl)).trans (hF 9 (by kernel_rfl))
      exact e32
    · have hc := stays_cells hW; have cc := hS.const; have e33 := (hS.at 33 (by kernel_rfl) (v := env 10) (by kernel_rfl)).trans (hF 10 (by kernel_rfl)); have e32 := (hS.at 32 (by kernel_rfl) (v := env 9) (by kernel_rfl)).trans (hF 9 (by kernel_rfl))
      go_simp
      try with_reducible rfl
    -- 12: Op.load 3 t34 [9 False]
    refine specs_cons (cst_on _ rfl rfl fun env ρ W hW hI hF hS => ⟨?_, ?_⟩) ?_
    · have e32 := (hS.at 32 (by kernel_rfl) (v := env 9) (by kernel_rfl)).trans (hF 9 (by kernel_rfl))
      exact e32
    · have hc := stays_cells hW; have e34 := (hS.at 34 (by kernel_rfl) (v := env 11) (by kernel_rfl)).trans (hF 11 (by kernel_rfl)); have e32 := (hS.at 32 (by kernel_rfl) (v := env 9) (by kernel_rfl)).trans (hF 9 (by kernel_rfl))
      go_simp
      try with_reducible rfl
    -- 13: Op.move t6 [9 False]
    refine specs_cons (cst_on _ rfl rfl fun env ρ W hW hI hF hS => ⟨?_, ?_⟩) ?_
    · have e32 := (hS.at 32 (by kernel_rfl) (v := env 9) (by kernel_rfl)).trans (hF 9 (by kernel_rfl))
      exact e32
    · have e6 := hS.at 6 (by kernel_rfl) (slot_base (by kernel_rfl)); have e32 := (hS.at 32 (by kernel_rfl) (v := env 9) (by kernel_rfl)).trans (hF 9 (by kernel_rfl))
      go_simp
      try with_reducible rfl
    -- 14: Op.indexAddr 22 t36 (const (1:i64)) [9 False]
    refine specs_cons (cst_on _ rfl rfl fun env ρ W hW hI hF hS => ⟨?_, ?_⟩) ?_
    · have e32 := (hS.at 32 (by kernel_rfl) (v := env 9) (by kernel_rfl)).trans (hF 9 (by kernel_rfl))
      exact e32
    · have hc := stays_cells hW; have cc := hS.const; have e36 := (hS.at 36 (by kernel_rfl) (v := env 13) (by kernel_rfl)).trans (hF 13 (by kernel_rfl)); have e32 := (hS.at 32 (by kernel_rfl) (v := env 9) (by kernel_rfl)).trans (hF 9 (by kernel_rfl))
      go_simp
      try with_reducible rfl
    -- 15: Op.load 3 t37 [9 False]
    refine specs_cons (cst_on _ rfl rfl fun env ρ W hW hI hF hS => ⟨?_, ?_⟩) ?_
    · have e32 := (hS.at 32 (by kernel_rfl) (v := env 9) (by kernel_rfl)).trans (hF 9 (by kernel_rfl))
      exact e32
    · have hc := stays_cells hW; have e37 := (hS.at 37 (by kernel_rfl) (v := env 14) (by kernel_rfl)).trans (hF 14 (by kernel_rfl)); have e32 := (hS.at 32 (by kernel_rfl) (v := env 9) (by kernel_rfl)).trans (hF 9 (by kernel_rfl))
      go_simp
      try with_reducible rfl
    -- 16: Op.call { value (Operand.func 11), args := #[t35, t38], argTypes := #[ [9 False]
    refine specs_cons (call_cst_on _ rfl rfl (fun _ _ _ h => h) (f := ?ff16r1) (args := ?aa16r1) fun env ρ W hW hI hF hS => ⟨?gu16r1, ?ru16r1, ?ca16r1⟩) ?nx16r1
    case gu16r1 =>
      have e32 := (hS.at 32 (by kernel_rfl) (v := env 9) (by kernel_rfl)).trans (hF 9 (by kernel_rfl))
      exact e32
    case ru16r1 =>
      have hc := stays_cells hW; have cf := hS.func; have e35 := (hS.at 35 (by kernel_rfl) (v := env 12) (by kernel_rfl)).trans (hF 12 (by kernel_rfl)); have e38 := (hS.at 38 (by kernel_rfl) (v := env 15) (by kernel_rfl)).trans (hF 15 (by kernel_rfl)); have e32 := (hS.at 32 (by kernel_rfl) (v := env 9) (by kernel_rfl)).trans (hF 9 (by kernel_rfl))
      go_simp
      constructor <;> rfl
    case ca16r1 => exact fits_any x y W
    -- 17: Op.move t6 [9 False]
    refine specs_cons (cst_on _ rfl rfl fun env ρ W hW hI hF hS => ⟨?_, ?_⟩) ?_
    · have e32 := (hS.at 32 (by kernel_rfl) (v := env 9) (by kernel_rfl)).trans (hF 9 (by kernel_rfl))
      exact e32
    · have e6 := hS.at 6 (by kernel_rfl) (slot_base (by kernel_rfl)); have e32 := (hS.at 32 (by kernel_rfl) (v := env 9) (by kernel_rfl)).trans (hF 9 (by kernel_rfl))
      go_simp
      try with_reducible rfl
    -- 18: Op.indexAddr 22 t40 (const (0:i64)) [9 False]
    refine specs_cons (cst_on _ rfl rfl fun env ρ W hW hI hF hS => ⟨?_, ?_⟩) ?_
    · have e32 := (hS.at 32 (by kernel_rfl) (v := env 9) (by kernel_rfl)).trans (hF 9 (by kernel_rfl))
      exact e32
    · have hc := stays_cells hW; have cc := hS.const; have e40 := (hS.at 40 (by kernel_rfl) (v := env 17) (by kernel_rfl)).trans (hF 17 (by kernel_rfl)); have e32 := (hS.at 32 (by kernel_rfl) (v := env 9) (by kernel_rfl)).trans (hF 9 (by kernel_rfl))
      go_simp
      try with_reducible rfl
    -- 19: Op.load 3 t41 [9 False]
    refine specs_cons (cst_on _ rfl rfl fun env ρ W hW hI hF hS => ⟨?_, ?_⟩) ?_
    · have e32 := (hS.at 32 (by kernel_rfl) (v := env 9) (by kernel_rfl)).trans (hF 9 (by kernel_rfl))
      exact e32
    · have hc := stays_cells hW; have e41 := (hS.at 41 (by kernel_rfl) (v := env 18) (by kernel_rfl)).trans (hF 18 (by kernel_rfl)); have e32 := (hS.at 32 (by kernel_rfl) (v := env 9) (by kernel_rfl)).trans (hF 9 (by kernel_rfl))
      go_simp
      try with_reducible rfl
    -- 20: Op.move t6 [9 False]
    refine specs_cons (cst_on _ rfl rfl fun env ρ W hW hI hF hS => ⟨?_, ?_⟩) ?_
    · have e32 := (hS.at 32 (by kernel_rfl) (v := env 9) (by kernel_rfl)).trans (hF 9 (by kernel_rfl))
      exact e32
    · have e6 := hS.at 6 (by kernel_rfl) (slot_base (by kernel_rfl)); have e32 := (hS.at 32 (by kernel_rfl) (v := env 9) (by kernel_rfl)).trans (hF 9 (by kernel_rfl))
      go_simp
      try with_reducible rfl
    -- 21: Op.indexAddr 22 t43 (const (1:i64)) [9 False]
    refine specs_cons (cst_on _ rfl rfl fun env ρ W hW hI hF hS => ⟨?_, ?_⟩) ?_
    · have e32 := (hS.at 32 (by kernel_rfl) (v := env 9) (by kernel_rfl)).trans (hF 9 (by kernel_rfl))
      exact e32
    · have hc := stays_cells hW; have cc := hS.const; have e43 := (hS.at 43 (by kernel_rfl) (v := env 20) (by kernel_rfl)).trans (hF 20 (by kernel_rfl)); have e32 := (hS.at 32 (by kernel_rfl) (v := env 9) (by kernel_rfl)).trans (hF 9 (by kernel_rfl))
      go_simp
      try with_reducible rfl
    -- 22: Op.load 3 t44 [9 False]
    refine specs_cons (cst_on _ rfl rfl fun env ρ W hW hI hF hS => ⟨?_, ?_⟩) ?_
    · have e32 := (hS.at 32 (by kernel_rfl) (v := env 9) (by kernel_rfl)).trans (hF 9 (by kernel_rfl))
      exact e32
    · have hc := stays_cells hW; have e44 := (hS.at 44 (by kernel_rfl) (v := env 21) (by kernel_rfl)).trans (hF 21 (by kernel_rfl)); have e32 := (hS.at 32 (by kernel_rfl) (v := env 9) (by kernel_rfl)).trans (hF 9 (by kernel_rfl))
      go_simp
      try with_reducible rfl
    -- 23: Op.call { value (Operand.func 12), args := #[t42, t45], argTypes := #[ [9 False]
    refine specs_cons (call_cst_on _ rfl rfl (fun _ _ _ h => h) (f := ?ff23r1) (args := ?aa23r1) fun env ρ W hW hI hF hS => ⟨?gu23r1, ?ru23r1, ?ca23r1⟩) ?nx23r1
    case gu23r1 =>
      have e32 := (hS.at 32 (by kernel_rfl) (v := env 9) (by kernel_rfl)).trans (hF 9 (by kernel_rfl))
      exact e32
    case ru23r1 =>
      have hc := stays_cells hW; have cf := hS.func; have e42 := (hS.at 42 (by kernel_rfl) (v := env 19) (by kernel_rfl)).trans (hF 19 (by kernel_rfl)); have e45 := (hS.at 45 (by kernel_rfl) (v := env 22) (by kernel_rfl)).trans (hF 22 (by kernel_rfl)); have e32 := (hS.at 32 (by kernel_rfl) (v := env 9) (by kernel_rfl)).trans (hF 9 (by kernel_rfl))
      go_simp
      constructor <;> rfl
    case ca23r1 => exact same_below (rfits_any x y W)
    -- 24: Op.binOp BinOp.neq 4 t39 t46 4 [9 False]
    refine specs_cons (cst_on _ rfl rfl fun env ρ W hW hI hF hS => ⟨?_, ?_⟩) ?_
    · have e32 := (hS.at 32 (by kernel_rfl) (v := env 9) (by kernel_rfl)).trans (hF 9 (by kernel_rfl))
      exact e32
    · have hc := stays_cells hW; have e39 := (hS.at 39 (by kernel_rfl) (v := env 16) (by kernel_rfl)).trans (hF 16 (by kernel_rfl)); have e46 := (hS.at 46 (by kernel_rfl) (v := env 23) (by kernel_rfl)).trans (hF 23 (by kernel_rfl)); have e32 := (hS.at 32 (by kernel_rfl) (v := env 9) (by kernel_rfl)).trans (hF 9 (by kernel_rfl))
      go_simp
      try with_reducible rfl
    -- 25: Op.pick t32 (const (Value.bool true)) t47
    refine specs_cons (cst _ rfl fun env ρ W hW hI hF hS => ?_) ?_
    · have cc := hS.const; have e32 := (hS.at 32 (by kernel_rfl) (v := env 9) (by kernel_rfl)).trans (hF 9 (by kernel_rfl)); have e47 := (hS.at 47 (by kernel_rfl) (v := env 24) (by kernel_rfl)).trans (hF 24 (by kernel_rfl))
      go_simp
      try with_reducible rfl
    exact specs_nil
  case enr1 =>
    intro env W K
    have f0 : env 0 = _ := K.facts 0 (by decide) rfl
    have f1 : env 1 = _ := K.facts 1 (by decide) rfl
    have f2 : env 2 = _ := K.facts 2 (by decide) rfl
    have f3 : env 3 = _ := K.facts 3 (by decide) rfl
    have f4 : env 4 = _ := K.facts 4 (by decide) rfl
    have f5 : env 5 = _ := K.facts 5 (by decide) rfl
    have f6 : env 6 = _ := K.facts 6 (by decide) rfl
    have f7 : env 7 = _ := K.facts 7 (by decide) rfl
    have f8 : env 8 = _ := K.facts 8 (by decide) rfl
    have f9 : env 9 = _ := K.facts 9 (by decide) rfl
    have f10 : env 10 = _ := K.facts 10 (by decide) rfl
    have f11 : env 11 = _ := K.facts 11 (by decide) rfl
    have f12 : env 12 = _ := K.facts 12 (by decide) rfl
    have f13 : env 13 = _ := K.facts 13 (by decide) rfl
    have f14 : env 14 = _ := K.facts 14 (by decide) rfl
    have f15 : env 15 = _ := K.facts 15 (by decide) rfl
    have f16 : env 16 = _ := K.facts 16 (by decide) rfl
    have f17 : env 17 = _ := K.facts 17 (by decide) rfl
    have f18 : env 18 = _ := K.facts 18 (by decide) rfl
    have f19 : env 19 = _ := K.facts 19 (by decide) rfl
    have f20 : env 20 = _ := K.facts 20 (by decide) rfl
    have f21 : env 21 = _ := K.facts 21 (by decide) rfl
    have f22 : env 22 = _ := K.facts 22 (by decide) rfl
    have f23 : env 23 = _ := K.facts 23 (by decide) rfl
    have f24 : env 24 = _ := K.facts 24 (by decide) rfl
    have f25 : env 25 = _ := K.facts 25 (by decide) rfl
    have hgrow := K.stays.of_drew.below
    clear K
    simp only [List.take_succ_cons, List.take_nil, List.drop_nil, List.drop_succ_cons, putAll, Nat.reduceAdd, wpList]
    simp only [Act.put, List.setIfInBounds_toArray, List.set_cons_succ, List.set_cons_zero, f0, f1, f2, f3, f4, f5, f6, f7, f8, f9, f10, f11, f12, f13, f14, f15, f16, f17, f18, f19, f20, f21, f22, f23, f24, f25]
    clear f0 f1 f2 f3 f4 f5 f6 f7 f8 f9 f10 f11 f12 f13 f14 f15 f16 f17 f18 f19 f20 f21 f22 f23 f24 f25
    exact h W hgrow
end Go.Proofs.Ytagkpocagkfhoaa
