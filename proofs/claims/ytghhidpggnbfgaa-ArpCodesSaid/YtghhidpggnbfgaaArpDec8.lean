/-
  Layer 5: the last region of Decode.
-/
import Derived.Test.YtghhidpggnbfgaaArpDec
import Derived.Test.YtghhidpggnbfgaaPart
import Derived.Test.YtghhidpggnbfgaaRow
namespace Go.Proofs.Ytghhidpggnbfgaa
open Go.RowKit
set_option maxRecDepth 100000 in
set_option maxHeartbeats 4000000 in
theorem dec8 (g o n c Z gF gT : Nat) (op lo hi : Int) (x8 x9 x10 x11 x12 x13 x18 x19 x20 x21 x22 x23 : Int) (cs : Array Value) (w0 : World) (hcs : cs.size = 19) (hn : 28 ≤ n) (hnc : n ≤ c) (hcm : c ≤ 9223372036854775807) (hg : g < w0.heap.size) (hZ : Box Z 28 cs w0) (kF : Box gF 26 #[.bool false, .int .u64 0, .int .u64 lo] w0) (kT : Box gT 26 #[.bool false, .int .u64 0, .int .u64 hi] w0)
    (c8 : w0.cell? ⟨g, o + 8, none⟩ = some (.int .u8 x8))
    (c9 : w0.cell? ⟨g, o + 9, none⟩ = some (.int .u8 x9))
    (c10 : w0.cell? ⟨g, o + 10, none⟩ = some (.int .u8 x10))
    (c11 : w0.cell? ⟨g, o + 11, none⟩ = some (.int .u8 x11))
    (c12 : w0.cell? ⟨g, o + 12, none⟩ = some (.int .u8 x12))
    (c13 : w0.cell? ⟨g, o + 13, none⟩ = some (.int .u8 x13))
    (c18 : w0.cell? ⟨g, o + 18, none⟩ = some (.int .u8 x18))
    (c19 : w0.cell? ⟨g, o + 19, none⟩ = some (.int .u8 x19))
    (c20 : w0.cell? ⟨g, o + 20, none⟩ = some (.int .u8 x20))
    (c21 : w0.cell? ⟨g, o + 21, none⟩ = some (.int .u8 x21))
    (c22 : w0.cell? ⟨g, o + 22, none⟩ = some (.int .u8 x22))
    (c23 : w0.cell? ⟨g, o + 23, none⟩ = some (.int .u8 x23))
    {Q : Exit → Act → World → Prop} (y1 y3 y6 y8 y9 y10 y11 y12 y13 y14 y15 y16 y17 y18 y19 y20 y21 y22 y23 y24 y25 y26 y27 y28 y29 y30 y31 y32 y33 y34 y35 y36 y37 y38 y39 y40 y41 y42 y43 y44 y45 y46 y47 y48 y49 y50 y51 y52 y53 y54 y55 y56 y57 y58 y59 y60 : Value)
    (h : ∀ (W W' : World), Below w0.heap.size w0 W → Box Z 28 #[.int .i64 op, .int .u8 x8, .int .u8 x9, .int .u8 x10, .int .u8 x11, .int .u8 x12, .int .u8 x13, .bool false, .int .u64 0, .int .u64 lo, .int .u8 x18, .int .u8 x19, .int .u8 x20, .int .u8 x21, .int .u8 x22, .int .u8 x23, .bool false, .int .u64 0, .int .u64 hi] W' → OnlyBlock Z W W' → Q .normal { tmps := #[.slice (some ⟨g, o, none⟩) n c, y1, .pointer (some ⟨Z, 0, none⟩), .int .i64 0, .int .i64 op, .pointer (some ⟨gF, 0, none⟩), y6, .pointer (some ⟨gT, 0, none⟩), y8, y9, y10, y11, y12, y13, y14, y15, y16, y17, y18, y19, y20, y21, y22, y23, y24, y25, y26, y27, y28, y29, y30, y31, y32, y33, y34, y35, y36, y37, y38, y39, y40, y41, y42, y43, y44, y45, y46, y47, y48, .int .i64 op, .slice (some ⟨g, o, none⟩) n c, .slice (some ⟨g, o + 8, none⟩) 6 (c - 8), .pointer (some ⟨g, o + 8, none⟩), .agg #[.int .u8 x8, .int .u8 x9, .int .u8 x10, .int .u8 x11, .int .u8 x12, .int .u8 x13], .agg #[.bool false, .int .u64 0, .int .u64 lo], .slice (some ⟨g, o, none⟩) n c, .slice (some ⟨g, o + 18, none⟩) 6 (c - 18), .pointer (some ⟨g, o + 18, none⟩), .agg #[.int .u8 x18, .int .u8 x19, .int .u8 x20, .int .u8 x21, .int .u8 x22, .int .u8 x23], .agg #[.bool false, .int .u64 0, .int .u64 hi], .agg #[.int .i64 op, .int .u8 x8, .int .u8 x9, .int .u8 x10, .int .u8 x11, .int .u8 x12, .int .u8 x13, .bool false, .int .u64 0, .int .u64 lo, .int .u8 x18, .int .u8 x19, .int .u8 x20, .int .u8 x21, .int .u8 x22, .int .u8 x23, .bool false, .int .u64 0, .int .u64 hi]], defers := [] } W') :
    (regionAt Try.f16 8).wp Try.prog Q { tmps := #[.slice (some ⟨g, o, none⟩) n c, y1, .pointer (some ⟨Z, 0, none⟩), y3, .int .i64 op, .pointer (some ⟨gF, 0, none⟩), y6, .pointer (some ⟨gT, 0, none⟩), y8, y9, y10, y11, y12, y13, y14, y15, y16, y17, y18, y19, y20, y21, y22, y23, y24, y25, y26, y27, y28, y29, y30, y31, y32, y33, y34, y35, y36, y37, y38, y39, y40, y41, y42, y43, y44, y45, y46, y47, y48, y49, y50, y51, y52, y53, y54, y55, y56, y57, y58, y59, y60], defers := [] } w0 := by
  have q8 : (8 : Int) ≤ 14 := by omega
  have q14 : (14 : Int) ≤ c := by omega
  have q24 : (24 : Int) ≤ c := by omega
  have n8 : ¬ c = 8 := by omega
  have n18 : ¬ c = 18 := by omega
  have a8 : ∀ w A, (Instr.arrayAt 23 (.slice A 6 (c - 8))).run Try.prog w = .ok (.pointer A) w := fun w A => run_arrayAt w 23 _ 6 A 6 (c - 8) Try.underlying23 (Nat.le_refl _)
  have a18 : ∀ w A, (Instr.arrayAt 23 (.slice A 6 (c - 18))).run Try.prog w = .ok (.pointer A) w := fun w A => run_arrayAt w 23 _ 6 A 6 (c - 18) Try.underlying23 (Nat.le_refl _)
  conv in (regionAt _ _) => whnf
  refine Code.wp_mono (Q := fun e a w => match e with | .normal => Q .normal a w | _ => False) (fun e a w hx => by cases e <;> first | exact hx | exact hx.elim) ?_
  refine wp_region_tail 12 (fun _ => False) (fun _ => True) (Stays (fun _ => False)) [isV (.int .i64 op), isV (.slice (some ⟨g, o, none⟩) n c), isV (.slice (some ⟨g, o + 8, none⟩) 6 (c - 8)), isV (.pointer (some ⟨g, o + 8, none⟩)), isV (.agg #[.int .u8 x8, .int .u8 x9, .int .u8 x10, .int .u8 x11, .int .u8 x12, .int .u8 x13]), isV (.agg #[.bool false, .int .u64 0, .int .u64 lo]), isV (.slice (some ⟨g, o, none⟩) n c), isV (.slice (some ⟨g, o + 18, none⟩) 6 (c - 18)), isV (.pointer (some ⟨g, o + 18, none⟩)), isV (.agg #[.int .u8 x18, .int .u8 x19, .int .u8 x20, .int .u8 x21, .int .u8 x22, .int .u8 x23]), isV (.agg #[.bool false, .int .u64 0, .int .u64 hi]), isV (.agg #[.int .i64 op, .int .u8 x8, .int .u8 x9, .int .u8 x10, .int .u8 x11, .int .u8 x12, .int .u8 x13, .bool false, .int .u64 0, .int .u64 lo, .int .u8 x18, .int .u8 x19, .int .u8 x20, .int .u8 x21, .int .u8 x22, .int .u8 x23, .bool false, .int .u64 0, .int .u64 hi])] (by kernel_rfl) (by kernel_rfl) (by kernel_rfl) (by kernel_rfl) trivial (fun _ h => False.elim h) (fun _ _ _ h => h) ?spr1 ?enr1
  case spr1 =>
    -- 0: Op.move t4
    refine specs_cons (cst _ rfl fun env ρ W hW hI hF hS => ?_) ?_
    · have e4 := hS.at 4 (by kernel_rfl) (slot_base (by kernel_rfl))
      go_simp
      try with_reducible rfl
    -- 1: Op.move t0
    refine specs_cons (cst _ rfl fun env ρ W hW hI hF hS => ?_) ?_
    · have e0 := hS.at 0 (by kernel_rfl) (slot_base (by kernel_rfl))
      go_simp
      try with_reducible rfl
    -- 2: Op.slice 29 t50 (some (const (8:i64))) (some (const (14:i64))) none
    refine specs_cons (cst _ rfl fun env ρ W hW hI hF hS => ?_) ?_
    · have hc := stays_cells hW; have cc := hS.const; have e50 := (hS.at 50 (by kernel_rfl) (v := env 1) (by kernel_rfl)).trans (hF 1 (by kernel_rfl))
      go_simp
      try with_reducible rfl
    -- 3: Op.sliceToArrayPointer 23 t51
    refine specs_cons (cst _ rfl fun env ρ W hW hI hF hS => ?_) ?_
    · have hc := stays_cells hW; have e51 := (hS.at 51 (by kernel_rfl) (v := env 2) (by kernel_rfl)).trans (hF 2 (by kernel_rfl))
      go_simp
      try with_reducible rfl
    -- 4: Op.load 23 t52
    refine specs_cons (cst _ rfl fun env ρ W hW hI hF hS => ?_) ?_
    · have hc := stays_cells hW; have e52 := (hS.at 52 (by kernel_rfl) (v := env 3) (by kernel_rfl)).trans (hF 3 (by kernel_rfl))
      go_simp
      try with_reducible rfl
    -- 5: Op.load 26 t5
    refine specs_cons (cst _ rfl fun env ρ W hW hI hF hS => ?_) ?_
    · have e5 := hS.at 5 (by kernel_rfl) (slot_base (by kernel_rfl))
      exact run_load_box rfl e5 Try.underlying26 rfl (by kernel_rfl) (kF.under hW.of_drew.below kF.inside)
    -- 6: Op.move t0
    refine specs_cons (cst _ rfl fun env ρ W hW hI hF hS => ?_) ?_
    · have e0 := hS.at 0 (by kernel_rfl) (slot_base (by kernel_rfl))
      go_simp
      try with_reducible rfl
    -- 7: Op.slice 29 t55 (some (const (18:i64))) (some (const (24:i64))) none
    refine specs_cons (cst _ rfl fun env ρ W hW hI hF hS => ?_) ?_
    · have hc := stays_cells hW; have cc := hS.const; have e55 := (hS.at 55 (by kernel_rfl) (v := env 6) (by kernel_rfl)).trans (hF 6 (by kernel_rfl))
      go_simp
      try with_reducible rfl
    -- 8: Op.sliceToArrayPointer 23 t56
    refine specs_cons (cst _ rfl fun env ρ W hW hI hF hS => ?_) ?_
    · have hc := stays_cells hW; have e56 := (hS.at 56 (by kernel_rfl) (v := env 7) (by kernel_rfl)).trans (hF 7 (by kernel_rfl))
      go_simp
      try with_reducible rfl
    -- 9: Op.load 23 t57
    refine specs_cons (cst _ rfl fun env ρ W hW hI hF hS => ?_) ?_
    · have hc := stays_cells hW; have e57 := (hS.at 57 (by kernel_rfl) (v := env 8) (by kernel_rfl)).trans (hF 8 (by kernel_rfl))
      go_simp
      try with_reducible rfl
    -- 10: Op.load 26 t7
    refine specs_cons (cst _ rfl fun env ρ W hW hI hF hS => ?_) ?_
    · have e7 := hS.at 7 (by kernel_rfl) (slot_base (by kernel_rfl))
      exact run_load_box rfl e7 Try.underlying26 rfl (by kernel_rfl) (kT.under hW.of_drew.below kT.inside)
    -- 11: Op.build 28 #[(0, t49), (1, t53), (2, t54), (3, t58), (4, t59)]
    refine specs_cons (cst _ rfl fun env ρ W hW hI hF hS => ?_) ?_
    · have e49 := (hS.at 49 (by kernel_rfl) (v := env 0) (by kernel_rfl)).trans (hF 0 (by kernel_rfl)); have e53 := (hS.at 53 (by kernel_rfl) (v := env 4) (by kernel_rfl)).trans (hF 4 (by kernel_rfl)); have e54 := (hS.at 54 (by kernel_rfl) (v := env 5) (by kernel_rfl)).trans (hF 5 (by kernel_rfl)); have e58 := (hS.at 58 (by kernel_rfl) (v := env 9) (by kernel_rfl)).trans (hF 9 (by kernel_rfl)); have e59 := (hS.at 59 (by kernel_rfl) (v := env 10) (by kernel_rfl)).trans (hF 10 (by kernel_rfl))
      go_simp
      try with_reducible rfl
    exact specs_nil
  case enr1 =>
    intro env W K
    have f0 : env 0 = _ := K.facts 0 (by decide) rfl
    have f1 : env 1 = _ := K.facts 1 (by decide) rfl
    have f2 : env 2 = _ := K.facts 2 (by decide) rfl
    have f3 : env 3 = _ := K.facts 3 (by decide) rfl
    have f4 : env 4 = _ := K.facts 4 (by decide) rfl
    have f5 : env 5 = _ := K.facts 5 (by decide) rfl
    have f6 : env 6 = _ := K.facts 6 (by decide) rfl
    have f7 : env 7 = _ := K.facts 7 (by decide) rfl
    have f8 : env 8 = _ := K.facts 8 (by decide) rfl
    have f9 : env 9 = _ := K.facts 9 (by decide) rfl
    have f10 : env 10 = _ := K.facts 10 (by decide) rfl
    have f11 : env 11 = _ := K.facts 11 (by decide) rfl
    have hgrow := K.stays.of_drew.below
    clear K
    simp only [List.take_succ_cons, List.take_zero, List.drop_zero, List.drop_succ_cons, putAll, Nat.reduceAdd]
    simp only [Act.put, List.setIfInBounds_toArray, List.set_cons_succ, List.set_cons_zero, f0, f1, f2, f3, f4, f5, f6, f7, f8, f9, f10, f11]
    clear f0 f1 f2 f3 f4 f5 f6 f7 f8 f9 f10 f11
    have hZ' := hZ.under hgrow hZ.inside
    refine store_box (t := 28) (by kernel_rfl) rfl rfl hZ' (by rw [hcs]; rfl) (by simp [Value.oneCell']) ?_
    intro W' hz ho
    go_wp2
    exact h W W' hgrow hz ho
end Go.Proofs.Ytghhidpggnbfgaa
