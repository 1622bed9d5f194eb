/-
  The reference's Travels: the region that receives.
-/
import Derived.Test.YtagkpocagkfhoaaRSend
import Derived.Test.YtagkpocagkfhoaaTrav10
namespace Go.Proofs.Ytagkpocagkfhoaa
open Go.RowKit
set_option maxRecDepth 100000 in
set_option maxHeartbeats 2000000 in
theorem rtrav9 (H g3 : Nat) (s d r x1 x2 : Int) (w0 : World) (hH : Box H 56 #[.int .i64 s, .int .i64 d, .int .i64 r] w0) (h3 : Box g3 43 #[.int .i64 0, .slice none 0 0, .bool false, .int .u64 0, .int .u64 0, .int .i64 0, .int .i64 0, .int .i64 (x1), .slice none 0 0, .slice none 0 0, .slice none 0 0] w0)
    (hrecv : ∀ W, Calls Try.prog 21 #[.int .i64 (invR r), .int .i64 s, .agg #[.int .i64 0, .slice none 0 0, .bool false, .int .u64 0, .int .u64 0, .int .i64 0, .int .i64 0, .int .i64 (x1), .slice none 0 0, .slice none 0 0, .slice none 0 0]] W fun e w' => e = .returned (.tuple #[.agg #[.int .i64 0, .slice none 0 0, .bool false, .int .u64 0, .int .u64 0, .int .i64 0, .int .i64 0, .int .i64 (x2), .slice none 0 0, .slice none 0 0, .slice none 0 0], .int .i64 0]) ∧ Below W.heap.size W w')
    {Q : Exit → Act → World → Prop} (y0 y1 y2 y4 y6 y7 y8 y9 y10 y11 y12 y13 y14 y15 y16 y17 y18 y19 y20 y21 y22 y23 y24 y25 y26 y27 y28 y29 y30 y31 y32 y33 y34 y35 y36 y37 y38 y39 : Value)
    (h : ∀ (W W' : World), Below w0.heap.size w0 W → Box g3 43 #[.int .i64 0, .slice none 0 0, .bool false, .int .u64 0, .int .u64 0, .int .i64 0, .int .i64 0, .int .i64 (x2), .slice none 0 0, .slice none 0 0, .slice none 0 0] W' → OnlyBlock g3 W W' → Q .normal { tmps := #[y0, y1, y2, .pointer (some ⟨g3, 0, none⟩), y4, .pointer (some ⟨H, 0, none⟩), .int .i64 0, y7, y8, y9, y10, y11, y12, y13, y14, y15, y16, y17, y18, y19, y20, y21, y22, y23, y24, .tuple #[.agg #[.int .i64 0, .slice none 0 0, .bool false, .int .u64 0, .int .u64 0, .int .i64 0, .int .i64 0, .int .i64 (x2), .slice none 0 0, .slice none 0 0, .slice none 0 0], .int .i64 0], .pointer (some ⟨H, 2, none⟩), .int .i64 r, .int .i64 (invR r), .pointer (some ⟨H, 0, none⟩), .int .i64 s, .agg #[.int .i64 0, .slice none 0 0, .bool false, .int .u64 0, .int .u64 0, .int .i64 0, .int .i64 0, .int .i64 (x1), .slice none 0 0, .slice none 0 0, .slice none 0 0], .tuple #[.agg #[.int .i64 0, .slice none 0 0, .bool false, .int .u64 0, .int .u64 0, .int .i64 0, .int .i64 0, .int .i64 (x2), .slice none 0 0, .slice none 0 0, .slice none 0 0], .int .i64 0], .agg #[.int .i64 0, .slice none 0 0, .bool false, .int .u64 0, .int .u64 0, .int .i64 0, .int .i64 0, .int .i64 (x2), .slice none 0 0, .slice none 0 0, .slice none 0 0], .int .i64 0, y35, y36, y37, y38, y39], defers := [] } W') :
    (regionAt Try.f25 9).wp Try.prog Q { tmps := #[y0, y1, y2, .pointer (some ⟨g3, 0, none⟩), y4, .pointer (some ⟨H, 0, none⟩), y6, y7, y8, y9, y10, y11, y12, y13, y14, y15, y16, y17, y18, y19, y20, y21, y22, y23, y24, y25, y26, y27, y28, y29, y30, y31, y32, y33, y34, y35, y36, y37, y38, y39], defers := [] } w0 := by
  have hHi := hH.inside
  have hH0 := hH.at_ 0; have hH2 := hH.at_ 2
  conv in (regionAt _ _) => whnf
  refine Code.wp_mono (Q := fun e a w => match e with | .normal => Q .normal a w | _ => False) (fun e a w hx => by cases e <;> first | exact hx | exact hx.elim) ?_
  refine wp_region_open 8 (fun _ => False) (fun _ => True) (Stays (fun _ => False)) [isV (.pointer (some ⟨H, 2, none⟩)), isV (.int .i64 r), isV (.int .i64 (invR r)), isV (.pointer (some ⟨H, 0, none⟩)), isV (.int .i64 s), isV (.agg #[.int .i64 0, .slice none 0 0, .bool false, .int .u64 0, .int .u64 0, .int .i64 0, .int .i64 0, .int .i64 (x1), .slice none 0 0, .slice none 0 0, .slice none 0 0]), isV (.tuple #[.agg #[.int .i64 0, .slice none 0 0, .bool false, .int .u64 0, .int .u64 0, .int .i64 0, .int .i64 0, .int .i64 (x2), .slice none 0 0, .slice none 0 0, .slice none 0 0], .int .i64 0]), isV (.tuple #[.agg #[.int .i64 0, .slice none 0 0, .bool false, .int .u64 0, .int .u64 0, .int .i64 0, .int .i64 0, .int .i64 (x2), .slice none 0 0, .slice none 0 0, .slice none 0 0], .int .i64 0])] (by kernel_rfl) (by kernel_rfl) (by kernel_rfl) (by kernel_rfl) trivial (fun _ h => False.elim h) (fun _ _ _ h => h) ?spr1 ?enr1
  case spr1 =>
    -- 0: Op.fieldAddr 56 t5 2
    refine specs_cons (cst _ rfl fun env ρ W hW hI hF hS => ?_) ?_
    · have e5 := hS.at 5 (by kernel_rfl) (slot_base (by kernel_rfl))
      go_simp
      try with_reducible rfl
    -- 1: Op.load 3 t26
    refine specs_cons (cst _ rfl fun env ρ W hW hI hF hS => ?_) ?_
    · have hc := stays_cells hW; have e26 := (hS.at 26 (by kernel_rfl) (v := env 0) (by kernel_rfl)).trans (hF 0 (by kernel_rfl))
      go_simp
      try with_reducible rfl
    -- 2: Op.call { value (Operand.func 10), args := #[t27], argTypes := #[3] }
    refine specs_cons (call_cst _ rfl (fun _ _ _ h => h) (f := ?ff2r1) (args := ?aa2r1) fun env ρ W hW hI hF hS => ⟨?ru2r1, ?ca2r1⟩) ?nx2r1
    case ru2r1 =>
      have hc := stays_cells hW; have cf := hS.func; have e27 := (hS.at 27 (by kernel_rfl) (v := env 1) (by kernel_rfl)).trans (hF 1 (by kernel_rfl))
      go_simp
      constructor <;> rfl
    case ca2r1 => exact same_below (rinverse_any r W)
    -- 3: Op.fieldAddr 56 t5 0
    refine specs_cons (cst _ rfl fun env ρ W hW hI hF hS => ?_) ?_
    · have e5 := hS.at 5 (by kernel_rfl) (slot_base (by kernel_rfl))
      go_simp
      try with_reducible rfl
    -- 4: Op.load 3 t29
    refine specs_cons (cst _ rfl fun env ρ W hW hI hF hS => ?_) ?_
    · have hc := stays_cells hW; have e29 := (hS.at 29 (by kernel_rfl) (v := env 3) (by kernel_rfl)).trans (hF 3 (by kernel_rfl))
      go_simp
      try with_reducible rfl
    -- 5: Op.load 43 t3
    refine specs_cons (cst _ rfl fun env ρ W hW hI hF hS => ?_) ?_
    · have e3 := hS.at 3 (by kernel_rfl) (slot_base (by kernel_rfl))
      exact run_load_box rfl e3 Try.underlying43 rfl (by kernel_rfl) (h3.under hW.of_drew.below h3.inside)
    -- 6: Op.call { value (Operand.func 21), args := #[t28, t30, t31], argTypes 
    refine specs_cons (call_cst _ rfl (fun _ _ _ h => h) (f := ?ff6r1) (args := ?aa6r1) fun env ρ W hW hI hF hS => ⟨?ru6r1, ?ca6r1⟩) ?nx6r1
    case ru6r1 =>
      have hc := stays_cells hW; have cf := hS.func; have e28 := (hS.at 28 (by kernel_rfl) (v := env 2) (by kernel_rfl)).trans (hF 2 (by kernel_rfl)); have e30 := (hS.at 30 (by kernel_rfl) (v := env 4) (by kernel_rfl)).trans (hF 4 (by kernel_rfl)); have e31 := (hS.at 31 (by kernel_rfl) (v := env 5) (by kernel_rfl)).trans (hF 5 (by kernel_rfl))
      go_simp
      constructor <;> rfl
    case ca6r1 => exact hrecv W
    -- 7: Op.move t32
    refine specs_cons (cst _ rfl fun env ρ W hW hI hF hS => ?_) ?_
    · have e32 := (hS.at 32 (by kernel_rfl) (v := env 6) (by kernel_rfl)).trans (hF 6 (by kernel_rfl))
      go_simp
      try with_reducible rfl
    exact specs_nil
  case enr1 =>
    intro env W K
    have f0 : env 0 = _ := K.facts 0 (by decide) rfl
    have f1 : env 1 = _ := K.facts 1 (by decide) rfl
    have f2 : env 2 = _ := K.facts 2 (by decide) rfl
    have f3 : env 3 = _ := K.facts 3 (by decide) rfl
    have f4 : env 4 = _ := K.facts 4 (by decide) rfl
    have f5 : env 5 = _ := K.facts 5 (by decide) rfl
    have f6 : env 6 = _ := K.facts 6 (by decide) rfl
    have f7 : env 7 = _ := K.facts 7 (by decide) rfl
    have hgrow := K.stays.of_drew.below
    clear K
    simp only [List.take_succ_cons, List.take_zero, List.drop_zero, List.drop_succ_cons, putAll, Nat.reduceAdd]
    simp only [Act.put, List.setIfInBounds_toArray, List.set_cons_succ, List.set_cons_zero, f0, f1, f2, f3, f4, f5, f6, f7]
    clear f0 f1 f2 f3 f4 f5 f6 f7
    have h3' := h3.under hgrow h3.inside
    have hz : Box g3 43 #[.int .i64 0, .slice none 0 0, .bool false, .int .u64 0, .int .u64 0, .int .i64 0, .int .i64 0, .int .i64 (x2), .slice none 0 0, .slice none 0 0, .slice none 0 0] (W.setRow g3 #[.int .i64 0, .slice none 0 0, .bool false, .int .u64 0, .int .u64 0, .int .i64 0, .int .i64 0, .int .i64 (x2), .slice none 0 0, .slice none 0 0, .slice none 0 0]) := box_stored h3'
    have ho : OnlyBlock g3 W (W.setRow g3 #[.int .i64 0, .slice none 0 0, .bool false, .int .u64 0, .int .u64 0, .int .i64 0, .int .i64 0, .int .i64 (x2), .slice none 0 0, .slice none 0 0, .slice none 0 0]) := only_stored
    have hfin := fun W' hW' hO => h W W' hgrow hW' hO
    clear h
    change wpAny _ .any _ _ (3 + 1) _ _ _
    refine any_step [8, 9] (by kernel_rfl) (by decide) ?_
    intro i hi
    simp only [List.mem_cons, List.not_mem_nil, or_false] at hi
    rcases hi with rfl | rfl
    · refine wpOp_val (v := .agg #[.int .i64 0, .slice none 0 0, .bool false, .int .u64 0, .int .u64 0, .int .i64 0, .int .i64 0, .int .i64 (x2), .slice none 0 0, .slice none 0 0, .slice none 0 0]) rfl rfl (by go_simp) ?_
      refine any_step [9, 10] (by kernel_rfl) (by decide) ?_
      intro i hi
      simp only [List.mem_cons, List.not_mem_nil, or_false] at hi
      rcases hi with rfl | rfl
      · refine wpOp_val (v := .int .i64 0) rfl rfl (by go_simp) ?_
        refine any_step [10] (by kernel_rfl) (by decide) ?_
        intro i hi
        simp only [List.mem_cons, List.not_mem_nil, or_false] at hi
        subst hi
        refine wpOp_skip rfl rfl (run_store_row (us := #[.int .i64 0, .slice none 0 0, .bool false, .int .u64 0, .int .u64 0, .int .i64 0, .int .i64 0, .int .i64 (x2), .slice none 0 0, .slice none 0 0, .slice none 0 0]) rfl rfl rfl h3' (by kernel_rfl) rfl (by simp [Value.oneCell'])) ?_
        refine any_step [11] (by kernel_rfl) (by decide) ?_
        intro i hi
        simp only [List.mem_cons, List.not_mem_nil, or_false] at hi
        subst hi
        refine wpOp_val (v := .int .i64 0) rfl rfl (by go_simp) ?_
        refine any_done (by kernel_rfl) ?_
        exact hfin _ hz ho
      · refine wpOp_skip rfl rfl (run_store_row (us := #[.int .i64 0, .slice none 0 0, .bool false, .int .u64 0, .int .u64 0, .int .i64 0, .int .i64 0, .int .i64 (x2), .slice none 0 0, .slice none 0 0, .slice none 0 0]) rfl rfl rfl h3' (by kernel_rfl) rfl (by simp [Value.oneCell'])) ?_
        refine any_step [9] (by kernel_rfl) (by decide) ?_
        intro i hi
        simp only [List.mem_cons, List.not_mem_nil, or_false] at hi
        subst hi
        refine wpOp_val (v := .int .i64 0) rfl rfl (by go_simp) ?_
        refine any_step [11] (by kernel_rfl) (by decide) ?_
        intro i hi
        simp only [List.mem_cons, List.not_mem_nil, or_false] at hi
        subst hi
        refine wpOp_val (v := .int .i64 0) rfl rfl (by go_simp) ?_
        refine any_done (by kernel_rfl) ?_
        exact hfin _ hz ho
    · refine wpOp_val (v := .int .i64 0) rfl rfl (by go_simp) ?_
      refine any_step [8] (by kernel_rfl) (by decide) ?_
      intro i hi
      simp only [List.mem_cons, List.not_mem_nil, or_false] at hi
      subst hi
      refine wpOp_val (v := .agg #[.int .i64 0, .slice none 0 0, .bool false, .int .u64 0, .int .u64 0, .int .i64 0, .int .i64 0, .int .i64 (x2), .slice none 0 0, .slice none 0 0, .slice none 0 0]) rfl rfl (by go_simp) ?_
      refine any_step [10] (by kernel_rfl) (by decide) ?_
      intro i hi
      simp only [List.mem_cons, List.not_mem_nil, or_false] at hi
      subst hi
      refine wpOp_skip rfl rfl (run_store_row (us := #[.int .i64 0, .slice none 0 0, .bool false, .int .u64 0, .int .u64 0, .int .i64 0, .int .i64 0, .int .i64 (x2), .slice none 0 0, .slice none 0 0, .slice none 0 0]) rfl rfl rfl h3' (by kernel_rfl) rfl (by simp [Value.oneCell'])) ?_
      refine any_step [11] (by kernel_rfl) (by decide) ?_
      intro i hi
      simp only [List.mem_cons, List.not_mem_nil, or_false] at hi
      subst hi
      refine wpOp_val (v := .int .i64 0) rfl rfl (by go_simp) ?_
      refine any_done (by kernel_rfl) ?_
      exact hfin _ hz ho
end Go.Proofs.Ytagkpocagkfhoaa
