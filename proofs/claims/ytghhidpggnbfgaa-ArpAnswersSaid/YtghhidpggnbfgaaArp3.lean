/-
  ArpAnswers (layer 5): region 3.
-/
import Derived.Test.YtghhidpggnbfgaaArp
import Derived.Test.YtghhidpggnbfgaaPart
import Derived.Test.YtghhidpggnbfgaaRow
import Derived.Deep.DeepCutAuto
namespace Go.Proofs.Ytghhidpggnbfgaa
open Go.RowKit

set_option maxRecDepth 100000 in
set_option maxHeartbeats 4000000 in
theorem arp3 (f0 f1 f2 f3 f4 f5 : Int) (m0 m1 m2 m3 m4 m5 : Int) (sv : Bool) (sh sl : Int) (dv : Bool) (dh dl : Int) (op : Int) (a0 a1 a2 a3 a4 a5 : Int) (uv : Bool) (uh ul : Int) (b0 b1 b2 b3 b4 b5 : Int) (vv : Bool) (vh vl : Int) (gF gM gS gD q1 q2 : Nat) (w0 : World) (hFm : Box gF 23 #[.int .u8 f0, .int .u8 f1, .int .u8 f2, .int .u8 f3, .int .u8 f4, .int .u8 f5] w0) (hM : Box gM 23 #[.int .u8 m0, .int .u8 m1, .int .u8 m2, .int .u8 m3, .int .u8 m4, .int .u8 m5] w0) (hS0 : Box gS 26 #[.bool sv, .int .u64 sh, .int .u64 sl] w0) (hD : Box gD 26 #[.bool dv, .int .u64 dh, .int .u64 dl] w0) (hq1 : Box q1 28 #[.int .i64 (1), .int .u8 f0, .int .u8 f1, .int .u8 f2, .int .u8 f3, .int .u8 f4, .int .u8 f5, .bool sv, .int .u64 sh, .int .u64 sl, .int .u8 0, .int .u8 0, .int .u8 0, .int .u8 0, .int .u8 0, .int .u8 0, .bool dv, .int .u64 dh, .int .u64 dl] w0) (hq2 : Box q2 28 #[.int .i64 (op), .int .u8 a0, .int .u8 a1, .int .u8 a2, .int .u8 a3, .int .u8 a4, .int .u8 a5, .bool uv, .int .u64 uh, .int .u64 ul, .int .u8 b0, .int .u8 b1, .int .u8 b2, .int .u8 b3, .int .u8 b4, .int .u8 b5, .bool vv, .int .u64 vh, .int .u64 vl] w0)
    {Q : Exit → Act → World → Prop} (x0 x1 x2 x3 x4 x5 x13 x14 x15 x16 x17 x18 x19 x20 x21 x22 x23 x24 x25 x26 x27 x28 x29 x30 x31 x32 x33 x34 x35 x36 x37 x38 x39 x40 x41 x42 x43 x44 x45 x46 x47 x48 x49 x50 x51 x52 x53 x54 x55 x56 x57 x58 x59 x60 x61 x62 x63 x64 x65 x66 x67 x68 x69 x70 x71 x72 x73 x74 x75 x76 x77 x78 x79 x80 x81 x82 x83 x84 x85 x86 x87 x88 x89 x90 x91 x92 x93 x94 x95 : Value)
    (h : ∀ (q3 q4 : Nat) (W : World), Box q3 28 #[.int .i64 (2), .int .u8 m0, .int .u8 m1, .int .u8 m2, .int .u8 m3, .int .u8 m4, .int .u8 m5, .bool dv, .int .u64 dh, .int .u64 dl, .int .u8 f0, .int .u8 f1, .int .u8 f2, .int .u8 f3, .int .u8 f4, .int .u8 f5, .bool sv, .int .u64 sh, .int .u64 sl] W → Box q4 28 #[.int .i64 (2), .int .u8 m0, .int .u8 m1, .int .u8 m2, .int .u8 m3, .int .u8 m4, .int .u8 m5, .bool vv, .int .u64 vh, .int .u64 vl, .int .u8 a0, .int .u8 a1, .int .u8 a2, .int .u8 a3, .int .u8 a4, .int .u8 a5, .bool uv, .int .u64 uh, .int .u64 ul] W → Below w0.heap.size w0 W → Q .normal { tmps := #[x0, x1, x2, x3, x4, x5, .pointer (some ⟨gF, 0, none⟩), .pointer (some ⟨gM, 0, none⟩), .pointer (some ⟨gS, 0, none⟩), .pointer (some ⟨gD, 0, none⟩), .bool false, .pointer (some ⟨q1, 0, none⟩), .pointer (some ⟨q2, 0, none⟩), .pointer (some ⟨q3, 0, none⟩), .pointer (some ⟨q4, 0, none⟩), x15, x16, x17, x18, x19, x20, x21, .agg #[.int .i64 (1), .int .u8 f0, .int .u8 f1, .int .u8 f2, .int .u8 f3, .int .u8 f4, .int .u8 f5, .bool sv, .int .u64 sh, .int .u64 sl, .int .u8 0, .int .u8 0, .int .u8 0, .int .u8 0, .int .u8 0, .int .u8 0, .bool dv, .int .u64 dh, .int .u64 dl], .agg #[.int .u8 m0, .int .u8 m1, .int .u8 m2, .int .u8 m3, .int .u8 m4, .int .u8 m5], .agg #[.int .i64 (2), .int .u8 m0, .int .u8 m1, .int .u8 m2, .int .u8 m3, .int .u8 m4, .int .u8 m5, .bool dv, .int .u64 dh, .int .u64 dl, .int .u8 f0, .int .u8 f1, .int .u8 f2, .int .u8 f3, .int .u8 f4, .int .u8 f5, .bool sv, .int .u64 sh, .int .u64 sl], .agg #[.int .i64 (op), .int .u8 a0, .int .u8 a1, .int .u8 a2, .int .u8 a3, .int .u8 a4, .int .u8 a5, .bool uv, .int .u64 uh, .int .u64 ul, .int .u8 b0, .int .u8 b1, .int .u8 b2, .int .u8 b3, .int .u8 b4, .int .u8 b5, .bool vv, .int .u64 vh, .int .u64 vl], .agg #[.int .u8 m0, .int .u8 m1, .int .u8 m2, .int .u8 m3, .int .u8 m4, .int .u8 m5], .agg #[.int .i64 (2), .int .u8 m0, .int .u8 m1, .int .u8 m2, .int .u8 m3, .int .u8 m4, .int .u8 m5, .bool vv, .int .u64 vh, .int .u64 vl, .int .u8 a0, .int .u8 a1, .int .u8 a2, .int .u8 a3, .int .u8 a4, .int .u8 a5, .bool uv, .int .u64 uh, .int .u64 ul], x28, x29, x30, x31, x32, x33, x34, x35, x36, x37, x38, x39, x40, x41, x42, x43, x44, x45, x46, x47, x48, x49, x50, x51, x52, x53, x54, x55, x56, x57, x58, x59, x60, x61, x62, x63, x64, x65, x66, x67, x68, x69, x70, x71, x72, x73, x74, x75, x76, x77, x78, x79, x80, x81, x82, x83, x84, x85, x86, x87, x88, x89, x90, x91, x92, x93, x94, x95], defers := [] } W) :
    (regionAt Try.f5 3).wp Try.prog Q { tmps := #[x0, x1, x2, x3, x4, x5, .pointer (some ⟨gF, 0, none⟩), .pointer (some ⟨gM, 0, none⟩), .pointer (some ⟨gS, 0, none⟩), .pointer (some ⟨gD, 0, none⟩), .bool false, .pointer (some ⟨q1, 0, none⟩), .pointer (some ⟨q2, 0, none⟩), x13, x14, x15, x16, x17, x18, x19, x20, x21, x22, x23, x24, x25, x26, x27, x28, x29, x30, x31, x32, x33, x34, x35, x36, x37, x38, x39, x40, x41, x42, x43, x44, x45, x46, x47, x48, x49, x50, x51, x52, x53, x54, x55, x56, x57, x58, x59, x60, x61, x62, x63, x64, x65, x66, x67, x68, x69, x70, x71, x72, x73, x74, x75, x76, x77, x78, x79, x80, x81, x82, x83, x84, x85, x86, x87, x88, x89, x90, x91, x92, x93, x94, x95], defers := [] } w0 := by
  conv in (regionAt _ _) => whnf
  refine Code.wp_mono (Q := fun e a w => match e with | .normal => Q .normal a w | _ => False) (fun e a w hx => by cases e <;> first | exact hx | exact hx.elim) ?_
  refine wp_region_tail 10 (fun _ => False) (fun _ => True) (Low (fun _ => False) _) [isV (.agg #[.int .i64 (1), .int .u8 f0, .int .u8 f1, .int .u8 f2, .int .u8 f3, .int .u8 f4, .int .u8 f5, .bool sv, .int .u64 sh, .int .u64 sl, .int .u8 0, .int .u8 0, .int .u8 0, .int .u8 0, .int .u8 0, .int .u8 0, .bool dv, .int .u64 dh, .int .u64 dl]), isV (.agg #[.int .u8 m0, .int .u8 m1, .int .u8 m2, .int .u8 m3, .int .u8 m4, .int .u8 m5]), isV (.agg #[.int .i64 (2), .int .u8 m0, .int .u8 m1, .int .u8 m2, .int .u8 m3, .int .u8 m4, .int .u8 m5, .bool dv, .int .u64 dh, .int .u64 dl, .int .u8 f0, .int .u8 f1, .int .u8 f2, .int .u8 f3, .int .u8 f4, .int .u8 f5, .bool sv, .int .u64 sh, .int .u64 sl]), isV (.agg #[.int .i64 (op), .int .u8 a0, .int .u8 a1, .int .u8 a2, .int .u8 a3, .int .u8 a4, .int .u8 a5, .bool uv, .int .u64 uh, .int .u64 ul, .int .u8 b0, .int .u8 b1, .int .u8 b2, .int .u8 b3, .int .u8 b4, .int .u8 b5, .bool vv, .int .u64 vh, .int .u64 vl]), isV (.agg #[.int .u8 m0, .int .u8 m1, .int .u8 m2, .int .u8 m3, .int .u8 m4, .int .u8 m5]), isV (.agg #[.int .i64 (2), .int .u8 m0, .int .u8 m1, .int .u8 m2, .int .u8 m3, .int .u8 m4, .int .u8 m5, .bool vv, .int .u64 vh, .int .u64 vl, .int .u8 a0, .int .u8 a1, .int .u8 a2, .int .u8 a3, .int .u8 a4, .int .u8 a5, .bool uv, .int .u64 uh, .int .u64 ul]), .made 28 #[.int .i64 0, .int .u8 0, .int .u8 0, .int .u8 0, .int .u8 0, .int .u8 0, .int .u8 0, .bool false, .int .u64 0, .int .u64 0, .int .u8 0, .int .u8 0, .int .u8 0, .int .u8 0, .int .u8 0, .int .u8 0, .bool false, .int .u64 0, .int .u64 0], .made 28 #[.int .i64 0, .int .u8 0, .int .u8 0, .int .u8 0, .int .u8 0, .int .u8 0, .int .u8 0, .bool false, .int .u64 0, .int .u64 0, .int .u8 0, .int .u8 0, .int .u8 0, .int .u8 0, .int .u8 0, .int .u8 0, .bool false, .int .u64 0, .int .u64 0], .put 6 28 fun _ => #[.int .i64 (2), .int .u8 m0, .int .u8 m1, .int .u8 m2, .int .u8 m3, .int .u8 m4, .int .u8 m5, .bool dv, .int .u64 dh, .int .u64 dl, .int .u8 f0, .int .u8 f1, .int .u8 f2, .int .u8 f3, .int .u8 f4, .int .u8 f5, .bool sv, .int .u64 sh, .int .u64 sl], .put 7 28 fun _ => #[.int .i64 (2), .int .u8 m0, .int .u8 m1, .int .u8 m2, .int .u8 m3, .int .u8 m4, .int .u8 m5, .bool vv, .int .u64 vh, .int .u64 vl, .int .u8 a0, .int .u8 a1, .int .u8 a2, .int .u8 a3, .int .u8 a4, .int .u8 a5, .bool uv, .int .u64 uh, .int .u64 ul]] (by kernel_rfl) (by kernel_rfl) (by kernel_rfl) (by kernel_rfl) trivial (fun _ h => False.elim h) (fun _ _ h h' => low_of_stays h h') ?spr1 ?enr1
  case spr1 =>
    -- 0: Op.load 28 t11
    refine specs_cons (cst _ rfl fun env ρ W hW hI hF hS => ?_) ?_
    · have e11 := hS.at 11 (by kernel_rfl) (slot_base (by kernel_rfl))
      exact run_load_box rfl e11 Try.underlying28 rfl (by kernel_rfl) (hq1.under hW.of_drew.below hq1.inside)
    -- 1: Op.load 23 t7
    refine specs_cons (cst _ rfl fun env ρ W hW hI hF hS => ?_) ?_
    · have e7 := hS.at 7 (by kernel_rfl) (slot_base (by kernel_rfl))
      exact run_load_box rfl e7 Try.underlying23 rfl (by kernel_rfl) (hM.under hW.of_drew.below hM.inside)
    -- 2: Op.call { value (Operand.func 19), args := #[t22, t23], argTypes := #[
    refine specs_cons (call_cst _ rfl (fun _ _ _ h => h) (f := ?ff2r1) (args := ?aa2r1) fun env ρ W hW hI hF hS => ⟨?ru2r1, ?ca2r1⟩) ?nx2r1
    case ru2r1 =>
      have hc := stays_cells hW; have cf := hS.func; have e22 := (hS.at 22 (by kernel_rfl) (v := env 0) (by kernel_rfl)).trans (hF 0 (by kernel_rfl)); have e23 := (hS.at 23 (by kernel_rfl) (v := env 1) (by kernel_rfl)).trans (hF 1 (by kernel_rfl))
      go_simp
      constructor <;> rfl
    case ca2r1 => exact reply_any 1 f0 f1 f2 f3 f4 f5 sv sh sl 0 0 0 0 0 0 dv dh dl m0 m1 m2 m3 m4 m5 W
    -- 3: Op.load 28 t12
    refine specs_cons (cst _ rfl fun env ρ W hW hI hF hS => ?_) ?_
    · have e12 := hS.at 12 (by kernel_rfl) (slot_base (by kernel_rfl))
      exact run_load_box rfl e12 Try.underlying28 rfl (by kernel_rfl) (hq2.under hW.of_drew.below hq2.inside)
    -- 4: Op.load 23 t7
    refine specs_cons (cst _ rfl fun env ρ W hW hI hF hS => ?_) ?_
    · have e7 := hS.at 7 (by kernel_rfl) (slot_base (by kernel_rfl))
      exact run_load_box rfl e7 Try.underlying23 rfl (by kernel_rfl) (hM.under hW.of_drew.below hM.inside)
    -- 5: Op.call { value (Operand.func 19), args := #[t25, t26], argTypes := #[
    refine specs_cons (call_cst _ rfl (fun _ _ _ h => h) (f := ?ff5r1) (args := ?aa5r1) fun env ρ W hW hI hF hS => ⟨?ru5r1, ?ca5r1⟩) ?nx5r1
    case ru5r1 =>
      have hc := stays_cells hW; have cf := hS.func; have e25 := (hS.at 25 (by kernel_rfl) (v := env 3) (by kernel_rfl)).trans (hF 3 (by kernel_rfl)); have e26 := (hS.at 26 (by kernel_rfl) (v := env 4) (by kernel_rfl)).trans (hF 4 (by kernel_rfl))
      go_simp
      constructor <;> rfl
    case ca5r1 => exact reply_any op a0 a1 a2 a3 a4 a5 uv uh ul b0 b1 b2 b3 b4 b5 vv vh vl m0 m1 m2 m3 m4 m5 W
    -- 6: Op.alloc 28
    refine specs_cons (box_made _ _ rfl (fun _ _ _ h => h) fun ρ W => ?_) ?_
    · go_simp
    -- 7: Op.alloc 28
    refine specs_cons (box_made _ _ rfl (fun _ _ _ h => h) fun ρ W => ?_) ?_
    · go_simp
    -- 8: Op.store 28 t13 t24
    refine specs_cons (box_put 6 _ _ _ rfl (by simp) (by kernel_rfl) rfl (fun _ _ _ _ _ h => h) fun env ρ W g hW hI hF hS he hb => ?_) ?_
    · have e13 := hS.at 13 (by kernel_rfl) (v := env 6) (by kernel_rfl); have e24 := (hS.at 24 (by kernel_rfl) (v := env 2) (by kernel_rfl)).trans (hF 2 (by kernel_rfl))
      replace he : _ = Value.pointer (some ⟨g, 0, none⟩) := he
      exact run_store_box rfl (e13.trans he) e24 hb (by kernel_rfl) rfl (by simp [Value.oneCell'])
    -- 9: Op.store 28 t14 t27
    refine specs_cons (box_put 7 _ _ _ rfl (by simp) (by kernel_rfl) rfl (fun _ _ _ _ _ h => h) fun env ρ W g hW hI hF hS he hb => ?_) ?_
    · have e14 := hS.at 14 (by kernel_rfl) (v := env 7) (by kernel_rfl); have e27 := (hS.at 27 (by kernel_rfl) (v := env 5) (by kernel_rfl)).trans (hF 5 (by kernel_rfl))
      replace he : _ = Value.pointer (some ⟨g, 0, none⟩) := he
      exact run_store_box rfl (e14.trans he) e27 hb (by kernel_rfl) rfl (by simp [Value.oneCell'])
    exact specs_nil
  case enr1 =>
    intro env W K
    have f0 : env 0 = _ := K.facts 0 (by decide) rfl
    have f1 : env 1 = _ := K.facts 1 (by decide) rfl
    have f2 : env 2 = _ := K.facts 2 (by decide) rfl
    have f3 : env 3 = _ := K.facts 3 (by decide) rfl
    have f4 : env 4 = _ := K.facts 4 (by decide) rfl
    have f5 : env 5 = _ := K.facts 5 (by decide) rfl
    obtain ⟨g6, k6, l6, b6⟩ := K.facts 8 (by decide) rfl
    obtain ⟨g7, k7, l7, b7⟩ := K.facts 9 (by decide) rfl
    have hgrow := K.stays.of_drew.below
    clear K
    simp only [List.take_succ_cons, List.take_nil, List.drop_nil, List.drop_succ_cons, putAll, Nat.reduceAdd, wpList]
    simp only [Act.put, List.setIfInBounds_toArray, List.set_cons_succ, List.set_cons_zero, f0, f1, f2, f3, f4, f5]
    clear f0 f1 f2 f3 f4 f5
    rw [show env 6 = .pointer (some ⟨g6, 0, none⟩) from k6, show env 7 = .pointer (some ⟨g7, 0, none⟩) from k7]
    exact h _ _ W b6 b7 hgrow
end Go.Proofs.Ytghhidpggnbfgaa
