/-
  ArpAnswers (layer 5): region 4.
-/
import Derived.Test.YtghhidpggnbfgaaArp
import Derived.Test.YtghhidpggnbfgaaPart
import Derived.Test.YtghhidpggnbfgaaRow
import Derived.Deep.DeepCutAuto
namespace Go.Proofs.Ytghhidpggnbfgaa
open Go.RowKit

set_option maxRecDepth 100000 in
set_option maxHeartbeats 4000000 in
theorem arp4 (f0 f1 f2 f3 f4 f5 : Int) (m0 m1 m2 m3 m4 m5 : Int) (sv : Bool) (sh sl : Int) (dv : Bool) (dh dl : Int) (op : Int) (a0 a1 a2 a3 a4 a5 : Int) (uv : Bool) (uh ul : Int) (b0 b1 b2 b3 b4 b5 : Int) (vv : Bool) (vh vl : Int) (gF gM gS gD q1 q2 : Nat) (w0 : World) (q3 q4 : Nat) (hFm : Box gF 23 #[.int .u8 f0, .int .u8 f1, .int .u8 f2, .int .u8 f3, .int .u8 f4, .int .u8 f5] w0) (hM : Box gM 23 #[.int .u8 m0, .int .u8 m1, .int .u8 m2, .int .u8 m3, .int .u8 m4, .int .u8 m5] w0) (hS0 : Box gS 26 #[.bool sv, .int .u64 sh, .int .u64 sl] w0) (hD : Box gD 26 #[.bool dv, .int .u64 dh, .int .u64 dl] w0) (hq1 : Box q1 28 #[.int .i64 (1), .int .u8 f0, .int .u8 f1, .int .u8 f2, .int .u8 f3, .int .u8 f4, .int .u8 f5, .bool sv, .int .u64 sh, .int .u64 sl, .int .u8 0, .int .u8 0, .int .u8 0, .int .u8 0, .int .u8 0, .int .u8 0, .bool dv, .int .u64 dh, .int .u64 dl] w0) (hq2 : Box q2 28 #[.int .i64 (op), .int .u8 a0, .int .u8 a1, .int .u8 a2, .int .u8 a3, .int .u8 a4, .int .u8 a5, .bool uv, .int .u64 uh, .int .u64 ul, .int .u8 b0, .int .u8 b1, .int .u8 b2, .int .u8 b3, .int .u8 b4, .int .u8 b5, .bool vv, .int .u64 vh, .int .u64 vl] w0) (hq3 : Box q3 28 #[.int .i64 (2), .int .u8 m0, .int .u8 m1, .int .u8 m2, .int .u8 m3, .int .u8 m4, .int .u8 m5, .bool dv, .int .u64 dh, .int .u64 dl, .int .u8 f0, .int .u8 f1, .int .u8 f2, .int .u8 f3, .int .u8 f4, .int .u8 f5, .bool sv, .int .u64 sh, .int .u64 sl] w0) (hq4 : Box q4 28 #[.int .i64 (2), .int .u8 m0, .int .u8 m1, .int .u8 m2, .int .u8 m3, .int .u8 m4, .int .u8 m5, .bool vv, .int .u64 vh, .int .u64 vl, .int .u8 a0, .int .u8 a1, .int .u8 a2, .int .u8 a3, .int .u8 a4, .int .u8 a5, .bool uv, .int .u64 uh, .int .u64 ul] w0)
    {Q : Exit → Act → World → Prop} (x0 x1 x2 x3 x4 x5 x15 x16 x17 x18 x19 x20 x21 x22 x23 x24 x25 x26 x27 x28 x29 x30 x31 x32 x33 x34 x35 x36 x37 x38 x39 x40 x41 x42 x43 x44 x45 x46 x47 x48 x49 x50 x51 x52 x53 x54 x55 x56 x57 x58 x59 x60 x61 x62 x63 x64 x65 x66 x67 x68 x69 x70 x71 x72 x73 x74 x75 x76 x77 x78 x79 x80 x81 x82 x83 x84 x85 x86 x87 x88 x89 x90 x91 x92 x93 x94 x95 : Value)
    (h : ∀ W : World, Below w0.heap.size w0 W → Q .normal { tmps := #[x0, x1, x2, x3, x4, x5, .pointer (some ⟨gF, 0, none⟩), .pointer (some ⟨gM, 0, none⟩), .pointer (some ⟨gS, 0, none⟩), .pointer (some ⟨gD, 0, none⟩), .bool false, .pointer (some ⟨q1, 0, none⟩), .pointer (some ⟨q2, 0, none⟩), .pointer (some ⟨q3, 0, none⟩), .pointer (some ⟨q4, 0, none⟩), x15, x16, x17, x18, x19, x20, x21, x22, x23, x24, x25, x26, x27, .agg #[.int .i64 (1), .int .u8 f0, .int .u8 f1, .int .u8 f2, .int .u8 f3, .int .u8 f4, .int .u8 f5, .bool sv, .int .u64 sh, .int .u64 sl, .int .u8 0, .int .u8 0, .int .u8 0, .int .u8 0, .int .u8 0, .int .u8 0, .bool dv, .int .u64 dh, .int .u64 dl], .agg #[.int .u8 f0, .int .u8 f1, .int .u8 f2, .int .u8 f3, .int .u8 f4, .int .u8 f5], .agg #[.bool sv, .int .u64 sh, .int .u64 sl], .agg #[.bool dv, .int .u64 dh, .int .u64 dl], .agg #[.int .i64 (1), .int .u8 f0, .int .u8 f1, .int .u8 f2, .int .u8 f3, .int .u8 f4, .int .u8 f5, .bool sv, .int .u64 sh, .int .u64 sl, .int .u8 0, .int .u8 0, .int .u8 0, .int .u8 0, .int .u8 0, .int .u8 0, .bool dv, .int .u64 dh, .int .u64 dl], .bool false, .bool false, .agg #[.int .i64 (2), .int .u8 m0, .int .u8 m1, .int .u8 m2, .int .u8 m3, .int .u8 m4, .int .u8 m5, .bool dv, .int .u64 dh, .int .u64 dl, .int .u8 f0, .int .u8 f1, .int .u8 f2, .int .u8 f3, .int .u8 f4, .int .u8 f5, .bool sv, .int .u64 sh, .int .u64 sl], .agg #[.int .i64 (1), .int .u8 f0, .int .u8 f1, .int .u8 f2, .int .u8 f3, .int .u8 f4, .int .u8 f5, .bool sv, .int .u64 sh, .int .u64 sl, .int .u8 0, .int .u8 0, .int .u8 0, .int .u8 0, .int .u8 0, .int .u8 0, .bool dv, .int .u64 dh, .int .u64 dl], .agg #[.int .u8 m0, .int .u8 m1, .int .u8 m2, .int .u8 m3, .int .u8 m4, .int .u8 m5], .agg #[.int .i64 (2), .int .u8 m0, .int .u8 m1, .int .u8 m2, .int .u8 m3, .int .u8 m4, .int .u8 m5, .bool dv, .int .u64 dh, .int .u64 dl, .int .u8 f0, .int .u8 f1, .int .u8 f2, .int .u8 f3, .int .u8 f4, .int .u8 f5, .bool sv, .int .u64 sh, .int .u64 sl], .bool false, .bool false, .bool false, .agg #[.int .i64 (2), .int .u8 m0, .int .u8 m1, .int .u8 m2, .int .u8 m3, .int .u8 m4, .int .u8 m5, .bool vv, .int .u64 vh, .int .u64 vl, .int .u8 a0, .int .u8 a1, .int .u8 a2, .int .u8 a3, .int .u8 a4, .int .u8 a5, .bool uv, .int .u64 uh, .int .u64 ul], .agg #[.int .i64 (op), .int .u8 a0, .int .u8 a1, .int .u8 a2, .int .u8 a3, .int .u8 a4, .int .u8 a5, .bool uv, .int .u64 uh, .int .u64 ul, .int .u8 b0, .int .u8 b1, .int .u8 b2, .int .u8 b3, .int .u8 b4, .int .u8 b5, .bool vv, .int .u64 vh, .int .u64 vl], .agg #[.int .u8 m0, .int .u8 m1, .int .u8 m2, .int .u8 m3, .int .u8 m4, .int .u8 m5], .agg #[.int .i64 (2), .int .u8 m0, .int .u8 m1, .int .u8 m2, .int .u8 m3, .int .u8 m4, .int .u8 m5, .bool vv, .int .u64 vh, .int .u64 vl, .int .u8 a0, .int .u8 a1, .int .u8 a2, .int .u8 a3, .int .u8 a4, .int .u8 a5, .bool uv, .int .u64 uh, .int .u64 ul], .bool false, .bool false, .bool false, .agg #[.int .i64 (op), .int .u8 a0, .int .u8 a1, .int .u8 a2, .int .u8 a3, .int .u8 a4, .int .u8 a5, .bool uv, .int .u64 uh, .int .u64 ul, .int .u8 b0, .int .u8 b1, .int .u8 b2, .int .u8 b3, .int .u8 b4, .int .u8 b5, .bool vv, .int .u64 vh, .int .u64 vl], .bool (sameA uv vv uh ul vh vl), .agg #[.int .i64 (op), .int .u8 a0, .int .u8 a1, .int .u8 a2, .int .u8 a3, .int .u8 a4, .int .u8 a5, .bool uv, .int .u64 uh, .int .u64 ul, .int .u8 b0, .int .u8 b1, .int .u8 b2, .int .u8 b3, .int .u8 b4, .int .u8 b5, .bool vv, .int .u64 vh, .int .u64 vl], .bool (sameA uv vv uh ul vh vl), .bool false, .bool false, .bool false, .agg #[.int .u8 f0, .int .u8 f1, .int .u8 f2, .int .u8 f3, .int .u8 f4, .int .u8 f5], .agg #[.bool sv, .int .u64 sh, .int .u64 sl], .agg #[.bool sv, .int .u64 sh, .int .u64 sl], .agg #[.int .i64 (1), .int .u8 f0, .int .u8 f1, .int .u8 f2, .int .u8 f3, .int .u8 f4, .int .u8 f5, .bool sv, .int .u64 sh, .int .u64 sl, .int .u8 0, .int .u8 0, .int .u8 0, .int .u8 0, .int .u8 0, .int .u8 0, .bool sv, .int .u64 sh, .int .u64 sl], .bool true, .bool false, .bool false, x63, x64, x65, x66, x67, x68, x69, x70, x71, x72, x73, x74, x75, x76, x77, x78, x79, x80, x81, x82, x83, x84, x85, x86, x87, x88, x89, x90, x91, x92, x93, x94, x95], defers := [] } W) :
    (regionAt Try.f5 4).wp Try.prog Q { tmps := #[x0, x1, x2, x3, x4, x5, .pointer (some ⟨gF, 0, none⟩), .pointer (some ⟨gM, 0, none⟩), .pointer (some ⟨gS, 0, none⟩), .pointer (some ⟨gD, 0, none⟩), .bool false, .pointer (some ⟨q1, 0, none⟩), .pointer (some ⟨q2, 0, none⟩), .pointer (some ⟨q3, 0, none⟩), .pointer (some ⟨q4, 0, none⟩), x15, x16, x17, x18, x19, x20, x21, x22, x23, x24, x25, x26, x27, x28, x29, x30, x31, x32, x33, x34, x35, x36, x37, x38, x39, x40, x41, x42, x43, x44, x45, x46, x47, x48, x49, x50, x51, x52, x53, x54, x55, x56, x57, x58, x59, x60, x61, x62, x63, x64, x65, x66, x67, x68, x69, x70, x71, x72, x73, x74, x75, x76, x77, x78, x79, x80, x81, x82, x83, x84, x85, x86, x87, x88, x89, x90, x91, x92, x93, x94, x95], defers := [] } w0 := by
  conv in (regionAt _ _) => whnf
  refine Code.wp_mono (Q := fun e a w => match e with | .normal => Q .normal a w | _ => False) (fun e a w hx => by cases e <;> first | exact hx | exact hx.elim) ?_
  have j1 := fun w => eq_arp 1 f0 f1 f2 f3 f4 f5 sv sh sl 0 0 0 0 0 0 dv dh dl w
  have j2 := fun w => eq_arp 2 m0 m1 m2 m3 m4 m5 dv dh dl f0 f1 f2 f3 f4 f5 sv sh sl w
  have j3 := fun w => eq_arp 2 m0 m1 m2 m3 m4 m5 vv vh vl a0 a1 a2 a3 a4 a5 uv uh ul w
  refine wp_region_tail 35 (fun _ => False) (fun _ => True) (Stays (fun _ => False)) [isV (.agg #[.int .i64 (1), .int .u8 f0, .int .u8 f1, .int .u8 f2, .int .u8 f3, .int .u8 f4, .int .u8 f5, .bool sv, .int .u64 sh, .int .u64 sl, .int .u8 0, .int .u8 0, .int .u8 0, .int .u8 0, .int .u8 0, .int .u8 0, .bool dv, .int .u64 dh, .int .u64 dl]), isV (.agg #[.int .u8 f0, .int .u8 f1, .int .u8 f2, .int .u8 f3, .int .u8 f4, .int .u8 f5]), isV (.agg #[.bool sv, .int .u64 sh, .int .u64 sl]), isV (.agg #[.bool dv, .int .u64 dh, .int .u64 dl]), isV (.agg #[.int .i64 (1), .int .u8 f0, .int .u8 f1, .int .u8 f2, .int .u8 f3, .int .u8 f4, .int .u8 f5, .bool sv, .int .u64 sh, .int .u64 sl, .int .u8 0, .int .u8 0, .int .u8 0, .int .u8 0, .int .u8 0, .int .u8 0, .bool dv, .int .u64 dh, .int .u64 dl]), isV (.bool false), isV (.bool false), isV (.agg #[.int .i64 (2), .int .u8 m0, .int .u8 m1, .int .u8 m2, .int .u8 m3, .int .u8 m4, .int .u8 m5, .bool dv, .int .u64 dh, .int .u64 dl, .int .u8 f0, .int .u8 f1, .int .u8 f2, .int .u8 f3, .int .u8 f4, .int .u8 f5, .bool sv, .int .u64 sh, .int .u64 sl]), isV (.agg #[.int .i64 (1), .int .u8 f0, .int .u8 f1, .int .u8 f2, .int .u8 f3, .int .u8 f4, .int .u8 f5, .bool sv, .int .u64 sh, .int .u64 sl, .int .u8 0, .int .u8 0, .int .u8 0, .int .u8 0, .int .u8 0, .int .u8 0, .bool dv, .int .u64 dh, .int .u64 dl]), isV (.agg #[.int .u8 m0, .int .u8 m1, .int .u8 m2, .int .u8 m3, .int .u8 m4, .int .u8 m5]), isV (.agg #[.int .i64 (2), .int .u8 m0, .int .u8 m1, .int .u8 m2, .int .u8 m3, .int .u8 m4, .int .u8 m5, .bool dv, .int .u64 dh, .int .u64 dl, .int .u8 f0, .int .u8 f1, .int .u8 f2, .int .u8 f3, .int .u8 f4, .int .u8 f5, .bool sv, .int .u64 sh, .int .u64 sl]), isV (.bool false), isV (.bool false), isV (.bool false), isV (.agg #[.int .i64 (2), .int .u8 m0, .int .u8 m1, .int .u8 m2, .int .u8 m3, .int .u8 m4, .int .u8 m5, .bool vv, .int .u64 vh, .int .u64 vl, .int .u8 a0, .int .u8 a1, .int .u8 a2, .int .u8 a3, .int .u8 a4, .int .u8 a5, .bool uv, .int .u64 uh, .int .u64 ul]), isV (.agg #[.int .i64 (op), .int .u8 a0, .int .u8 a1, .int .u8 a2, .int .u8 a3, .int .u8 a4, .int .u8 a5, .bool uv, .int .u64 uh, .int .u64 ul, .int .u8 b0, .int .u8 b1, .int .u8 b2, .int .u8 b3, .int .u8 b4, .int .u8 b5, .bool vv, .int .u64 vh, .int .u64 vl]), isV (.agg #[.int .u8 m0, .int .u8 m1, .int .u8 m2, .int .u8 m3, .int .u8 m4, .int .u8 m5]), isV (.agg #[.int .i64 (2), .int .u8 m0, .int .u8 m1, .int .u8 m2, .int .u8 m3, .int .u8 m4, .int .u8 m5, .bool vv, .int .u64 vh, .int .u64 vl, .int .u8 a0, .int .u8 a1, .int .u8 a2, .int .u8 a3, .int .u8 a4, .int .u8 a5, .bool uv, .int .u64 uh, .int .u64 ul]), isV (.bool false), isV (.bool false), isV (.bool false), isV (.agg #[.int .i64 (op), .int .u8 a0, .int .u8 a1, .int .u8 a2, .int .u8 a3, .int .u8 a4, .int .u8 a5, .bool uv, .int .u64 uh, .int .u64 ul, .int .u8 b0, .int .u8 b1, .int .u8 b2, .int .u8 b3, .int .u8 b4, .int .u8 b5, .bool vv, .int .u64 vh, .int .u64 vl]), isV (.bool (sameA uv vv uh ul vh vl)), isV (.agg #[.int .i64 (op), .int .u8 a0, .int .u8 a1, .int .u8 a2, .int .u8 a3, .int .u8 a4, .int .u8 a5, .bool uv, .int .u64 uh, .int .u64 ul, .int .u8 b0, .int .u8 b1, .int .u8 b2, .int .u8 b3, .int .u8 b4, .int .u8 b5, .bool vv, .int .u64 vh, .int .u64 vl]), isV (.bool (sameA uv vv uh ul vh vl)), isV (.bool false), isV (.bool false), isV (.bool false), isV (.agg #[.int .u8 f0, .int .u8 f1, .int .u8 f2, .int .u8 f3, .int .u8 f4, .int .u8 f5]), isV (.agg #[.bool sv, .int .u64 sh, .int .u64 sl]), isV (.agg #[.bool sv, .int .u64 sh, .int .u64 sl]), isV (.agg #[.int .i64 (1), .int .u8 f0, .int .u8 f1, .int .u8 f2, .int .u8 f3, .int .u8 f4, .int .u8 f5, .bool sv, .int .u64 sh, .int .u64 sl, .int .u8 0, .int .u8 0, .int .u8 0, .int .u8 0, .int .u8 0, .int .u8 0, .bool sv, .int .u64 sh, .int .u64 sl]), isV (.bool true), isV (.bool false), isV (.bool false)] (by kernel_rfl) (by kernel_rfl) (by kernel_rfl) (by kernel_rfl) trivial (fun _ h => False.elim h) (fun _ _ _ h => h) ?spr1 ?enr1
  case spr1 =>
    -- 0: Op.load 28 t11
    refine specs_cons (cst _ rfl fun env ρ W hW hI hF hS => ?_) ?_
    · have e11 := hS.at 11 (by kernel_rfl) (slot_base (by kernel_rfl))
      exact run_load_box rfl e11 Try.underlying28 rfl (by kernel_rfl) (hq1.under hW.of_drew.below hq1.inside)
    -- 1: Op.load 23 t6
    refine specs_cons (cst _ rfl fun env ρ W hW hI hF hS => ?_) ?_
    · have e6 := hS.at 6 (by kernel_rfl) (slot_base (by kernel_rfl))
      exact run_load_box rfl e6 Try.underlying23 rfl (by kernel_rfl) (hFm.under hW.of_drew.below hFm.inside)
    -- 2: Op.load 26 t8
    refine specs_cons (cst _ rfl fun env ρ W hW hI hF hS => ?_) ?_
    · have e8 := hS.at 8 (by kernel_rfl) (slot_base (by kernel_rfl))
      exact run_load_box rfl e8 Try.underlying26 rfl (by kernel_rfl) (hS0.under hW.of_drew.below hS0.inside)
    -- 3: Op.load 26 t9
    refine specs_cons (cst _ rfl fun env ρ W hW hI hF hS => ?_) ?_
    · have e9 := hS.at 9 (by kernel_rfl) (slot_base (by kernel_rfl))
      exact run_load_box rfl e9 Try.underlying26 rfl (by kernel_rfl) (hD.under hW.of_drew.below hD.inside)
    -- 4: Op.call { value (Operand.func 20), args := #[t29, t30, t31], argTypes 
    refine specs_cons (call_cst _ rfl (fun _ _ _ h => h) (f := ?ff4r1) (args := ?aa4r1) fun env ρ W hW hI hF hS => ⟨?ru4r1, ?ca4r1⟩) ?nx4r1
    case ru4r1 =>
      have hc := stays_cells hW; have cf := hS.func; have e29 := (hS.at 29 (by kernel_rfl) (v := env 1) (by kernel_rfl)).trans (hF 1 (by kernel_rfl)); have e30 := (hS.at 30 (by kernel_rfl) (v := env 2) (by kernel_rfl)).trans (hF 2 (by kernel_rfl)); have e31 := (hS.at 31 (by kernel_rfl) (v := env 3) (by kernel_rfl)).trans (hF 3 (by kernel_rfl))
      go_simp
      constructor <;> rfl
    case ca4r1 => exact rrequest_any f0 f1 f2 f3 f4 f5 sv sh sl dv dh dl W
    -- 5: Op.binOp BinOp.neq 28 t28 t32 28
    refine specs_cons (cst _ rfl fun env ρ W hW hI hF hS => ?_) ?_
    · have hc := stays_cells hW; have e28 := (hS.at 28 (by kernel_rfl) (v := env 0) (by kernel_rfl)).trans (hF 0 (by kernel_rfl)); have e32 := (hS.at 32 (by kernel_rfl) (v := env 4) (by kernel_rfl)).trans (hF 4 (by kernel_rfl))
      go_simp
      try with_reducible rfl
    -- 6: Op.move t33
    refine specs_cons (cst _ rfl fun env ρ W hW hI hF hS => ?_) ?_
    · have e33 := (hS.at 33 (by kernel_rfl) (v := env 5) (by kernel_rfl)).trans (hF 5 (by kernel_rfl))
      go_simp
      try with_reducible rfl
    -- 7: Op.load 28 t13 [6 False]
    refine specs_cons (cst_on _ rfl rfl fun env ρ W hW hI hF hS => ⟨?_, ?_⟩) ?_
    · have e34 := (hS.at 34 (by kernel_rfl) (v := env 6) (by kernel_rfl)).trans (hF 6 (by kernel_rfl))
      exact e34
    · have e13 := hS.at 13 (by kernel_rfl) (slot_base (by kernel_rfl))
      exact run_load_box rfl e13 Try.underlying28 rfl (by kernel_rfl) (hq3.under hW.of_drew.below hq3.inside)
    -- 8: Op.load 28 t11 [6 False]
    refine specs_cons (cst_on _ rfl rfl fun env ρ W hW hI hF hS => ⟨?_, ?_⟩) ?_
    · have e34 := (hS.at 34 (by kernel_rfl) (v := env 6) (by kernel_rfl)).trans (hF 6 (by kernel_rfl))
      exact e34
    · have e11 := hS.at 11 (by kernel_rfl) (slot_base (by kernel_rfl))
      exact run_load_box rfl e11 Try.underlying28 rfl (by kernel_rfl) (hq1.under hW.of_drew.below hq1.inside)
    -- 9: Op.load 23 t7 [6 False]
    refine specs_cons (cst_on _ rfl rfl fun env ρ W hW hI hF hS => ⟨?_, ?_⟩) ?_
    · have e34 := (hS.at 34 (by kernel_rfl) (v := env 6) (by kernel_rfl)).trans (hF 6 (by kernel_rfl))
      exact e34
    · have e7 := hS.at 7 (by kernel_rfl) (slot_base (by kernel_rfl))
      exact run_load_box rfl e7 Try.underlying23 rfl (by kernel_rfl) (hM.under hW.of_drew.below hM.inside)
    -- 10: Op.call { value (Operand.func 21), args := #[t36, t37], argTypes := #[ [6 False]
    refine specs_cons (call_cst_on _ rfl rfl (fun _ _ _ h => h) (f := ?ff10r1) (args := ?aa10r1) fun env ρ W hW hI hF hS => ⟨?gu10r1, ?ru10r1, ?ca10r1⟩) ?nx10r1
    case gu10r1 =>
      have e34 := (hS.at 34 (by kernel_rfl) (v := env 6) (by kernel_rfl)).trans (hF 6 (by kernel_rfl))
      exact e34
    case ru10r1 =>
      have hc := stays_cells hW; have cf := hS.func; have e36 := (hS.at 36 (by kernel_rfl) (v := env 8) (by kernel_rfl)).trans (hF 8 (by kernel_rfl)); have e37 := (hS.at 37 (by kernel_rfl) (v := env 9) (by kernel_rfl)).trans (hF 9 (by kernel_rfl)); have e34 := (hS.at 34 (by kernel_rfl) (v := env 6) (by kernel_rfl)).trans (hF 6 (by kernel_rfl))
      go_simp
      constructor <;> rfl
    case ca10r1 => exact rreply_any 1 f0 f1 f2 f3 f4 f5 sv sh sl 0 0 0 0 0 0 dv dh dl m0 m1 m2 m3 m4 m5 W
    -- 11: Op.binOp BinOp.neq 28 t35 t38 28 [6 False]
    refine specs_cons (cst_on _ rfl rfl fun env ρ W hW hI hF hS => ⟨?_, ?_⟩) ?_
    · have e34 := (hS.at 34 (by kernel_rfl) (v := env 6) (by kernel_rfl)).trans (hF 6 (by kernel_rfl))
      exact e34
    · have hc := stays_cells hW; have e35 := (hS.at 35 (by kernel_rfl) (v := env 7) (by kernel_rfl)).trans (hF 7 (by kernel_rfl)); have e38 := (hS.at 38 (by kernel_rfl) (v := env 10) (by kernel_rfl)).trans (hF 10 (by kernel_rfl)); have e34 := (hS.at 34 (by kernel_rfl) (v := env 6) (by kernel_rfl)).trans (hF 6 (by kernel_rfl))
      go_simp
      try with_reducible rfl
    -- 12: Op.pick t34 (const (Value.bool true)) t39
    refine specs_cons (cst _ rfl fun env ρ W hW hI hF hS => ?_) ?_
    · have cc := hS.const; have e34 := (hS.at 34 (by kernel_rfl) (v := env 6) (by kernel_rfl)).trans (hF 6 (by kernel_rfl)); have e39 := (hS.at 39 (by kernel_rfl) (v := env 11) (by kernel_rfl)).trans (hF 11 (by kernel_rfl))
      go_simp
      try with_reducible rfl
    -- 13: Op.move t40
    refine specs_cons (cst _ rfl fun env ρ W hW hI hF hS => ?_) ?_
    · have e40 := (hS.at 40 (by kernel_rfl) (v := env 12) (by kernel_rfl)).trans (hF 12 (by kernel_rfl))
      go_simp
      try with_reducible rfl
    -- 14: Op.load 28 t14 [13 False]
    refine specs_cons (cst_on _ rfl rfl fun env ρ W hW hI hF hS => ⟨?_, ?_⟩) ?_
    · have e41 := (hS.at 41 (by kernel_rfl) (v := env 13) (by kernel_rfl)).trans (hF 13 (by kernel_rfl))
      exact e41
    · have e14 := hS.at 14 (by kernel_rfl) (slot_base (by kernel_rfl))
      exact run_load_box rfl e14 Try.underlying28 rfl (by kernel_rfl) (hq4.under hW.of_drew.below hq4.inside)
    -- 15: Op.load 28 t12 [13 False]
    refine specs_cons (cst_on _ rfl rfl fun env ρ W hW hI hF hS => ⟨?_, ?_⟩) ?_
    · have e41 := (hS.at 41 (by kernel_rfl) (v := env 13) (by kernel_rfl)).trans (hF 13 (by kernel_rfl))
      exact e41
    · have e12 := hS.at 12 (by kernel_rfl) (slot_base (by kernel_rfl))
      exact run_load_box rfl e12 Try.underlying28 rfl (by kernel_rfl) (hq2.under hW.of_drew.below hq2.inside)
    -- 16: Op.load 23 t7 [13 False]
    refine specs_cons (cst_on _ rfl rfl fun env ρ W hW hI hF hS => ⟨?_, ?_⟩) ?_
    · have e41 := (hS.at 41 (by kernel_rfl) (v := env 13) (by kernel_rfl)).trans (hF 13 (by kernel_rfl))
      exact e41
    · have e7 := hS.at 7 (by kernel_rfl) (slot_base (by kernel_rfl))
      exact run_load_box rfl e7 Try.underlying23 rfl (by kernel_rfl) (hM.under hW.of_drew.below hM.inside)
    -- 17: Op.call { value (Operand.func 21), args := #[t43, t44], argTypes := #[ [13 False]
    refine specs_cons (call_cst_on _ rfl rfl (fun _ _ _ h => h) (f := ?ff17r1) (args := ?aa17r1) fun env ρ W hW hI hF hS => ⟨?gu17r1, ?ru17r1, ?ca17r1⟩) ?nx17r1
    case gu17r1 =>
      have e41 := (hS.at 41 (by kernel_rfl) (v := env 13) (by kernel_rfl)).trans (hF 13 (by kernel_rfl))
      exact e41
    case ru17r1 =>
      have hc := stays_cells hW; have cf := hS.func; have e43 := (hS.at 43 (by kernel_rfl) (v := env 15) (by kernel_rfl)).trans (hF 15 (by kernel_rfl)); have e44 := (hS.at 44 (by kernel_rfl) (v := env 16) (by kernel_rfl)).trans (hF 16 (by kernel_rfl)); have e41 := (hS.at 41 (by kernel_rfl) (v := env 13) (by kernel_rfl)).trans (hF 13 (by kernel_rfl))
      go_simp
      constructor <;> rfl
    case ca17r1 => exact rreply_any op a0 a1 a2 a3 a4 a5 uv uh ul b0 b1 b2 b3 b4 b5 vv vh vl m0 m1 m2 m3 m4 m5 W
    -- 18: Op.binOp BinOp.neq 28 t42 t45 28 [13 False]
    refine specs_cons (cst_on _ rfl rfl fun env ρ W hW hI hF hS => ⟨?_, ?_⟩) ?_
    · have e41 := (hS.at 41 (by kernel_rfl) (v := env 13) (by kernel_rfl)).trans (hF 13 (by kernel_rfl))
      exact e41
    · have hc := stays_cells hW; have e42 := (hS.at 42 (by kernel_rfl) (v := env 14) (by kernel_rfl)).trans (hF 14 (by kernel_rfl)); have e45 := (hS.at 45 (by kernel_rfl) (v := env 17) (by kernel_rfl)).trans (hF 17 (by kernel_rfl)); have e41 := (hS.at 41 (by kernel_rfl) (v := env 13) (by kernel_rfl)).trans (hF 13 (by kernel_rfl))
      go_simp
      try with_reducible rfl
    -- 19: Op.pick t41 (const (Value.bool true)) t46
    refine specs_cons (cst _ rfl fun env ρ W hW hI hF hS => ?_) ?_
    · have cc := hS.const; have e41 := (hS.at 41 (by kernel_rfl) (v := env 13) (by kernel_rfl)).trans (hF 13 (by kernel_rfl)); have e46 := (hS.at 46 (by kernel_rfl) (v := env 18) (by kernel_rfl)).trans (hF 18 (by kernel_rfl))
      go_simp
      try with_reducible rfl
    -- 20: Op.move t47
    refine specs_cons (cst _ rfl fun env ρ W hW hI hF hS => ?_) ?_
    · have e47 := (hS.at 47 (by kernel_rfl) (v := env 19) (by kernel_rfl)).trans (hF 19 (by kernel_rfl))
      go_simp
      try with_reducible rfl
    -- 21: Op.load 28 t12 [20 False]
    refine specs_cons (cst_on _ rfl rfl fun env ρ W hW hI hF hS => ⟨?_, ?_⟩) ?_
    · have e48 := (hS.at 48 (by kernel_rfl) (v := env 20) (by kernel_rfl)).trans (hF 20 (by kernel_rfl))
      exact e48
    · have e12 := hS.at 12 (by kernel_rfl) (slot_base (by kernel_rfl))
      exact run_load_box rfl e12 Try.underlying28 rfl (by kernel_rfl) (hq2.under hW.of_drew.below hq2.inside)
    -- 22: Op.call { value (Operand.func 22), args := #[t49], argTypes := #[28] } [20 False]
    refine specs_cons (call_cst_on _ rfl rfl (fun _ _ _ h => h) (f := ?ff22r1) (args := ?aa22r1) fun env ρ W hW hI hF hS => ⟨?gu22r1, ?ru22r1, ?ca22r1⟩) ?nx22r1
    case gu22r1 =>
      have e48 := (hS.at 48 (by kernel_rfl) (v := env 20) (by kernel_rfl)).trans (hF 20 (by kernel_rfl))
      exact e48
    case ru22r1 =>
      have hc := stays_cells hW; have cf := hS.func; have e49 := (hS.at 49 (by kernel_rfl) (v := env 21) (by kernel_rfl)).trans (hF 21 (by kernel_rfl)); have e48 := (hS.at 48 (by kernel_rfl) (v := env 20) (by kernel_rfl)).trans (hF 20 (by kernel_rfl))
      go_simp
      constructor <;> rfl
    case ca22r1 => exact own_any op a0 a1 a2 a3 a4 a5 uv uh ul b0 b1 b2 b3 b4 b5 vv vh vl W
    -- 23: Op.load 28 t12 [20 False]
    refine specs_cons (cst_on _ rfl rfl fun env ρ W hW hI hF hS => ⟨?_, ?_⟩) ?_
    · have e48 := (hS.at 48 (by kernel_rfl) (v := env 20) (by kernel_rfl)).trans (hF 20 (by kernel_rfl))
      exact e48
    · have e12 := hS.at 12 (by kernel_rfl) (slot_base (by kernel_rfl))
      exact run_load_box rfl e12 Try.underlying28 rfl (by kernel_rfl) (hq2.under hW.of_drew.below hq2.inside)
    -- 24: Op.call { value (Operand.func 23), args := #[t51], argTypes := #[28] } [20 False]
    refine specs_cons (call_cst_on _ rfl rfl (fun _ _ _ h => h) (f := ?ff24r1) (args := ?aa24r1) fun env ρ W hW hI hF hS => ⟨?gu24r1, ?ru24r1, ?ca24r1⟩) ?nx24r1
    case gu24r1 =>
      have e48 := (hS.at 48 (by kernel_rfl) (v := env 20) (by kernel_rfl)).trans (hF 20 (by kernel_rfl))
      exact e48
    case ru24r1 =>
      have hc := stays_cells hW; have cf := hS.func; have e51 := (hS.at 51 (by kernel_rfl) (v := env 23) (by kernel_rfl)).trans (hF 23 (by kernel_rfl)); have e48 := (hS.at 48 (by kernel_rfl) (v := env 20) (by kernel_rfl)).trans (hF 20 (by kernel_rfl))
      go_simp
      constructor <;> rfl
    case ca24r1 => exact rown_any op a0 a1 a2 a3 a4 a5 uv uh ul b0 b1 b2 b3 b4 b5 vv vh vl W
    -- 25: Op.binOp BinOp.neq 4 t50 t52 4 [20 False]
    refine specs_cons (cst_on _ rfl rfl fun env ρ W hW hI hF hS => ⟨?_, ?_⟩) ?_
    · have e48 := (hS.at 48 (by kernel_rfl) (v := env 20) (by kernel_rfl)).trans (hF 20 (by kernel_rfl))
      exact e48
    · have hc := stays_cells hW; have e50 := (hS.at 50 (by kernel_rfl) (v := env 22) (by kernel_rfl)).trans (hF 22 (by kernel_rfl)); have e52 := (hS.at 52 (by kernel_rfl) (v := env 24) (by kernel_rfl)).trans (hF 24 (by kernel_rfl)); have e48 := (hS.at 48 (by kernel_rfl) (v := env 20) (by kernel_rfl)).trans (hF 20 (by kernel_rfl))
      go_simp
      try with_reducible rfl
    -- 26: Op.pick t48 (const (Value.bool true)) t53
    refine specs_cons (cst _ rfl fun env ρ W hW hI hF hS => ?_) ?_
    · have cc := hS.const; have e48 := (hS.at 48 (by kernel_rfl) (v := env 20) (by kernel_rfl)).trans (hF 20 (by kernel_rfl)); have e53 := (hS.at 53 (by kernel_rfl) (v := env 25) (by kernel_rfl)).trans (hF 25 (by kernel_rfl))
      go_simp
      try with_reducible rfl
    -- 27: Op.move t54
    refine specs_cons (cst _ rfl fun env ρ W hW hI hF hS => ?_) ?_
    · have e54 := (hS.at 54 (by kernel_rfl) (v := env 26) (by kernel_rfl)).trans (hF 26 (by kernel_rfl))
      go_simp
      try with_reducible rfl
    -- 28: Op.load 23 t6 [27 False]
    refine specs_cons (cst_on _ rfl rfl fun env ρ W hW hI hF hS => ⟨?_, ?_⟩) ?_
    · have e55 := (hS.at 55 (by kernel_rfl) (v := env 27) (by kernel_rfl)).trans (hF 27 (by kernel_rfl))
      exact e55
    · have e6 := hS.at 6 (by kernel_rfl) (slot_base (by kernel_rfl))
      exact run_load_box rfl e6 Try.underlying23 rfl (by kernel_rfl) (hFm.under hW.of_drew.below hFm.inside)
    -- 29: Op.load 26 t8 [27 False]
    refine specs_cons (cst_on _ rfl rfl fun env ρ W hW hI hF hS => ⟨?_, ?_⟩) ?_
    · have e55 := (hS.at 55 (by kernel_rfl) (v := env 27) (by kernel_rfl)).trans (hF 27 (by kernel_rfl))
      exact e55
    · have e8 := hS.at 8 (by kernel_rfl) (slot_base (by kernel_rfl))
      exact run_load_box rfl e8 Try.underlying26 rfl (by kernel_rfl) (hS0.under hW.of_drew.below hS0.inside)
    -- 30: Op.load 26 t8 [27 False]
    refine specs_cons (cst_on _ rfl rfl fun env ρ W hW hI hF hS => ⟨?_, ?_⟩) ?_
    · have e55 := (hS.at 55 (by kernel_rfl) (v := env 27) (by kernel_rfl)).trans (hF 27 (by kernel_rfl))
      exact e55
    · have e8 := hS.at 8 (by kernel_rfl) (slot_base (by kernel_rfl))
      exact run_load_box rfl e8 Try.underlying26 rfl (by kernel_rfl) (hS0.under hW.of_drew.below hS0.inside)
    -- 31: Op.call { value (Operand.func 18), args := #[t56, t57, t58], argTypes  [27 False]
    refine specs_cons (call_cst_on _ rfl rfl (fun _ _ _ h => h) (f := ?ff31r1) (args := ?aa31r1) fun env ρ W hW hI hF hS => ⟨?gu31r1, ?ru31r1, ?ca31r1⟩) ?nx31r1
    case gu31r1 =>
      have e55 := (hS.at 55 (by kernel_rfl) (v := env 27) (by kernel_rfl)).trans (hF 27 (by kernel_rfl))
      exact e55
    case ru31r1 =>
      have hc := stays_cells hW; have cf := hS.func; have e56 := (hS.at 56 (by kernel_rfl) (v := env 28) (by kernel_rfl)).trans (hF 28 (by kernel_rfl)); have e57 := (hS.at 57 (by kernel_rfl) (v := env 29) (by kernel_rfl)).trans (hF 29 (by kernel_rfl)); have e58 := (hS.at 58 (by kernel_rfl) (v := env 30) (by kernel_rfl)).trans (hF 30 (by kernel_rfl)); have e55 := (hS.at 55 (by kernel_rfl) (v := env 27) (by kernel_rfl)).trans (hF 27 (by kernel_rfl))
      go_simp
      constructor <;> rfl
    case ca31r1 => exact request_any f0 f1 f2 f3 f4 f5 sv sh sl sv sh sl W
    -- 32: Op.call { value (Operand.func 22), args := #[t59], argTypes := #[28] } [27 False]
    refine specs_cons (call_cst_on _ rfl rfl (fun _ _ _ h => h) (f := ?ff32r1) (args := ?aa32r1) fun env ρ W hW hI hF hS => ⟨?gu32r1, ?ru32r1, ?ca32r1⟩) ?nx32r1
    case gu32r1 =>
      have e55 := (hS.at 55 (by kernel_rfl) (v := env 27) (by kernel_rfl)).trans (hF 27 (by kernel_rfl))
      exact e55
    case ru32r1 =>
      have hc := stays_cells hW; have cf := hS.func; have e59 := (hS.at 59 (by kernel_rfl) (v := env 31) (by kernel_rfl)).trans (hF 31 (by kernel_rfl)); have e55 := (hS.at 55 (by kernel_rfl) (v := env 27) (by kernel_rfl)).trans (hF 27 (by kernel_rfl))
      go_simp
      constructor <;> rfl
    case ca32r1 => exact (own_any 1 f0 f1 f2 f3 f4 f5 sv sh sl 0 0 0 0 0 0 sv sh sl W).mono (fun _ _ ⟨h1, h2⟩ => ⟨h1.trans (by rw [sameA_refl]), h2⟩)
    -- 33: Op.unOp UnOp.not 4 t60 [27 False]
    refine specs_cons (cst_on _ rfl rfl fun env ρ W hW hI hF hS => ⟨?_, ?_⟩) ?_
    · have e55 := (hS.at 55 (by kernel_rfl) (v := env 27) (by kernel_rfl)).trans (hF 27 (by kernel_rfl))
      exact e55
    · have e60 := (hS.at 60 (by kernel_rfl) (v := env 32) (by kernel_rfl)).trans (hF 32 (by kernel_rfl)); have e55 := (hS.at 55 (by kernel_rfl) (v := env 27) (by kernel_rfl)).trans (hF 27 (by kernel_rfl))
      go_simp
      try with_reducible rfl
    -- 34: Op.pick t55 (const (Value.bool true)) t61
    refine specs_cons (cst _ rfl fun env ρ W hW hI hF hS => ?_) ?_
    · have cc := hS.const; have e55 := (hS.at 55 (by kernel_rfl) (v := env 27) (by kernel_rfl)).trans (hF 27 (by kernel_rfl)); have e61 := (hS.at 61 (by kernel_rfl) (v := env 33) (by kernel_rfl)).trans (hF 33 (by kernel_rfl))
      go_simp
      try with_reducible rfl
    exact specs_nil
  case enr1 =>
    intro env W K
    have f0 : env 0 = _ := K.facts 0 (by decide) rfl
    have f1 : env 1 = _ := K.facts 1 (by decide) rfl
    have f2 : env 2 = _ := K.facts 2 (by decide) rfl
    have f3 : env 3 = _ := K.facts 3 (by decide) rfl
    have f4 : env 4 = _ := K.facts 4 (by decide) rfl
    have f5 : env 5 = _ := K.facts 5 (by decide) rfl
    have f6 : env 6 = _ := K.facts 6 (by decide) rfl
    have f7 : env 7 = _ := K.facts 7 (by decide) rfl
    have f8 : env 8 = _ := K.facts 8 (by decide) rfl
    have f9 : env 9 = _ := K.facts 9 (by decide) rfl
    have f10 : env 10 = _ := K.facts 10 (by decide) rfl
    have f11 : env 11 = _ := K.facts 11 (by decide) rfl
    have f12 : env 12 = _ := K.facts 12 (by decide) rfl
    have f13 : env 13 = _ := K.facts 13 (by decide) rfl
    have f14 : env 14 = _ := K.facts 14 (by decide) rfl
    have f15 : env 15 = _ := K.facts 15 (by decide) rfl
    have f16 : env 16 = _ := K.facts 16 (by decide) rfl
    have f17 : env 17 = _ := K.facts 17 (by decide) rfl
    have f18 : env 18 = _ := K.facts 18 (by decide) rfl
    have f19 : env 19 = _ := K.facts 19 (by decide) rfl
    have f20 : env 20 = _ := K.facts 20 (by decide) rfl
    have f21 : env 21 = _ := K.facts 21 (by decide) rfl
    have f22 : env 22 = _ := K.facts 22 (by decide) rfl
    have f23 : env 23 = _ := K.facts 23 (by decide) rfl
    have f24 : env 24 = _ := K.facts 24 (by decide) rfl
    have f25 : env 25 = _ := K.facts 25 (by decide) rfl
    have f26 : env 26 = _ := K.facts 26 (by decide) rfl
    have f27 : env 27 = _ := K.facts 27 (by decide) rfl
    have f28 : env 28 = _ := K.facts 28 (by decide) rfl
    have f29 : env 29 = _ := K.facts 29 (by decide) rfl
    have f30 : env 30 = _ := K.facts 30 (by decide) rfl
    have f31 : env 31 = _ := K.facts 31 (by decide) rfl
    have f32 : env 32 = _ := K.facts 32 (by decide) rfl
    have f33 : env 33 = _ := K.facts 33 (by decide) rfl
    have f34 : env 34 = _ := K.facts 34 (by decide) rfl
    have hgrow := K.stays.of_drew.below
    clear K
    simp only [List.take_succ_cons, List.take_nil, List.drop_nil, List.drop_succ_cons, putAll, Nat.reduceAdd, wpList]
    simp only [Act.put, List.setIfInBounds_toArray, List.set_cons_succ, List.set_cons_zero, f0, f1, f2, f3, f4, f5, f6, f7, f8, f9, f10, f11, f12, f13, f14, f15, f16, f17, f18, f19, f20, f21, f22, f23, f24, f25, f26, f27, f28, f29, f30, f31, f32, f33, f34]
    clear f0 f1 f2 f3 f4 f5 f6 f7 f8 f9 f10 f11 f12 f13 f14 f15 f16 f17 f18 f19 f20 f21 f22 f23 f24 f25 f26 f27 f28 f29 f30 f31 f32 f33 f34
    exact h W hgrow
end Go.Proofs.Ytghhidpggnbfgaa
