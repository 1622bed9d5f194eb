/-
  EtherTags (layer 4): region 12.
-/
import Derived.Test.YtklolalgbcgdiaaTags11
import Derived.Test.YtklolalgbcgdiaaPart
import Derived.Test.YtklolalgbcgdiaaSame
import Derived.Test.YtklolalgbcgdiaaApp
import Derived.Test.YtklolalgbcgdiaaAwake4
import Derived.Deep.DeepCutAuto
import Derived.Deep.RegionLaw
import Derived.Test.YtklolalgbcgdiaaPart
namespace Go.Proofs.Ytklolalgbcgdiaa
open Go.RowKit

set_option maxRecDepth 100000 in
set_option maxHeartbeats 4000000 in
theorem tags12 (d0 d1 d2 d3 d4 d5 d6 d7 d8 d9 d10 d11 y v : Int) (A : Option Addr) (m c : Nat) (bs : List Int) (g g2 : Nat) (B7 B9 : Addr) (n7 c7 n9 c9 : Nat) (w0 : World) (q : Nat) (AX : Option Addr) (cX : Nat)
    (hbl : bs.length = m) (HN7 : RowKit.Hid (n7 = 14 + m)) (hc7 : n7 ≤ c7) (hc7m : c7 ≤ maxLen) (HN9 : RowKit.Hid (n9 = 18 + m)) (hc9 : n9 ≤ c9) (hc9m : c9 ≤ maxLen)
    (L9a : Lies w0.heap.size (some B9) ([d0, d1, d2, d3, d4, d5, d6, d7, d8, d9, d10, d11].map (Value.int .u8)) w0) (L9b : Lies w0.heap.size (some ⟨B9.block, B9.off + 16, none⟩) ((y / 256 :: y % 256 :: bs).map (Value.int .u8)) w0) (L7a : Lies w0.heap.size (some B7) ([d0, d1, d2, d3, d4, d5, d6, d7, d8, d9, d10, d11].map (Value.int .u8)) w0) (L7b : Lies w0.heap.size (some ⟨B7.block, B7.off + 12, none⟩) ((y / 256 :: y % 256 :: bs).map (Value.int .u8)) w0)
    (hbx : Box q 42 #[.int .u8 d0, .int .u8 d1, .int .u8 d2, .int .u8 d3, .int .u8 d4, .int .u8 d5, .int .u8 d6, .int .u8 d7, .int .u8 d8, .int .u8 d9, .int .u8 d10, .int .u8 d11, .int .i64 0, .int .i64 y, .slice AX m cX] w0) (hlx : Lies w0.heap.size AX (bs.map (Value.int .u8)) w0) (hbf : Box g 42 #[.int .u8 d0, .int .u8 d1, .int .u8 d2, .int .u8 d3, .int .u8 d4, .int .u8 d5, .int .u8 d6, .int .u8 d7, .int .u8 d8, .int .u8 d9, .int .u8 d10, .int .u8 d11, .int .i64 0, .int .i64 y, .slice A m c] w0) (hlf : Lies g A (bs.map (Value.int .u8)) w0)
    {Q : Exit → Act → World → Prop} (s0 s1 s2 s3 s6 s13 s14 s15 s16 s17 s18 s19 s20 s21 s22 s23 s24 s25 s26 s27 s28 s29 s30 s31 s32 s33 s34 s35 s36 s37 s38 s39 s40 s41 s42 s43 s44 s45 s46 s47 s48 s49 s50 s51 s52 s53 s54 s55 s56 s57 s58 s59 s60 s61 s62 s63 s64 s65 s66 s67 s68 s69 s70 s71 s72 s73 s74 s75 s76 s77 s78 s79 s80 s81 s82 s83 s84 s85 s86 s87 s88 s89 s90 s91 s92 : Value)
    (h : ∀ W : World, Below w0.heap.size w0 W → Q .normal { tmps := #[s0, s1, s2, s3, .bool true, .pointer (some ⟨g, 0, none⟩), s6, .slice (some B7) n7 c7, .int .i64 0, .slice (some B9) n9 c9, .int .i64 0, .pointer (some ⟨q, 0, none⟩), .int .i64 0, s13, s14, s15, s16, s17, s18, s19, s20, s21, s22, s23, s24, s25, s26, s27, s28, s29, s30, s31, s32, s33, s34, s35, s36, s37, s38, s39, s40, s41, s42, s43, s44, s45, s46, s47, s48, s49, s50, s51, s52, s53, s54, s55, s56, s57, s58, s59, s60, s61, s62, s63, s64, .slice (some B9) n9 c9, .slice (some B9) 12 c9, .string (strOfNums [d0, d1, d2, d3, d4, d5, d6, d7, d8, d9, d10, d11]), .slice (some B7) n7 c7, .slice (some B7) 12 c7, .string (strOfNums [d0, d1, d2, d3, d4, d5, d6, d7, d8, d9, d10, d11]), .bool true, .bool true, .slice (some B9) n9 c9, .slice (some ⟨B9.block, B9.off + 16, none⟩) (n9 - 16) (c9 - 16), .string (strOfNums (y / 256 :: y % 256 :: bs)), .slice (some B7) n7 c7, .slice (some ⟨B7.block, B7.off + 12, none⟩) (n7 - 12) (c7 - 12), .string (strOfNums (y / 256 :: y % 256 :: bs)), .bool true, .bool true, .bool true, .int .i64 0, .bool true, .bool true, .bool true, .agg #[.int .u8 d0, .int .u8 d1, .int .u8 d2, .int .u8 d3, .int .u8 d4, .int .u8 d5, .int .u8 d6, .int .u8 d7, .int .u8 d8, .int .u8 d9, .int .u8 d10, .int .u8 d11, .int .i64 0, .int .i64 y, .slice AX m cX], .agg #[.int .u8 d0, .int .u8 d1, .int .u8 d2, .int .u8 d3, .int .u8 d4, .int .u8 d5, .int .u8 d6, .int .u8 d7, .int .u8 d8, .int .u8 d9, .int .u8 d10, .int .u8 d11, .int .i64 0, .int .i64 y, .slice A m c], .bool true, .bool true, .bool true, .bool true, .bool true], defers := [] } W) :
    (regionAt Try.f7 12).wp Try.prog Q { tmps := #[s0, s1, s2, s3, .bool false, .pointer (some ⟨g, 0, none⟩), s6, .slice (some B7) n7 c7, .int .i64 0, .slice (some B9) n9 c9, .int .i64 0, .pointer (some ⟨q, 0, none⟩), .int .i64 0, s13, s14, s15, s16, s17, s18, s19, s20, s21, s22, s23, s24, s25, s26, s27, s28, s29, s30, s31, s32, s33, s34, s35, s36, s37, s38, s39, s40, s41, s42, s43, s44, s45, s46, s47, s48, s49, s50, s51, s52, s53, s54, s55, s56, s57, s58, s59, s60, s61, s62, s63, s64, s65, s66, s67, s68, s69, s70, s71, s72, s73, s74, s75, s76, s77, s78, s79, s80, s81, s82, s83, s84, s85, s86, s87, s88, s89, s90, s91, s92], defers := [] } w0 := by
  conv in (regionAt _ _) => whnf
  refine Code.wp_mono (Q := fun e a w => match e with | .normal => Q .normal a w | _ => False) (fun e a w hx => by cases e <;> first | exact hx | exact hx.elim) ?_
  have s7 : (12 : Int) ≤ c7 := by have := HN7.out; omega
  have s9 : (12 : Int) ≤ c9 := by have := HN9.out; omega
  have t9 : (16 : Int) ≤ c9 := by have := HN9.out; omega
  have u7 : (12 : Int) ≤ n7 := by have := HN7.out; omega
  have u9 : (16 : Int) ≤ n9 := by have := HN9.out; omega
  have k7 : ¬ c7 = 12 := by have := HN7.out; omega
  have k9 : ¬ c9 = 16 := by have := HN9.out; omega
  have HLX := Lib.hid (fun W (hW : Stays (fun _ => False) w0.drew W) => lies_grow hlx hW.of_drew.below (Nat.le_refl _))
  have HLF := Lib.hid (fun W (hW : Stays (fun _ => False) w0.drew W) => lies_grow hlf hW.of_drew.below (Nat.le_of_lt hbf.inside))
  have HC1 := Lib.hid (fun W (hW : Stays (fun _ => False) w0.drew W) => conv_bytes (c := c9) (n := 12) Try.underlying33 Try.underlying5 Try.underlying9 (L9a.below hW.of_drew.below) rfl)
  have HC2 := Lib.hid (fun W (hW : Stays (fun _ => False) w0.drew W) => conv_bytes (c := c7) (n := 12) Try.underlying33 Try.underlying5 Try.underlying9 (L7a.below hW.of_drew.below) rfl)
  have HC3 := Lib.hid (fun W (hW : Stays (fun _ => False) w0.drew W) => conv_bytes (c := c9 - 16) (n := n9 - 16) Try.underlying33 Try.underlying5 Try.underlying9 (L9b.below hW.of_drew.below) (by have h := HN9.out; simp; omega))
  have HC4 := Lib.hid (fun W (hW : Stays (fun _ => False) w0.drew W) => conv_bytes (c := c7 - 12) (n := n7 - 12) Try.underlying33 Try.underlying5 Try.underlying9 (L7b.below hW.of_drew.below) (by have h := HN7.out; simp; omega))
  have hin1 := hbx.inside
  have hin2 := hbf.inside
  have hbx_0 := hbx.at_ 0; have hbx_1 := hbx.at_ 1; have hbx_2 := hbx.at_ 2; have hbx_3 := hbx.at_ 3; have hbx_4 := hbx.at_ 4; have hbx_5 := hbx.at_ 5; have hbx_6 := hbx.at_ 6; have hbx_7 := hbx.at_ 7; have hbx_8 := hbx.at_ 8; have hbx_9 := hbx.at_ 9; have hbx_10 := hbx.at_ 10; have hbx_11 := hbx.at_ 11; have hbx_12 := hbx.at_ 12; have hbx_13 := hbx.at_ 13; have hbx_14 := hbx.at_ 14
  have hbf_0 := hbf.at_ 0; have hbf_1 := hbf.at_ 1; have hbf_2 := hbf.at_ 2; have hbf_3 := hbf.at_ 3; have hbf_4 := hbf.at_ 4; have hbf_5 := hbf.at_ 5; have hbf_6 := hbf.at_ 6; have hbf_7 := hbf.at_ 7; have hbf_8 := hbf.at_ 8; have hbf_9 := hbf.at_ 9; have hbf_10 := hbf.at_ 10; have hbf_11 := hbf.at_ 11; have hbf_12 := hbf.at_ 12; have hbf_13 := hbf.at_ 13; have hbf_14 := hbf.at_ 14
  refine wp_region_tail 29 (fun _ => False) (fun _ => True) (Stays (fun _ => False)) [isV (.slice (some B9) n9 c9), isV (.slice (some B9) 12 c9), isV (.string (strOfNums [d0, d1, d2, d3, d4, d5, d6, d7, d8, d9, d10, d11])), isV (.slice (some B7) n7 c7), isV (.slice (some B7) 12 c7), isV (.string (strOfNums [d0, d1, d2, d3, d4, d5, d6, d7, d8, d9, d10, d11])), isV (.bool true), isV (.bool true), isV (.slice (some B9) n9 c9), isV (.slice (some ⟨B9.block, B9.off + 16, none⟩) (n9 - 16) (c9 - 16)), isV (.string (strOfNums (y / 256 :: y % 256 :: bs))), isV (.slice (some B7) n7 c7), isV (.slice (some ⟨B7.block, B7.off + 12, none⟩) (n7 - 12) (c7 - 12)), isV (.string (strOfNums (y / 256 :: y % 256 :: bs))), isV (.bool true), isV (.bool true), isV (.bool true), isV (.int .i64 0), isV (.bool true), isV (.bool true), isV (.bool true), isV (.agg #[.int .u8 d0, .int .u8 d1, .int .u8 d2, .int .u8 d3, .int .u8 d4, .int .u8 d5, .int .u8 d6, .int .u8 d7, .int .u8 d8, .int .u8 d9, .int .u8 d10, .int .u8 d11, .int .i64 0, .int .i64 y, .slice AX m cX]), isV (.agg #[.int .u8 d0, .int .u8 d1, .int .u8 d2, .int .u8 d3, .int .u8 d4, .int .u8 d5, .int .u8 d6, .int .u8 d7, .int .u8 d8, .int .u8 d9, .int .u8 d10, .int .u8 d11, .int .i64 0, .int .i64 y, .slice A m c]), isV (.bool true), isV (.bool true), isV (.bool true), isV (.bool true), isV (.bool true), isV (.bool true)] (by kernel_rfl) (by kernel_rfl) (by kernel_rfl) (by kernel_rfl) trivial (fun _ h => False.elim h) (fun _ _ _ h => h) ?spr1 ?enr1
  case spr1 =>
    -- 0: Op.move t9
    refine specs_cons (cst _ rfl fun env ρ W hW hI hF hS => ?_) ?_
    · have e9 := hS.at 9 (by kernel_rfl) (slot_base (by kernel_rfl))
      go_simp
      try with_reducible rfl
    -- 1: Op.slice 33 t65 none (some (const (12:i64))) none
    refine specs_cons (cst _ rfl fun env ρ W hW hI hF hS => ?_) ?_
    · have hc := stays_cells hW; have j1 := HC1.out W hW; have j2 := HC2.out W hW; have j3 := HC3.out W hW; have j4 := HC4.out W hW; have cc := hS.const; have e65 := (hS.at 65 (by kernel_rfl) (v := env 0) (by kernel_rfl)).trans (hF 0 (by kernel_rfl))
      go_simp
      try with_reducible rfl
    -- 2: Op.convert 33 9 t66
    refine specs_cons (cst _ rfl fun env ρ W hW hI hF hS => ?_) ?_
    · have hc := stays_cells hW; have j1 := HC1.out W hW; have j2 := HC2.out W hW; have j3 := HC3.out W hW; have j4 := HC4.out W hW; have e66 := (hS.at 66 (by kernel_rfl) (v := env 1) (by kernel_rfl)).trans (hF 1 (by kernel_rfl))
      go_simp
      try with_reducible rfl
    -- 3: Op.move t7
    refine specs_cons (cst _ rfl fun env ρ W hW hI hF hS => ?_) ?_
    · have e7 := hS.at 7 (by kernel_rfl) (slot_base (by kernel_rfl))
      go_simp
      try with_reducible rfl
    -- 4: Op.slice 33 t68 none (some (const (12:i64))) none
    refine specs_cons (cst _ rfl fun env ρ W hW hI hF hS => ?_) ?_
    · have hc := stays_cells hW; have j1 := HC1.out W hW; have j2 := HC2.out W hW; have j3 := HC3.out W hW; have j4 := HC4.out W hW; have cc := hS.const; have e68 := (hS.at 68 (by kernel_rfl) (v := env 3) (by kernel_rfl)).trans (hF 3 (by kernel_rfl))
      go_simp
      try with_reducible rfl
    -- 5: Op.convert 33 9 t69
    refine specs_cons (cst _ rfl fun env ρ W hW hI hF hS => ?_) ?_
    · have hc := stays_cells hW; have j1 := HC1.out W hW; have j2 := HC2.out W hW; have j3 := HC3.out W hW; have j4 := HC4.out W hW; have e69 := (hS.at 69 (by kernel_rfl) (v := env 4) (by kernel_rfl)).trans (hF 4 (by kernel_rfl))
      go_simp
      try with_reducible rfl
    -- 6: Op.binOp BinOp.eql 9 t67 t70 9
    refine specs_cons (cst _ rfl fun env ρ W hW hI hF hS => ?_) ?_
    · have hc := stays_cells hW; have j1 := HC1.out W hW; have j2 := HC2.out W hW; have j3 := HC3.out W hW; have j4 := HC4.out W hW; have e67 := (hS.at 67 (by kernel_rfl) (v := env 2) (by kernel_rfl)).trans (hF 2 (by kernel_rfl)); have e70 := (hS.at 70 (by kernel_rfl) (v := env 5) (by kernel_rfl)).trans (hF 5 (by kernel_rfl))
      go_simp
      try with_reducible rfl
    -- 7: Op.move t71
    refine specs_cons (cst _ rfl fun env ρ W hW hI hF hS => ?_) ?_
    · have e71 := (hS.at 71 (by kernel_rfl) (v := env 6) (by kernel_rfl)).trans (hF 6 (by kernel_rfl))
      go_simp
      try with_reducible rfl
    -- 8: Op.move t9 [7 True]
    refine specs_cons (cst_on _ rfl rfl fun env ρ W hW hI hF hS => ⟨?_, ?_⟩) ?_
    · have e72 := (hS.at 72 (by kernel_rfl) (v := env 7) (by kernel_rfl)).trans (hF 7 (by kernel_rfl))
      exact e72
    · have e9 := hS.at 9 (by kernel_rfl) (slot_base (by kernel_rfl)); have e72 := (hS.at 72 (by kernel_rfl) (v := env 7) (by kernel_rfl)).trans (hF 7 (by kernel_rfl))
      go_simp
      try with_reducible rfl
    -- 9: Op.slice 33 t73 (some (const (16:i64))) none none [7 True]
    refine specs_cons (cst_on _ rfl rfl fun env ρ W hW hI hF hS => ⟨?_, ?_⟩) ?_
    · have e72 := (hS.at 72 (by kernel_rfl) (v := env 7) (by kernel_rfl)).trans (hF 7 (by kernel_rfl))
      exact e72
    · have hc := stays_cells hW; have j1 := HC1.out W hW; have j2 := HC2.out W hW; have j3 := HC3.out W hW; have j4 := HC4.out W hW; have cc := hS.const; have e73 := (hS.at 73 (by kernel_rfl) (v := env 8) (by kernel_rfl)).trans (hF 8 (by kernel_rfl)); have e72 := (hS.at 72 (by kernel_rfl) (v := env 7) (by kernel_rfl)).trans (hF 7 (by kernel_rfl))
      go_simp
      try with_reducible rfl
    -- 10: Op.convert 33 9 t74 [7 True]
    refine specs_cons (cst_on _ rfl rfl fun env ρ W hW hI hF hS => ⟨?_, ?_⟩) ?_
    · have e72 := (hS.at 72 (by kernel_rfl) (v := env 7) (by kernel_rfl)).trans (hF 7 (by kernel_rfl))
      exact e72
    · have hc := stays_cells hW; have j1 := HC1.out W hW; have j2 := HC2.out W hW; have j3 := HC3.out W hW; have j4 := HC4.out W hW; have e74 := (hS.at 74 (by kernel_rfl) (v := env 9) (by kernel_rfl)).trans (hF 9 (by kernel_rfl)); have e72 := (hS.at 72 (by kernel_rfl) (v := env 7) (by kernel_rfl)).trans (hF 7 (by kernel_rfl))
      go_simp
      try with_reducible rfl
    -- 11: Op.move t7 [7 True]
    refine specs_cons (cst_on _ rfl rfl fun env ρ W hW hI hF hS => ⟨?_, ?_⟩) ?_
    · have e72 := (hS.at 72 (by kernel_rfl) (v := env 7) (by kernel_rfl)).trans (hF 7 (by kernel_rfl))
      exact e72
    · have e7 := hS.at 7 (by kernel_rfl) (slot_base (by kernel_rfl)); have e72 := (hS.at 72 (by kernel_rfl) (v := env 7) (by kernel_rfl)).trans (hF 7 (by kernel_rfl))
      go_simp
      try with_reducible rfl
    -- 12: Op.slice 33 t76 (some (const (12:i64))) none none [7 True]
    refine specs_cons (cst_on _ rfl rfl fun env ρ W hW hI hF hS => ⟨?_, ?_⟩) ?_
    · have e72 := (hS.at 72 (by kernel_rfl) (v := env 7) (by kernel_rfl)).trans (hF 7 (by kernel_rfl))
      exact e72
    · have hc := stays_cells hW; have j1 := HC1.out W hW; have j2 := HC2.out W hW; have j3 := HC3.out W hW; have j4 := HC4.out W hW; have cc := hS.const; have e76 := (hS.at 76 (by kernel_rfl) (v := env 11) (by kernel_rfl)).trans (hF 11 (by kernel_rfl)); have e72 := (hS.at 72 (by kernel_rfl) (v := env 7) (by kernel_rfl)).trans (hF 7 (by kernel_rfl))
      go_simp
      try with_reducible rfl
    -- 13: Op.convert 33 9 t77 [7 True]
    refine specs_cons (cst_on _ rfl rfl fun env ρ W hW hI hF hS => ⟨?_, ?_⟩) ?_
    · have e72 := (hS.at 72 (by kernel_rfl) (v := env 7) (by kernel_rfl)).trans (hF 7 (by kernel_rfl))
      exact e72
    · have hc := stays_cells hW; have j1 := HC1.out W hW; have j2 := HC2.out W hW; have j3 := HC3.out W hW; have j4 := HC4.out W hW; have e77 := (hS.at 77 (by kernel_rfl) (v := env 12) (by kernel_rfl)).trans (hF 12 (by kernel_rfl)); have e72 := (hS.at 72 (by kernel_rfl) (v := env 7) (by kernel_rfl)).trans (hF 7 (by kernel_rfl))
      go_simp
      try with_reducible rfl
    -- 14: Op.binOp BinOp.eql 9 t75 t78 9 [7 True]
    refine specs_cons (cst_on _ rfl rfl fun env ρ W hW hI hF hS => ⟨?_, ?_⟩) ?_
    · have e72 := (hS.at 72 (by kernel_rfl) (v := env 7) (by kernel_rfl)).trans (hF 7 (by kernel_rfl))
      exact e72
    · have hc := stays_cells hW; have j1 := HC1.out W hW; have j2 := HC2.out W hW; have j3 := HC3.out W hW; have j4 := HC4.out W hW; have e75 := (hS.at 75 (by kernel_rfl) (v := env 10) (by kernel_rfl)).trans (hF 10 (by kernel_rfl)); have e78 := (hS.at 78 (by kernel_rfl) (v := env 13) (by kernel_rfl)).trans (hF 13 (by kernel_rfl)); have e72 := (hS.at 72 (by kernel_rfl) (v := env 7) (by kernel_rfl)).trans (hF 7 (by kernel_rfl))
      go_simp
      try with_reducible rfl
    -- 15: Op.pick t72 t79 (const (Value.bool false))
    refine specs_cons (cst _ rfl fun env ρ W hW hI hF hS => ?_) ?_
    · have cc := hS.const; have e72 := (hS.at 72 (by kernel_rfl) (v := env 7) (by kernel_rfl)).trans (hF 7 (by kernel_rfl)); have e79 := (hS.at 79 (by kernel_rfl) (v := env 14) (by kernel_rfl)).trans (hF 14 (by kernel_rfl))
      go_simp
      try with_reducible rfl
    -- 16: Op.move t80
    refine specs_cons (cst _ rfl fun env ρ W hW hI hF hS => ?_) ?_
    · have e80 := (hS.at 80 (by kernel_rfl) (v := env 15) (by kernel_rfl)).trans (hF 15 (by kernel_rfl))
      go_simp
      try with_reducible rfl
    -- 17: Op.move t12 [16 True]
    refine specs_cons (cst_on _ rfl rfl fun env ρ W hW hI hF hS => ⟨?_, ?_⟩) ?_
    · have e81 := (hS.at 81 (by kernel_rfl) (v := env 16) (by kernel_rfl)).trans (hF 16 (by kernel_rfl))
      exact e81
    · have e12 := hS.at 12 (by kernel_rfl) (slot_base (by kernel_rfl)); have e81 := (hS.at 81 (by kernel_rfl) (v := env 16) (by kernel_rfl)).trans (hF 16 (by kernel_rfl))
      go_simp
      try with_reducible rfl
    -- 18: Op.binOp BinOp.eql 36 t82 (const (0:i64)) 36 [16 True]
    refine specs_cons (cst_on _ rfl rfl fun env ρ W hW hI hF hS => ⟨?_, ?_⟩) ?_
    · have e81 := (hS.at 81 (by kernel_rfl) (v := env 16) (by kernel_rfl)).trans (hF 16 (by kernel_rfl))
      exact e81
    · have hc := stays_cells hW; have j1 := HC1.out W hW; have j2 := HC2.out W hW; have j3 := HC3.out W hW; have j4 := HC4.out W hW; have cc := hS.const; have e82 := (hS.at 82 (by kernel_rfl) (v := env 17) (by kernel_rfl)).trans (hF 17 (by kernel_rfl)); have e81 := (hS.at 81 (by kernel_rfl) (v := env 16) (by kernel_rfl)).trans (hF 16 (by kernel_rfl))
      go_simp
      try with_reducible rfl
    -- 19: Op.pick t81 t83 (const (Value.bool false))
    refine specs_cons (cst _ rfl fun env ρ W hW hI hF hS => ?_) ?_
    · have cc := hS.const; have e81 := (hS.at 81 (by kernel_rfl) (v := env 16) (by kernel_rfl)).trans (hF 16 (by kernel_rfl)); have e83 := (hS.at 83 (by kernel_rfl) (v := env 18) (by kernel_rfl)).trans (hF 18 (by kernel_rfl))
      go_simp
      try with_reducible rfl
    -- 20: Op.move t84
    refine specs_cons (cst _ rfl fun env ρ W hW hI hF hS => ?_) ?_
    · have e84 := (hS.at 84 (by kernel_rfl) (v := env 19) (by kernel_rfl)).trans (hF 19 (by kernel_rfl))
      go_simp
      try with_reducible rfl
    -- 21: Op.load 42 t11 [20 True]
    refine specs_cons (cst_on _ rfl rfl fun env ρ W hW hI hF hS => ⟨?_, ?_⟩) ?_
    · have e85 := (hS.at 85 (by kernel_rfl) (v := env 20) (by kernel_rfl)).trans (hF 20 (by kernel_rfl))
      exact e85
    · have hc := stays_cells hW; have j1 := HC1.out W hW; have j2 := HC2.out W hW; have j3 := HC3.out W hW; have j4 := HC4.out W hW; have e11 := hS.at 11 (by kernel_rfl) (slot_base (by kernel_rfl)); have e85 := (hS.at 85 (by kernel_rfl) (v := env 20) (by kernel_rfl)).trans (hF 20 (by kernel_rfl))
      go_simp
      try with_reducible rfl
    -- 22: Op.load 42 t5 [20 True]
    refine specs_cons (cst_on _ rfl rfl fun env ρ W hW hI hF hS => ⟨?_, ?_⟩) ?_
    · have e85 := (hS.at 85 (by kernel_rfl) (v := env 20) (by kernel_rfl)).trans (hF 20 (by kernel_rfl))
      exact e85
    · have hc := stays_cells hW; have j1 := HC1.out W hW; have j2 := HC2.out W hW; have j3 := HC3.out W hW; have j4 := HC4.out W hW; have e5 := hS.at 5 (by kernel_rfl) (slot_base (by kernel_rfl)); have e85 := (hS.at 85 (by kernel_rfl) (v := env 20) (by kernel_rfl)).trans (hF 20 (by kernel_rfl))
      go_simp
      try with_reducible rfl
    -- 23: Op.call { value (Operand.func 32), args := #[t86, t87], argTypes := #[ [20 True]
    refine specs_cons (call_cst_on _ rfl rfl (fun _ _ _ h => h) (f := ?ff23r1) (args := ?aa23r1) fun env ρ W hW hI hF hS => ⟨?gu23r1, ?ru23r1, ?ca23r1⟩) ?nx23r1
    case gu23r1 =>
      have e85 := (hS.at 85 (by kernel_rfl) (v := env 20) (by kernel_rfl)).trans (hF 20 (by kernel_rfl))
      exact e85
    case ru23r1 =>
      have hc := stays_cells hW; have j1 := HC1.out W hW; have j2 := HC2.out W hW; have j3 := HC3.out W hW; have j4 := HC4.out W hW; have cf := hS.func; have e86 := (hS.at 86 (by kernel_rfl) (v := env 21) (by kernel_rfl)).trans (hF 21 (by kernel_rfl)); have e87 := (hS.at 87 (by kernel_rfl) (v := env 22) (by kernel_rfl)).trans (hF 22 (by kernel_rfl)); have e85 := (hS.at 85 (by kernel_rfl) (v := env 20) (by kernel_rfl)).trans (hF 20 (by kernel_rfl))
      go_simp
      constructor <;> rfl
    case ca23r1 => exact same_yes d0 d1 d2 d3 d4 d5 d6 d7 d8 d9 d10 d11 0 y AX A m cX c bs W hbl (HLX.out W hW) (HLF.out W hW)
    -- 24: Op.pick t85 t88 (const (Value.bool false))
    refine specs_cons (cst _ rfl fun env ρ W hW hI hF hS => ?_) ?_
    · have cc := hS.const; have e85 := (hS.at 85 (by kernel_rfl) (v := env 20) (by kernel_rfl)).trans (hF 20 (by kernel_rfl)); have e88 := (hS.at 88 (by kernel_rfl) (v := env 23) (by kernel_rfl)).trans (hF 23 (by kernel_rfl))
      go_simp
      try with_reducible rfl
    -- 25: Op.move t89
    refine specs_cons (cst _ rfl fun env ρ W hW hI hF hS => ?_) ?_
    · have e89 := (hS.at 89 (by kernel_rfl) (v := env 24) (by kernel_rfl)).trans (hF 24 (by kernel_rfl))
      go_simp
      try with_reducible rfl
    -- 26: Op.call { value (Operand.func 8), args := #[], argTypes := #[] } [25 True]
    refine specs_cons (call_cst_on _ rfl rfl (fun _ _ _ h => h) (f := ?ff26r1) (args := ?aa26r1) fun env ρ W hW hI hF hS => ⟨?gu26r1, ?ru26r1, ?ca26r1⟩) ?nx26r1
    case gu26r1 =>
      have e90 := (hS.at 90 (by kernel_rfl) (v := env 25) (by kernel_rfl)).trans (hF 25 (by kernel_rfl))
      exact e90
    case ru26r1 =>
      have hc := stays_cells hW; have j1 := HC1.out W hW; have j2 := HC2.out W hW; have j3 := HC3.out W hW; have j4 := HC4.out W hW; have cf := hS.func; have e90 := (hS.at 90 (by kernel_rfl) (v := env 25) (by kernel_rfl)).trans (hF 25 (by kernel_rfl))
      go_simp
      constructor <;> rfl
    case ca26r1 => exact awake4_any W
    -- 27: Op.pick t90 t91 (const (Value.bool false))
    refine specs_cons (cst _ rfl fun env ρ W hW hI hF hS => ?_) ?_
    · have cc := hS.const; have e90 := (hS.at 90 (by kernel_rfl) (v := env 25) (by kernel_rfl)).trans (hF 25 (by kernel_rfl)); have e91 := (hS.at 91 (by kernel_rfl) (v := env 26) (by kernel_rfl)).trans (hF 26 (by kernel_rfl))
      go_simp
      try with_reducible rfl
    -- 28: Op.assign t92
    refine specs_cons (cst _ rfl fun env ρ W hW hI hF hS => ?_) ?_
    · have e92 := (hS.at 92 (by kernel_rfl) (v := env 27) (by kernel_rfl)).trans (hF 27 (by kernel_rfl))
      go_simp
      try with_reducible rfl
    exact specs_nil
  case enr1 =>
    intro env W K
    have f0 : env 0 = _ := K.facts 0 (by decide) rfl
    have f1 : env 1 = _ := K.facts 1 (by decide) rfl
    have f2 : env 2 = _ := K.facts 2 (by decide) rfl
    have f3 : env 3 = _ := K.facts 3 (by decide) rfl
    have f4 : env 4 = _ := K.facts 4 (by decide) rfl
    have f5 : env 5 = _ := K.facts 5 (by decide) rfl
    have f6 : env 6 = _ := K.facts 6 (by decide) rfl
    have f7 : env 7 = _ := K.facts 7 (by decide) rfl
    have f8 : env 8 = _ := K.facts 8 (by decide) rfl
    have f9 : env 9 = _ := K.facts 9 (by decide) rfl
    have f10 : env 10 = _ := K.facts 10 (by decide) rfl
    have f11 : env 11 = _ := K.facts 11 (by decide) rfl
    have f12 : env 12 = _ := K.facts 12 (by decide) rfl
    have f13 : env 13 = _ := K.facts 13 (by decide) rfl
    have f14 : env 14 = _ := K.facts 14 (by decide) rfl
    have f15 : env 15 = _ := K.facts 15 (by decide) rfl
    have f16 : env 16 = _ := K.facts 16 (by decide) rfl
    have f17 : env 17 = _ := K.facts 17 (by decide) rfl
    have f18 : env 18 = _ := K.facts 18 (by decide) rfl
    have f19 : env 19 = _ := K.facts 19 (by decide) rfl
    have f20 : env 20 = _ := K.facts 20 (by decide) rfl
    have f21 : env 21 = _ := K.facts 21 (by decide) rfl
    have f22 : env 22 = _ := K.facts 22 (by decide) rfl
    have f23 : env 23 = _ := K.facts 23 (by decide) rfl
    have f24 : env 24 = _ := K.facts 24 (by decide) rfl
    have f25 : env 25 = _ := K.facts 25 (by decide) rfl
    have f26 : env 26 = _ := K.facts 26 (by decide) rfl
    have f27 : env 27 = _ := K.facts 27 (by decide) rfl
    have f28 : env 28 = _ := K.facts 28 (by decide) rfl
    have hgrow := K.stays.of_drew.below
    clear K
    simp only [List.take_succ_cons, List.take_nil, List.drop_nil, List.drop_succ_cons, putAll, Nat.reduceAdd, wpList]
    simp only [Act.put, List.setIfInBounds_toArray, List.set_cons_succ, List.set_cons_zero, f0, f1, f2, f3, f4, f5, f6, f7, f8, f9, f10, f11, f12, f13, f14, f15, f16, f17, f18, f19, f20, f21, f22, f23, f24, f25, f26, f27, f28]
    clear f0 f1 f2 f3 f4 f5 f6 f7 f8 f9 f10 f11 f12 f13 f14 f15 f16 f17 f18 f19 f20 f21 f22 f23 f24 f25 f26 f27 f28
    exact h W hgrow
end Go.Proofs.Ytklolalgbcgdiaa
