/-
  EtherTags (layer 4): region 11.
-/
import Derived.Test.YtklolalgbcgdiaaBack4
import Derived.Test.YtklolalgbcgdiaaSame
import Derived.Test.YtklolalgbcgdiaaApp
import Derived.Test.YtklolalgbcgdiaaAwake4
import Derived.Deep.DeepCutAuto
import Derived.Deep.RegionLaw
import Derived.Test.YtklolalgbcgdiaaPart
namespace Go.Proofs.Ytklolalgbcgdiaa
open Go.RowKit

theorem stays_below {D : Nat} {w w1 w2 : World} (hb : Below w.heap.size w w1) (hs : Stays (· = D) w1 w2) (hD : w.heap.size ≤ D) : Below w.heap.size w w2 :=
  ⟨hs.os.trans hb.os, hs.tape.trans hb.tape, hs.output.trans hb.output, Nat.le_trans hb.size hs.size, fun k hk => (hs.block k (Nat.lt_of_lt_of_le hk hb.size) (by omega)).trans (hb.block k hk)⟩
theorem lies_grow {B : Nat} {A : Option Addr} {xs : List Value} {w w' : World} (h : Lies B A xs w) (hb : Below w.heap.size w w') (hB : B ≤ w.heap.size) : Lies w'.heap.size A xs w' := (h.below (hb.mono hB)).more (Nat.le_trans hB hb.size)
/-- A part of what lies, from the i-th on. -/
theorem lies_drop {B : Nat} {a : Addr} {xs : List Value} {w : World} (h : Lies B (some a) xs w) (i : Nat) (hi : 0 < i) : Lies B (some ⟨a.block, a.off + i, none⟩) (xs.drop i) w := fun k hk => by
  simp at hk
  obtain ⟨a', v, h1, h2, h3, h4⟩ := h (i + k) (by omega)
  injection h1 with h1
  subst h1
  refine ⟨_, v, rfl, h2, by rw [List.getElem?_drop]; exact h3, ?_⟩
  rw [← h4]
  have e : (⟨a.block, a.off + i, none⟩ : Addr).add k = a.add (i + k) := by
    unfold Addr.add
    rw [if_neg (show i + k ≠ 0 by omega)]
    split
    · next h0 => subst h0; rfl
    · simp [Nat.add_assoc]
  rw [e]

set_option maxRecDepth 100000 in
set_option maxHeartbeats 4000000 in
theorem tags11 (d0 d1 d2 d3 d4 d5 d6 d7 d8 d9 d10 d11 y v : Int) (A : Option Addr) (m c : Nat) (bs : List Int) (g g2 : Nat) (B7 B9 : Addr) (n7 c7 n9 c9 : Nat) (w0 : World)
    (HBL : RowKit.Hid (bs.length = m)) (HOK : RowKit.Hid (frameOk 0 y m = true)) (hd : ∀ z ∈ [d0, d1, d2, d3, d4, d5, d6, d7, d8, d9, d10, d11], 0 ≤ z ∧ z < 256) (hz : ∀ z ∈ bs, 0 ≤ z ∧ z < 256) (hm1 : m ≤ 1501) (HF : RowKit.Hid (frameBytes [d0, d1, d2, d3, d4, d5, d6, d7, d8, d9, d10, d11] 0 y bs = [d0, d1, d2, d3, d4, d5, d6, d7, d8, d9, d10, d11] ++ (y / 256 :: y % 256 :: bs)))
    (HN9 : RowKit.Hid (n9 = 18 + m)) (hc9 : n9 ≤ c9) (hc9m : c9 ≤ maxLen) (HL12 : RowKit.Hid (Lies w0.heap.size (some B9) ([d0, d1, d2, d3, d4, d5, d6, d7, d8, d9, d10, d11].map (Value.int .u8)) w0)) (HLR : RowKit.Hid (Lies w0.heap.size (some ⟨B9.block, B9.off + 16, none⟩) ((y / 256 :: y % 256 :: bs).map (Value.int .u8)) w0))
    {Q : Exit → Act → World → Prop} (s0 s1 s2 s3 s6 s11 s12 s13 s14 s15 s16 s17 s18 s19 s20 s21 s22 s23 s24 s25 s26 s27 s28 s29 s30 s31 s32 s33 s34 s35 s36 s37 s38 s39 s40 s41 s42 s43 s44 s45 s46 s47 s48 s49 s50 s51 s52 s53 s54 s55 s56 s57 s58 s59 s60 s61 s62 s63 s64 s65 s66 s67 s68 s69 s70 s71 s72 s73 s74 s75 s76 s77 s78 s79 s80 s81 s82 s83 s84 s85 s86 s87 s88 s89 s90 s91 s92 : Value)
    (h : ∀ (v58 v61 : Value) (q : Nat) (AX : Option Addr) (cX : Nat) (W : World), Box q 42 #[.int .u8 d0, .int .u8 d1, .int .u8 d2, .int .u8 d3, .int .u8 d4, .int .u8 d5, .int .u8 d6, .int .u8 d7, .int .u8 d8, .int .u8 d9, .int .u8 d10, .int .u8 d11, .int .i64 0, .int .i64 y, .slice AX m cX] W → Lies W.heap.size AX (bs.map (Value.int .u8)) W → Below w0.heap.size w0 W →
      Q .normal { tmps := #[s0, s1, s2, s3, .bool false, .pointer (some ⟨g, 0, none⟩), s6, .slice (some B7) n7 c7, .int .i64 0, .slice (some B9) n9 c9, .int .i64 0, .pointer (some ⟨q, 0, none⟩), .int .i64 0, s13, s14, s15, s16, s17, s18, s19, s20, s21, s22, s23, s24, s25, s26, s27, s28, s29, s30, s31, s32, s33, s34, s35, s36, s37, s38, s39, s40, s41, s42, s43, s44, s45, s46, s47, s48, s49, s50, s51, s52, s53, s54, .tuple #[.agg #[.int .u8 d0, .int .u8 d1, .int .u8 d2, .int .u8 d3, .int .u8 d4, .int .u8 d5, .int .u8 d6, .int .u8 d7, .int .u8 d8, .int .u8 d9, .int .u8 d10, .int .u8 d11, .int .i64 0, .int .i64 y, .slice AX m cX], .int .i64 0], .slice (some B9) n9 c9, .slice (some B9) 12 c9, v58, .slice (some B9) n9 c9, .slice (some ⟨B9.block, B9.off + 16, none⟩) (n9 - 16) (c9 - 16), v61, .tuple #[.agg #[.int .u8 d0, .int .u8 d1, .int .u8 d2, .int .u8 d3, .int .u8 d4, .int .u8 d5, .int .u8 d6, .int .u8 d7, .int .u8 d8, .int .u8 d9, .int .u8 d10, .int .u8 d11, .int .i64 0, .int .i64 y, .slice AX m cX], .int .i64 0], .agg #[.int .u8 d0, .int .u8 d1, .int .u8 d2, .int .u8 d3, .int .u8 d4, .int .u8 d5, .int .u8 d6, .int .u8 d7, .int .u8 d8, .int .u8 d9, .int .u8 d10, .int .u8 d11, .int .i64 0, .int .i64 y, .slice AX m cX], .int .i64 0, s65, s66, s67, s68, s69, s70, s71, s72, s73, s74, s75, s76, s77, s78, s79, s80, s81, s82, s83, s84, s85, s86, s87, s88, s89, s90, s91, s92], defers := [] } W) :
    (regionAt Try.f7 11).wp Try.prog Q { tmps := #[s0, s1, s2, s3, .bool false, .pointer (some ⟨g, 0, none⟩), s6, .slice (some B7) n7 c7, .int .i64 0, .slice (some B9) n9 c9, .int .i64 0, s11, s12, s13, s14, s15, s16, s17, s18, s19, s20, s21, s22, s23, s24, s25, s26, s27, s28, s29, s30, s31, s32, s33, s34, s35, s36, s37, s38, s39, s40, s41, s42, s43, s44, s45, s46, s47, s48, s49, s50, s51, s52, s53, s54, s55, s56, s57, s58, s59, s60, s61, s62, s63, s64, s65, s66, s67, s68, s69, s70, s71, s72, s73, s74, s75, s76, s77, s78, s79, s80, s81, s82, s83, s84, s85, s86, s87, s88, s89, s90, s91, s92], defers := [] } w0 := by
  conv in (regionAt _ _) => whnf
  refine Code.wp_mono (Q := fun e a w => match e with | .normal => Q .normal a w | _ => False) (fun e a w hx => by cases e <;> first | exact hx | exact hx.elim) ?_
  have s9 : (12 : Int) ≤ c9 := by have := HN9.out; omega
  have t9 : (16 : Int) ≤ c9 := by have := HN9.out; omega
  have u9 : (16 : Int) ≤ n9 := by have := HN9.out; omega
  have k9 : ¬ c9 = 16 := by have := HN9.out; omega
  have hone : ∀ u ∈ (y / 256 :: y % 256 :: bs).map (Value.int .u8), u.oneCell' = true := by
    intro u hu
    obtain ⟨z, -, rfl⟩ := List.mem_map.1 hu
    rfl
  have hlr : ((y / 256 :: y % 256 :: bs).map (Value.int .u8)).length = n9 - 16 := by have h := HN9.out; have h' := HBL.out; simp; omega
  have hTU : 42 ≠ 5 := by decide
  go_region_law (first
    | (refine step_push rfl (.const (.slice none 0 0)) (.tmp 57) 33 rfl w0.heap.size 5 (.int .u8 0) 1 Try.underlying33 infoU8 rfl (by omega) (.slice none 0 0) 0 [] rfl (World.ownsRow_nil _ _ _ _) (some B9) 12 c9 w0.heap.size ([d0, d1, d2, d3, d4, d5, d6, d7, d8, d9, d10, d11].map (Value.int .u8)) (by simp [Act.eval, Act.put]) rfl (by simp) (HL12.out.below (by first | exact (Below.refl _ _).drew | exact (Below.refl _ _).drew.alloc (Nat.le_refl _) _)) (by simp [Value.oneCell']) (by omega) (by first | exact Nat.le_refl _ | (simp; done) | (simp; omega) | omega) ?_
       intro v2 w2 hown2 hgr2
       have hbw2 : Below w0.heap.size w0 w2 := Below.grown (show Below w0.heap.size w0 _ from (by first | exact (Below.refl _ _).drew | exact (Below.refl _ _).drew.alloc (Nat.le_refl _) _)) hgr2 (by first | exact Nat.le_refl _ | (simp; done) | (simp; omega) | omega) (fun j hj => by simp [Value.ownBlock] at hj)
       have hsz2 := hbw2.size)
    | (refine step_push rfl (.tmp 58) (.tmp 60) 33 rfl w0.heap.size 5 (.int .u8 0) 1 Try.underlying33 infoU8 rfl (by omega) v2 12 _ (by simp [Act.eval, Act.put]) (by first | exact hown2 | exact hown2.alloc _) (some ⟨B9.block, B9.off + 16, none⟩) (n9 - 16) (c9 - 16) w0.heap.size ((y / 256 :: y % 256 :: bs).map (Value.int .u8)) (by simp [Act.eval, Act.put]) hlr (by simp) (HLR.out.below (by first | exact hbw2 | exact hbw2.alloc hsz2 _)) hone (by have h := HN9.out; omega) (by first | exact hsz2 | exact Nat.le_trans hsz2 (Nat.le_of_lt (Box.made w2 42 #[.int .u8 0, .int .u8 0, .int .u8 0, .int .u8 0, .int .u8 0, .int .u8 0, .int .u8 0, .int .u8 0, .int .u8 0, .int .u8 0, .int .u8 0, .int .u8 0, .int .i64 0, .int .i64 0, .slice none 0 0]).inside)) ?_
       intro v5 w5 hown5 hgr5
       have hbw5 : Below w0.heap.size w0 w5 := Below.grown (show Below w0.heap.size w0 _ from (by first | exact hbw2 | exact hbw2.alloc hsz2 _)) hgr5 (by first | exact hsz2 | exact Nat.le_trans hsz2 (Nat.le_of_lt (Box.made w2 42 #[.int .u8 0, .int .u8 0, .int .u8 0, .int .u8 0, .int .u8 0, .int .u8 0, .int .u8 0, .int .u8 0, .int .u8 0, .int .u8 0, .int .u8 0, .int .u8 0, .int .i64 0, .int .i64 0, .slice none 0 0]).inside)) (fun j hj => (hown2.lt j hj).1)
       have hsz5 := hbw5.size
       obtain ⟨A5, c5, rfl, k51, k52, k53, k54⟩ := own_open hown5)
    | (go_simp
       go_at_call 30
       refine (decode_back d0 d1 d2 d3 d4 d5 d6 d7 d8 d9 d10 d11 0 y bs m A5 _ c5 _ HBL.out HOK.out hd hz (by have h := HN9.out; have h' := HBL.out; rw [HF.out]; simp; omega) (by omega) (by unfold maxLen at k52; omega) (by rw [HF.out]; first | exact (by simpa using k54) | exact ((by simpa using k54 : Lies w5.heap.size A5 _ w5).alloc (Nat.le_refl _) _).more (by simp))).mono ?_
       rintro e w7 ⟨AX, cX, rfl, hx6, hown7, hb7⟩
       first
         | (have hq := (Box.made w5 42 #[.int .u8 0, .int .u8 0, .int .u8 0, .int .u8 0, .int .u8 0, .int .u8 0, .int .u8 0, .int .u8 0, .int .u8 0, .int .u8 0, .int .u8 0, .int .u8 0, .int .i64 0, .int .i64 0, .slice none 0 0]).under hb7 (Box.made w5 42 #[.int .u8 0, .int .u8 0, .int .u8 0, .int .u8 0, .int .u8 0, .int .u8 0, .int .u8 0, .int .u8 0, .int .u8 0, .int .u8 0, .int .u8 0, .int .u8 0, .int .i64 0, .int .i64 0, .slice none 0 0]).inside
            have hqs : w0.heap.size ≤ w5.heap.size := hsz5
            have hq_0 := hq.at_ 0; have hq_1 := hq.at_ 1; have hq_2 := hq.at_ 2; have hq_3 := hq.at_ 3; have hq_4 := hq.at_ 4; have hq_5 := hq.at_ 5; have hq_6 := hq.at_ 6; have hq_7 := hq.at_ 7; have hq_8 := hq.at_ 8; have hq_9 := hq.at_ 9; have hq_10 := hq.at_ 10; have hq_11 := hq.at_ 11; have hq_12 := hq.at_ 12; have hq_13 := hq.at_ 13; have hq_14 := hq.at_ 14
            have hqo0 := hq.open_ 0; have hqo1 := hq.open_ 1; have hqo2 := hq.open_ 2; have hqo3 := hq.open_ 3; have hqo4 := hq.open_ 4; have hqo5 := hq.open_ 5; have hqo6 := hq.open_ 6; have hqo7 := hq.open_ 7; have hqo8 := hq.open_ 8; have hqo9 := hq.open_ 9; have hqo10 := hq.open_ 10; have hqo11 := hq.open_ 11; have hqo12 := hq.open_ 12; have hqo13 := hq.open_ 13; have hqo14 := hq.open_ 14)
         | (have hqs : w0.heap.size ≤ w2.heap.size := hsz2
            have hq5 := (Box.made w2 42 #[.int .u8 0, .int .u8 0, .int .u8 0, .int .u8 0, .int .u8 0, .int .u8 0, .int .u8 0, .int .u8 0, .int .u8 0, .int .u8 0, .int .u8 0, .int .u8 0, .int .i64 0, .int .i64 0, .slice none 0 0]).grow hgr5 (Ne.symm (own_apart (hown2.alloc _) (Box.made w2 42 #[.int .u8 0, .int .u8 0, .int .u8 0, .int .u8 0, .int .u8 0, .int .u8 0, .int .u8 0, .int .u8 0, .int .u8 0, .int .u8 0, .int .u8 0, .int .u8 0, .int .i64 0, .int .i64 0, .slice none 0 0]) hTU))
            have hq := hq5.under hb7 hq5.inside
            have hq_0 := hq.at_ 0; have hq_1 := hq.at_ 1; have hq_2 := hq.at_ 2; have hq_3 := hq.at_ 3; have hq_4 := hq.at_ 4; have hq_5 := hq.at_ 5; have hq_6 := hq.at_ 6; have hq_7 := hq.at_ 7; have hq_8 := hq.at_ 8; have hq_9 := hq.at_ 9; have hq_10 := hq.at_ 10; have hq_11 := hq.at_ 11; have hq_12 := hq.at_ 12; have hq_13 := hq.at_ 13; have hq_14 := hq.at_ 14
            have hqo0 := hq.open_ 0; have hqo1 := hq.open_ 1; have hqo2 := hq.open_ 2; have hqo3 := hq.open_ 3; have hqo4 := hq.open_ 4; have hqo5 := hq.open_ 5; have hqo6 := hq.open_ 6; have hqo7 := hq.open_ 7; have hqo8 := hq.open_ 8; have hqo9 := hq.open_ 9; have hqo10 := hq.open_ 10; have hqo11 := hq.open_ 11; have hqo12 := hq.open_ 12; have hqo13 := hq.open_ 13; have hqo14 := hq.open_ 14)
         | (have hqs : w0.heap.size ≤ w0.heap.size := Nat.le_refl _
            have hq2 : Box w0.heap.size 42 #[.int .u8 0, .int .u8 0, .int .u8 0, .int .u8 0, .int .u8 0, .int .u8 0, .int .u8 0, .int .u8 0, .int .u8 0, .int .u8 0, .int .u8 0, .int .u8 0, .int .i64 0, .int .i64 0, .slice none 0 0] w2 := (Box.made w0.drew 42 #[.int .u8 0, .int .u8 0, .int .u8 0, .int .u8 0, .int .u8 0, .int .u8 0, .int .u8 0, .int .u8 0, .int .u8 0, .int .u8 0, .int .u8 0, .int .u8 0, .int .i64 0, .int .i64 0, .slice none 0 0]).grow hgr2 (Option.some_ne_none _)
            have hq5 := hq2.grow hgr5 (Ne.symm (own_apart hown2 hq2 hTU))
            have hq := hq5.under hb7 hq5.inside
            have hq_0 := hq.at_ 0; have hq_1 := hq.at_ 1; have hq_2 := hq.at_ 2; have hq_3 := hq.at_ 3; have hq_4 := hq.at_ 4; have hq_5 := hq.at_ 5; have hq_6 := hq.at_ 6; have hq_7 := hq.at_ 7; have hq_8 := hq.at_ 8; have hq_9 := hq.at_ 9; have hq_10 := hq.at_ 10; have hq_11 := hq.at_ 11; have hq_12 := hq.at_ 12; have hq_13 := hq.at_ 13; have hq_14 := hq.at_ 14
            have hqo0 := hq.open_ 0; have hqo1 := hq.open_ 1; have hqo2 := hq.open_ 2; have hqo3 := hq.open_ 3; have hqo4 := hq.open_ 4; have hqo5 := hq.open_ 5; have hqo6 := hq.open_ 6; have hqo7 := hq.open_ 7; have hqo8 := hq.open_ 8; have hqo9 := hq.open_ 9; have hqo10 := hq.open_ 10; have hqo11 := hq.open_ 11; have hqo12 := hq.open_ 12; have hqo13 := hq.open_ 13; have hqo14 := hq.open_ 14)
         | skip))
  all_goals have hbw7 := hbw5.trans ((show Below w5.heap.size w5 w7 from by first | exact hb7 | exact ((Below.refl _ _).alloc (Nat.le_refl _) _).trans (hb7.mono (by simp))).mono hsz5)
  all_goals first
    | (have hq' := hq
       exact h _ _ _ AX cX _ (box_fill hq' rfl) (Lies.own (own_only hown7 ((((((((((((((((OnlyBlock.refl _ _).setCell (by rfl) _).setCell (by rfl) _).setCell (by rfl) _).setCell (by rfl) _).setCell (by rfl) _).setCell (by rfl) _).setCell (by rfl) _).setCell (by rfl) _).setCell (by rfl) _).setCell (by rfl) _).setCell (by rfl) _).setCell (by rfl) _).setCell (by rfl) _).setCell (by rfl) _).setCell (by rfl) _) (own_apart hown7 hq hTU))) (only_below hbw7 ((((((((((((((((OnlyBlock.refl _ _).setCell (by rfl) _).setCell (by rfl) _).setCell (by rfl) _).setCell (by rfl) _).setCell (by rfl) _).setCell (by rfl) _).setCell (by rfl) _).setCell (by rfl) _).setCell (by rfl) _).setCell (by rfl) _).setCell (by rfl) _).setCell (by rfl) _).setCell (by rfl) _).setCell (by rfl) _).setCell (by rfl) _) hqs))
    | exact h _ _ w7.heap.size AX cX _ (Box.made _ _ _) (Lies.own (hown7.alloc _)) (hbw7.alloc hbw7.size _)
end Go.Proofs.Ytklolalgbcgdiaa
