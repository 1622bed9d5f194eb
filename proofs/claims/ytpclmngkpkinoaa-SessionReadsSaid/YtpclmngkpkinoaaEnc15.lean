/-
  Layer 32: Encode, the second region that draws its order.
-/
import Derived.Test.YtpclmngkpkinoaaEnc11
import Derived.Laws.OwnMore
namespace Go.Proofs.Ytpclmngkpkinoaa
open Go.RowKit
set_option maxRecDepth 100000 in
set_option maxHeartbeats 1000000 in
theorem enc15 (base Z : Nat) (sh a i hh r g : Int) (ag : Bool) (w0 : World) (h0 : 0 ≤ sh) (h1 : sh ≤ 4294967295) (h2 : 0 ≤ hh) (h3 : hh ≤ 4294967295) (hB : base ≤ w0.heap.size) (hZ : Z < base)
    (hb : Box Z 31 #[.int .i64 a, .int .i64 i, .int .i64 hh, .int .i64 r, .int .i64 g, .bool ag] w0)
    {Q : Exit → Act → World → Prop} (y0 y2 y3 y4 y5 y7 y8 y9 y10 y11 y12 y13 y14 y15 y16 y17 y18 y19 y20 y21 y22 y23 y24 y25 y26 y27 y28 y29 y30 y31 y32 y33 y34 y35 y36 y37 y38 y39 y40 y41 y42 y43 y44 y45 y46 y47 y48 y49 y50 y51 y52 y53 y54 y55 y56 y57 y58 y59 y60 y61 y62 y63 y64 y65 y66 y67 y68 y69 : Value)
    (h : ∀ (v' v48 v50 : Value) (W : World), W.ownsRow base 5 1 v' 5 (([4] ++ be2 sh ++ be2 hh).map (Value.int .u8)) → Below base w0 W →
      Q .normal { tmps := #[y0, .pointer (some ⟨Z, 0, none⟩), y2, y3, y4, y5, .int .i64 sh, v', y8, y9, y10, y11, y12, y13, y14, y15, y16, y17, y18, y19, y20, y21, y22, y23, y24, y25, y26, y27, y28, y29, y30, y31, y32, y33, y34, y35, y36, y37, y38, y39, y40, y41, y42, y43, y44, y45, y46, y47, v48, .int .i64 sh, v50, .pointer (some ⟨Z, 2, none⟩), .int .i64 hh, v', y54, y55, y56, y57, y58, y59, y60, y61, y62, y63, y64, y65, y66, y67, y68, y69], defers := [] } W) :
    (regionAt Try.f16 15).wp Try.prog Q { tmps := #[y0, .pointer (some ⟨Z, 0, none⟩), y2, y3, y4, y5, .int .i64 sh, y7, y8, y9, y10, y11, y12, y13, y14, y15, y16, y17, y18, y19, y20, y21, y22, y23, y24, y25, y26, y27, y28, y29, y30, y31, y32, y33, y34, y35, y36, y37, y38, y39, y40, y41, y42, y43, y44, y45, y46, y47, y48, y49, y50, y51, y52, y53, y54, y55, y56, y57, y58, y59, y60, y61, y62, y63, y64, y65, y66, y67, y68, y69], defers := [] } w0 := by
  have hHi := hb.inside
  have hb0 := hb.at_ 2
  have hl := World.ownsRow_lit (base := base) (e := 5) (size := 1) w0 #[.int .u8 4] 1 hB (by unfold maxLen; omega) rfl
  have hld : (w0.alloc (.cells #[.int .u8 4] 5)).drew.ownsRow base 5 1 (.slice (some ⟨w0.heap.size, 0, none⟩) 1 1) 1 [.int .u8 4] := hl
  have hbl : Below base w0 (w0.alloc (.cells #[.int .u8 4] 5)).drew := ((Below.refl _ _).alloc hB _).drew
  have hsz0 : base ≤ (w0.alloc (.cells #[.int .u8 4] 5)).drew.heap.size := Nat.le_trans hB hbl.size
  conv in (regionAt _ _) => whnf
  refine Code.wp_mono (Q := fun e a w => match e with | .normal => Q .normal a w | _ => False) (fun e a w hx => by cases e <;> first | exact hx | exact hx.elim) ?_
  go_region_law (first
    | (go_simp
       go_at_call 36
       refine (append16_any base v2 3 _ hh w2 h2 h3 (by omega) hsz2 hown2).mono ?_
       rintro e w3 ⟨v3, rfl, hown3, hb3⟩)
    | (go_simp
       go_at_call 36
       refine (append16_any base _ 1 _ sh _ h0 h1 (by omega) hsz0 hld).mono ?_
       rintro e w2 ⟨v2, rfl, hown2, hb2⟩
       have hbw2 : Below base w0 w2 := hbl.trans hb2
       have hsz2 : base ≤ w2.heap.size := Nat.le_trans hB hbw2.size
       have hbx2 := hb.under hbw2 hZ
       have hin2 := hbx2.inside
       have hbx20 := hbx2.at_ 2))
  all_goals exact h v3 (.slice (some ⟨w0.heap.size, 0, none⟩) 1 1) v2 w3 (by simpa using hown3) (hbw2.trans hb3)
end Go.Proofs.Ytpclmngkpkinoaa
