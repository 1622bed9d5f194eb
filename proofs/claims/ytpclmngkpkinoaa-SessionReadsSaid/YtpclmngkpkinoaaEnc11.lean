/-
  Layer 32: Encode, the region that draws its order.
-/
import Derived.Test.YtpclmngkpkinoaaApp32
import Derived.Test.YtpclmngkpkinoaaApp
import Derived.Test.YtpclmngkpkinoaaPart
import Derived.Deep.RegionLaw
namespace Go.Proofs.Ytpclmngkpkinoaa
open Go.RowKit
set_option maxRecDepth 100000 in
set_option maxHeartbeats 1000000 in
theorem enc11 (base Z : Nat) (v : Value) (k : Nat) (xs : List Value) (a i hh r g : Int) (ag : Bool) (w0 : World) (h0 : 0 ≤ a) (h1 : a ≤ 4294967295) (hk : k ≤ 100) (hB : base ≤ w0.heap.size) (hZ : Z < base)
    (hown : w0.ownsRow base 5 1 v k xs) (hb : Box Z 31 #[.int .i64 a, .int .i64 i, .int .i64 hh, .int .i64 r, .int .i64 g, .bool ag] w0)
    {Q : Exit → Act → World → Prop} (y0 y2 y3 y5 y6 y7 y8 y9 y10 y11 y12 y13 y14 y15 y16 y17 y18 y19 y20 y21 y22 y23 y24 y25 y26 y27 y28 y29 y30 y31 y32 y33 y34 y35 y36 y37 y38 y39 y40 y41 y42 y43 y44 y45 y46 y47 y48 y49 y50 y51 y52 y53 y54 y55 y56 y57 y58 y59 y60 y61 y62 y63 y64 y65 y66 y67 y68 y69 : Value)
    (h : ∀ (v' v39 v40 : Value) (W : World), W.ownsRow base 5 1 v' (k + 6) (xs ++ ([65, 4] ++ be4 a).map (Value.int .u8)) → Below base w0 W →
      Q .normal { tmps := #[y0, .pointer (some ⟨Z, 0, none⟩), y2, y3, v', y5, y6, y7, y8, y9, y10, y11, y12, y13, y14, y15, y16, y17, y18, y19, y20, y21, y22, y23, y24, y25, y26, y27, y28, y29, y30, y31, y32, y33, y34, y35, y36, y37, v, v39, v40, .pointer (some ⟨Z, 0, none⟩), .int .i64 a, v', y44, y45, y46, y47, y48, y49, y50, y51, y52, y53, y54, y55, y56, y57, y58, y59, y60, y61, y62, y63, y64, y65, y66, y67, y68, y69], defers := [] } W) :
    (regionAt Try.f16 11).wp Try.prog Q { tmps := #[y0, .pointer (some ⟨Z, 0, none⟩), y2, y3, v, y5, y6, y7, y8, y9, y10, y11, y12, y13, y14, y15, y16, y17, y18, y19, y20, y21, y22, y23, y24, y25, y26, y27, y28, y29, y30, y31, y32, y33, y34, y35, y36, y37, y38, y39, y40, y41, y42, y43, y44, y45, y46, y47, y48, y49, y50, y51, y52, y53, y54, y55, y56, y57, y58, y59, y60, y61, y62, y63, y64, y65, y66, y67, y68, y69], defers := [] } w0 := by
  have hHi := hb.inside
  have hb0 := hb.at_ 0
  conv in (regionAt _ _) => whnf
  refine Code.wp_mono (Q := fun e a w => match e with | .normal => Q .normal a w | _ => False) (fun e a w hx => by cases e <;> first | exact hx | exact hx.elim) ?_
  go_region_law (first
    | (refine step_push rfl (.tmp 38) (.tmp 39) 22 rfl base 5 (.int .u8 0) 1 Try.underlying22 infoU8 rfl (by omega) v k xs (by simp [Act.eval, Act.put]) (by first | exact hown | exact hown.alloc _ | exact (hown.kept (row := none) ⟨rfl, rfl, rfl, by simp, fun _ _ _ => rfl⟩ (by cases v.ownBlock <;> simp)) ) (some ⟨w0.heap.size, 0, none⟩) 2 2 (w0.heap.size + 1) ([65, 4].map (Value.int .u8)) (by simp [Act.eval, Act.put]) rfl (by simp) (by first | exact lies_box (Box.made _ _ _) (by simp) | exact lies_box (Box.madeAt (by simp)) (by simp) | exact lies_box (Box.drawn (Box.madeAt (by simp))) (by simp)) (by simp [Value.oneCell']) (by omega) (by first | exact hB | (simp; omega)) ?_
       intro v2 w2 hown2 hgr2
       have hbw2 : Below base w0 w2 := Below.grown (show Below base w0 _ from (by first | exact ((Below.refl _ _).alloc hB _).drew | exact (Below.refl _ _).alloc hB _ | exact (Below.refl _ _).drew.alloc hB _)) hgr2 (by first | exact hB | (simp; omega)) (fun j hj => (hown.lt j hj).1)
       have hsz2 := hbw2.size
       have hbx2 := hb.under hbw2 hZ
       have hin2 := hbx2.inside
       have hbx20 := hbx2.at_ 0)
    | (go_simp
       go_at_call 37
       refine (append32_any base v2 (k + 2) _ a w2 h0 h1 (by omega) (Nat.le_trans hB hsz2) (by first | exact hown2)).mono ?_
       rintro e w3 ⟨v3, rfl, hown3, hb3⟩))
  all_goals exact h _ _ _ _ (by simpa using hown3) (hbw2.trans hb3)
end Go.Proofs.Ytpclmngkpkinoaa
