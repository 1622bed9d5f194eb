/-
  Layer 23: the sanity check.
-/
import Derived.Test.YtagkpocagkfhoaaTrav2
namespace Go.Proofs.Ytagkpocagkfhoaa
open Go.RowKit
set_option maxHeartbeats 2000000 in
theorem awake23_any (w : World) : Calls Try.prog 13 #[] w fun e w' => e = .returned (.bool true) ∧ Below w.heap.size w w' := by
  have HF := Lib.hid (fun w => fits_any 1 2 w)
  rw [show fitsR 1 2 = true from rfl] at HF
  have hbl : Below w.heap.size w ((w.alloc (.cells #[.int .i64 1, .int .i64 2, .int .i64 3, .int .i64 2, .int .i64 3, .int .i64 2, .int .i64 3, .int .i64 4, .int .i64 1, .int .i64 4, .int .i64 5, .int .i64 0] 56)).alloc (.cells #[.int .i64 1, .int .i64 2, .int .i64 4, .int .i64 2, .int .i64 3, .int .i64 4] 56)) := ((Below.refl _ _).alloc (Nat.le_refl _) _).alloc (by simp) _
  have hA := (Box.made w 56 #[.int .i64 1, .int .i64 2, .int .i64 3, .int .i64 2, .int .i64 3, .int .i64 2, .int .i64 3, .int .i64 4, .int .i64 1, .int .i64 4, .int .i64 5, .int .i64 0]).past (.cells #[.int .i64 1, .int .i64 2, .int .i64 4, .int .i64 2, .int .i64 3, .int .i64 4] 56)
  have hB : Box (w.heap.size + 1) 56 #[.int .i64 1, .int .i64 2, .int .i64 4, .int .i64 2, .int .i64 3, .int .i64 4] ((w.alloc (.cells #[.int .i64 1, .int .i64 2, .int .i64 3, .int .i64 2, .int .i64 3, .int .i64 2, .int .i64 3, .int .i64 4, .int .i64 1, .int .i64 4, .int .i64 5, .int .i64 0] 56)).alloc (.cells #[.int .i64 1, .int .i64 2, .int .i64 4, .int .i64 2, .int .i64 3, .int .i64 4] 56)) := Box.madeAt (by simp)
  go_enter Try.func13, Try.ntmps13
  go_upto_region 3 with fail
  generalize ((w.alloc (.cells #[.int .i64 1, .int .i64 2, .int .i64 3, .int .i64 2, .int .i64 3, .int .i64 2, .int .i64 3, .int .i64 4, .int .i64 1, .int .i64 4, .int .i64 5, .int .i64 0] 56)).alloc (.cells #[.int .i64 1, .int .i64 2, .int .i64 4, .int .i64 2, .int .i64 3, .int .i64 4] 56)) = w0 at hbl hA hB
  have kA : ∀ W, Below w0.heap.size w0 W → HopsAt W.heap.size (some ⟨w.heap.size, 0, none⟩) [⟨1, 2, 3⟩, ⟨2, 3, 2⟩, ⟨3, 4, 1⟩, ⟨4, 5, 0⟩] W := fun W hW i h hx => by
    have hb := hA.under hW hA.inside
    rcases i with _ | _ | _ | _ | i
    · injection hx with hx; subst hx; exact ⟨_, 0, rfl, hb.inside, hb.at_ 0, hb.at_ 1, hb.at_ 2⟩
    · injection hx with hx; subst hx; exact ⟨_, 0, rfl, hb.inside, hb.at_ 3, hb.at_ 4, hb.at_ 5⟩
    · injection hx with hx; subst hx; exact ⟨_, 0, rfl, hb.inside, hb.at_ 6, hb.at_ 7, hb.at_ 8⟩
    · injection hx with hx; subst hx; exact ⟨_, 0, rfl, hb.inside, hb.at_ 9, hb.at_ 10, hb.at_ 11⟩
    · simp at hx
  have kB : ∀ W, Below w0.heap.size w0 W → HopsAt W.heap.size (some ⟨w.heap.size + 1, 0, none⟩) [⟨1, 2, 4⟩, ⟨2, 3, 4⟩] W := fun W hW i h hx => by
    have hb := hB.under hW hB.inside
    rcases i with _ | _ | i
    · injection hx with hx; subst hx; exact ⟨_, 0, rfl, hb.inside, hb.at_ 0, hb.at_ 1, hb.at_ 2⟩
    · injection hx with hx; subst hx; exact ⟨_, 0, rfl, hb.inside, hb.at_ 3, hb.at_ 4, hb.at_ 5⟩
    · simp at hx
  have TA := Lib.hid (fun W hW => travels_any (some ⟨w.heap.size, 0, none⟩) 4 4 _ W rfl (by omega) (kA W hW))
  have TB := Lib.hid (fun W hW => travels_any (some ⟨w.heap.size + 1, 0, none⟩) 2 2 _ W rfl (by omega) (kB W hW))
  have VA := Lib.hid (fun W hW => valley_any (some ⟨w.heap.size, 0, none⟩) 4 4 _ W rfl (by omega) (kA W hW))
  have VB := Lib.hid (fun W hW => valley_any (some ⟨w.heap.size + 1, 0, none⟩) 2 2 _ W rfl (by omega) (kB W hW))
  rw [show (conn none [⟨1, 2, 3⟩, ⟨2, 3, 2⟩, ⟨3, 4, 1⟩, ⟨4, 5, 0⟩] && runR false [⟨1, 2, 3⟩, ⟨2, 3, 2⟩, ⟨3, 4, 1⟩, ⟨4, 5, 0⟩]) = true by decide] at TA VA
  rw [show (conn none [⟨1, 2, 4⟩, ⟨2, 3, 4⟩] && runR false [⟨1, 2, 4⟩, ⟨2, 3, 4⟩]) = false by decide] at TB VB
  clear kA kB hA hB
  go_wp2_with fail
  refine (TA.out _ (Below.refl _ _)).mono ?_
  rintro e w1 ⟨rfl, h1⟩
  have b1 := h1
  go_wp2_with fail
  refine (TB.out _ b1).mono ?_
  rintro e w2 ⟨rfl, h2⟩
  have b2 := b1.trans (h2.mono b1.size)
  clear h1 h2
  go_wp2_with fail
  refine (VA.out _ b2).mono ?_
  rintro e w3 ⟨rfl, h3⟩
  have b3 := b2.trans (h3.mono b2.size)
  clear h3
  go_wp2_with fail
  refine (VB.out _ b3).mono ?_
  rintro e w4 ⟨rfl, h4⟩
  have b4 := b3.trans (h4.mono b3.size)
  clear h4
  go_wp2_with fail
  refine (HF.out _).mono ?_
  rintro e w5 ⟨rfl, h5⟩
  have b5 := b4.trans (h5.mono b4.size)
  go_wp2
  go_ret
  exact ⟨rfl, hbl.trans (b5.mono hbl.size)⟩
end Go.Proofs.Ytagkpocagkfhoaa
