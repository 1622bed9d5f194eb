/-
  Layer 5: numbers and addresses out of four bytes.
-/
import Derived.Test.YtghhidpggnbfgaaArpEnc
import Derived.Laws.Cover3
import Derived.Laws.BitsAllLaws
namespace Go.Proofs.Ytghhidpggnbfgaa
open Go.RowKit

theorem or_u64 : ∀ a b : Int, 0 ≤ a → a < 72057594037927936 → 0 ≤ b → b < 256 → bits .or .u64 (a * 256) b = a * 256 + b := by
  intro a b h1 h2 h3 h4
  obtain ⟨a, rfl⟩ := Int.eq_ofNat_of_zero_le h1
  obtain ⟨b, rfl⟩ := Int.eq_ofNat_of_zero_le h3
  have e1 : (BitVec.ofInt 64 ((a : Int) * 256)).toNat = a * 256 := by
    rw [show ((a : Int) * 256) = ((a * 256 : Nat) : Int) by omega, BitVec.ofInt_natCast, BitVec.toNat_ofNat]; exact Nat.mod_eq_of_lt (by omega)
  have e2 : (BitVec.ofInt 64 (b : Int)).toNat = b := by
    rw [BitVec.ofInt_natCast, BitVec.toNat_ofNat]; exact Nat.mod_eq_of_lt (by omega)
  show IntKind.u64.wrap ((BitVec.ofInt 64 ((a : Int) * 256) ||| BitVec.ofInt 64 (b : Int)).toNat : Int) = _
  rw [BitVec.toNat_or, e1, e2, nat_join 8 (a * 256) b (by omega) (by omega), IntWalk.u64_in _ (by omega)]
  omega

/-- The number of the first of four bytes. -/
def acc4 (a b c d : Int) : Nat → Int
  | 0 => 0
  | 1 => a
  | 2 => a * 256 + b
  | 3 => (a * 256 + b) * 256 + c
  | _ => ((a * 256 + b) * 256 + c) * 256 + d

set_option maxHeartbeats 1000000 in
theorem numberAt (g o c : Nat) (x0 x1 x2 x3 : Int) (w : World) (h0 : w.cell? ⟨g, o, none⟩ = some (.int .u8 x0)) (h1 : w.cell? ⟨g, o + 1, none⟩ = some (.int .u8 x1)) (h2 : w.cell? ⟨g, o + 2, none⟩ = some (.int .u8 x2)) (h3 : w.cell? ⟨g, o + 3, none⟩ = some (.int .u8 x3))
    (b0 : 0 ≤ x0 ∧ x0 < 256) (b1 : 0 ≤ x1 ∧ x1 < 256) (b2 : 0 ≤ x2 ∧ x2 < 256) (b3 : 0 ≤ x3 ∧ x3 < 256) :
    Calls Try.prog 36 #[.slice (some ⟨g, o, none⟩) 4 c] w fun e w' => e = .returned (.int .u64 (acc4 x0 x1 x2 x3 4)) ∧ w = w' := by
  obtain ⟨p0, q0⟩ := b0
  obtain ⟨p1, q1⟩ := b1
  obtain ⟨p2, q2⟩ := b2
  obtain ⟨p3, q3⟩ := b3
  go_enter Try.func36, Try.ntmps36
  go_wp2_with fail
  go_loop [3, 8] (fun v i => ∃ (j : Nat) (x : Int), j ≤ 4 ∧ i = .int .i64 j ∧ v = .int .u64 x ∧ x = acc4 x0 x1 x2 x3 j) (fun _ i => 4 - (intOf i).toNat)
  case atStart => exact ⟨0, 0, by omega, rfl, rfl, rfl⟩
  case round =>
    obtain ⟨j, x, hj, rfl, rfl, hx⟩ := hrel
    rcases (show j = 4 ∨ j = 0 ∨ j = 1 ∨ j = 2 ∨ j = 3 by omega) with rfl | rfl | rfl | rfl | rfl
    · subst hx
      go_wp2
      go_ret
      exact ⟨rfl, rfl⟩
    all_goals
      have hxb : 0 ≤ x ∧ x < 16777216 := by simp only [acc4] at hx; omega
      obtain ⟨hxl, hxu⟩ := hxb
      have HX := Lib.hid hx
      clear hx
      have r0 := or_u64 x x0 hxl (by omega) p0 q0
      have r1 := or_u64 x x1 hxl (by omega) p1 q1
      have r2 := or_u64 x x2 hxl (by omega) p2 q2
      have r3 := or_u64 x x3 hxl (by omega) p3 q3
      go_wp2
      go_round
      case measure => simp [intOf]
      case rel => first | exact ⟨1, _, by omega, by go_num, rfl, by rw [HX.out]; simp [acc4]⟩ | exact ⟨2, _, by omega, by go_num, rfl, by rw [HX.out]; simp [acc4]⟩ | exact ⟨3, _, by omega, by go_num, rfl, by rw [HX.out]; simp [acc4]⟩ | exact ⟨4, _, by omega, by go_num, rfl, by rw [HX.out]; simp [acc4]⟩
set_option maxHeartbeats 400000 in
theorem from4 (g o c : Nat) (x0 x1 x2 x3 : Int) (w : World) (hg : g < w.heap.size) (h0 : w.cell? ⟨g, o, none⟩ = some (.int .u8 x0)) (h1 : w.cell? ⟨g, o + 1, none⟩ = some (.int .u8 x1)) (h2 : w.cell? ⟨g, o + 2, none⟩ = some (.int .u8 x2)) (h3 : w.cell? ⟨g, o + 3, none⟩ = some (.int .u8 x3))
    (b0 : 0 ≤ x0 ∧ x0 < 256) (b1 : 0 ≤ x1 ∧ x1 < 256) (b2 : 0 ≤ x2 ∧ x2 < 256) (b3 : 0 ≤ x3 ∧ x3 < 256) :
    Calls Try.prog 31 #[.slice (some ⟨g, o, none⟩) 4 c] w fun e w' => e = .returned (.tuple #[.agg #[.bool false, .int .u64 0, .int .u64 (acc4 x0 x1 x2 x3 4)], .int .i64 0]) ∧ Below w.heap.size w w' := by
  have HN := Lib.hid (fun W hW => numberAt g o c x0 x1 x2 x3 W (((Below.cell (w' := W) hW (p := ⟨g, o, none⟩) hg)).trans h0) ((Below.cell hW (p := ⟨g, o + 1, none⟩) hg).trans h1) ((Below.cell hW (p := ⟨g, o + 2, none⟩) hg).trans h2) ((Below.cell hW (p := ⟨g, o + 3, none⟩) hg).trans h3) b0 b1 b2 b3)
  generalize acc4 x0 x1 x2 x3 4 = q at HN
  go_enter Try.func31, Try.ntmps31
  go_wp2_with fail
  refine (HN.out _ (by repeat (with_reducible first | exact Below.refl _ _ | assumption | refine Below.drew ?_ | refine below_drewN ?_ _ | refine Below.alloc ?_ (by simp) _ | refine Below.setCell ?_ (by first | (simp; done) | omega | (simp; omega)) _ | refine Below.alloc ?_ (by simp; omega) _))).mono ?_
  rintro e w1 ⟨rfl, rfl⟩
  go_wp2
  exact bodyPost_ret (v := .tuple #[.agg #[.bool false, .int .u64 0, .int .u64 q], .int .i64 0]) (by simp [results, Try.results31, go_sem]) rfl ⟨rfl, (by repeat (with_reducible first | exact Below.refl _ _ | assumption | refine Below.drew ?_ | refine below_drewN ?_ _ | refine Below.alloc ?_ (by simp) _ | refine Below.setCell ?_ (by first | (simp; done) | omega | (simp; omega)) _ | refine Below.alloc ?_ (by simp; omega) _))⟩
end Go.Proofs.Ytghhidpggnbfgaa
