/-
  Layer 32: numbers as bytes, and notifications.
-/
import Derived.Test.YtpclmngkpkinoaaRows
import Derived.Test.YtpclmngkpkinoaaPush
import Derived.Test.YtpclmngkpkinoaaRow2
import Derived.Test.YtpclmngkpkinoaaFlat
namespace Go.Proofs.Ytpclmngkpkinoaa
open Go.RowKit
theorem infoU8 : (Try.prog.info? 5).map (fun i => (i.zero, i.size, i.bytes)) = some (some (.int .u8 0), 1, 1) := by kernel_rfl
def be2 (n : Int) : List Int := [n / 256 % 256, n % 256]
def be4 (n : Int) : List Int := [n / 16777216 % 256, n / 65536 % 256, n / 256 % 256, n % 256]
set_option maxHeartbeats 1000000 in
theorem append16_any (base : Nat) (v : Value) (k : Nat) (xs : List Value) (n : Int) (w : World) (h0 : 0 ≤ n) (h1 : n ≤ 4294967295) (hk : k ≤ 1000000) (hB : base ≤ w.heap.size) (hown : w.ownsRow base 5 1 v k xs) :
    Calls Try.prog 36 #[v, .int .i64 n] w fun e w' => ∃ v', e = .returned v' ∧ w'.ownsRow base 5 1 v' (k + 2) (xs ++ (be2 n).map (Value.int .u8)) ∧ Below base w w' := by
  go_enter Try.func36, Try.ntmps36
  go_wp2_with (at_builtin; refine push_lit rfl _ _ 22 rfl _ 5 (.int .u8 0) 1 Try.underlying22 infoU8 rfl (by omega) _ _ _ rfl (hown) [ .int .u8 (n / 256 % 256), .int .u8 (n % 256)] rfl (by simp [Value.oneCell']) (by simp) (by first | omega | (simp; done) | (simp; omega)) (by first | omega | (simp; done) | (simp; omega)) ?_)
  intro v3 w3 hown3 hgr3
  have hb3 := lit_below (Below.refl base w) hown hgr3 (Nat.le_refl _) hB
  go_wp2
  go_ret
  exact ⟨_, rfl, by simpa [be2] using hown3, hb3⟩
set_option maxHeartbeats 1000000 in
theorem append32_any (base : Nat) (v : Value) (k : Nat) (xs : List Value) (n : Int) (w : World) (h0 : 0 ≤ n) (h1 : n ≤ 4294967295) (hk : k ≤ 1000) (hB : base ≤ w.heap.size) (hown : w.ownsRow base 5 1 v k xs) :
    Calls Try.prog 37 #[v, .int .i64 n] w fun e w' => ∃ v', e = .returned v' ∧ w'.ownsRow base 5 1 v' (k + 4) (xs ++ (be4 n).map (Value.int .u8)) ∧ Below base w w' := by
  go_enter Try.func37, Try.ntmps37
  go_wp2_with fail
  refine (append16_any base v k xs (n / 65536) w (by omega) (by omega) (by omega) hB hown).mono ?_
  rintro e w1 ⟨v1, rfl, hown1, hb1⟩
  go_wp2_with fail
  refine (append16_any base v1 (k + 2) _ n w1 h0 h1 (by omega) (Nat.le_trans hB hb1.size) hown1).mono ?_
  rintro e w2 ⟨v2, rfl, hown2, hb2⟩
  go_wp2
  go_ret
  refine ⟨_, rfl, ?_, hb1.trans hb2⟩
  have e1 : n / 65536 / 256 = n / 16777216 := by omega
  simpa [be2, be4, e1] using hown2
set_option maxHeartbeats 1000000 in
theorem number2_any (n : Int) (w : World) (h0 : 0 ≤ n) (h1 : n ≤ 4294967295) :
    Calls Try.prog 30 #[.int .i64 n, .int .i64 2] w fun e w' => ∃ v, e = .returned v ∧ w'.ownsRow w.heap.size 5 1 v 2 ((be2 n).map (Value.int .u8)) ∧ Below w.heap.size w w' := by
  go_enter Try.func30, Try.ntmps30
  go_wp2_with fail
  go_loopw [1, 5] (fun i v wr => ∃ j : Nat, j ≤ 2 ∧ i = .int .i64 (2 - (j : Int)) ∧ wr.ownsRow w.heap.size 5 1 v j (((be2 n).take j).map (Value.int .u8)) ∧ Below w.heap.size w wr) (fun i _ _ => (intOf i).toNat)
  case atStart => exact ⟨0, by omega, rfl, World.ownsRow_nil _ _ _ _, Below.refl _ _⟩
  case round =>
    obtain ⟨j, hj, rfl, hown, hbel⟩ := hrel
    have hsz := hbel.size
    rcases (show j = 2 ∨ j = 0 ∨ j = 1 by omega) with rfl | rfl | rfl
    · go_wp2_with fail
      go_ret
      exact ⟨_, rfl, hown, hbel⟩
    · go_wp2_with (at_builtin; refine push_lit rfl _ _ 22 rfl _ 5 (.int .u8 0) 1 Try.underlying22 infoU8 rfl (by omega) _ _ _ rfl (hown) [ .int .u8 (n / 256 % 256)] rfl (by simp [Value.oneCell']) (by simp) (by first | omega | (simp; done) | (simp; omega)) (by first | omega | (simp; done) | (simp; omega)) ?_)
      intro v3 w3 hown3 hgr3
      have hb3 := lit_below hbel hown hgr3 (Nat.le_refl _) hsz
      go_wp2
      go_roundw
      case rel => exact ⟨1, by omega, by go_num, by simpa [be2] using hown3, hb3⟩
      case measure => simp [intOf]
    · go_wp2_with (at_builtin; refine push_lit rfl _ _ 22 rfl _ 5 (.int .u8 0) 1 Try.underlying22 infoU8 rfl (by omega) _ _ _ rfl (hown) [ .int .u8 (n % 256)] rfl (by simp [Value.oneCell']) (by simp) (by first | omega | (simp; done) | (simp; omega)) (by first | omega | (simp; done) | (simp; omega)) ?_)
      intro v3 w3 hown3 hgr3
      have hb3 := lit_below hbel hown hgr3 (Nat.le_refl _) hsz
      go_wp2
      go_roundw
      case rel => exact ⟨2, by omega, by go_num, by simpa [be2] using hown3, hb3⟩
      case measure => simp [intOf]
set_option maxHeartbeats 1000000 in
theorem number4_any (n : Int) (w : World) (h0 : 0 ≤ n) (h1 : n ≤ 4294967295) :
    Calls Try.prog 30 #[.int .i64 n, .int .i64 4] w fun e w' => ∃ v, e = .returned v ∧ w'.ownsRow w.heap.size 5 1 v 4 ((be4 n).map (Value.int .u8)) ∧ Below w.heap.size w w' := by
  go_enter Try.func30, Try.ntmps30
  go_wp2_with fail
  go_loopw [1, 5] (fun i v wr => ∃ j : Nat, j ≤ 4 ∧ i = .int .i64 (4 - (j : Int)) ∧ wr.ownsRow w.heap.size 5 1 v j (((be4 n).take j).map (Value.int .u8)) ∧ Below w.heap.size w wr) (fun i _ _ => (intOf i).toNat)
  case atStart => exact ⟨0, by omega, rfl, World.ownsRow_nil _ _ _ _, Below.refl _ _⟩
  case round =>
    obtain ⟨j, hj, rfl, hown, hbel⟩ := hrel
    have hsz := hbel.size
    rcases (show j = 4 ∨ j = 0 ∨ j = 1 ∨ j = 2 ∨ j = 3 by omega) with rfl | rfl | rfl | rfl | rfl
    · go_wp2_with fail
      go_ret
      exact ⟨_, rfl, hown, hbel⟩
    · go_wp2_with (at_builtin; refine push_lit rfl _ _ 22 rfl _ 5 (.int .u8 0) 1 Try.underlying22 infoU8 rfl (by omega) _ _ _ rfl (hown) [ .int .u8 (n / 16777216)] rfl (by simp [Value.oneCell']) (by simp) (by first | omega | (simp; done) | (simp; omega)) (by first | omega | (simp; done) | (simp; omega)) ?_)
      intro v3 w3 hown3 hgr3
      have hb3 := lit_below hbel hown hgr3 (Nat.le_refl _) hsz
      go_wp2
      go_roundw
      case rel => exact ⟨1, by omega, by go_num, by simpa [be4, show n / 16777216 % 256 = n / 16777216 by omega] using hown3, hb3⟩
      case measure => simp [intOf]
    · go_wp2_with (at_builtin; refine push_lit rfl _ _ 22 rfl _ 5 (.int .u8 0) 1 Try.underlying22 infoU8 rfl (by omega) _ _ _ rfl (hown) [ .int .u8 (n / 65536 % 256)] rfl (by simp [Value.oneCell']) (by simp) (by first | omega | (simp; done) | (simp; omega)) (by first | omega | (simp; done) | (simp; omega)) ?_)
      intro v3 w3 hown3 hgr3
      have hb3 := lit_below hbel hown hgr3 (Nat.le_refl _) hsz
      go_wp2
      go_roundw
      case rel => exact ⟨2, by omega, by go_num, by simpa [be4] using hown3, hb3⟩
      case measure => simp [intOf]
    · go_wp2_with (at_builtin; refine push_lit rfl _ _ 22 rfl _ 5 (.int .u8 0) 1 Try.underlying22 infoU8 rfl (by omega) _ _ _ rfl (hown) [ .int .u8 (n / 256 % 256)] rfl (by simp [Value.oneCell']) (by simp) (by first | omega | (simp; done) | (simp; omega)) (by first | omega | (simp; done) | (simp; omega)) ?_)
      intro v3 w3 hown3 hgr3
      have hb3 := lit_below hbel hown hgr3 (Nat.le_refl _) hsz
      go_wp2
      go_roundw
      case rel => exact ⟨3, by omega, by go_num, by simpa [be4] using hown3, hb3⟩
      case measure => simp [intOf]
    · go_wp2_with (at_builtin; refine push_lit rfl _ _ 22 rfl _ 5 (.int .u8 0) 1 Try.underlying22 infoU8 rfl (by omega) _ _ _ rfl (hown) [ .int .u8 (n % 256)] rfl (by simp [Value.oneCell']) (by simp) (by first | omega | (simp; done) | (simp; omega)) (by first | omega | (simp; done) | (simp; omega)) ?_)
      intro v3 w3 hown3 hgr3
      have hb3 := lit_below hbel hown hgr3 (Nat.le_refl _) hsz
      go_wp2
      go_roundw
      case rel => exact ⟨4, by omega, by go_num, by simpa [be4] using hown3, hb3⟩
      case measure => simp [intOf]
set_option maxHeartbeats 1000000 in
theorem notify_any (code : Int) (w : World) :
    Calls Try.prog 28 #[.int .i64 code] w fun e w' => ∃ g, e = .returned (.agg #[.int .i64 3, .slice (some ⟨g, 0, none⟩) 2 2]) ∧ w.heap.size ≤ g ∧ Box g 5 #[.int .u8 (code % 256), .int .u8 0] w' ∧ Below w.heap.size w w' := by
  have hb := (Box.made w 43 #[.int .i64 0, .slice none 0 0]).past (.cells #[.int .u8 (code % 256), .int .u8 0] 5)
  have hc : Box (w.heap.size + 1) 5 #[.int .u8 (code % 256), .int .u8 0] ((w.alloc (.cells #[.int .i64 0, .slice none 0 0] 43)).alloc (.cells #[.int .u8 (code % 256), .int .u8 0] 5)) := Box.madeAt (by simp)
  have hbl := ((Below.refl w.heap.size w).alloc (Nat.le_refl _) (.cells #[.int .i64 0, .slice none 0 0] 43)).alloc (by simp) (.cells #[.int .u8 (code % 256), .int .u8 0] 5)
  go_enter Try.func28, Try.ntmps28
  go_wp2_with (refine store_box (t := 43) (by kernel_rfl) rfl rfl hb rfl (by simp [Value.oneCell']) ?_)
  intro W' hz ho
  go_wp2
  exact ret_box Try.results28 Try.underlying43 rfl (by kernel_rfl) rfl hz rfl ⟨_, rfl, by simp, (ho.block _ (by simp)).trans hc, (ho.stays (X := fun _ => False) (Stays.of_below hbl) (by omega)).below⟩
set_option maxHeartbeats 1000000 in
theorem rnotify_any (code : Int) (w : World) :
    Calls Try.prog 42 #[.int .i64 code] w fun e w' => ∃ g, e = .returned (.agg #[.int .i64 3, .slice (some ⟨g, 0, none⟩) 2 2]) ∧ w.heap.size ≤ g ∧ Box g 5 #[.int .u8 (code % 256), .int .u8 0] w' ∧ Below w.heap.size w w' := by
  have hb := (Box.made w 43 #[.int .i64 0, .slice none 0 0]).past (.cells #[.int .u8 (code % 256), .int .u8 0] 5)
  have hc : Box (w.heap.size + 1) 5 #[.int .u8 (code % 256), .int .u8 0] ((w.alloc (.cells #[.int .i64 0, .slice none 0 0] 43)).alloc (.cells #[.int .u8 (code % 256), .int .u8 0] 5)) := Box.madeAt (by simp)
  have hbl := ((Below.refl w.heap.size w).alloc (Nat.le_refl _) (.cells #[.int .i64 0, .slice none 0 0] 43)).alloc (by simp) (.cells #[.int .u8 (code % 256), .int .u8 0] 5)
  go_enter Try.func42, Try.ntmps42
  go_wp2_with (refine store_box (t := 43) (by kernel_rfl) rfl rfl hb rfl (by simp [Value.oneCell']) ?_)
  intro W' hz ho
  go_wp2
  exact ret_box Try.results42 Try.underlying43 rfl (by kernel_rfl) rfl hz rfl ⟨_, rfl, by simp, (ho.block _ (by simp)).trans hc, (ho.stays (X := fun _ => False) (Stays.of_below hbl) (by omega)).below⟩
end Go.Proofs.Ytpclmngkpkinoaa
