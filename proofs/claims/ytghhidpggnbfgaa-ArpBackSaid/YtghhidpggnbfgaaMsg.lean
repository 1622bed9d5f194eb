/-
  Layer 5: the messages that are made.
-/
import Derived.Test.YtghhidpggnbfgaaDeck0
import Derived.Test.YtghhidpggnbfgaaMac
import Derived.Test.YtghhidpggnbfgaaRow
namespace Go.Proofs.Ytghhidpggnbfgaa
open Go.RowKit
set_option maxHeartbeats 1000000 in
theorem message_any (D : Nat) (A : Option Addr) (n c : Nat) (zs : List Int) (w : World) (hd : Deck D A n c zs w) :
    Calls Try.prog 8 #[.pointer (some ⟨D, 0, none⟩)] w fun e w' => ∃ (op a l b r : Int), e = .returned (.agg #[.int .i64 op, .int .u8 2, .int .u8 0, .int .u8 (a / 16777216 % 256), .int .u8 (a / 65536 % 256), .int .u8 (a / 256 % 256), .int .u8 (a % 256), .bool false, .int .u64 0, .int .u64 l, .int .u8 2, .int .u8 0, .int .u8 (b / 16777216 % 256), .int .u8 (b / 65536 % 256), .int .u8 (b / 256 % 256), .int .u8 (b % 256), .bool false, .int .u64 0, .int .u64 r]) ∧
      (1 ≤ op ∧ op ≤ 2) ∧ (0 ≤ l ∧ l < 1073741824) ∧ (0 ≤ r ∧ r < 5) ∧ Stays (· = D) w w' := by
  have hin0 := hd.inside
  have hb0 := (Below.refl w.heap.size w).alloc (Nat.le_refl _) (.cells #[.int .i64 0, .int .u8 0, .int .u8 0, .int .u8 0, .int .u8 0, .int .u8 0, .int .u8 0, .bool false, .int .u64 0, .int .u64 0, .int .u8 0, .int .u8 0, .int .u8 0, .int .u8 0, .int .u8 0, .int .u8 0, .bool false, .int .u64 0, .int .u64 0] 28)
  have hbx0 := Box.made w 28 #[.int .i64 0, .int .u8 0, .int .u8 0, .int .u8 0, .int .u8 0, .int .u8 0, .int .u8 0, .bool false, .int .u64 0, .int .u64 0, .int .u8 0, .int .u8 0, .int .u8 0, .int .u8 0, .int .u8 0, .int .u8 0, .bool false, .int .u64 0, .int .u64 0]
  have hd0 := hd.stays hb0
  go_enter Try.func8, Try.ntmps8
  go_wp2_with fail
  refine (next_any D A n c zs 2 _ (by omega) (by omega) hd0).mono ?_
  rintro e w1 ⟨r1, rfl, ⟨p0, p1⟩, hd1, hs1⟩
  go_wp2_with fail
  refine (next_any D A n c zs 99 _ (by omega) (by omega) hd1).mono ?_
  rintro e w2 ⟨r2, rfl, -, hd2, hs2⟩
  go_wp2_with fail
  refine (mac_any r2 _).mono ?_
  rintro e w3 ⟨rfl, hb3⟩
  have hd3 := hd2.stays hb3
  go_wp2_with fail
  refine (next_any D A n c zs 1073741824 _ (by omega) (by omega) hd3).mono ?_
  rintro e w4 ⟨r4, rfl, ⟨q0, q1⟩, hd4, hs4⟩
  go_wp2_with fail
  refine (next_any D A n c zs 99 _ (by omega) (by omega) hd4).mono ?_
  rintro e w5 ⟨r5, rfl, -, hd5, hs5⟩
  go_wp2_with fail
  refine (mac_any r5 _).mono ?_
  rintro e w6 ⟨rfl, hb6⟩
  have hd6 := hd5.stays hb6
  go_wp2_with fail
  refine (next_any D A n c zs 5 _ (by omega) (by omega) hd6).mono ?_
  rintro e w7 ⟨r7, rfl, ⟨t0, t1⟩, hd7, hs7⟩
  have hs := ((((((hs1.trans hs2).trans (Stays.of_below hb3)).trans hs4).trans hs5).trans (Stays.of_below hb6)).trans hs7)
  have hbx := box_stays hbx0 hs (show ¬ w.heap.size = D by omega)
  have hs' := (Stays.of_below (X := (· = D)) hb0).trans hs
  clear hd0 hd1 hd2 hd3 hd4 hd5 hd6 hd7 hs1 hs2 hs4 hs5 hs7 hb3 hb6 hb0 hbx0 hs
  have z1 : IntKind.i64.wrap (1 + r1) = 1 + r1 := IntWalk.i64_in _ (by omega)
  go_wp2_with (refine store_box (t := 28) (by kernel_rfl) rfl rfl hbx rfl (by simp [Value.oneCell']) ?_)
  intro W' hz ho'
  go_wp2
  exact ret_box Try.results8 Try.underlying28 rfl (by kernel_rfl) rfl hz rfl ⟨1 + r1, r2, r4, r5, r7, rfl, by omega, ⟨q0, q1⟩, ⟨t0, t1⟩, OnlyBlock.stays (g := w.heap.size) ho' hs' (Nat.le_refl _)⟩
end Go.Proofs.Ytghhidpggnbfgaa
