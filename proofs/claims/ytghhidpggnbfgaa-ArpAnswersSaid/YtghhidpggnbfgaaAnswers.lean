/-
  ArpAnswers (layer 5): the walk.
-/
import Derived.Test.YtghhidpggnbfgaaArp3
import Derived.Test.YtghhidpggnbfgaaArp4
import Derived.Test.YtghhidpggnbfgaaMsg
import Derived.Test.YtghhidpggnbfgaaAwake5
import Derived.Deep.DeepCutAuto
namespace Go.Proofs.Ytghhidpggnbfgaa
open Go.RowKit
theorem stays_below {D : Nat} {w w1 w2 : World} (hb : Below w.heap.size w w1) (hs : Stays (· = D) w1 w2) (hD : w.heap.size ≤ D) : Below w.heap.size w w2 :=
  ⟨hs.os.trans hb.os, hs.tape.trans hb.tape, hs.output.trans hb.output, Nat.le_trans hb.size hs.size, fun k hk => (hs.block k (Nat.lt_of_lt_of_le hk hb.size) (by omega)).trans (hb.block k hk)⟩
set_option maxRecDepth 100000 in
set_option maxHeartbeats 4000000 in
theorem answers_any (A0 : Option Addr) (n0 c0 : Nat) (zs : List Int) (f0 f1 f2 f3 f4 f5 : Int) (m0 m1 m2 m3 m4 m5 : Int) (sv : Bool) (sh sl : Int) (dv : Bool) (dh dl : Int) (w : World) (hi : Ints .i64 w A0 n0 c0 zs) (_ : ∀ z ∈ [f0, f1, f2, f3, f4, f5], 0 ≤ z ∧ z < 256) (_ : ∀ z ∈ [m0, m1, m2, m3, m4, m5], 0 ≤ z ∧ z < 256) (_ : 0 ≤ sh) (_ : sh < 18446744073709551616) (_ : 0 ≤ sl) (_ : sl < 18446744073709551616) (_ : 0 ≤ dh) (_ : dh < 18446744073709551616) (_ : 0 ≤ dl) (_ : dl < 18446744073709551616) :
    Calls Try.prog 5 #[.slice A0 n0 c0, .agg #[.int .u8 f0, .int .u8 f1, .int .u8 f2, .int .u8 f3, .int .u8 f4, .int .u8 f5], .agg #[.int .u8 m0, .int .u8 m1, .int .u8 m2, .int .u8 m3, .int .u8 m4, .int .u8 m5], .agg #[.bool sv, .int .u64 sh, .int .u64 sl], .agg #[.bool dv, .int .u64 dh, .int .u64 dl]] w fun e w' => e = .returned (.bool true) ∧ Below w.heap.size w w' := by
  have hmx : n0 ≤ 9223372036854775807 := by have h1 := hi.cap; have h2 := hi.max; unfold maxLen at h2; omega
  have HL := Lib.hid hi.lies
  have HN := Lib.hid hi.len
  clear hi
  have b0 : Below w.heap.size w ((((w.alloc (.cells #[.int .u8 f0, .int .u8 f1, .int .u8 f2, .int .u8 f3, .int .u8 f4, .int .u8 f5] 23)).alloc (.cells #[.int .u8 m0, .int .u8 m1, .int .u8 m2, .int .u8 m3, .int .u8 m4, .int .u8 m5] 23)).alloc (.cells #[.bool sv, .int .u64 sh, .int .u64 sl] 26)).alloc (.cells #[.bool dv, .int .u64 dh, .int .u64 dl] 26)) := ((((Below.refl _ _).alloc (Nat.le_refl _) _).alloc (by simp) _).alloc (by simp; omega) _).alloc (by simp; omega) _
  have hF : Box w.heap.size 23 #[.int .u8 f0, .int .u8 f1, .int .u8 f2, .int .u8 f3, .int .u8 f4, .int .u8 f5] ((((w.alloc (.cells #[.int .u8 f0, .int .u8 f1, .int .u8 f2, .int .u8 f3, .int .u8 f4, .int .u8 f5] 23)).alloc (.cells #[.int .u8 m0, .int .u8 m1, .int .u8 m2, .int .u8 m3, .int .u8 m4, .int .u8 m5] 23)).alloc (.cells #[.bool sv, .int .u64 sh, .int .u64 sl] 26)).alloc (.cells #[.bool dv, .int .u64 dh, .int .u64 dl] 26)) := (((Box.made _ _ _).past _).past _).past _
  have hM : Box (w.heap.size + 1) 23 #[.int .u8 m0, .int .u8 m1, .int .u8 m2, .int .u8 m3, .int .u8 m4, .int .u8 m5] ((((w.alloc (.cells #[.int .u8 f0, .int .u8 f1, .int .u8 f2, .int .u8 f3, .int .u8 f4, .int .u8 f5] 23)).alloc (.cells #[.int .u8 m0, .int .u8 m1, .int .u8 m2, .int .u8 m3, .int .u8 m4, .int .u8 m5] 23)).alloc (.cells #[.bool sv, .int .u64 sh, .int .u64 sl] 26)).alloc (.cells #[.bool dv, .int .u64 dh, .int .u64 dl] 26)) := ((Box.madeAt (by simp)).past _).past _
  have hS : Box (w.heap.size + 1 + 1) 26 #[.bool sv, .int .u64 sh, .int .u64 sl] ((((w.alloc (.cells #[.int .u8 f0, .int .u8 f1, .int .u8 f2, .int .u8 f3, .int .u8 f4, .int .u8 f5] 23)).alloc (.cells #[.int .u8 m0, .int .u8 m1, .int .u8 m2, .int .u8 m3, .int .u8 m4, .int .u8 m5] 23)).alloc (.cells #[.bool sv, .int .u64 sh, .int .u64 sl] 26)).alloc (.cells #[.bool dv, .int .u64 dh, .int .u64 dl] 26)) := (Box.madeAt (by simp)).past _
  have hD : Box (w.heap.size + 1 + 1 + 1) 26 #[.bool dv, .int .u64 dh, .int .u64 dl] ((((w.alloc (.cells #[.int .u8 f0, .int .u8 f1, .int .u8 f2, .int .u8 f3, .int .u8 f4, .int .u8 f5] 23)).alloc (.cells #[.int .u8 m0, .int .u8 m1, .int .u8 m2, .int .u8 m3, .int .u8 m4, .int .u8 m5] 23)).alloc (.cells #[.bool sv, .int .u64 sh, .int .u64 sl] 26)).alloc (.cells #[.bool dv, .int .u64 dh, .int .u64 dl] 26)) := Box.madeAt (by simp)
  go_enter Try.func5, Try.ntmps5
  go_upto_region 1 with fail
  generalize ((((w.alloc (.cells #[.int .u8 f0, .int .u8 f1, .int .u8 f2, .int .u8 f3, .int .u8 f4, .int .u8 f5] 23)).alloc (.cells #[.int .u8 m0, .int .u8 m1, .int .u8 m2, .int .u8 m3, .int .u8 m4, .int .u8 m5] 23)).alloc (.cells #[.bool sv, .int .u64 sh, .int .u64 sl] 26)).alloc (.cells #[.bool dv, .int .u64 dh, .int .u64 dl] 26)) = w0 at b0 hF hM hS hD
  go_cut [11] (fun p wx => ∃ q, p = .pointer (some ⟨q, 0, none⟩) ∧ Box q 28 #[.int .i64 (1), .int .u8 f0, .int .u8 f1, .int .u8 f2, .int .u8 f3, .int .u8 f4, .int .u8 f5, .bool sv, .int .u64 sh, .int .u64 sl, .int .u8 0, .int .u8 0, .int .u8 0, .int .u8 0, .int .u8 0, .int .u8 0, .bool dv, .int .u64 dh, .int .u64 dl] wx ∧ Below w0.heap.size w0 wx)
  case first =>
    have hF_0 := hF.at_ 0; have hF_1 := hF.at_ 1; have hF_2 := hF.at_ 2; have hF_3 := hF.at_ 3; have hF_4 := hF.at_ 4; have hF_5 := hF.at_ 5
    have hS_0 := hS.at_ 0; have hS_1 := hS.at_ 1; have hS_2 := hS.at_ 2
    have hD_0 := hD.at_ 0; have hD_1 := hD.at_ 1; have hD_2 := hD.at_ 2
    go_wp2_with fail
    refine (request_any f0 f1 f2 f3 f4 f5 sv sh sl dv dh dl _).mono ?_
    rintro e w1 ⟨rfl, hb1⟩
    have hbz := Box.made w1 28 #[.int .i64 0, .int .u8 0, .int .u8 0, .int .u8 0, .int .u8 0, .int .u8 0, .int .u8 0, .bool false, .int .u64 0, .int .u64 0, .int .u8 0, .int .u8 0, .int .u8 0, .int .u8 0, .int .u8 0, .int .u8 0, .bool false, .int .u64 0, .int .u64 0]
    go_wp2_with (refine store_box (t := 28) (by kernel_rfl) rfl rfl hbz rfl (by simp [Value.oneCell']) ?_)
    intro w2 hz ho
    go_wp2
    go_meet
    exact ⟨w1.heap.size, rfl, hz, (ho.stays (X := fun _ => False) (Stays.of_below (hb1.alloc hb1.size _)) hb1.size).below⟩
  case rest =>
    obtain ⟨q1, rfl, hq1, hb1⟩ := hcut
    obtain ⟨w1, rfl⟩ : ∃ x : World, x = wc := ⟨_, rfl⟩
    have b1 := b0.trans (hb1.mono b0.size)
    have hF := hF.under hb1 hF.inside
    have hM := hM.under hb1 hM.inside
    have hS := hS.under hb1 hS.inside
    have hD := hD.under hb1 hD.inside
    clear hb1 b0
    go_upto_region 2 with fail
    go_cut [12] (fun p wx => ∃ (q op a l b r : Int) (Q : Nat), p = .pointer (some ⟨Q, 0, none⟩) ∧ Box Q 28 #[.int .i64 op, .int .u8 2, .int .u8 0, .int .u8 (a / 16777216 % 256), .int .u8 (a / 65536 % 256), .int .u8 (a / 256 % 256), .int .u8 (a % 256), .bool false, .int .u64 0, .int .u64 l, .int .u8 2, .int .u8 0, .int .u8 (b / 16777216 % 256), .int .u8 (b / 65536 % 256), .int .u8 (b / 256 % 256), .int .u8 (b % 256), .bool false, .int .u64 0, .int .u64 r] wx ∧ Below w1.heap.size w1 wx)
    case first =>
      go_wp2_with fail
      refine (new_any A0 n0 c0 zs _ HN.out hmx ((HL.out.below b1).more b1.size)).mono ?_
      rintro e w2 ⟨D, rfl, hD0, hdeck, hb2⟩
      go_wp2_with fail
      refine (message_any D A0 n0 c0 zs _ hdeck).mono ?_
      rintro e w3 ⟨op, a, l, b, r, rfl, -, -, -, hs⟩
      have hb3 := stays_below hb2 hs hD0
      have hbz := Box.made w3 28 #[.int .i64 0, .int .u8 0, .int .u8 0, .int .u8 0, .int .u8 0, .int .u8 0, .int .u8 0, .bool false, .int .u64 0, .int .u64 0, .int .u8 0, .int .u8 0, .int .u8 0, .int .u8 0, .int .u8 0, .int .u8 0, .bool false, .int .u64 0, .int .u64 0]
      go_wp2_with (refine store_box (t := 28) (by kernel_rfl) rfl rfl hbz rfl (by simp [Value.oneCell']) ?_)
      intro w4 hz ho
      go_wp2
      go_meet
      exact ⟨0, op, a, l, b, r, w3.heap.size, rfl, hz, (ho.stays (X := fun _ => False) (Stays.of_below (hb3.alloc hb3.size _)) hb3.size).below⟩
    case rest =>
      obtain ⟨-, op, a, l, b, r, q2, rfl, hq2, hb2⟩ := hcut
      obtain ⟨w2, rfl⟩ : ∃ x : World, x = wc := ⟨_, rfl⟩
      have b2 := b1.trans (hb2.mono b1.size)
      have hF := hF.under hb2 hF.inside
      have hM := hM.under hb2 hM.inside
      have hS := hS.under hb2 hS.inside
      have hD := hD.under hb2 hD.inside
      have hq1 := hq1.under hb2 hq1.inside
      clear hb2 b1
      generalize a / 16777216 % 256 = a2 at hq2
      generalize a / 65536 % 256 = a3 at hq2
      generalize a / 256 % 256 = a4 at hq2
      generalize a % 256 = a5 at hq2
      generalize b / 16777216 % 256 = c2 at hq2
      generalize b / 65536 % 256 = c3 at hq2
      generalize b / 256 % 256 = c4 at hq2
      generalize b % 256 = c5 at hq2
      go_upto_region 3 with fail
      refine arp3 f0 f1 f2 f3 f4 f5 m0 m1 m2 m3 m4 m5 sv sh sl dv dh dl op 2 0 a2 a3 a4 a5 false 0 l 2 0 c2 c3 c4 c5 false 0 r w.heap.size (w.heap.size + 1) (w.heap.size + 1 + 1) (w.heap.size + 1 + 1 + 1) q1 q2 w2 hF hM hS hD hq1 hq2 _ _ _ _ _ _ _ _ _ _ _ _ _ _ _ _ _ _ _ _ _ _ _ _ _ _ _ _ _ _ _ _ _ _ _ _ _ _ _ _ _ _ _ _ _ _ _ _ _ _ _ _ _ _ _ _ _ _ _ _ _ _ _ _ _ _ _ _ _ _ _ _ _ _ _ _ _ _ _ _ _ _ _ _ _ _ _ _ _ (fun q3 q4 w3 hq3 hq4 hb3 => ?_)
      have b3 := b2.trans (hb3.mono b2.size)
      have hF := hF.under hb3 hF.inside
      have hM := hM.under hb3 hM.inside
      have hS := hS.under hb3 hS.inside
      have hD := hD.under hb3 hD.inside
      have hq1 := hq1.under hb3 hq1.inside
      have hq2 := hq2.under hb3 hq2.inside
      clear hb3 b2
      go_upto_region 4 with fail
      refine arp4 f0 f1 f2 f3 f4 f5 m0 m1 m2 m3 m4 m5 sv sh sl dv dh dl op 2 0 a2 a3 a4 a5 false 0 l 2 0 c2 c3 c4 c5 false 0 r w.heap.size (w.heap.size + 1) (w.heap.size + 1 + 1) (w.heap.size + 1 + 1 + 1) q1 q2 w3 q3 q4 hF hM hS hD hq1 hq2 hq3 hq4 _ _ _ _ _ _ _ _ _ _ _ _ _ _ _ _ _ _ _ _ _ _ _ _ _ _ _ _ _ _ _ _ _ _ _ _ _ _ _ _ _ _ _ _ _ _ _ _ _ _ _ _ _ _ _ _ _ _ _ _ _ _ _ _ _ _ _ _ _ _ _ _ _ _ _ _ _ _ _ _ _ _ _ _ _ _ _ (fun w4 hb4 => ?_)
      have b4 := b3.trans (hb4.mono b3.size)
      have hM := hM.under hb4 hM.inside
      have hq2 := hq2.under hb4 hq2.inside
      have hq4 := hq4.under hb4 hq4.inside
      clear hF hS hD hq1 hq3 hb4 b3
      have j1 : ∀ w, (Op.equalIn 10000 23 (.agg #[.int .u8 2, .int .u8 0, .int .u8 a2, .int .u8 a3, .int .u8 a4, .int .u8 a5]) (.agg #[.int .u8 2, .int .u8 0, .int .u8 a2, .int .u8 a3, .int .u8 a4, .int .u8 a5])).run Try.prog w = .ok true w := fun w => by rw [eq_mac]; simp
      have j2 : ∀ w, (Op.equalIn 10000 23 (.agg #[.int .u8 m0, .int .u8 m1, .int .u8 m2, .int .u8 m3, .int .u8 m4, .int .u8 m5]) (.agg #[.int .u8 m0, .int .u8 m1, .int .u8 m2, .int .u8 m3, .int .u8 m4, .int .u8 m5])).run Try.prog w = .ok true w := fun w => by rw [eq_mac]; simp
      have j3 : ∀ w, (Op.equalIn 10000 26 (.agg #[.bool false, .int .u64 0, .int .u64 l]) (.agg #[.bool false, .int .u64 0, .int .u64 l])).run Try.prog w = .ok true w := fun w => by rw [eq_addr, sameA_refl]
      have j4 : ∀ w, (Op.equalIn 10000 26 (.agg #[.bool false, .int .u64 0, .int .u64 r]) (.agg #[.bool false, .int .u64 0, .int .u64 r])).run Try.prog w = .ok true w := fun w => by rw [eq_addr, sameA_refl]
      have hM_0 := hM.at_ 0; have hM_1 := hM.at_ 1; have hM_2 := hM.at_ 2; have hM_3 := hM.at_ 3; have hM_4 := hM.at_ 4; have hM_5 := hM.at_ 5
      have hq2_0 := hq2.at_ 0; have hq2_1 := hq2.at_ 1; have hq2_2 := hq2.at_ 2; have hq2_3 := hq2.at_ 3; have hq2_4 := hq2.at_ 4; have hq2_5 := hq2.at_ 5; have hq2_6 := hq2.at_ 6; have hq2_7 := hq2.at_ 7; have hq2_8 := hq2.at_ 8; have hq2_9 := hq2.at_ 9; have hq2_10 := hq2.at_ 10; have hq2_11 := hq2.at_ 11; have hq2_12 := hq2.at_ 12; have hq2_13 := hq2.at_ 13; have hq2_14 := hq2.at_ 14; have hq2_15 := hq2.at_ 15; have hq2_16 := hq2.at_ 16; have hq2_17 := hq2.at_ 17; have hq2_18 := hq2.at_ 18
      have hq4_0 := hq4.at_ 0; have hq4_1 := hq4.at_ 1; have hq4_2 := hq4.at_ 2; have hq4_3 := hq4.at_ 3; have hq4_4 := hq4.at_ 4; have hq4_5 := hq4.at_ 5; have hq4_6 := hq4.at_ 6; have hq4_7 := hq4.at_ 7; have hq4_8 := hq4.at_ 8; have hq4_9 := hq4.at_ 9; have hq4_10 := hq4.at_ 10; have hq4_11 := hq4.at_ 11; have hq4_12 := hq4.at_ 12; have hq4_13 := hq4.at_ 13; have hq4_14 := hq4.at_ 14; have hq4_15 := hq4.at_ 15; have hq4_16 := hq4.at_ 16; have hq4_17 := hq4.at_ 17; have hq4_18 := hq4.at_ 18
      go_wp2_with fail
      refine (awake5_any _).mono ?_
      rintro e w5 ⟨rfl, hb5⟩
      go_wp2
      go_ret
      exact ⟨rfl, b4.trans (hb5.mono b4.size)⟩
end Go.Proofs.Ytghhidpggnbfgaa
