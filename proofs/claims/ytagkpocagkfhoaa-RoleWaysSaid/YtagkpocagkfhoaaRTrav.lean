/-
  The reference's Travels.
-/
import Derived.Test.YtagkpocagkfhoaaRTrav9
import Derived.Test.YtagkpocagkfhoaaTrav2
namespace Go.Proofs.Ytagkpocagkfhoaa
open Go.RowKit
set_option maxRecDepth 100000 in
set_option maxHeartbeats 2000000 in
theorem rtravels_any (A : Option Addr) (n c : Nat) (hs : List HopZ) (w : World) (hl : hs.length = n) (hn : n ≤ 1000000000) (hm : HopsAt w.heap.size A hs w) :
    Calls Try.prog 25 #[.slice A n c] w fun e w' => e = .returned (.bool (conn none hs && runR false hs)) ∧ Below w.heap.size w w' := by
  have HJ := Lib.hid (fun W (hW : Below w.heap.size w W) => joined_any A n c hs W hl hn (fun i x hx => by
    obtain ⟨g, o, e, hg, h1, h2, h3⟩ := (hm.below hW) i x hx
    exact ⟨g, o, e, Nat.lt_of_lt_of_le hg hW.size, h1, h2, h3⟩))
  have HL := Lib.hid hl
  have HM := Lib.hid hm
  have HOK := Lib.hid (conn_ok hs none)
  clear hl hm
  obtain ⟨cn, hcn⟩ : ∃ cn, conn none hs = cn := ⟨_, rfl⟩
  rw [hcn] at HJ HOK
  rw [hcn]
  clear hcn
  obtain ⟨q, hq⟩ : ∃ q, (cn && runR false hs) = q := ⟨_, rfl⟩
  rw [hq]
  have HQ := Lib.hid hq
  clear hq
  have hbz := Box.made w 43 #[.int .i64 0, .slice none 0 0, .bool false, .int .u64 0, .int .u64 0, .int .i64 0, .int .i64 0, .int .i64 (0), .slice none 0 0, .slice none 0 0, .slice none 0 0]
  go_enter Try.func25, Try.ntmps25
  go_upto_region 2 with ((with_reducible refine store_box (t := 43) (us := ?_) ?_ ?_ ?_ hbz ?_ ?_ ?_); rotate_left 3; (· exact rfl); (· rfl); (· simp [Value.oneCell']); rotate_left 1; (· kernel_rfl); (· rfl); intro w2 hz2 ho2)
  have b2 : Below w.heap.size w w2 := (ho2.stays (X := fun _ => False) (Stays.of_below ((Below.refl _ _).alloc (Nat.le_refl _) _)) (Nat.le_refl _)).below
  go_wp2_with fail
  go_loopw [10] (fun i wr => ∃ (j : Nat) (x : Int), j ≤ n ∧ i = .int .i64 j ∧ Box w.heap.size 43 #[.int .i64 0, .slice none 0 0, .bool false, .int .u64 0, .int .u64 0, .int .i64 0, .int .i64 0, .int .i64 (x), .slice none 0 0, .slice none 0 0, .slice none 0 0] wr ∧ Hid (q = (cn && runR (x != -1) (hs.drop j))) ∧ Below w.heap.size w wr) (fun i _ => n - (intOf i).toNat)
  case atStart => exact ⟨0, -1, Nat.zero_le _, rfl, hz2, HQ.out.symm, b2⟩
  case round =>
    obtain ⟨j, x, hj, rfl, h3, hrun, hbel⟩ := hrel
    have hsz := hbel.size
    rcases (show j = n ∨ j < n by omega) with rfl | hlt
    · have hfin := hrun.out
      rw [List.drop_of_length_le (by rw [HL.out]; exact Nat.le_refl _)] at hfin
      have hfin := Lib.hid (hfin.trans (by simp [runR]) : q = cn)
      go_wp2_with fail
      refine (HJ.out _ hbel).mono ?_
      rintro e w3 ⟨rfl, hb3⟩
      go_wp2
      go_ret
      exact ⟨(by first | rfl | (rw [hfin.out]; rfl)), hbel.trans (hb3.mono hbel.size)⟩
    · obtain ⟨⟨s, d, r⟩, hh⟩ : ∃ h, hs[j]? = some h := ⟨hs[j]'(by rw [HL.out]; exact hlt), List.getElem?_eq_getElem _⟩
      have hstep := runR_step (x != -1) hs j _ hh
      obtain ⟨g, o, rfl, hg', c1, c2, c3⟩ := HM.out.below hbel j _ hh
      replace hstep := Lib.hid hstep
      have hrr := Lib.hid (fun h => HOK.out h j _ hh)
      clear hh
      simp only at c1 c2 c3
      have hb0 := Box.made wr 56 #[.int .i64 s, .int .i64 d, .int .i64 r]
      have hbl := hbel.alloc hsz (.cells #[.int .i64 s, .int .i64 d, .int .i64 r] 56)
      have h3i := h3.inside
      have h3' := h3.past (.cells #[.int .i64 s, .int .i64 d, .int .i64 r] 56)
      have hne : w.heap.size ≠ wr.heap.size := by omega
      cases hok : (isR r && asnR s) with
      | false =>
        have hfin : Hid (q = false) := by
          refine hrun.out.trans ?_
          cases cn with
          | false => rfl
          | true =>
            have h1 := hrr.out rfl
            simp only at h1
            rw [h1.1, h1.2] at hok
            cases hok
        have HS := Lib.hid (fun w => rsend_arg r s x w hok)
        clear hstep hrun hok
        have hb0_0 := hb0.at_ 0; have hb0_1 := hb0.at_ 1; have hb0_2 := hb0.at_ 2
        go_wp2_with ((with_reducible refine load_box (t := 43) Try.underlying43 ?_ ?_ ?_ h3' ?_); (· rfl); (· kernel_rfl); (· rfl))
        refine (HS.out _).mono ?_
        rintro e w3 ⟨rfl, hb3⟩
        have b3 := hbl.trans (hb3.mono hbl.size)
        have h33 := h3'.under hb3 h3'.inside
        clear hb0_0 hb0_1 hb0_2 hb0 hbl h3' h3 c1 c2 c3
        go_upto_region 7 with ((with_reducible refine store_box (t := 43) (us := ?_) ?_ ?_ ?_ h33 ?_ ?_ ?_); rotate_left 3; (· exact rfl); (· rfl); (· simp [Value.oneCell']); rotate_left 1; (· kernel_rfl); (· rfl); intro w4 h34 ho4)
        have b4 : Below w.heap.size w w4 := (ho4.stays (X := fun _ => False) (Stays.of_below b3) (Nat.le_refl _)).below
        clear ho4
        go_wp2
        go_ret
        exact ⟨(by first | rfl | (rw [hfin.out]; rfl)), b4⟩
      | true =>
        simp only [Bool.and_eq_true] at hok
        obtain ⟨hr, has⟩ := hok
        by_cases hgo : x = -1 ∨ downR r = true
        · have HS := Lib.hid (fun w => rsend_good r s x w hr has hgo)
          obtain ⟨n1, n2, n3⟩ := trav_next r s x hr has hgo
          have HR := Lib.hid (fun w => rrecv_good (invR r) s (sendX r s x) w n1 has n2)
          have hnext : Hid (q = (cn && runR (recvX (invR r) s (sendX r s x) != -1) (hs.drop (j + 1)))) := by
            rw [n3]
            refine hrun.out.trans ?_
            rw [hstep.out]
            cases hd : downR r with
            | true => simp
            | false =>
              have hx : x = -1 := hgo.resolve_right (by simp [hd])
              subst hx
              simp
          generalize recvX (invR r) s (sendX r s x) = x2 at HR hnext
          generalize sendX r s x = x1 at HS HR
          clear n1 n2 n3 hstep hgo hr has hrun
          have hb0_0 := hb0.at_ 0; have hb0_1 := hb0.at_ 1; have hb0_2 := hb0.at_ 2
          go_wp2_with ((with_reducible refine load_box (t := 43) Try.underlying43 ?_ ?_ ?_ h3' ?_); (· rfl); (· kernel_rfl); (· rfl))
          refine (HS.out _).mono ?_
          rintro e w3 ⟨rfl, hb3⟩
          have b3 := hbl.trans (hb3.mono hbl.size)
          have h33 := h3'.under hb3 h3'.inside
          have hH3 := hb0.under hb3 hb0.inside
          clear hb0_0 hb0_1 hb0_2 hb0 hbl h3' h3 c1 c2 c3
          go_upto_region 7 with ((with_reducible refine store_box (t := 43) (us := ?_) ?_ ?_ ?_ h33 ?_ ?_ ?_); rotate_left 3; (· exact rfl); (· rfl); (· simp [Value.oneCell']); rotate_left 1; (· kernel_rfl); (· rfl); intro w4 h34 ho4)
          have b4 : Below w.heap.size w w4 := (ho4.stays (X := fun _ => False) (Stays.of_below b3) (Nat.le_refl _)).below
          have hH4 : Box wr.heap.size 56 #[.int .i64 s, .int .i64 d, .int .i64 r] w4 := by
            show w4.heap[wr.heap.size]? = _
            rw [ho4.block _ hne.symm]; exact hH3
          clear h33 hH3 ho4 hb3
          go_upto_region 9 with fail
          refine rtrav9 wr.heap.size w.heap.size s d r x1 x2 w4 hH4 h34 HR.out _ _ _ _ _ _ _ _ _ _ _ _ _ _ _ _ _ _ _ _ _ _ _ _ _ _ _ _ _ _ _ _ _ _ _ _ _ _ (fun W W' hW hz ho => ?_)
          have b5 : Below w.heap.size w W' := (ho.stays (X := fun _ => False) (Stays.of_below (b4.trans (hW.mono b4.size))) (Nat.le_refl _)).below
          go_wp2
          go_roundw
          case measure => simp [intOf]; omega
          case rel => exact ⟨j + 1, x2, by omega, by go_num, hz, hnext, b5⟩
        · have hx : ¬ x = -1 := fun e => hgo (.inl e)
          have hd : downR r = false := by cases hd : downR r; rfl; exact absurd (.inr hd) hgo
          have HS := Lib.hid (fun w => rsend_no r s x w hr has hx hd)
          have hx1 : (x != -1) = true := by simpa using hx
          have hfin : Hid (q = false) := by
            refine hrun.out.trans ?_
            rw [hstep.out]
            simp [hd, hx1]
          clear hstep hgo hr has hx hd hx1 hrun
          have hb0_0 := hb0.at_ 0; have hb0_1 := hb0.at_ 1; have hb0_2 := hb0.at_ 2
          go_wp2_with ((with_reducible refine load_box (t := 43) Try.underlying43 ?_ ?_ ?_ h3' ?_); (· rfl); (· kernel_rfl); (· rfl))
          refine (HS.out _).mono ?_
          rintro e w3 ⟨rfl, hb3⟩
          have b3 := hbl.trans (hb3.mono hbl.size)
          have h33 := h3'.under hb3 h3'.inside
          clear hb0_0 hb0_1 hb0_2 hb0 hbl h3' h3 c1 c2 c3
          go_upto_region 7 with ((with_reducible refine store_box (t := 43) (us := ?_) ?_ ?_ ?_ h33 ?_ ?_ ?_); rotate_left 3; (· exact rfl); (· rfl); (· simp [Value.oneCell']); rotate_left 1; (· kernel_rfl); (· rfl); intro w4 h34 ho4)
          have b4 : Below w.heap.size w w4 := (ho4.stays (X := fun _ => False) (Stays.of_below b3) (Nat.le_refl _)).below
          clear ho4
          go_wp2
          go_ret
          exact ⟨(by first | rfl | (rw [hfin.out]; rfl)), b4⟩
end Go.Proofs.Ytagkpocagkfhoaa
