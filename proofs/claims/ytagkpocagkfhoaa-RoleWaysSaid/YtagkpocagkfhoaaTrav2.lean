/-
  Travels: what passes.
-/
import Derived.Test.YtagkpocagkfhoaaTrav
namespace Go.Proofs.Ytagkpocagkfhoaa
open Go.RowKit
theorem asn_pos {s : Int} (h : asnR s = true) : 1 ≤ s := by
  unfold asnR at h
  simp at h
  omega
theorem trav_next (r s x : Int) (hr : isR r = true) (hs : asnR s = true) (h : x = -1 ∨ downR r = true) :
    isR (invR r) = true ∧ (sendX r s x = -1 ∨ (downR (invR r) = false ∧ (invR r = 4 → sendX r s x = s))) ∧ (recvX (invR r) s (sendX r s x) != -1) = (if downR r then true else r == 4) := by
  have h1 := asn_pos hs
  have hne : ¬ s = -1 := by omega
  by_cases hx : x = -1
  · subst hx
    rcases isR_cases hr with rfl | rfl | rfl | rfl | rfl <;> simp [isR, invR, downR, sendX, recvX, hne]
  · have hd := h.resolve_left hx
    rcases isR_cases hr with rfl | rfl | rfl | rfl | rfl
    · simp [isR, invR, downR, sendX, recvX, hx]
    · simp [isR, invR, downR, sendX, recvX, hx]
    · simp [downR] at hd
    · simp [downR] at hd
    · simp [downR] at hd
set_option maxRecDepth 100000 in
set_option maxHeartbeats 2000000 in
theorem travels_any (A : Option Addr) (n c : Nat) (hs : List HopZ) (w : World) (hl : hs.length = n) (hn : n ≤ 1000000000) (hm : HopsAt w.heap.size A hs w) :
    Calls Try.prog 16 #[.slice A n c] w fun e w' => e = .returned (.bool (conn none hs && runR false hs)) ∧ Below w.heap.size w w' := by
  have HC := Lib.hid (connected_any A n c hs w hl hn hm)
  have HL := Lib.hid hl
  have HM := Lib.hid hm
  have HOK := Lib.hid (conn_ok hs none)
  clear hl hm
  generalize conn none hs = cn at HC HOK
  cases cn with
  | false =>
    go_enter Try.func16, Try.ntmps16
    go_wp2_with fail
    refine HC.out.mono ?_
    rintro e w1 ⟨rfl, hb1⟩
    go_wp2
    go_ret
    exact ⟨rfl, hb1⟩
  | true =>
    obtain ⟨q, hq⟩ : ∃ q, runR false hs = q := ⟨_, rfl⟩
    rw [hq]
    have HQ := Lib.hid hq
    clear hq
    go_enter Try.func16, Try.ntmps16
    go_wp2_with fail
    refine HC.out.mono ?_
    rintro e w1 ⟨rfl, hb1⟩
    have hbz := Box.made w1 43 #[.int .i64 0, .slice none 0 0, .bool false, .int .u64 0, .int .u64 0, .int .i64 0, .int .i64 0, .int .i64 (0), .slice none 0 0, .slice none 0 0, .slice none 0 0]
    go_upto_region 4 with ((with_reducible refine store_box (t := 43) (us := ?_) ?_ ?_ ?_ hbz ?_ ?_ ?_); rotate_left 3; (· exact rfl); (· rfl); (· simp [Value.oneCell']); rotate_left 1; (· kernel_rfl); (· rfl); intro w2 hz2 ho2)
    have b2 : Below w.heap.size w w2 := (ho2.stays (X := fun _ => False) (Stays.of_below (hb1.alloc hb1.size _)) hb1.size).below
    have hg3 := hb1.size
    obtain ⟨g3, hg⟩ : ∃ x, x = w1.heap.size := ⟨_, rfl⟩
    rw [← hg] at hz2 hg3
    rw [← hg]
    clear ho2 hbz hg hb1 HC
    go_wp2_with fail
    go_loopw [14] (fun i wr => ∃ (j : Nat) (x : Int), j ≤ n ∧ i = .int .i64 j ∧ Box g3 43 #[.int .i64 0, .slice none 0 0, .bool false, .int .u64 0, .int .u64 0, .int .i64 0, .int .i64 0, .int .i64 (x), .slice none 0 0, .slice none 0 0, .slice none 0 0] wr ∧ Hid (q = runR (x != -1) (hs.drop j)) ∧ Below w.heap.size w wr) (fun i _ => n - (intOf i).toNat)
    case atStart => exact ⟨0, -1, Nat.zero_le _, rfl, hz2, HQ.out.symm, b2⟩
    case round =>
      obtain ⟨j, x, hj, rfl, h3, hrun, hbel⟩ := hrel
      have hsz := hbel.size
      rcases (show j = n ∨ j < n by omega) with rfl | hlt
      · have hfin := hrun.out
        rw [List.drop_of_length_le (by rw [HL.out]; exact Nat.le_refl _)] at hfin
        have hfin := Lib.hid (hfin.trans (by simp [runR]) : q = true)
        go_wp2
        go_ret
        exact ⟨(by first | rfl | (rw [hfin.out]; rfl)), hbel⟩
      · obtain ⟨⟨s, d, r⟩, hh⟩ : ∃ h, hs[j]? = some h := ⟨hs[j]'(by rw [HL.out]; exact hlt), List.getElem?_eq_getElem _⟩
        have hstep := runR_step (x != -1) hs j _ hh
        rw [← hrun.out] at hstep
        obtain ⟨hr, has⟩ := HOK.out (by trivial) j _ hh
        obtain ⟨g, o, rfl, hg, c1, c2, c3⟩ := HM.out.below hbel j _ hh
        replace hstep := Lib.hid hstep
        clear hh hrun
        simp only at c1 c2 c3 hr has
        have hb0 := Box.made wr 56 #[.int .i64 s, .int .i64 d, .int .i64 r]
        have hbl := hbel.alloc hsz (.cells #[.int .i64 s, .int .i64 d, .int .i64 r] 56)
        have h3i := h3.inside
        have h3' := h3.past (.cells #[.int .i64 s, .int .i64 d, .int .i64 r] 56)
        by_cases hgo : x = -1 ∨ downR r = true
        · have HS := Lib.hid (fun w => send_good r s x w hr has hgo)
          obtain ⟨n1, n2, n3⟩ := trav_next r s x hr has hgo
          have HR := Lib.hid (fun w => recv_good (invR r) s (sendX r s x) w n1 has n2)
          have hnext : Hid (q = runR (recvX (invR r) s (sendX r s x) != -1) (hs.drop (j + 1))) := by
            rw [n3]
            refine hstep.out.trans ?_
            cases hd : downR r with
            | true => simp [hd]
            | false =>
              have hx : x = -1 := hgo.resolve_right (by simp [hd])
              subst hx
              simp [hd]
          generalize recvX (invR r) s (sendX r s x) = x2 at HR hnext
          generalize sendX r s x = x1 at HS HR
          clear n1 n2 n3 hstep hgo hr has
          have hb0_0 := hb0.at_ 0; have hb0_1 := hb0.at_ 1; have hb0_2 := hb0.at_ 2
          go_wp2_with ((with_reducible refine load_box (t := 43) Try.underlying43 ?_ ?_ ?_ h3' ?_); (· rfl); (· kernel_rfl); (· rfl))
          refine (HS.out _).mono ?_
          rintro e w3 ⟨rfl, hb3⟩
          have b3 := hbl.trans (hb3.mono hbl.size)
          have h33 := h3'.under hb3 h3'.inside
          have hH3 := hb0.under hb3 hb0.inside
          have i3 := h33.inside
          have iH := hH3.inside
          have hy := Box.made w3 43 #[.int .i64 0, .slice none 0 0, .bool false, .int .u64 0, .int .u64 0, .int .i64 0, .int .i64 0, .int .i64 (0), .slice none 0 0, .slice none 0 0, .slice none 0 0]
          clear hb0_0 hb0_1 hb0_2 hb0 hbl h3' h3 c1 c2 c3
          go_upto_region 8 with ((with_reducible refine store_box (t := 43) (us := ?_) ?_ ?_ ?_ hy ?_ ?_ ?_); rotate_left 3; (· exact rfl); (· rfl); (· simp [Value.oneCell']); rotate_left 1; (· kernel_rfl); (· rfl); intro w4 h64 ho4)
          have b4 : Below w.heap.size w w4 := (ho4.stays (X := fun _ => False) (Stays.of_below (b3.alloc b3.size _)) b3.size).below
          have h34 : Box g3 43 #[.int .i64 0, .slice none 0 0, .bool false, .int .u64 0, .int .u64 0, .int .i64 0, .int .i64 0, .int .i64 (x), .slice none 0 0, .slice none 0 0, .slice none 0 0] w4 := by
            show w4.heap[g3]? = _
            rw [ho4.block _ (by omega)]; exact h33.past _
          have hH4 : Box wr.heap.size 56 #[.int .i64 s, .int .i64 d, .int .i64 r] w4 := by
            show w4.heap[wr.heap.size]? = _
            rw [ho4.block _ (by omega)]; exact hH3.past _
          clear h33 hH3 hy ho4 hb3
          go_upto_region 10 with fail
          refine trav10 wr.heap.size g3 _ s d r x x1 x2 w4 hH4 h34 h64 HR.out _ _ _ _ _ _ _ _ _ _ _ _ _ _ _ _ _ _ _ _ _ _ _ _ _ _ _ _ _ _ _ _ _ _ _ _ _ _ _ (fun W W' hW hz ho => ?_)
          have b5 : Below w.heap.size w W' := (ho.stays (X := fun _ => False) (Stays.of_below (b4.trans (hW.mono b4.size))) hg3).below
          go_wp2
          go_roundw
          case measure => simp [intOf]; omega
          case rel => exact ⟨j + 1, x2, by omega, by go_num, hz, hnext, b5⟩
        · have hx : ¬ x = -1 := fun e => hgo (.inl e)
          have hd : downR r = false := by cases hd : downR r; rfl; exact absurd (.inr hd) hgo
          have HS := Lib.hid (fun w => send_bad r s x w hr has hx hd)
          have hx1 : (x != -1) = true := by simpa using hx
          have hfin := Lib.hid (hstep.out.trans (by simp [hd, hx1]) : q = false)
          clear hstep hgo hr has hx hd hx1
          have hb0_0 := hb0.at_ 0; have hb0_1 := hb0.at_ 1; have hb0_2 := hb0.at_ 2
          go_wp2_with ((with_reducible refine load_box (t := 43) Try.underlying43 ?_ ?_ ?_ h3' ?_); (· rfl); (· kernel_rfl); (· rfl))
          refine (HS.out _).mono ?_
          rintro e w3 ⟨rfl, hb3⟩
          have b3 := hbl.trans (hb3.mono hbl.size)
          have hy := Box.made w3 43 #[.int .i64 0, .slice none 0 0, .bool false, .int .u64 0, .int .u64 0, .int .i64 0, .int .i64 0, .int .i64 (0), .slice none 0 0, .slice none 0 0, .slice none 0 0]
          clear hb0_0 hb0_1 hb0_2 hb0 hbl h3' h3 c1 c2 c3
          go_upto_region 8 with ((with_reducible refine store_box (t := 43) (us := ?_) ?_ ?_ ?_ hy ?_ ?_ ?_); rotate_left 3; (· exact rfl); (· rfl); (· simp [Value.oneCell']); rotate_left 1; (· kernel_rfl); (· rfl); intro w4 h64 ho4)
          have b4 : Below w.heap.size w w4 := (ho4.stays (X := fun _ => False) (Stays.of_below (b3.alloc b3.size _)) b3.size).below
          clear ho4 hy
          go_wp2
          go_ret
          exact ⟨(by first | rfl | (rw [hfin.out]; rfl)), b4⟩
end Go.Proofs.Ytagkpocagkfhoaa
