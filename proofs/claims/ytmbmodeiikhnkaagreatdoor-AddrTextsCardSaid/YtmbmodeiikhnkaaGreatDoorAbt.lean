/-
  Layer 1: the text that the laws make (law01.text).
-/
import Derived.Test.YtmbmodeiikhnkaaGreatDoorAbl
import Derived.Test.YtmbmodeiikhnkaaGreatDoorMkDeck
import Derived.Test.YtmbmodeiikhnkaaGreatDoorG04
import Derived.Test.YtmbmodeiikhnkaaGreatDoorG07
namespace Go.Proofs.YtmbmodeiikhnkaaGreatDoor
open Go.RowKit
theorem joinC_le (c : UInt8) (n : Nat) : ∀ ws : List (List UInt8), (∀ w ∈ ws, w.length ≤ n) → (joinC c ws).length ≤ (n + 1) * ws.length
  | [], _ => by simp [joinC]
  | [w], h => by
    have := h w (by simp)
    simp [joinC]; omega
  | w :: v :: r, h => by
    have h1 := h w (by simp)
    have h2 := joinC_le c n (v :: r) fun x hx => h x (List.mem_cons_of_mem _ hx)
    rw [joinC_cons c w (by simp)]
    simp only [List.length_append, List.length_cons] at h2 ⊢
    rw [Nat.mul_add (n + 1) (r.length + 1) 1]
    omega
theorem replaceK_len (old new : List UInt8) : ∀ (k : Nat) (s : List UInt8), (Lib.replaceK old new k s).length ≤ s.length + k * new.length
  | 0, s => by simp [Lib.replaceK]
  | k + 1, s => by
    unfold Lib.replaceK
    split
    · omega
    · have ih := replaceK_len old new k (s.drop ((Lib.index s old).toNat + old.length))
      simp only [List.length_append, List.length_take, List.length_drop] at ih ⊢
      rw [Nat.add_mul]
      omega
theorem replace_len (old new : List UInt8) (s : List UInt8) : (Lib.replace s old new 1).length ≤ s.length + new.length := by
  unfold Lib.replace
  split
  · omega
  · have h := replaceK_len old new (Lib.replaceNum s old 1) s
    have hk : Lib.replaceNum s old 1 ≤ 1 := by unfold Lib.replaceNum; split <;> omega
    have := Nat.mul_le_mul_right new.length hk
    omega
/-- The words of a drawn text. -/
def drw (ls : List (List UInt8)) (zs : List Int) (p : Nat) : Nat → List (List UInt8)
  | 0 => []
  | i + 1 => drw ls zs p i ++ [ls.getD (nextV zs (nextPs zs i p) ls.length).toNat []]
theorem drw_len (ls : List (List UInt8)) (zs : List Int) (p : Nat) : ∀ i, (drw ls zs p i).length = i
  | 0 => rfl
  | i + 1 => by simp [drw, drw_len ls zs p i]
theorem drw_all (ls : List (List UInt8)) (zs : List Int) (p : Nat) (n : Nat) (h : ∀ w ∈ ls, w.length ≤ n) : ∀ i, ∀ w ∈ drw ls zs p i, w.length ≤ n
  | 0, w, hw => by simp [drw] at hw
  | i + 1, w, hw => by
    rcases List.mem_append.1 hw with hw | hw
    · exact drw_all ls zs p n h i w hw
    · rw [List.mem_singleton.1 hw, List.getD_eq_getElem?_getD]
      cases e : ls[(nextV zs (nextPs zs i p) ls.length).toNat]? with
      | none => simp
      | some v => exact h v (List.mem_of_getElem? e)
def lit7 : List (List UInt8) := [[48], [49], [50, 53, 53], [50, 53, 54], [48, 49], [57], []]
def lit10 : List (List UInt8) := [[48], [49], [65, 66, 67, 68], [100, 98, 56], [48, 48, 48, 48], [48, 48, 97], [], [102, 102, 102, 102, 102], [103], [48]]
theorem lit7_len : ∀ w ∈ lit7, w.length ≤ 5 := by decide
theorem lit10_len : ∀ w ∈ lit10, w.length ≤ 5 := by decide
theorem strL_getD {ls : List (List UInt8)} {V : Nat} (h : V < ls.length) : (strL ls)[V]? = some (.val (bstr (ls.getD V []))) := by
  unfold strL
  rw [List.getElem?_map, List.getD_eq_getElem?_getD, List.getElem?_eq_getElem h]
  rfl
theorem strL_snoc (ws : List (List UInt8)) (w : List UInt8) : strL (ws ++ [w]) = strL ws ++ [.val (bstr w)] := by unfold strL; simp
theorem drw_join (ls : List (List UInt8)) (zs : List Int) (p : Nat) (c : UInt8) (h : ∀ w ∈ ls, w.length ≤ 5) (i : Nat) : (Lib.join (drw ls zs p i) [c]).length ≤ 6 * i := by
  rw [join_one]
  have := joinC_le c 5 _ (drw_all ls zs p 5 h i)
  rw [drw_len] at this
  exact this
theorem next_nat (zs : List Int) (p n : Nat) (h0 : 0 < n) (h1 : n ≤ 1000) (hz : zs.length ≤ 9223372036854775807) (hp : p ≤ zs.length) : ∃ V : Nat, nextV zs p n = (V : Int) ∧ V < n ∧
    Spec Tryz.prog 14 [.ptr 0 0 0, .val (.int .i64 (n : Int))] [(0, some (0, deckO zs p))] (.val (.int .i64 (V : Int))) [(0, some (0, deckO zs (nextP zs p)))] := by
  have sn := next_spec zs p n (by omega) (by omega) hz hp
  obtain ⟨r0, r1⟩ := nextV_range zs p n (by omega)
  obtain ⟨V, hV⟩ := Int.eq_ofNat_of_zero_le r0
  rw [hV] at sn
  exact ⟨V, hV, by omega, sn⟩
set_option maxHeartbeats 16000000 in
set_option maxRecDepth 100000 in
theorem text_dot (zs : List Int) (p : Nat) (hz : zs.length ≤ 9223372036854775807) (hp : p ≤ zs.length) (h3 : nextV zs p 3 = 0) : ∃ (t : List UInt8) (q : Nat), t.length ≤ 600 ∧ q ≤ zs.length ∧
    Spec Tryz.prog 7 [.ptr 0 0 0] [(0, some (0, deckO zs p))] (.val (bstr t)) [(0, some (0, deckO zs q))] := by
  obtain ⟨V0, e0, v0, s0⟩ := next_nat zs p 3 (by decide) (by decide) hz hp
  rw [show ((3 : Nat) : Int) = 3 from rfl] at e0 s0
  rw [h3] at e0
  obtain rfl : V0 = 0 := by omega
  have hp1 := nextP_le zs p hp
  obtain ⟨p1, hp1e⟩ : ∃ p1, nextP zs p = p1 := ⟨_, rfl⟩
  rw [hp1e] at hp1 s0
  obtain ⟨V1, e1, v1, s1⟩ := next_nat zs p1 3 (by decide) (by decide) hz hp1
  rw [show ((3 : Nat) : Int) = 3 from rfl] at e1 s1
  have hp2 := nextP_le zs p1 hp1
  obtain ⟨p2, hp2e⟩ : ∃ p2, nextP zs p1 = p2 := ⟨_, rfl⟩
  rw [hp2e] at hp2 s1
  obtain ⟨C, hC⟩ : ∃ C, 3 + V1 = C := ⟨_, rfl⟩
  have wC : IntKind.i64.wrap (3 + (V1 : Int)) = (C : Int) := by rw [IntKind.wrap_i64]; omega
  have hjl := drw_join lit7 zs p2 46 lit7_len C
  have hdl := drw_len lit7 zs p2
  have hdl' := drw_len lit7 zs p2
  have js := join_spec (drw lit7 zs p2 C) [46] (by rw [hdl]; omega) (by omega)
  refine ⟨Lib.join (drw lit7 zs p2 C) [46], nextPs zs C p2, by omega, nextPs_le _ _ _ hp2, ?_⟩
  generalize Lib.join (drw lit7 zs p2 C) [46] = T at *
  clear hjl h3 e0 e1 hp1e hp2e
  refine spec_of_awp Tryz.func7 rfl (Nat.le_of_ble_eq_true rfl) fun ini => ?_
  simp only [Tryz.ntmps7]
  (repeat (first | refine awp_reg_seq rfl fun k => ?_ | refine awp_seq ?_ | refine awp_true rfl ?_ | refine awp_block ?_ | (apply runk_with rfl rfl rfl ?_ ?_ ?_ ?_ ?_ ?_ ?_ ?_ ?_ ?_ ?_; rotate_left 10; (· (conv => (lhs; whnf))); (· exact Tryz.func14); (· rfl); (· rfl); (· exact (s0)); (· (repeat (first | exact Rens.nil | (refine Rens.cons ?_ ?_; (· first | exact Ren.ptr _ _ _ _ _ List.mem_cons_self | (refine Ren.pureR ?_ rfl; (rfl))))))); (· rfl); (· rfl); (· ((simp; done))); (· ((simp; done)))) | (apply runk_with rfl rfl rfl ?_ ?_ ?_ ?_ ?_ ?_ ?_ ?_ ?_ ?_ ?_; rotate_left 10; (· (conv => (lhs; whnf))); (· exact Tryz.func14); (· rfl); (· rfl); (· exact (s1)); (· (repeat (first | exact Rens.nil | (refine Rens.cons ?_ ?_; (· first | exact Ren.ptr _ _ _ _ _ List.mem_cons_self | (refine Ren.pureR ?_ rfl; (rfl))))))); (· rfl); (· rfl); (· ((simp; done))); (· ((simp; done)))) | (apply runk0 rfl rfl (opok_move rfl ?_) ?_; rotate_left 1; (· (conv => (lhs; whnf)))) | (apply runk0 rfl rfl (opok_assign rfl ?_) ?_; rotate_left 1; (· (conv => (lhs; whnf)))) | (apply runk0 rfl rfl (opok_bin rfl ?_ ?_ ?_) ?_; rotate_left 3; (· (conv => (lhs; whnf))); (· (conv => (lhs; whnf))); (· (intro w; go_simp; rfl))) | refine runk_end (by kernel_rfl) ?_))
  refine awp_adopt 3 3 9 1 rfl fun k3 => ?_
  refine awp_loop (fun m st => ∃ (i kq : Nat), i + m = C ∧ st.leB ⟨[(0, .ptr 0 0 0), (3, .own 3 kq (strL (drw lit7 zs p2 i)).length), (11, .val (.int .i64 (C : Int))), (12, .val (.int .i64 (i : Int)))], [(0, some (0, deckO zs (nextPs zs i p2))), (3, some (kq, .row 9 1 (strL (drw lit7 zs p2 i))))]⟩) C ⟨0, k3, by omega, by (refine leB_of ?_ ?_; (· (repeat (first | exact EnvIs.nil | (refine EnvIs.cons ?_ ?_; (· rfl))))); (· (repeat (first | exact ObjsAre.nil | (refine ObjsAre.cons ?_ ?_; (· rfl))))))⟩ ?_
  rintro m st ⟨i, kq, him, hle⟩
  refine awp_less hle ?_
  clear hle st
  have wi : IntKind.i64.wrap ((i : Int) + 1) = ((i + 1 : Nat) : Int) := by rw [IntKind.wrap_i64]; omega
  obtain ⟨j, hj⟩ : ∃ j, i + 1 = j := ⟨_, rfl⟩
  rw [hj] at wi
  (repeat (first | refine awp_reg_seq rfl fun k => ?_ | refine awp_seq ?_ | (apply runk0 rfl rfl (opok_bin rfl ?_ ?_ ?_) ?_; rotate_left 3; (· (conv => (lhs; whnf))); (· (conv => (lhs; whnf))); (· (intro w; go_simp; first | done | rfl))) | refine runk_end (by kernel_rfl) ?_))
  refine awp_if rfl (fun hc => ?_) (fun hc => ?_)
  · have hi : i < C := by simp at hc; omega
    clear hc
    obtain ⟨V, e, v, sn⟩ := next_nat zs (nextPs zs i p2) 7 (by decide) (by decide) hz (nextPs_le _ _ _ hp2)
    rw [← nextPs_succ, hj] at sn
    rw [show ((7 : Nat) : Int) = 7 from rfl] at e sn
    have hX := strL_getD (ls := lit7) (V := V) v
    have hD : drw lit7 zs p2 j = drw lit7 zs p2 i ++ [lit7.getD V []] := by
      rw [← hj]
      show _ ++ [lit7.getD (nextV zs (nextPs zs i p2) 7).toNat []] = _
      rw [e, Int.toNat_natCast]
    have hsl : (strL (drw lit7 zs p2 i)).length = i := by unfold strL; rw [List.length_map, hdl]
    have hsj : strL (drw lit7 zs p2 j) = strL (drw lit7 zs p2 i) ++ [.val (bstr (lit7.getD V []))] := by rw [hD, strL_snoc]
    clear e hD hdl js
    generalize lit7.getD V [] = Wd at *
    have hT : List.take (strL (drw lit7 zs p2 i)).length (strL (drw lit7 zs p2 i)) = strL (drw lit7 zs p2 i) := List.take_length
    have hDl : (drw lit7 zs p2 i).length = i := hdl' i
    have hi10 : i ≤ 100 := by omega
    generalize drw lit7 zs p2 i = D at *
    generalize hq2 : nextPs zs j p2 = q2 at *
    generalize nextPs zs i p2 = q1 at *
    (repeat (first | refine awp_reg rfl fun k => ?_ | refine awp_seq ?_ | refine awp_skip (?_ : Awp _ _ _ _ _ _) | refine awp_block ?_ | (apply runk_with rfl rfl rfl ?_ ?_ ?_ ?_ ?_ ?_ ?_ ?_ ?_ ?_ ?_; rotate_left 10; (· (conv => (lhs; whnf))); (· exact Tryz.func14); (· rfl); (· rfl); (· exact (sn)); (· (repeat (first | exact Rens.nil | (refine Rens.cons ?_ ?_; (· first | exact Ren.ptr _ _ _ _ _ List.mem_cons_self | (refine Ren.pureR ?_ rfl; (rfl))))))); (· rfl); (· rfl); (· ((simp; done))); (· ((simp; done)))) | (apply runk0 rfl rfl (opok_move rfl ?_) ?_; rotate_left 1; (· (conv => (lhs; whnf)))) | (apply runk_assignOwn rfl rfl rfl ?_ ?_ ?_; rotate_left 4; (· (conv => (lhs; whnf))); (· (conv => (lhs; whnf; arg 1; whnf)))) | (apply runk0 rfl rfl (opok_bin rfl ?_ ?_ ?_) ?_; rotate_left 3; (· (conv => (lhs; whnf))); (· (conv => (lhs; whnf))); (· (intro w; go_simp; rfl))) | (apply runk0 rfl rfl (opok_index_own rfl ?_ ?_ ?_ ?_ ?_ ?_ ?_ ?_) ?_; rotate_left 10; (· (conv => (lhs; whnf))); (· (conv => (lhs; whnf; arg 1; whnf; arg 2; whnf))); (· (conv => (lhs; whnf))); (· (conv => (lhs; whnf; arg 1; whnf))); (· (unfold sizeIs; conv => (lhs; whnf; arg 1; whnf))); (· omega); (· omega); (· rfl)) | (apply runk_lit rfl rfl rfl ?_ ?_ ?_ ?_ ?_ ?_ ?_ ?_ ?_ ?_ ?_; rotate_left 4; (· (conv => (lhs; whnf; arg 1; whnf))); (· (unfold sizeIs; conv => (lhs; whnf; arg 1; whnf))); (· (conv => (lhs; whnf; arg 1; whnf))); (· rfl); (· rfl); (· rfl); (· rfl); (· (repeat (first | exact PartsAre.nil _ | (apply PartsAre.cons; (· (conv => (lhs; whnf))))))); (· rfl); (· rfl)) | refine runk_end (by kernel_rfl) ?_ | (apply runk0 rfl rfl (opok_elem _ rfl ?_ ?_ ?_ ?_ ?_ ?_ ?_ ?_) ?_; rotate_left 8; (· (conv => (lhs; whnf))); (· (conv => (lhs; whnf; arg 1; whnf; arg 2; whnf))); (· rfl); (· rfl); (· rfl); (· rfl); (· assumption); (· rfl)) | (apply runk_app rfl rfl rfl ?_ ?_ ?_ ?_ ?_ ?_ ?_ ?_ ?_ ?_ ?_ ?_ ?_ ?_ ?_ ?_; rotate_left 11; (· (conv => (lhs; whnf))); (· (conv => (lhs; whnf))); (· (conv => (lhs; whnf; arg 1; whnf))); (· (unfold sizeIs; conv => (lhs; whnf; arg 1; whnf))); (· (conv => (lhs; whnf; arg 1; whnf))); (· (conv => (lhs; whnf; arg 1; whnf))); (· rfl); (· rfl); (· rfl); (· ((refine .own _ _ _ _ rfl ?_; rfl))); (· ((refine .own _ _ _ _ _ _ rfl ?_; rfl))); (· rfl); (· rfl); (· ((simp; omega))); (· rfl))))
    exact ⟨C - j, by omega, j, _, by omega, by rw [hsj, hq2]; (refine leB_of ?_ ?_; (· (repeat (first | exact EnvIs.nil | (refine EnvIs.cons ?_ ?_; (· first | rfl | ((conv => (lhs; whnf)); first | (simp [hT]; done) | (simp [hT]; omega))))))); (· (repeat (first | exact ObjsAre.nil | (refine ObjsAre.cons ?_ ?_; (· first | rfl | ((conv => (lhs; whnf)); first | (simp [hT]; done) | (simp [hT]; omega))))))))⟩
  · have hi : i = C := by simp at hc; omega
    subst hi
    clear hc
    (refine awp_frz 3 _ (strL (drw lit7 zs p2 i)) ([(0, .ptr 0 0 0), (3, .ro (strL (drw lit7 zs p2 i)))]) ([(0, some (0, deckO zs (nextPs zs i p2)))]) rfl ?_ ?_ ?_; (· (repeat (first | exact EnvFrz.nil | (refine EnvFrz.cons rfl ?_ ?_; (· first | exact .one (.same _) | (refine .one (.own _ ?_); rfl)))))); (· (repeat (first | exact ObjsFrz.nil | (refine ObjsFrz.cons rfl rfl ?_ ?_; (· (exact .same _)))))))
    (repeat (first | refine awp_reg_seq rfl fun k => ?_ | refine awp_exit (?_ : Awp _ _ _ _ _ _) | (refine awp_ret ?_; (apply ends_with ?_ ?_ ?_ ?_ ?_ ?_ ?_ ?_ (.inl rfl); rotate_left 3; (· (exact res_one rfl rfl)); (· rfl); (· rfl); (· (conv => (lhs; whnf; arg 1; whnf))); (· rfl); (· rfl); (· ((simp; done))); (· rfl))) | (apply runk_pure rfl rfl rfl ?_ ?_ ?_ ?_ ?_ ?_ ?_ ?_; rotate_left 6; (· (conv => (lhs; whnf))); (· exact Tryz.func15); (· rfl); (· rfl); (· exact (js)); (· (repeat (first | exact Rens.nil | (refine Rens.cons ?_ ?_; (· ((refine Ren.pureR ?_ rfl; (first | rfl | (simp; done))))))))); (· rfl)) | (apply runk0 rfl rfl (opok_move rfl ?_) ?_; rotate_left 1; (· (conv => (lhs; whnf)))) | (apply runk0 rfl rfl (opok_assign rfl ?_) ?_; rotate_left 1; (· (conv => (lhs; whnf)))) | refine runk_end (by kernel_rfl) ?_))
set_option maxHeartbeats 16000000 in
set_option maxRecDepth 100000 in
theorem text_col (zs : List Int) (p : Nat) (hz : zs.length ≤ 9223372036854775807) (hp : p ≤ zs.length) (h3 : nextV zs p 3 ≠ 0) : ∃ (t : List UInt8) (q : Nat), t.length ≤ 600 ∧ q ≤ zs.length ∧
    Spec Tryz.prog 7 [.ptr 0 0 0] [(0, some (0, deckO zs p))] (.val (bstr t)) [(0, some (0, deckO zs q))] := by
  obtain ⟨V0, e0, v0, s0⟩ := next_nat zs p 3 (by decide) (by decide) hz hp
  rw [show ((3 : Nat) : Int) = 3 from rfl] at e0 s0
  have d0 : ((V0 : Int) == 0) = false := by rw [beq_eq_false_iff_ne]; rw [← e0]; exact h3
  have hp1 := nextP_le zs p hp
  obtain ⟨p1, hp1e⟩ : ∃ p1, nextP zs p = p1 := ⟨_, rfl⟩
  rw [hp1e] at hp1 s0
  obtain ⟨V1, e1, v1, s1⟩ := next_nat zs p1 9 (by decide) (by decide) hz hp1
  rw [show ((9 : Nat) : Int) = 9 from rfl] at e1 s1
  have hp2 := nextP_le zs p1 hp1
  obtain ⟨p2, hp2e⟩ : ∃ p2, nextP zs p1 = p2 := ⟨_, rfl⟩
  rw [hp2e] at hp2 s1
  obtain ⟨C, hC⟩ : ∃ C, 1 + V1 = C := ⟨_, rfl⟩
  have wC : IntKind.i64.wrap (1 + (V1 : Int)) = (C : Int) := by rw [IntKind.wrap_i64]; omega
  have hjl := drw_join lit10 zs p2 58 lit10_len C
  have hdl := drw_len lit10 zs p2
  have hdl' := drw_len lit10 zs p2
  have js := join_spec (drw lit10 zs p2 C) [58] (by rw [hdl]; omega) (by omega)
  have hp3 := nextPs_le zs C p2 hp2
  obtain ⟨V5, e5, v5, s5⟩ := next_nat zs (nextPs zs C p2) 5 (by decide) (by decide) hz hp3
  rw [show ((5 : Nat) : Int) = 5 from rfl] at e5 s5
  have rp := replace_spec (Lib.join (drw lit10 zs p2 C) [58]) [58, 48, 58] [58, 58] 1 (by omega) (by decide) (by decide)
  have rl := replace_len [58, 48, 58] [58, 58] (Lib.join (drw lit10 zs p2 C) [58])
  obtain ⟨T, hTl, hT⟩ : ∃ T : List UInt8, T.length ≤ 600 ∧ T = (if V5 = 0 then [58, 58] ++ Lib.join (drw lit10 zs p2 C) [58] else if V5 = 1 then Lib.join (drw lit10 zs p2 C) [58] ++ [58, 58] else if V5 = 2 then Lib.join (drw lit10 zs p2 C) [58] ++ [58, 49, 46, 50, 46, 51, 46, 52] else if V5 = 3 then Lib.replace (Lib.join (drw lit10 zs p2 C) [58]) [58, 48, 58] [58, 58] 1 else Lib.join (drw lit10 zs p2 C) [58]) := by
    refine ⟨_, ?_, rfl⟩
    simp only [List.length_cons, List.length_nil] at rl
    repeat' split
    all_goals first | omega | (simp only [List.length_append, List.length_cons, List.length_nil]; omega)
  refine ⟨T, nextP zs (nextPs zs C p2), hTl, nextP_le _ _ hp3, ?_⟩
  clear hTl rl
  generalize Lib.replace (Lib.join (drw lit10 zs p2 C) [58]) [58, 48, 58] [58, 58] 1 = RT at *
  generalize Lib.join (drw lit10 zs p2 C) [58] = JT at *
  clear h3 e0 e1 hp1e hp2e e5
  refine spec_of_awp Tryz.func7 rfl (Nat.le_of_ble_eq_true rfl) fun ini => ?_
  simp only [Tryz.ntmps7]
  (repeat (first | refine awp_reg_seq rfl fun k => ?_ | refine awp_seq ?_ | refine awp_false rfl ?_ | refine awp_skip (?_ : Awp _ _ _ _ _ _) | refine awp_block ?_ | (apply runk_with rfl rfl rfl ?_ ?_ ?_ ?_ ?_ ?_ ?_ ?_ ?_ ?_ ?_; rotate_left 10; (· (conv => (lhs; whnf))); (· exact Tryz.func14); (· rfl); (· rfl); (· exact (s0)); (· (repeat (first | exact Rens.nil | (refine Rens.cons ?_ ?_; (· first | exact Ren.ptr _ _ _ _ _ List.mem_cons_self | (refine Ren.pureR ?_ rfl; (rfl))))))); (· rfl); (· rfl); (· ((simp; done))); (· ((simp; done)))) | (apply runk_with rfl rfl rfl ?_ ?_ ?_ ?_ ?_ ?_ ?_ ?_ ?_ ?_ ?_; rotate_left 10; (· (conv => (lhs; whnf))); (· exact Tryz.func14); (· rfl); (· rfl); (· exact (s1)); (· (repeat (first | exact Rens.nil | (refine Rens.cons ?_ ?_; (· first | exact Ren.ptr _ _ _ _ _ List.mem_cons_self | (refine Ren.pureR ?_ rfl; (rfl))))))); (· rfl); (· rfl); (· ((simp; done))); (· ((simp; done)))) | (apply runk0 rfl rfl (opok_move rfl ?_) ?_; rotate_left 1; (· (conv => (lhs; whnf)))) | (apply runk0 rfl rfl (opok_assign rfl ?_) ?_; rotate_left 1; (· (conv => (lhs; whnf)))) | (apply runk0 rfl rfl (opok_bin rfl ?_ ?_ ?_) ?_; rotate_left 3; (· (conv => (lhs; whnf))); (· (conv => (lhs; whnf))); (· (intro w; go_simp; rfl))) | refine runk_end (by kernel_rfl) ?_))
  refine awp_adopt 4 4 9 1 rfl fun k3 => ?_
  refine awp_loop (fun m st => ∃ (i kq : Nat), i + m = C ∧ st.leB ⟨[(0, .ptr 0 0 0), (4, .own 4 kq (strL (drw lit10 zs p2 i)).length), (27, .val (.int .i64 (C : Int))), (28, .val (.int .i64 (i : Int)))], [(0, some (0, deckO zs (nextPs zs i p2))), (4, some (kq, .row 9 1 (strL (drw lit10 zs p2 i))))]⟩) C ⟨0, k3, by omega, by (refine leB_of ?_ ?_; (· (repeat (first | exact EnvIs.nil | (refine EnvIs.cons ?_ ?_; (· rfl))))); (· (repeat (first | exact ObjsAre.nil | (refine ObjsAre.cons ?_ ?_; (· rfl))))))⟩ ?_
  rintro m st ⟨i, kq, him, hle⟩
  refine awp_less hle ?_
  clear hle st
  have wi : IntKind.i64.wrap ((i : Int) + 1) = ((i + 1 : Nat) : Int) := by rw [IntKind.wrap_i64]; omega
  obtain ⟨j, hj⟩ : ∃ j, i + 1 = j := ⟨_, rfl⟩
  rw [hj] at wi
  (repeat (first | refine awp_reg_seq rfl fun k => ?_ | refine awp_seq ?_ | (apply runk0 rfl rfl (opok_bin rfl ?_ ?_ ?_) ?_; rotate_left 3; (· (conv => (lhs; whnf))); (· (conv => (lhs; whnf))); (· (intro w; go_simp; first | done | rfl))) | refine runk_end (by kernel_rfl) ?_))
  refine awp_if rfl (fun hc => ?_) (fun hc => ?_)
  · have hi : i < C := by simp at hc; omega
    clear hc
    obtain ⟨V, e, v, sn⟩ := next_nat zs (nextPs zs i p2) 10 (by decide) (by decide) hz (nextPs_le _ _ _ hp2)
    rw [← nextPs_succ, hj] at sn
    rw [show ((10 : Nat) : Int) = 10 from rfl] at e sn
    have hX := strL_getD (ls := lit10) (V := V) v
    have hD : drw lit10 zs p2 j = drw lit10 zs p2 i ++ [lit10.getD V []] := by
      rw [← hj]
      show _ ++ [lit10.getD (nextV zs (nextPs zs i p2) 10).toNat []] = _
      rw [e, Int.toNat_natCast]
    have hsl : (strL (drw lit10 zs p2 i)).length = i := by unfold strL; rw [List.length_map, hdl]
    have hsj : strL (drw lit10 zs p2 j) = strL (drw lit10 zs p2 i) ++ [.val (bstr (lit10.getD V []))] := by rw [hD, strL_snoc]
    clear e hD hdl js rp hT
    generalize lit10.getD V [] = Wd at *
    have hT : List.take (strL (drw lit10 zs p2 i)).length (strL (drw lit10 zs p2 i)) = strL (drw lit10 zs p2 i) := List.take_length
    have hDl : (drw lit10 zs p2 i).length = i := hdl' i
    have hi10 : i ≤ 100 := by omega
    generalize drw lit10 zs p2 i = D at *
    generalize hq2 : nextPs zs j p2 = q2 at *
    generalize nextPs zs i p2 = q1 at *
    (repeat (first | refine awp_reg rfl fun k => ?_ | refine awp_seq ?_ | refine awp_skip (?_ : Awp _ _ _ _ _ _) | refine awp_block ?_ | (apply runk_with rfl rfl rfl ?_ ?_ ?_ ?_ ?_ ?_ ?_ ?_ ?_ ?_ ?_; rotate_left 10; (· (conv => (lhs; whnf))); (· exact Tryz.func14); (· rfl); (· rfl); (· exact (sn)); (· (repeat (first | exact Rens.nil | (refine Rens.cons ?_ ?_; (· first | exact Ren.ptr _ _ _ _ _ List.mem_cons_self | (refine Ren.pureR ?_ rfl; (rfl))))))); (· rfl); (· rfl); (· ((simp; done))); (· ((simp; done)))) | (apply runk0 rfl rfl (opok_move rfl ?_) ?_; rotate_left 1; (· (conv => (lhs; whnf)))) | (apply runk_assignOwn rfl rfl rfl ?_ ?_ ?_; rotate_left 4; (· (conv => (lhs; whnf))); (· (conv => (lhs; whnf; arg 1; whnf)))) | (apply runk0 rfl rfl (opok_bin rfl ?_ ?_ ?_) ?_; rotate_left 3; (· (conv => (lhs; whnf))); (· (conv => (lhs; whnf))); (· (intro w; go_simp; rfl))) | (apply runk0 rfl rfl (opok_index_own rfl ?_ ?_ ?_ ?_ ?_ ?_ ?_ ?_) ?_; rotate_left 10; (· (conv => (lhs; whnf))); (· (conv => (lhs; whnf; arg 1; whnf; arg 2; whnf))); (· (conv => (lhs; whnf))); (· (conv => (lhs; whnf; arg 1; whnf))); (· (unfold sizeIs; conv => (lhs; whnf; arg 1; whnf))); (· omega); (· omega); (· rfl)) | (apply runk_lit rfl rfl rfl ?_ ?_ ?_ ?_ ?_ ?_ ?_ ?_ ?_ ?_ ?_; rotate_left 4; (· (conv => (lhs; whnf; arg 1; whnf))); (· (unfold sizeIs; conv => (lhs; whnf; arg 1; whnf))); (· (conv => (lhs; whnf; arg 1; whnf))); (· rfl); (· rfl); (· rfl); (· rfl); (· (repeat (first | exact PartsAre.nil _ | (apply PartsAre.cons; (· (conv => (lhs; whnf))))))); (· rfl); (· rfl)) | refine runk_end (by kernel_rfl) ?_ | (apply runk0 rfl rfl (opok_elem _ rfl ?_ ?_ ?_ ?_ ?_ ?_ ?_ ?_) ?_; rotate_left 8; (· (conv => (lhs; whnf))); (· (conv => (lhs; whnf; arg 1; whnf; arg 2; whnf))); (· rfl); (· rfl); (· rfl); (· rfl); (· assumption); (· rfl)) | (apply runk_app rfl rfl rfl ?_ ?_ ?_ ?_ ?_ ?_ ?_ ?_ ?_ ?_ ?_ ?_ ?_ ?_ ?_ ?_; rotate_left 11; (· (conv => (lhs; whnf))); (· (conv => (lhs; whnf))); (· (conv => (lhs; whnf; arg 1; whnf))); (· (unfold sizeIs; conv => (lhs; whnf; arg 1; whnf))); (· (conv => (lhs; whnf; arg 1; whnf))); (· (conv => (lhs; whnf; arg 1; whnf))); (· rfl); (· rfl); (· rfl); (· ((refine .own _ _ _ _ rfl ?_; rfl))); (· ((refine .own _ _ _ _ _ _ rfl ?_; rfl))); (· rfl); (· rfl); (· ((simp; omega))); (· rfl))))
    exact ⟨C - j, by omega, j, _, by omega, by rw [hsj, hq2]; (refine leB_of ?_ ?_; (· (repeat (first | exact EnvIs.nil | (refine EnvIs.cons ?_ ?_; (· first | rfl | ((conv => (lhs; whnf)); first | (simp [hT]; done) | (simp [hT]; omega))))))); (· (repeat (first | exact ObjsAre.nil | (refine ObjsAre.cons ?_ ?_; (· first | rfl | ((conv => (lhs; whnf)); first | (simp [hT]; done) | (simp [hT]; omega))))))))⟩
  · have hi : i = C := by simp at hc; omega
    subst hi
    clear hc
    (refine awp_frz 4 _ (strL (drw lit10 zs p2 i)) ([(0, .ptr 0 0 0), (4, .ro (strL (drw lit10 zs p2 i)))]) ([(0, some (0, deckO zs (nextPs zs i p2)))]) rfl ?_ ?_ ?_; (· (repeat (first | exact EnvFrz.nil | (refine EnvFrz.cons rfl ?_ ?_; (· first | exact .one (.same _) | (refine .one (.own _ ?_); rfl)))))); (· (repeat (first | exact ObjsFrz.nil | (refine ObjsFrz.cons rfl rfl ?_ ?_; (· (exact .same _)))))))
    clear hdl wi
    generalize drw lit10 zs p2 i = D at *
    generalize nextP zs (nextPs zs i p2) = q3 at *
    generalize nextPs zs i p2 = q2 at *
    have hv : V5 = 0 ∨ V5 = 1 ∨ V5 = 2 ∨ V5 = 3 ∨ V5 = 4 := by omega
    rcases hv with rfl | rfl | rfl | rfl | rfl
    · rw [if_pos rfl] at hT
      subst hT
      (repeat (first | refine awp_reg_seq rfl fun k => ?_ | refine awp_reg rfl fun k => ?_ | refine awp_seq ?_ | refine awp_true rfl ?_ | refine awp_block ?_ | refine awp_exit (?_ : Awp _ _ _ _ _ _) | (refine awp_ret ?_; (apply ends_with ?_ ?_ ?_ ?_ ?_ ?_ ?_ ?_ (.inl rfl); rotate_left 3; (· (exact res_one rfl rfl)); (· rfl); (· rfl); (· (conv => (lhs; whnf; arg 1; whnf))); (· rfl); (· rfl); (· ((simp; done))); (· rfl))) | (apply runk_pure rfl rfl rfl ?_ ?_ ?_ ?_ ?_ ?_ ?_ ?_; rotate_left 6; (· (conv => (lhs; whnf))); (· exact Tryz.func15); (· rfl); (· rfl); (· exact (js)); (· (repeat (first | exact Rens.nil | (refine Rens.cons ?_ ?_; (· ((refine Ren.pureR ?_ rfl; (first | rfl | (simp; done))))))))); (· rfl)) | (apply runk_with rfl rfl rfl ?_ ?_ ?_ ?_ ?_ ?_ ?_ ?_ ?_ ?_ ?_; rotate_left 10; (· (conv => (lhs; whnf))); (· exact Tryz.func14); (· rfl); (· rfl); (· exact (s5)); (· (repeat (first | exact Rens.nil | (refine Rens.cons ?_ ?_; (· first | exact Ren.ptr _ _ _ _ _ List.mem_cons_self | (refine Ren.pureR ?_ rfl; (rfl))))))); (· rfl); (· rfl); (· ((simp; done))); (· ((simp; done)))) | (((((apply runk0 rfl rfl (opok_scat rfl ?_ ?_ ?_) ?_; rotate_left 2; (· ((conv => (lhs; whnf)); try exact rfl)); (· ((conv => (lhs; whnf)); try exact rfl)); (· ((simp; omega)))))))) | (apply runk0 rfl rfl (opok_move rfl ?_) ?_; rotate_left 1; (· (conv => (lhs; whnf)))) | (apply runk0 rfl rfl (opok_assign rfl ?_) ?_; rotate_left 1; (· (conv => (lhs; whnf)))) | (apply runk0 rfl rfl (opok_bin rfl ?_ ?_ ?_) ?_; rotate_left 3; (· (conv => (lhs; whnf))); (· (conv => (lhs; whnf))); (· (intro w; go_simp; rfl))) | refine runk_end (by kernel_rfl) ?_))
    · rw [if_neg (by decide), if_pos rfl] at hT
      subst hT
      (repeat (first | refine awp_reg_seq rfl fun k => ?_ | refine awp_reg rfl fun k => ?_ | refine awp_seq ?_ | refine awp_true rfl ?_ | refine awp_false rfl ?_ | refine awp_block ?_ | refine awp_exit (?_ : Awp _ _ _ _ _ _) | (refine awp_ret ?_; (apply ends_with ?_ ?_ ?_ ?_ ?_ ?_ ?_ ?_ (.inl rfl); rotate_left 3; (· (exact res_one rfl rfl)); (· rfl); (· rfl); (· (conv => (lhs; whnf; arg 1; whnf))); (· rfl); (· rfl); (· ((simp; done))); (· rfl))) | (apply runk_pure rfl rfl rfl ?_ ?_ ?_ ?_ ?_ ?_ ?_ ?_; rotate_left 6; (· (conv => (lhs; whnf))); (· exact Tryz.func15); (· rfl); (· rfl); (· exact (js)); (· (repeat (first | exact Rens.nil | (refine Rens.cons ?_ ?_; (· ((refine Ren.pureR ?_ rfl; (first | rfl | (simp; done))))))))); (· rfl)) | (apply runk_with rfl rfl rfl ?_ ?_ ?_ ?_ ?_ ?_ ?_ ?_ ?_ ?_ ?_; rotate_left 10; (· (conv => (lhs; whnf))); (· exact Tryz.func14); (· rfl); (· rfl); (· exact (s5)); (· (repeat (first | exact Rens.nil | (refine Rens.cons ?_ ?_; (· first | exact Ren.ptr _ _ _ _ _ List.mem_cons_self | (refine Ren.pureR ?_ rfl; (rfl))))))); (· rfl); (· rfl); (· ((simp; done))); (· ((simp; done)))) | (((((apply runk0 rfl rfl (opok_scat rfl ?_ ?_ ?_) ?_; rotate_left 2; (· ((conv => (lhs; whnf)); try exact rfl)); (· ((conv => (lhs; whnf)); try exact rfl)); (· ((simp; omega)))))))) | (apply runk0 rfl rfl (opok_move rfl ?_) ?_; rotate_left 1; (· (conv => (lhs; whnf)))) | (apply runk0 rfl rfl (opok_assign rfl ?_) ?_; rotate_left 1; (· (conv => (lhs; whnf)))) | (apply runk0 rfl rfl (opok_bin rfl ?_ ?_ ?_) ?_; rotate_left 3; (· (conv => (lhs; whnf))); (· (conv => (lhs; whnf))); (· (intro w; go_simp; rfl))) | refine runk_end (by kernel_rfl) ?_))
    · rw [if_neg (by decide), if_neg (by decide), if_pos rfl] at hT
      subst hT
      (repeat (first | refine awp_reg_seq rfl fun k => ?_ | refine awp_reg rfl fun k => ?_ | refine awp_seq ?_ | refine awp_true rfl ?_ | refine awp_false rfl ?_ | refine awp_block ?_ | refine awp_exit (?_ : Awp _ _ _ _ _ _) | (refine awp_ret ?_; (apply ends_with ?_ ?_ ?_ ?_ ?_ ?_ ?_ ?_ (.inl rfl); rotate_left 3; (· (exact res_one rfl rfl)); (· rfl); (· rfl); (· (conv => (lhs; whnf; arg 1; whnf))); (· rfl); (· rfl); (· ((simp; done))); (· rfl))) | (apply runk_pure rfl rfl rfl ?_ ?_ ?_ ?_ ?_ ?_ ?_ ?_; rotate_left 6; (· (conv => (lhs; whnf))); (· exact Tryz.func15); (· rfl); (· rfl); (· exact (js)); (· (repeat (first | exact Rens.nil | (refine Rens.cons ?_ ?_; (· ((refine Ren.pureR ?_ rfl; (first | rfl | (simp; done))))))))); (· rfl)) | (apply runk_with rfl rfl rfl ?_ ?_ ?_ ?_ ?_ ?_ ?_ ?_ ?_ ?_ ?_; rotate_left 10; (· (conv => (lhs; whnf))); (· exact Tryz.func14); (· rfl); (· rfl); (· exact (s5)); (· (repeat (first | exact Rens.nil | (refine Rens.cons ?_ ?_; (· first | exact Ren.ptr _ _ _ _ _ List.mem_cons_self | (refine Ren.pureR ?_ rfl; (rfl))))))); (· rfl); (· rfl); (· ((simp; done))); (· ((simp; done)))) | (((((apply runk0 rfl rfl (opok_scat rfl ?_ ?_ ?_) ?_; rotate_left 2; (· ((conv => (lhs; whnf)); try exact rfl)); (· ((conv => (lhs; whnf)); try exact rfl)); (· ((simp; omega)))))))) | (apply runk0 rfl rfl (opok_move rfl ?_) ?_; rotate_left 1; (· (conv => (lhs; whnf)))) | (apply runk0 rfl rfl (opok_assign rfl ?_) ?_; rotate_left 1; (· (conv => (lhs; whnf)))) | (apply runk0 rfl rfl (opok_bin rfl ?_ ?_ ?_) ?_; rotate_left 3; (· (conv => (lhs; whnf))); (· (conv => (lhs; whnf))); (· (intro w; go_simp; rfl))) | refine runk_end (by kernel_rfl) ?_))
    · rw [if_neg (by decide), if_neg (by decide), if_neg (by decide), if_pos rfl] at hT
      subst hT
      (repeat (first | refine awp_reg_seq rfl fun k => ?_ | refine awp_reg rfl fun k => ?_ | refine awp_seq ?_ | refine awp_true rfl ?_ | refine awp_false rfl ?_ | refine awp_block ?_ | refine awp_exit (?_ : Awp _ _ _ _ _ _) | (refine awp_ret ?_; (apply ends_with ?_ ?_ ?_ ?_ ?_ ?_ ?_ ?_ (.inl rfl); rotate_left 3; (· (exact res_one rfl rfl)); (· rfl); (· rfl); (· (conv => (lhs; whnf; arg 1; whnf))); (· rfl); (· rfl); (· ((simp; done))); (· rfl))) | (apply runk_pure rfl rfl rfl ?_ ?_ ?_ ?_ ?_ ?_ ?_ ?_; rotate_left 6; (· (conv => (lhs; whnf))); (· exact Tryz.func15); (· rfl); (· rfl); (· exact (js)); (· (repeat (first | exact Rens.nil | (refine Rens.cons ?_ ?_; (· ((refine Ren.pureR ?_ rfl; (first | rfl | (simp; done))))))))); (· rfl)) | (apply runk_with rfl rfl rfl ?_ ?_ ?_ ?_ ?_ ?_ ?_ ?_ ?_ ?_ ?_; rotate_left 10; (· (conv => (lhs; whnf))); (· exact Tryz.func14); (· rfl); (· rfl); (· exact (s5)); (· (repeat (first | exact Rens.nil | (refine Rens.cons ?_ ?_; (· first | exact Ren.ptr _ _ _ _ _ List.mem_cons_self | (refine Ren.pureR ?_ rfl; (rfl))))))); (· rfl); (· rfl); (· ((simp; done))); (· ((simp; done)))) | (apply runk_pure rfl rfl rfl ?_ ?_ ?_ ?_ ?_ ?_ ?_ ?_; rotate_left 6; (· (conv => (lhs; whnf))); (· exact Tryz.func16); (· rfl); (· rfl); (· exact (rp)); (· (repeat (first | exact Rens.nil | (refine Rens.cons ?_ ?_; (· ((refine Ren.pureR ?_ rfl; (rfl)))))))); (· rfl)) | (apply runk0 rfl rfl (opok_move rfl ?_) ?_; rotate_left 1; (· (conv => (lhs; whnf)))) | (apply runk0 rfl rfl (opok_assign rfl ?_) ?_; rotate_left 1; (· (conv => (lhs; whnf)))) | (apply runk0 rfl rfl (opok_bin rfl ?_ ?_ ?_) ?_; rotate_left 3; (· (conv => (lhs; whnf))); (· (conv => (lhs; whnf))); (· (intro w; go_simp; rfl))) | refine runk_end (by kernel_rfl) ?_))
    · rw [if_neg (by decide), if_neg (by decide), if_neg (by decide), if_neg (by decide)] at hT
      subst hT
      (repeat (first | refine awp_reg_seq rfl fun k => ?_ | refine awp_seq ?_ | refine awp_false rfl ?_ | refine awp_skip (?_ : Awp _ _ _ _ _ _) | refine awp_block ?_ | refine awp_exit (?_ : Awp _ _ _ _ _ _) | (refine awp_ret ?_; (apply ends_with ?_ ?_ ?_ ?_ ?_ ?_ ?_ ?_ (.inl rfl); rotate_left 3; (· (exact res_one rfl rfl)); (· rfl); (· rfl); (· (conv => (lhs; whnf; arg 1; whnf))); (· rfl); (· rfl); (· ((simp; done))); (· rfl))) | (apply runk_pure rfl rfl rfl ?_ ?_ ?_ ?_ ?_ ?_ ?_ ?_; rotate_left 6; (· (conv => (lhs; whnf))); (· exact Tryz.func15); (· rfl); (· rfl); (· exact (js)); (· (repeat (first | exact Rens.nil | (refine Rens.cons ?_ ?_; (· ((refine Ren.pureR ?_ rfl; (first | rfl | (simp; done))))))))); (· rfl)) | (apply runk_with rfl rfl rfl ?_ ?_ ?_ ?_ ?_ ?_ ?_ ?_ ?_ ?_ ?_; rotate_left 10; (· (conv => (lhs; whnf))); (· exact Tryz.func14); (· rfl); (· rfl); (· exact (s5)); (· (repeat (first | exact Rens.nil | (refine Rens.cons ?_ ?_; (· first | exact Ren.ptr _ _ _ _ _ List.mem_cons_self | (refine Ren.pureR ?_ rfl; (rfl))))))); (· rfl); (· rfl); (· ((simp; done))); (· ((simp; done)))) | (apply runk0 rfl rfl (opok_move rfl ?_) ?_; rotate_left 1; (· (conv => (lhs; whnf)))) | (apply runk0 rfl rfl (opok_assign rfl ?_) ?_; rotate_left 1; (· (conv => (lhs; whnf)))) | (apply runk0 rfl rfl (opok_bin rfl ?_ ?_ ?_) ?_; rotate_left 3; (· (conv => (lhs; whnf))); (· (conv => (lhs; whnf))); (· (intro w; go_simp; rfl))) | refine runk_end (by kernel_rfl) ?_))
theorem text_ex (zs : List Int) (p : Nat) (hz : zs.length ≤ 9223372036854775807) (hp : p ≤ zs.length) : ∃ (t : List UInt8) (q : Nat), t.length ≤ 600 ∧ q ≤ zs.length ∧
    Spec Tryz.prog 7 [.ptr 0 0 0] [(0, some (0, deckO zs p))] (.val (bstr t)) [(0, some (0, deckO zs q))] := by
  by_cases h : nextV zs p 3 = 0
  · exact text_dot zs p hz hp h
  · exact text_col zs p hz hp h
end Go.Proofs.YtmbmodeiikhnkaaGreatDoor
