/-
  Layer 40: PercentileParts, by states.
-/
import Derived.Test.YtlehkllcbedkhaaSer40d
namespace Go.Proofs.Ytlehkllcbedkhaa
open Go.RowKit
theorem ext_getD {xs ys : List Int} (h : xs.length = ys.length) (g : ∀ i, i < xs.length → xs.getD i 0 = ys.getD i 0) : xs = ys := by
  apply List.ext_getElem h
  intro i h1 h2
  have := g i h1
  simpa [List.getD_eq_getElem?_getD, List.getElem?_eq_getElem h1, List.getElem?_eq_getElem h2] using this
theorem allFrom_iff {xs ys : List Int} (h : ys.length = xs.length) : allFrom xs ys 0 = true ↔ ∀ i, i < xs.length → pairOk (xs.getD i 0) (ys.getD i 0) = true := by
  unfold allFrom
  rw [List.drop_zero, List.all_eq_true]
  constructor
  · intro g i hi
    have hz : i < (xs.zip ys).length := by simp; omega
    have := g _ (List.getElem_mem hz)
    simpa [List.getD_eq_getElem?_getD, List.getElem?_eq_getElem hi, List.getElem?_eq_getElem (show i < ys.length by omega)] using this
  · intro g x hx
    obtain ⟨i, hi, rfl⟩ := List.getElem_of_mem hx
    have hi2 : i < xs.length := by simp at hi; omega
    have := g i hi2
    simpa [List.getD_eq_getElem?_getD, List.getElem?_eq_getElem hi2, List.getElem?_eq_getElem (show i < ys.length by omega)] using this
theorem noConf_iff (a b : SK) : noConf a b 0 = true ↔ ∀ i, i < a.i.length → confl a b i = false := by
  unfold noConf
  rw [List.drop_zero, List.all_eq_true]
  constructor
  · intro g i hi
    have := g i (List.mem_range.2 hi)
    simpa using this
  · intro g i hi
    rw [g i (List.mem_range.1 hi)]; rfl
theorem mixL_at (c : Nat → Bool) (xs ys : List Int) {i j : Nat} (h : i < xs.length) (hj : i < j) : (mixL c xs ys j).getD i 0 = bif c i then ys.getD i 0 else xs.getD i 0 := by
  have h' : i < (mixL c xs ys j).length := by simpa using h
  rw [List.getD_eq_getElem?_getD, List.getElem?_eq_getElem h']
  simp [mixL, hj]
def neg (n : Nat) : List Int := List.replicate n (-1)
theorem neg_at {n i : Nat} (h : i < n) : (neg n).getD i 0 = -1 := by
  unfold neg
  rw [List.getD_eq_getElem?_getD, List.getElem?_replicate, if_pos h]; rfl
/-- A series of which some intervals are taken away. -/
def blank (c : Nat → Bool) (s : SK) : SK := ⟨s.port, s.sec, mixL c s.i (neg s.i.length) s.i.length, mixL c s.o (neg s.i.length) s.i.length⟩
theorem SK.ok_all {m : SK} (h : m.ok = true) : ∀ i, i < m.i.length → pairOk (m.i.getD i 0) (m.o.getD i 0) = true := by
  have hl := (SK.ok_facts h).1
  simp only [SK.ok, Bool.and_eq_true] at h
  exact (allFrom_iff hl).1 h.2
theorem blank_i (c : Nat → Bool) {s : SK} {i : Nat} (h : i < s.i.length) : (blank c s).i.getD i 0 = bif c i then -1 else s.i.getD i 0 := by
  show (mixL _ _ _ _).getD i 0 = _
  rw [mixL_at _ _ _ h h, neg_at h]
theorem blank_o (c : Nat → Bool) {s : SK} (hl : s.o.length = s.i.length) {i : Nat} (h : i < s.i.length) : (blank c s).o.getD i 0 = bif c i then -1 else s.o.getD i 0 := by
  show (mixL _ _ _ _).getD i 0 = _
  rw [mixL_at _ _ _ (by omega) h, neg_at h]
theorem blank_ok (c : Nat → Bool) {s : SK} (h : s.ok = true) : (blank c s).ok = true := by
  obtain ⟨hl, hm⟩ := SK.ok_facts h
  have hall := SK.ok_all h
  have hli : (blank c s).i.length = s.i.length := mixL_length _ _ _ _
  have hlo : (blank c s).o.length = s.i.length := (mixL_length _ _ _ _).trans hl
  have h2 : allFrom (blank c s).i (blank c s).o 0 = true := (allFrom_iff (by omega)).2 fun i hi => by
    rw [hli] at hi
    rw [blank_i c hi, blank_o c hl hi]
    cases c i
    · exact hall i hi
    · rfl
  simp only [SK.ok, headOk, Bool.and_eq_true, decide_eq_true_eq] at h ⊢
  exact ⟨⟨⟨h.1.1.1, by omega⟩, by omega⟩, h2⟩
theorem merge_blank (c d : Nat → Bool) {s : SK} (h : s.ok = true) (hcd : ∀ i, c i = true → d i = true → False) : mergeZ (blank c s) (blank d s) = (s, 0) := by
  obtain ⟨hl, hm⟩ := SK.ok_facts h
  have hall := SK.ok_all h
  have hA := blank_ok c h
  have hB := blank_ok d h
  have liA : (blank c s).i.length = s.i.length := mixL_length _ _ _ _
  have liB : (blank d s).i.length = s.i.length := mixL_length _ _ _ _
  have loA : (blank c s).o.length = s.i.length := (mixL_length _ _ _ _).trans hl
  unfold mergeZ
  rw [if_neg (by rw [hA, hB]; simp), if_neg (by rw [liA, liB]; simp [blank]), if_neg]
  · have e1 : mixL (isGap (blank c s)) (blank c s).i (blank d s).i (blank c s).i.length = s.i := ext_getD (by rw [mixL_length, liA]) fun i hi => by
      rw [mixL_length, liA] at hi
      rw [mixL_at _ _ _ (by omega) (by omega), isGap, blank_i c hi, blank_i d hi]
      have := hcd i
      generalize s.i.getD i 0 = x
      cases hc : c i <;> cases hd : d i
      · by_cases h1 : x = -1 <;> simp [h1]
      · by_cases h1 : x = -1
        · simp [h1]
        · have h1' : (x == -1) = false := by simpa using h1
          simp [h1']
      · simp
      · exact (this hc hd).elim
    have e2 : mixL (isGap (blank c s)) (blank c s).o (blank d s).o (blank c s).i.length = s.o := ext_getD (by rw [mixL_length, loA, hl]) fun i hi => by
      rw [mixL_length, loA] at hi
      rw [mixL_at _ _ _ (by omega) (by omega), isGap, blank_i c hi, blank_o c hl hi, blank_o d hl hi]
      have hp := hall i hi
      have hgap : s.i.getD i 0 = -1 → s.o.getD i 0 = -1 := fun e => by
        simp only [pairOk, Bool.and_eq_true] at hp
        have := hp.2
        rw [e] at this
        simpa using this
      have := hcd i
      generalize s.i.getD i 0 = x at *
      generalize s.o.getD i 0 = y at *
      cases hc : c i <;> cases hd : d i
      · by_cases h1 : x = -1 <;> simp [h1]
      · by_cases h1 : x = -1
        · simp [h1, hgap h1]
        · have h1' : (x == -1) = false := by simpa using h1
          simp [h1']
      · simp
      · exact (this hc hd).elim
    rw [e1, e2]
    rfl
  · have : noConf (blank c s) (blank d s) 0 = true := (noConf_iff _ _).2 fun i hi => by
      rw [liA] at hi
      unfold confl
      rw [blank_i c hi, blank_i d hi, blank_o c hl hi, blank_o d hl hi]
      generalize s.i.getD i 0 = x
      generalize s.o.getD i 0 = y
      cases c i <;> cases d i <;> simp
    rw [this]; simp
set_option maxHeartbeats 64000000 in
set_option maxRecDepth 100000 in
theorem percentileParts_all (zs : List Int) (hz : zs.length ≤ 9223372036854775807) (bb : Int) : Spec Try.prog 7 [.ro (ints .i64 zs), .val (.int .i64 bb)] [] (.val (.bool true)) [] := by
  obtain ⟨s, q, hok, hl29, hq, ss⟩ := series_ex zs 0 7 rfl hz (Nat.zero_le _)
  have sw : Spec Try.prog 8 [] [] (.val (.bool true)) [] := spec_of_calls (vs := #[]) awake40_any
  have sn := new_spec zs
  obtain ⟨hl, hm⟩ := SK.ok_facts hok
  have sc := rcopy40 s (by omega) (by omega)
  have se := same40 s (by omega) (by omega)
  obtain ⟨V, hV⟩ : ∃ V : Nat → Int, V = fun i => bits .and .i64 (bb / 2 ^ (2 * (i % 30))) 3 := ⟨_, rfl⟩
  have g1 := pmerge40 (blank (fun i => V i == 1) s) (blank (fun i => V i == 2) s)
  rw [merge_blank _ _ hok (fun i h1 h2 => by simp at h1 h2; omega)] at g1
  have g2 := pmerge40 (blank (fun i => V i == 2) s) (blank (fun i => V i == 1) s)
  rw [merge_blank _ _ hok (fun i h1 h2 => by simp at h1 h2; omega)] at g2
  clear hok
  unfold blank at g1 g2
  unfold copyA copyO at sc
  obtain ⟨port, sec, sI, sO⟩ := s
  unfold SK.A at *
  dsimp only at *
  obtain ⟨A1, hA1⟩ : ∃ A1, mixL (fun i => V i == 1) sI (neg sI.length) = A1 := ⟨_, rfl⟩
  obtain ⟨A2, hA2⟩ : ∃ A2, mixL (fun i => V i == 1) sO (neg sI.length) = A2 := ⟨_, rfl⟩
  obtain ⟨B1, hB1⟩ : ∃ B1, mixL (fun i => V i == 2) sI (neg sI.length) = B1 := ⟨_, rfl⟩
  obtain ⟨B2, hB2⟩ : ∃ B2, mixL (fun i => V i == 2) sO (neg sI.length) = B2 := ⟨_, rfl⟩
  have key : ∀ (c : Nat → Bool) (xs : List Int) (f : Nat → List Int), mixL c xs (neg sI.length) = f → (∀ j, (f j).length = xs.length) ∧ f 0 = xs ∧ (∀ j, j < sI.length → c j = true → (f j).set j (-1) = f (j + 1)) ∧ (∀ j, c j = false → f j = f (j + 1)) := by
    intro c xs f hf
    subst hf
    refine ⟨fun j => mixL_length _ _ _ _, mixL_zero _ _ _, fun j hj hc => ?_, fun j hc => mixL_no _ hc⟩
    have := mixL_yes (xs := xs) (neg sI.length) hc
    rwa [neg_at hj] at this
  obtain ⟨a1l, a1z, a1y, a1n⟩ := key _ _ _ hA1
  obtain ⟨a2l, a2z, a2y, a2n⟩ := key _ _ _ hA2
  obtain ⟨b1l, b1z, b1y, b1n⟩ := key _ _ _ hB1
  obtain ⟨b2l, b2z, b2y, b2n⟩ := key _ _ _ hB2
  rw [hA1, hA2, hB1, hB2] at g1 g2
  clear key hA1 hA2 hB1 hB2
  have c1 : IntKind.i64.wrap (-1) = -1 := rfl
  refine spec_of_awp Try.func7 rfl (Nat.le_of_ble_eq_true rfl) fun ini => ?_
  simp only [Try.ntmps7]
  (repeat (first | refine awp_reg_seq rfl fun k => ?_ | refine awp_seq ?_ | refine awp_isF rfl (by assumption) ?_ | refine awp_block ?_ | (apply runk_made rfl rfl rfl ?_ ?_ ?_ ?_ ?_ ?_ ?_ ?_ ?_; rotate_left 8; (· (conv => (lhs; whnf))); (· exact Try.func9); (· rfl); (· rfl); (· exact (sn)); (· (repeat (first | exact Rens.nil | (refine Rens.cons ?_ ?_; (· first | exact Ren.own _ _ _ _ _ _ rfl List.mem_cons_self | exact Ren.own _ _ _ _ _ _ rfl (List.mem_cons_of_mem _ List.mem_cons_self) | (refine (Ren.own _ _ _ _ _ _ ?_ List.mem_cons_self); first | rfl | (simp; done)) | (refine (Ren.own _ _ _ _ _ _ ?_ (List.mem_cons_of_mem _ List.mem_cons_self)); first | rfl | (simp; done)) | exact Ren.ptr _ _ _ _ _ List.mem_cons_self | (refine Ren.pureR ?_ rfl; (first | rfl | (simp; done) | (simp [AVal.pure, AVal.pures, AObj.pure]; done)))))))); (· first | exact .one (.ptr _ _ _ _ _ List.mem_cons_self) | exact .one (.own _ _ _ _ _ _ rfl List.mem_cons_self) | exact .one (.own _ _ _ _ _ _ rfl (List.mem_cons_of_mem _ List.mem_cons_self)) | (apply RenT.tuple; (repeat (first | exact Rens.nil | (apply Rens.cons; (· first | exact Ren.own _ _ _ _ _ _ rfl List.mem_cons_self | exact Ren.own _ _ _ _ _ _ rfl (List.mem_cons_of_mem _ List.mem_cons_self) | exact Ren.ptr _ _ _ _ _ List.mem_cons_self | (refine Ren.pureR ?_ rfl; (first | rfl | (simp; done) | (simp [AVal.pure, AVal.pures, AObj.pure]; done)))))))) | (refine .one (.pure _ ?_); (first | rfl | (simp; done) | (simp [AVal.pure, AVal.pures, AObj.pure]; done)))); (· first | rfl | (simp; done) | simp [AVal.pure, AVal.pures, AObj.pure])) | (apply runk_with rfl rfl rfl ?_ ?_ ?_ ?_ ?_ ?_ ?_ ?_ ?_ ?_ ?_; rotate_left 10; (· (conv => (lhs; whnf))); (· exact Try.func10); (· rfl); (· rfl); (· exact (ss)); (· (repeat (first | exact Rens.nil | (refine Rens.cons ?_ ?_; (· first | exact Ren.own _ _ _ _ _ _ rfl List.mem_cons_self | exact Ren.own _ _ _ _ _ _ rfl (List.mem_cons_of_mem _ List.mem_cons_self) | (refine (Ren.own _ _ _ _ _ _ ?_ List.mem_cons_self); first | rfl | (simp; done)) | (refine (Ren.own _ _ _ _ _ _ ?_ (List.mem_cons_of_mem _ List.mem_cons_self)); first | rfl | (simp; done)) | exact Ren.ptr _ _ _ _ _ List.mem_cons_self | (refine Ren.pureR ?_ rfl; (first | rfl | (simp; done) | (simp [AVal.pure, AVal.pures, AObj.pure]; done)))))))); (· rfl); (· first | rfl | (simp; done) | simp [AVal.pure, AVal.pures, AObj.pure]); (· first | rfl | (simp; done) | simp [AVal.pure, AVal.pures, AObj.pure]); (· first | rfl | (simp; done) | simp [AVal.pure, AVal.pures, AObj.pure])) | (apply runk_made2 rfl rfl rfl ?_ ?_ ?_ ?_ ?_ ?_ ?_ ?_ ?_ ?_; rotate_left 9; (· (conv => (lhs; whnf))); (· exact Try.func11); (· rfl); (· rfl); (· exact (sc)); (· (repeat (first | exact Rens.nil | (refine Rens.cons ?_ ?_; (· first | exact Ren.own _ _ _ _ _ _ rfl List.mem_cons_self | exact Ren.own _ _ _ _ _ _ rfl (List.mem_cons_of_mem _ List.mem_cons_self) | (refine (Ren.own _ _ _ _ _ _ ?_ List.mem_cons_self); first | rfl | (simp; done)) | (refine (Ren.own _ _ _ _ _ _ ?_ (List.mem_cons_of_mem _ List.mem_cons_self)); first | rfl | (simp; done)) | exact Ren.ptr _ _ _ _ _ List.mem_cons_self | (refine Ren.pureR ?_ rfl; (first | rfl | (simp; done) | (simp [AVal.pure, AVal.pures, AObj.pure]; done)))))))); (· (apply RenT.one; apply Ren.aggs; (repeat (first | exact Rens.nil | (apply Rens.cons; (· first | exact Ren.own _ _ _ _ _ _ rfl List.mem_cons_self | exact Ren.own _ _ _ _ _ _ rfl (List.mem_cons_of_mem _ List.mem_cons_self) | exact Ren.ptr _ _ _ _ _ List.mem_cons_self | (refine Ren.pureR ?_ rfl; (first | rfl | (simp; done) | (simp [AVal.pure, AVal.pures, AObj.pure]; done))))))))); (· first | rfl | (simp; done) | simp [AVal.pure, AVal.pures, AObj.pure]); (· first | rfl | (simp; done) | simp [AVal.pure, AVal.pures, AObj.pure])) | (apply runk0 rfl rfl (opok_move rfl ?_) ?_; rotate_left 1; (· (conv => (lhs; whnf)))) | (apply runk0 rfl rfl (opok_assign rfl ?_) ?_; rotate_left 1; (· (conv => (lhs; whnf)))) | (apply runk_fa rfl rfl rfl ?_ rfl rfl ?_ ?_ ?_ ?_; rotate_left 5; (· (conv => (lhs; whnf))); (· (unfold sizeIs; conv => (lhs; whnf; arg 1; whnf))); (· rfl); (· (conv => (lhs; whnf)))) | (first | (apply runk0 rfl rfl (opok_load rfl ?_ ?_ ?_ ?_) ?_; rotate_left 5; (· (conv => (lhs; whnf))); (· (conv => (lhs; whnf; arg 1; whnf; arg 2; whnf))); (· rfl); (· (conv => (lhs; whnf; arg 1; whnf)))) | (apply runk0 rfl rfl (opok_loadR rfl ?_ ?_ ?_) ?_; rotate_left 2; (· (conv => (lhs; whnf))); (· rfl); (· (conv => (lhs; whnf; arg 1; whnf))))) | (apply runk0 rfl rfl (opok_loadA rfl ?_ ?_ ?_ ?_ ?_ ?_) ?_; rotate_left 6; (· (conv => (lhs; whnf))); (· (conv => (lhs; whnf; arg 1; whnf; arg 2; whnf))); (· rfl); (· (unfold sizeIs; conv => (lhs; whnf; arg 1; whnf))); (· (conv => (lhs; repeat (whnf; arg 2)))); (· rfl)) | (first | (apply runk0 rfl rfl (opok_lenO rfl ?_ ?_ ?_) ?_; rotate_left 5; (· (conv => (lhs; whnf))); (· (conv => (lhs; whnf; arg 1; whnf))); (· first | exact length_ints _ _ | rfl)) | (apply runk0 rfl rfl (opok_len_own rfl ?_ ?_) ?_; rotate_left 4; (· (conv => (lhs; whnf))); (· (conv => (lhs; whnf; arg 1; whnf)))) | (apply runk0 rfl rfl (opok_len rfl ?_ ?_ ?_) ?_; rotate_left 3; (· (conv => (lhs; whnf))); (· (conv => (lhs; whnf; arg 1; whnf))); (· first | exact length_ints _ _ | rfl))) | (apply runk_alloc rfl rfl rfl ?_ ?_ ?_; rotate_left 2; (· (conv => (lhs; whnf; arg 1; whnf))); (· (conv => (lhs; whnf)))) | (apply runk_store rfl rfl rfl ?_ ?_ ?_ ?_ ?_ ?_ ?_ ?_ ?_ ?_ ?_; rotate_left 9; (· (conv => (lhs; whnf))); (· (conv => (lhs; whnf))); (· (conv => (lhs; whnf; arg 1; whnf; arg 2; whnf))); (· rfl); (· (conv => (lhs; whnf))); (· rfl); (· (unfold sizeIs; conv => (lhs; whnf; arg 1; whnf))); (· rfl); (· rfl); (· (conv => (lhs; repeat (whnf; arg 2))))) | refine runk_end (by kernel_rfl) ?_))
  rename_i _ k5 k2
  refine awp_loop (fun n st => ∃ j : Nat, j + n = sI.length ∧ st.leB ⟨[(1, .val (.int .i64 bb)), (5, .ptr 5 k5 0), (6, .ptr 6 k2 0), (7, .ptr 7 k2 0), (22, .val (.int .i64 (sI.length : Int))), (23, .val (.int .i64 (j : Int)))], [(5, some (k5, .box 24 [.val (.int .i64 port), .val (.int .i64 sec), .ro (ints .i64 sI), .ro (ints .i64 sO)])), (6, some (k2, .box 24 [.val (.int .i64 port), .val (.int .i64 sec), .own 17 k2 sI.length, .own 1000017 k2 sI.length])), (7, some (k2, .box 24 [.val (.int .i64 port), .val (.int .i64 sec), .own 19 k2 sI.length, .own 1000019 k2 sI.length])), (17, some (k2, .row 3 1 (ints .i64 (A1 j)))), (1000017, some (k2, .row 3 1 (ints .i64 (A2 j)))), (19, some (k2, .row 3 1 (ints .i64 (B1 j)))), (1000019, some (k2, .row 3 1 (ints .i64 (B2 j))))]⟩) sI.length ⟨0, by omega, ?_⟩ ?_
  · rw [a1z, a2z, b1z, b2z]
    (refine leB_of ?_ ?_; (· (repeat (first | exact EnvIs.nil | (refine EnvIs.cons ?_ ?_; (· first | rfl | ((conv => (lhs; whnf)); first | (simp [ints, hl]; done) | (simp [ints, hl]; omega))))))); (· (repeat (first | exact ObjsAre.nil | (refine ObjsAre.cons ?_ ?_; (· first | rfl | ((conv => (lhs; whnf)); first | (simp [ints, hl]; done) | (simp [ints, hl]; omega))))))))
  · rintro n st ⟨j, hj, hle⟩
    refine awp_less hle ?_
    clear hle st
    (repeat (first | refine awp_reg_seq rfl fun k => ?_ | refine awp_seq ?_ | (apply runk0 rfl rfl (opok_bin rfl ?_ ?_ ?_) ?_; rotate_left 3; (· (conv => (lhs; whnf))); (· (conv => (lhs; whnf))); (· (intro w; go_simp; first | done | rfl))) | refine runk_end (by kernel_rfl) ?_))
    refine awp_if rfl (fun hc => ?_) (fun hc => ?_)
    · have hlt : j < sI.length := by simpa using hc
      clear hc
      have hr : (j : Int).tmod 30 = ((j % 30 : Nat) : Int) := by rw [Int.tmod_eq_emod_of_nonneg (by omega)]; omega
      have hr30 : j % 30 < 30 := by omega
      have hVj : bits .and .i64 (bb / 2 ^ (2 * (j % 30))) 3 = V j := by rw [hV]
      have hwn : IntKind.i64.wrap ((j : Int) + 1) = ((j + 1 : Nat) : Int) := by rw [IntKind.wrap_i64]; omega
      generalize j % 30 = r at *
      have w1 : IntKind.i64.wrap (r : Int) = (r : Int) := by rw [IntKind.wrap_i64]; omega
      have w2 : IntKind.i64.wrap (2 * (r : Int)) = ((2 * r : Nat) : Int) := by rw [IntKind.wrap_i64]; omega
      have hr2 : 2 * r < 60 := by omega
      generalize 2 * r = r2 at *
      have w3 : IntKind.u64.wrap (r2 : Int) = (r2 : Int) := by rw [IntKind.wrap_u64]; omega
      have hmin : min r2 64 = r2 := by omega
      have l1 := a1l j
      have l2 := a2l j
      have l3 := b1l j
      have l4 := b2l j
      have q1 : j < (A1 j).length := by omega
      have q2 : j < (A2 j).length := by omega
      have q3 : j < (B1 j).length := by omega
      have q4 : j < (B2 j).length := by omega
      have y1 := a1y j hlt
      have y2 := a2y j hlt
      have y3 := b1y j hlt
      have y4 := b2y j hlt
      have z1 := a1n j
      have z2 := a2n j
      have z3 := b1n j
      have z4 := b2n j
      generalize V j = v at *
      clear a1l a2l b1l b2l a1z a2z b1z b2z a1y a2y b1y b2y a1n a2n b1n b2n
      cases d1 : (v == 1) with
      | true =>
        have e2 : (v == 2) = false := by simp at d1 ⊢; omega
        have y1 := y1 d1
        have y2 := y2 d1
        have z3 := z3 e2
        have z4 := z4 e2
        (repeat (first | refine awp_reg_seq rfl fun k => ?_ | refine awp_reg rfl fun k => ?_ | refine awp_seq ?_ | refine awp_true rfl ?_ | refine awp_isF rfl (by assumption) ?_ | refine awp_skip (?_ : Awp _ _ _ _ _ _) | refine awp_block ?_ | (apply runk0 rfl rfl (opok_move rfl ?_) ?_; rotate_left 1; (· (conv => (lhs; whnf)))) | (apply runk0 rfl rfl (opok_assign rfl ?_) ?_; rotate_left 1; (· (conv => (lhs; whnf)))) | (apply runk_fa rfl rfl rfl ?_ rfl rfl ?_ ?_ ?_ ?_; rotate_left 5; (· (conv => (lhs; whnf))); (· (unfold sizeIs; conv => (lhs; whnf; arg 1; whnf))); (· rfl); (· (conv => (lhs; whnf)))) | (first | (apply runk0 rfl rfl (opok_load rfl ?_ ?_ ?_ ?_) ?_; rotate_left 5; (· (conv => (lhs; whnf))); (· (conv => (lhs; whnf; arg 1; whnf; arg 2; whnf))); (· rfl); (· (conv => (lhs; whnf; arg 1; whnf)))) | (apply runk0 rfl rfl (opok_loadR rfl ?_ ?_ ?_) ?_; rotate_left 2; (· (conv => (lhs; whnf))); (· rfl); (· (conv => (lhs; whnf; arg 1; whnf))))) | (apply runk0 rfl rfl (opok_bin rfl ?_ ?_ ?_) ?_; rotate_left 3; (· (conv => (lhs; whnf))); (· (conv => (lhs; whnf))); (· (intro w; go_simp; first | done | rfl))) | (apply runk0 rfl rfl (opok_conv rfl ?_ ?_) ?_; rotate_left 2; (· (conv => (lhs; whnf))); (· (intro w; go_simp; first | done | rfl))) | (apply runk0 rfl rfl (opok_index_own rfl ?_ ?_ ?_ ?_ ?_ ?_ ?_ ?_) ?_; rotate_left 10; (· (conv => (lhs; whnf))); (· (conv => (lhs; whnf; arg 1; whnf; arg 2; whnf))); (· (conv => (lhs; whnf))); (· (conv => (lhs; whnf; arg 1; whnf))); (· (unfold sizeIs; conv => (lhs; whnf; arg 1; whnf))); (· first | omega | (simp; done) | (simp; omega)); (· first | omega | (simp; done) | (simp; omega)); (· first | rfl | (simp; done) | (simp; omega))) | refine runk_end (by kernel_rfl) ?_ | (apply runk_setN rfl rfl rfl ?_ ?_ ?_ ?_ ?_ ?_ ?_; rotate_left 8; (· (conv => (lhs; whnf))); (· (conv => (lhs; whnf))); (· rfl); (· (unfold sizeIs; conv => (lhs; whnf; arg 1; whnf))); (· first | (simp only [Int.toNat_natCast, Nat.mul_one, Int.reduceToNat]; done) | (simp only [Int.toNat_natCast, Nat.mul_one, Int.reduceToNat]; rfl) | rfl); (· first | omega | (simp; done) | (simp; omega)))))
        refine ⟨n - 1, by omega, j + 1, by omega, ?_⟩
        rw [← y1, ← y2, ← z3, ← z4]
        (refine leB_of ?_ ?_; (· (repeat (first | exact EnvIs.nil | (refine EnvIs.cons ?_ ?_; (· first | rfl | ((conv => (lhs; whnf)); first | (simp [ints]; done) | (simp [ints]; omega))))))); (· (repeat (first | exact ObjsAre.nil | (refine ObjsAre.cons ?_ ?_; (· first | rfl | ((conv => (lhs; whnf)); first | (simp [ints]; done) | (simp [ints]; omega))))))))
      | false =>
        have z1 := z1 d1
        have z2 := z2 d1
        cases d2 : (v == 2) with
        | true =>
          have y3 := y3 d2
          have y4 := y4 d2
          (repeat (first | refine awp_reg_seq rfl fun k => ?_ | refine awp_reg rfl fun k => ?_ | refine awp_seq ?_ | refine awp_true rfl ?_ | refine awp_false rfl ?_ | refine awp_isF rfl (by assumption) ?_ | refine awp_skip (?_ : Awp _ _ _ _ _ _) | refine awp_block ?_ | (apply runk0 rfl rfl (opok_move rfl ?_) ?_; rotate_left 1; (· (conv => (lhs; whnf)))) | (apply runk0 rfl rfl (opok_assign rfl ?_) ?_; rotate_left 1; (· (conv => (lhs; whnf)))) | (apply runk_fa rfl rfl rfl ?_ rfl rfl ?_ ?_ ?_ ?_; rotate_left 5; (· (conv => (lhs; whnf))); (· (unfold sizeIs; conv => (lhs; whnf; arg 1; whnf))); (· rfl); (· (conv => (lhs; whnf)))) | (first | (apply runk0 rfl rfl (opok_load rfl ?_ ?_ ?_ ?_) ?_; rotate_left 5; (· (conv => (lhs; whnf))); (· (conv => (lhs; whnf; arg 1; whnf; arg 2; whnf))); (· rfl); (· (conv => (lhs; whnf; arg 1; whnf)))) | (apply runk0 rfl rfl (opok_loadR rfl ?_ ?_ ?_) ?_; rotate_left 2; (· (conv => (lhs; whnf))); (· rfl); (· (conv => (lhs; whnf; arg 1; whnf))))) | (apply runk0 rfl rfl (opok_bin rfl ?_ ?_ ?_) ?_; rotate_left 3; (· (conv => (lhs; whnf))); (· (conv => (lhs; whnf))); (· (intro w; go_simp; first | done | rfl))) | (apply runk0 rfl rfl (opok_conv rfl ?_ ?_) ?_; rotate_left 2; (· (conv => (lhs; whnf))); (· (intro w; go_simp; first | done | rfl))) | (apply runk0 rfl rfl (opok_index_own rfl ?_ ?_ ?_ ?_ ?_ ?_ ?_ ?_) ?_; rotate_left 10; (· (conv => (lhs; whnf))); (· (conv => (lhs; whnf; arg 1; whnf; arg 2; whnf))); (· (conv => (lhs; whnf))); (· (conv => (lhs; whnf; arg 1; whnf))); (· (unfold sizeIs; conv => (lhs; whnf; arg 1; whnf))); (· first | omega | (simp; done) | (simp; omega)); (· first | omega | (simp; done) | (simp; omega)); (· first | rfl | (simp; done) | (simp; omega))) | refine runk_end (by kernel_rfl) ?_ | (apply runk_setN rfl rfl rfl ?_ ?_ ?_ ?_ ?_ ?_ ?_; rotate_left 8; (· (conv => (lhs; whnf))); (· (conv => (lhs; whnf))); (· rfl); (· (unfold sizeIs; conv => (lhs; whnf; arg 1; whnf))); (· first | (simp only [Int.toNat_natCast, Nat.mul_one, Int.reduceToNat]; done) | (simp only [Int.toNat_natCast, Nat.mul_one, Int.reduceToNat]; rfl) | rfl); (· first | omega | (simp; done) | (simp; omega)))))
          refine ⟨n - 1, by omega, j + 1, by omega, ?_⟩
          rw [← z1, ← z2, ← y3, ← y4]
          (refine leB_of ?_ ?_; (· (repeat (first | exact EnvIs.nil | (refine EnvIs.cons ?_ ?_; (· first | rfl | ((conv => (lhs; whnf)); first | (simp [ints]; done) | (simp [ints]; omega))))))); (· (repeat (first | exact ObjsAre.nil | (refine ObjsAre.cons ?_ ?_; (· first | rfl | ((conv => (lhs; whnf)); first | (simp [ints]; done) | (simp [ints]; omega))))))))
        | false =>
          have z3 := z3 d2
          have z4 := z4 d2
          (repeat (first | refine awp_reg_seq rfl fun k => ?_ | refine awp_reg rfl fun k => ?_ | refine awp_seq ?_ | refine awp_false rfl ?_ | refine awp_skip (?_ : Awp _ _ _ _ _ _) | refine awp_block ?_ | (apply runk0 rfl rfl (opok_move rfl ?_) ?_; rotate_left 1; (· (conv => (lhs; whnf)))) | (apply runk0 rfl rfl (opok_assign rfl ?_) ?_; rotate_left 1; (· (conv => (lhs; whnf)))) | (apply runk0 rfl rfl (opok_bin rfl ?_ ?_ ?_) ?_; rotate_left 3; (· (conv => (lhs; whnf))); (· (conv => (lhs; whnf))); (· (intro w; go_simp; first | done | rfl))) | (apply runk0 rfl rfl (opok_conv rfl ?_ ?_) ?_; rotate_left 2; (· (conv => (lhs; whnf))); (· (intro w; go_simp; first | done | rfl))) | refine runk_end (by kernel_rfl) ?_))
          refine ⟨n - 1, by omega, j + 1, by omega, ?_⟩
          rw [← z1, ← z2, ← z3, ← z4]
          (refine leB_of ?_ ?_; (· (repeat (first | exact EnvIs.nil | (refine EnvIs.cons ?_ ?_; (· first | rfl | ((conv => (lhs; whnf)); first | (simp [ints]; done) | (simp [ints]; omega))))))); (· (repeat (first | exact ObjsAre.nil | (refine ObjsAre.cons ?_ ?_; (· first | rfl | ((conv => (lhs; whnf)); first | (simp [ints]; done) | (simp [ints]; omega))))))))
    · have hie : j = sI.length := by simp at hc; omega
      subst hie
      have l1 := a1l sI.length
      have l2 := a2l sI.length
      have l3 := b1l sI.length
      have l4 := b2l sI.length
      clear a1l a2l b1l b2l a1z a2z b1z b2z a1y a2y b1y b2y a1n a2n b1n b2n
      generalize A1 sI.length = X0 at *
      generalize A2 sI.length = X1 at *
      generalize B1 sI.length = X2 at *
      generalize B2 sI.length = X3 at *
      refine awp_exit (?_ : Awp _ _ _ _ _ _)
      refine awp_less (st' := ⟨[(5, .ptr 5 k5 0), (6, .ptr 6 k2 0), (7, .ptr 7 k2 0)], [(5, some (k5, .box 24 [.val (.int .i64 port), .val (.int .i64 sec), .ro (ints .i64 sI), .ro (ints .i64 sO)])), (6, some (k2, .box 24 [.val (.int .i64 port), .val (.int .i64 sec), .own 17 k2 (ints .i64 X0).length, .own 1000017 k2 (ints .i64 X1).length])), (7, some (k2, .box 24 [.val (.int .i64 port), .val (.int .i64 sec), .own 19 k2 (ints .i64 X2).length, .own 1000019 k2 (ints .i64 X3).length])), (17, some (k2, .row 3 1 (ints .i64 X0))), (1000017, some (k2, .row 3 1 (ints .i64 X1))), (19, some (k2, .row 3 1 (ints .i64 X2))), (1000019, some (k2, .row 3 1 (ints .i64 X3)))]⟩) ?_ ?_
      · (refine leB_of ?_ ?_; (· (repeat (first | exact EnvIs.nil | (refine EnvIs.cons ?_ ?_; (· first | rfl | ((conv => (lhs; whnf)); first | (simp [ints, l1, l2, l3, l4, hl]; done) | (simp [ints, l1, l2, l3, l4, hl]; omega))))))); (· (repeat (first | exact ObjsAre.nil | (refine ObjsAre.cons ?_ ?_; (· first | rfl | ((conv => (lhs; whnf)); first | (simp [ints, l1, l2, l3, l4, hl]; done) | (simp [ints, l1, l2, l3, l4, hl]; omega))))))))
      (refine awp_frz 17 k2 (ints .i64 X0) ([(5, .ptr 5 k5 0), (6, .ptr 6 k2 0), (7, .ptr 7 k2 0)]) ([(5, some (k5, .box 24 [.val (.int .i64 port), .val (.int .i64 sec), .ro (ints .i64 sI), .ro (ints .i64 sO)])), (6, some (k2, .box 24 [.val (.int .i64 port), .val (.int .i64 sec), .ro (ints .i64 X0), .own 1000017 k2 (ints .i64 X1).length])), (7, some (k2, .box 24 [.val (.int .i64 port), .val (.int .i64 sec), .own 19 k2 (ints .i64 X2).length, .own 1000019 k2 (ints .i64 X3).length])), (1000017, some (k2, .row 3 1 (ints .i64 X1))), (19, some (k2, .row 3 1 (ints .i64 X2))), (1000019, some (k2, .row 3 1 (ints .i64 X3)))]) rfl ?_ ?_ ?_; (· (repeat (first | exact EnvFrz.nil | (refine EnvFrz.cons rfl ?_ ?_; (· first | exact .one (.same _) | (refine .one (.own _ ?_); first | rfl | (simp; done) | (simp only [length_ints]; omega)) | (refine .agg ?_; (repeat (first | exact Frzs.nil | (refine Frzs.cons ?_ ?_; (· first | exact Frz1.same _ | (refine Frz1.own _ ?_; first | rfl | (simp; done) | (simp only [length_ints]; omega)) | exact Frz1.any _))))) | (refine .tuple ?_; (repeat (first | exact Frzs.nil | (refine Frzs.cons ?_ ?_; (· first | exact Frz1.same _ | (refine Frz1.own _ ?_; first | rfl | (simp; done) | (simp only [length_ints]; omega)) | exact Frz1.any _)))))))))); (· (repeat (first | exact ObjsFrz.nil | (refine ObjsFrz.cons rfl rfl ?_ ?_; (· first | exact .same _ | (refine .box ?_; (repeat (first | exact Frzs.nil | (refine Frzs.cons ?_ ?_; (· first | exact Frz1.same _ | (refine Frz1.own _ ?_; first | rfl | (simp; done) | (simp only [length_ints]; omega)) | exact Frz1.any _))))) | (refine .row ?_ rfl; (repeat (first | exact Frzs.nil | (refine Frzs.cons ?_ ?_; (· first | exact Frz1.same _ | (refine Frz1.own _ ?_; first | rfl | (simp; done) | (simp only [length_ints]; omega)) | exact Frz1.any _)))))))))))
      (refine awp_frz 1000017 k2 (ints .i64 X1) ([(5, .ptr 5 k5 0), (6, .ptr 6 k2 0), (7, .ptr 7 k2 0)]) ([(5, some (k5, .box 24 [.val (.int .i64 port), .val (.int .i64 sec), .ro (ints .i64 sI), .ro (ints .i64 sO)])), (6, some (k2, .box 24 [.val (.int .i64 port), .val (.int .i64 sec), .ro (ints .i64 X0), .ro (ints .i64 X1)])), (7, some (k2, .box 24 [.val (.int .i64 port), .val (.int .i64 sec), .own 19 k2 (ints .i64 X2).length, .own 1000019 k2 (ints .i64 X3).length])), (19, some (k2, .row 3 1 (ints .i64 X2))), (1000019, some (k2, .row 3 1 (ints .i64 X3)))]) rfl ?_ ?_ ?_; (· (repeat (first | exact EnvFrz.nil | (refine EnvFrz.cons rfl ?_ ?_; (· first | exact .one (.same _) | (refine .one (.own _ ?_); first | rfl | (simp; done) | (simp only [length_ints]; omega)) | (refine .agg ?_; (repeat (first | exact Frzs.nil | (refine Frzs.cons ?_ ?_; (· first | exact Frz1.same _ | (refine Frz1.own _ ?_; first | rfl | (simp; done) | (simp only [length_ints]; omega)) | exact Frz1.any _))))) | (refine .tuple ?_; (repeat (first | exact Frzs.nil | (refine Frzs.cons ?_ ?_; (· first | exact Frz1.same _ | (refine Frz1.own _ ?_; first | rfl | (simp; done) | (simp only [length_ints]; omega)) | exact Frz1.any _)))))))))); (· (repeat (first | exact ObjsFrz.nil | (refine ObjsFrz.cons rfl rfl ?_ ?_; (· first | exact .same _ | (refine .box ?_; (repeat (first | exact Frzs.nil | (refine Frzs.cons ?_ ?_; (· first | exact Frz1.same _ | (refine Frz1.own _ ?_; first | rfl | (simp; done) | (simp only [length_ints]; omega)) | exact Frz1.any _))))) | (refine .row ?_ rfl; (repeat (first | exact Frzs.nil | (refine Frzs.cons ?_ ?_; (· first | exact Frz1.same _ | (refine Frz1.own _ ?_; first | rfl | (simp; done) | (simp only [length_ints]; omega)) | exact Frz1.any _)))))))))))
      (refine awp_frz 19 k2 (ints .i64 X2) ([(5, .ptr 5 k5 0), (6, .ptr 6 k2 0), (7, .ptr 7 k2 0)]) ([(5, some (k5, .box 24 [.val (.int .i64 port), .val (.int .i64 sec), .ro (ints .i64 sI), .ro (ints .i64 sO)])), (6, some (k2, .box 24 [.val (.int .i64 port), .val (.int .i64 sec), .ro (ints .i64 X0), .ro (ints .i64 X1)])), (7, some (k2, .box 24 [.val (.int .i64 port), .val (.int .i64 sec), .ro (ints .i64 X2), .own 1000019 k2 (ints .i64 X3).length])), (1000019, some (k2, .row 3 1 (ints .i64 X3)))]) rfl ?_ ?_ ?_; (· (repeat (first | exact EnvFrz.nil | (refine EnvFrz.cons rfl ?_ ?_; (· first | exact .one (.same _) | (refine .one (.own _ ?_); first | rfl | (simp; done) | (simp only [length_ints]; omega)) | (refine .agg ?_; (repeat (first | exact Frzs.nil | (refine Frzs.cons ?_ ?_; (· first | exact Frz1.same _ | (refine Frz1.own _ ?_; first | rfl | (simp; done) | (simp only [length_ints]; omega)) | exact Frz1.any _))))) | (refine .tuple ?_; (repeat (first | exact Frzs.nil | (refine Frzs.cons ?_ ?_; (· first | exact Frz1.same _ | (refine Frz1.own _ ?_; first | rfl | (simp; done) | (simp only [length_ints]; omega)) | exact Frz1.any _)))))))))); (· (repeat (first | exact ObjsFrz.nil | (refine ObjsFrz.cons rfl rfl ?_ ?_; (· first | exact .same _ | (refine .box ?_; (repeat (first | exact Frzs.nil | (refine Frzs.cons ?_ ?_; (· first | exact Frz1.same _ | (refine Frz1.own _ ?_; first | rfl | (simp; done) | (simp only [length_ints]; omega)) | exact Frz1.any _))))) | (refine .row ?_ rfl; (repeat (first | exact Frzs.nil | (refine Frzs.cons ?_ ?_; (· first | exact Frz1.same _ | (refine Frz1.own _ ?_; first | rfl | (simp; done) | (simp only [length_ints]; omega)) | exact Frz1.any _)))))))))))
      (refine awp_frz 1000019 k2 (ints .i64 X3) ([(5, .ptr 5 k5 0), (6, .ptr 6 k2 0), (7, .ptr 7 k2 0)]) ([(5, some (k5, .box 24 [.val (.int .i64 port), .val (.int .i64 sec), .ro (ints .i64 sI), .ro (ints .i64 sO)])), (6, some (k2, .box 24 [.val (.int .i64 port), .val (.int .i64 sec), .ro (ints .i64 X0), .ro (ints .i64 X1)])), (7, some (k2, .box 24 [.val (.int .i64 port), .val (.int .i64 sec), .ro (ints .i64 X2), .ro (ints .i64 X3)]))]) rfl ?_ ?_ ?_; (· (repeat (first | exact EnvFrz.nil | (refine EnvFrz.cons rfl ?_ ?_; (· first | exact .one (.same _) | (refine .one (.own _ ?_); first | rfl | (simp; done) | (simp only [length_ints]; omega)) | (refine .agg ?_; (repeat (first | exact Frzs.nil | (refine Frzs.cons ?_ ?_; (· first | exact Frz1.same _ | (refine Frz1.own _ ?_; first | rfl | (simp; done) | (simp only [length_ints]; omega)) | exact Frz1.any _))))) | (refine .tuple ?_; (repeat (first | exact Frzs.nil | (refine Frzs.cons ?_ ?_; (· first | exact Frz1.same _ | (refine Frz1.own _ ?_; first | rfl | (simp; done) | (simp only [length_ints]; omega)) | exact Frz1.any _)))))))))); (· (repeat (first | exact ObjsFrz.nil | (refine ObjsFrz.cons rfl rfl ?_ ?_; (· first | exact .same _ | (refine .box ?_; (repeat (first | exact Frzs.nil | (refine Frzs.cons ?_ ?_; (· first | exact Frz1.same _ | (refine Frz1.own _ ?_; first | rfl | (simp; done) | (simp only [length_ints]; omega)) | exact Frz1.any _))))) | (refine .row ?_ rfl; (repeat (first | exact Frzs.nil | (refine Frzs.cons ?_ ?_; (· first | exact Frz1.same _ | (refine Frz1.own _ ?_; first | rfl | (simp; done) | (simp only [length_ints]; omega)) | exact Frz1.any _)))))))))))
      (repeat (first | refine awp_reg_seq rfl fun k => ?_ | refine awp_exit (?_ : Awp _ _ _ _ _ _) | (refine awp_ret ?_; (apply ends_pure ?_ ?_ ?_ ?_ ?_ (.inl rfl); rotate_left 1; (· first | exact res_one rfl rfl | exact res_two rfl rfl rfl | exact res_none rfl | exact res_three rfl rfl rfl rfl | exact res_cell rfl rfl rfl rfl rfl | exact res_cell2 rfl rfl rfl rfl rfl rfl | exact res3 rfl (rv_cell rfl rfl rfl rfl) (rv_tmp rfl) (rv_tmp rfl) | exact res3 rfl (rv_cell rfl rfl rfl rfl) (rv_cell rfl rfl rfl rfl) (rv_cell rfl rfl rfl rfl)); (· first | rfl | ((conv => (lhs; whnf)); first | rfl | (simp; done))); (· first | rfl | (simp; done) | (simp [AVal.pure, AVal.pures, AObj.pure]; done)); (· rfl); (· rfl))) | (apply runk_pure rfl rfl rfl ?_ ?_ ?_ ?_ ?_ ?_ ?_ ?_; rotate_left 6; (· (conv => (lhs; whnf))); (· exact Try.func24); (· rfl); (· rfl); (· exact (g1)); (· (repeat (first | exact Rens.nil | (refine Rens.cons ?_ ?_; (· first | exact Ren.own _ _ _ _ _ _ rfl List.mem_cons_self | exact Ren.own _ _ _ _ _ _ rfl (List.mem_cons_of_mem _ List.mem_cons_self) | (refine (Ren.own _ _ _ _ _ _ ?_ List.mem_cons_self); first | rfl | (simp; done)) | (refine (Ren.own _ _ _ _ _ _ ?_ (List.mem_cons_of_mem _ List.mem_cons_self)); first | rfl | (simp; done)) | exact Ren.ptr _ _ _ _ _ List.mem_cons_self | (refine Ren.pureR ?_ rfl; (first | rfl | (simp; done) | (simp [AVal.pure, AVal.pures, AObj.pure]; done)))))))); (· first | rfl | (simp; done) | simp [AVal.pure, AVal.pures, AObj.pure])) | (apply runk_pure rfl rfl rfl ?_ ?_ ?_ ?_ ?_ ?_ ?_ ?_; rotate_left 6; (· (conv => (lhs; whnf))); (· exact Try.func24); (· rfl); (· rfl); (· exact (g2)); (· (repeat (first | exact Rens.nil | (refine Rens.cons ?_ ?_; (· first | exact Ren.own _ _ _ _ _ _ rfl List.mem_cons_self | exact Ren.own _ _ _ _ _ _ rfl (List.mem_cons_of_mem _ List.mem_cons_self) | (refine (Ren.own _ _ _ _ _ _ ?_ List.mem_cons_self); first | rfl | (simp; done)) | (refine (Ren.own _ _ _ _ _ _ ?_ (List.mem_cons_of_mem _ List.mem_cons_self)); first | rfl | (simp; done)) | exact Ren.ptr _ _ _ _ _ List.mem_cons_self | (refine Ren.pureR ?_ rfl; (first | rfl | (simp; done) | (simp [AVal.pure, AVal.pures, AObj.pure]; done)))))))); (· first | rfl | (simp; done) | simp [AVal.pure, AVal.pures, AObj.pure])) | (apply runk_pure rfl rfl rfl ?_ ?_ ?_ ?_ ?_ ?_ ?_ ?_; rotate_left 6; (· (conv => (lhs; whnf))); (· exact Try.func26); (· rfl); (· rfl); (· exact (se)); (· (repeat (first | exact Rens.nil | (refine Rens.cons ?_ ?_; (· first | exact Ren.own _ _ _ _ _ _ rfl List.mem_cons_self | exact Ren.own _ _ _ _ _ _ rfl (List.mem_cons_of_mem _ List.mem_cons_self) | (refine (Ren.own _ _ _ _ _ _ ?_ List.mem_cons_self); first | rfl | (simp; done)) | (refine (Ren.own _ _ _ _ _ _ ?_ (List.mem_cons_of_mem _ List.mem_cons_self)); first | rfl | (simp; done)) | exact Ren.ptr _ _ _ _ _ List.mem_cons_self | (refine Ren.pureR ?_ rfl; (first | rfl | (simp; done) | (simp [AVal.pure, AVal.pures, AObj.pure]; done)))))))); (· first | rfl | (simp; done) | simp [AVal.pure, AVal.pures, AObj.pure])) | (apply runk_pure rfl rfl rfl ?_ ?_ ?_ ?_ ?_ ?_ ?_ ?_; rotate_left 6; (· (conv => (lhs; whnf))); (· exact Try.func8); (· rfl); (· rfl); (· exact (sw)); (· (repeat (first | exact Rens.nil | (refine Rens.cons ?_ ?_; (· first | exact Ren.own _ _ _ _ _ _ rfl List.mem_cons_self | exact Ren.own _ _ _ _ _ _ rfl (List.mem_cons_of_mem _ List.mem_cons_self) | (refine (Ren.own _ _ _ _ _ _ ?_ List.mem_cons_self); first | rfl | (simp; done)) | (refine (Ren.own _ _ _ _ _ _ ?_ (List.mem_cons_of_mem _ List.mem_cons_self)); first | rfl | (simp; done)) | exact Ren.ptr _ _ _ _ _ List.mem_cons_self | (refine Ren.pureR ?_ rfl; (first | rfl | (simp; done) | (simp [AVal.pure, AVal.pures, AObj.pure]; done)))))))); (· first | rfl | (simp; done) | simp [AVal.pure, AVal.pures, AObj.pure])) | (first | refine runk_ung rfl rfl rfl rfl ?_ | refine runk_ung rfl rfl rfl (by assumption) ?_) | (apply runk0 rfl rfl (opok_move rfl ?_) ?_; rotate_left 1; (· (conv => (lhs; whnf)))) | (apply runk0 rfl rfl (opok_assign rfl ?_) ?_; rotate_left 1; (· (conv => (lhs; whnf)))) | (apply runk0 rfl rfl (opok_loadA rfl ?_ ?_ ?_ ?_ ?_ ?_) ?_; rotate_left 6; (· (conv => (lhs; whnf))); (· (conv => (lhs; whnf; arg 1; whnf; arg 2; whnf))); (· rfl); (· (unfold sizeIs; conv => (lhs; whnf; arg 1; whnf))); (· (conv => (lhs; repeat (whnf; arg 2)))); (· rfl)) | (apply runk0 rfl rfl (opok_bin rfl ?_ ?_ ?_) ?_; rotate_left 3; (· (conv => (lhs; whnf))); (· (conv => (lhs; whnf))); (· (intro w; go_simp; first | done | rfl))) | (apply runk0 rfl rfl (opok_pick rfl ?_ ?_) ?_; rotate_left 2; (· (conv => (lhs; whnf))); (· first | exact pick_or | exact pick_and | (conv => (lhs; whnf)))) | (apply runk0 rfl rfl (opok_extract rfl ?_ ?_) ?_; rotate_left 2; (· (conv => (lhs; whnf))); (· (conv => (lhs; whnf; arg 1; whnf)))) | (apply runk_alloc rfl rfl rfl ?_ ?_ ?_; rotate_left 2; (· (conv => (lhs; whnf; arg 1; whnf))); (· (conv => (lhs; whnf)))) | (apply runk_store rfl rfl rfl ?_ ?_ ?_ ?_ ?_ ?_ ?_ ?_ ?_ ?_ ?_; rotate_left 9; (· (conv => (lhs; whnf))); (· (conv => (lhs; whnf))); (· (conv => (lhs; whnf; arg 1; whnf; arg 2; whnf))); (· rfl); (· (conv => (lhs; whnf))); (· rfl); (· (unfold sizeIs; conv => (lhs; whnf; arg 1; whnf))); (· rfl); (· rfl); (· (conv => (lhs; repeat (whnf; arg 2))))) | refine runk_end (by kernel_rfl) ?_))
end Go.Proofs.Ytlehkllcbedkhaa
