/-
  Layer 13: the greatest amount between two switches, of the program, by states.
-/
import Derived.Test.YtlmgbfbcaokedaaFb13d
import Derived.Test.YtlmgbfbcaokedaaFb13s
import Derived.Test.YtlmgbfbcaokedaaAbsArr
namespace Go.Proofs.Ytlmgbfbcaokedaa
open Go.RowKit
def addM (L : List Int) (x y : Nat) (c : Int) : List Int := L.set (x * 8 + y) (L.getD (x * 8 + y) 0 + c)
@[simp] theorem addM_len (L : List Int) (x y : Nat) (c : Int) : (addM L x y c).length = L.length := by simp [addM]
/-- One working link. -/
def cap1 (f : FK) (L : List Int) (i : Nat) : List Int := addM (addM L (f.la i) (f.lb i) (f.ls.getD i (0, 0, 0)).2.2) (f.lb i) (f.la i) (f.ls.getD i (0, 0, 0)).2.2
def capN (f : FK) (W : List Int) : Nat → List Int
  | 0 => List.replicate 64 0
  | m + 1 => cap1 f (capN f W m) (W.getD m 0).toNat
@[simp] theorem capN_len (f : FK) (W : List Int) : ∀ m, (capN f W m).length = 64
  | 0 => by simp [capN]
  | m + 1 => by rw [capN, cap1, addM_len, addM_len, capN_len f W m]
def cap0 (f : FK) : List Int := capN f (wkL f f.ls.length) (wkL f f.ls.length).length
/-- A way from a to t, as the search has it. -/
def isP (bf : List Int) (a : Nat) : List Nat → Nat → Prop
  | [], t => t = a
  | x :: p, t => t = x ∧ x ≠ a ∧ x < 8 ∧ ∃ y : Nat, bf.getD x 0 = (y : Int) ∧ y < 8 ∧ isP bf a p y
def pv (bf : List Int) (x : Nat) : Nat := (bf.getD x 0).toNat
def minL (L bf : List Int) : List Nat → Int → Int
  | [], m => m
  | x :: p, m => minL L bf p (min m (L.getD (pv bf x * 8 + x) 0))
def updP (bf : List Int) (n : Int) : List Nat → List Int → List Int
  | [], L => L
  | x :: p, L => updP bf n p (addM (addM L (pv bf x) x (-n)) x (pv bf x) n)
@[simp] theorem updP_len (bf : List Int) (n : Int) : ∀ (p : List Nat) (L : List Int), (updP bf n p L).length = L.length
  | [], L => rfl
  | x :: p, L => by rw [updP, updP_len bf n p]; simp
def sml (L : List Int) (m : Int) : Prop := ∀ i, -m ≤ L.getD i 0 ∧ L.getD i 0 ≤ m
theorem getD_set (L : List Int) (i j : Nat) (v : Int) : (L.set i v).getD j 0 = if i = j ∧ j < L.length then v else L.getD j 0 := by
  simp only [List.getD_eq_getElem?_getD, List.getElem?_set]
  by_cases h : i = j
  · subst h
    by_cases h2 : i < L.length
    · simp [h2]
    · simp [h2]
  · simp [h]
theorem sml_addM {L : List Int} {m c : Int} (h : sml L m) (hc : -m ≤ m) (x y : Nat) (k : Int) (hk1 : -k ≤ c) (hk2 : c ≤ k) : sml (addM L x y c) (m + k) := fun i => by
  unfold addM
  rw [getD_set]
  have h1 := h (x * 8 + y)
  have h2 := h i
  split <;> omega
theorem sml_mono {L : List Int} {m n : Int} (h : sml L m) (hl : m ≤ n) : sml L n := fun i => by have := h i; omega
theorem sml_capN {f : FK} {W : List Int} (hW : ∀ k, k < W.length → ∃ i : Nat, W.getD k 0 = i ∧ i < f.ls.length) (hc : ∀ i, i < f.ls.length → 1 ≤ (f.ls.getD i (0, 0, 0)).2.2 ∧ (f.ls.getD i (0, 0, 0)).2.2 ≤ 1048576) : ∀ m, m ≤ W.length → sml (capN f W m) (m * 2097152)
  | 0, _ => fun i => by
    have : (List.replicate 64 (0 : Int)).getD i 0 = 0 := by
      rw [List.getD_eq_getElem?_getD, List.getElem?_replicate]; split <;> rfl
    rw [capN, this]; omega
  | m + 1, hm => by
    obtain ⟨i, hi, hil⟩ := hW m (by omega)
    obtain ⟨c1, c2⟩ := hc i hil
    have h := sml_capN hW hc m (by omega)
    rw [capN, hi, Int.toNat_natCast, cap1]
    generalize (f.ls.getD i (0, 0, 0)).2.2 = c at *
    have h1 := sml_addM h (by omega) (f.la i) (f.lb i) (c := c) 1048576 (by omega) c2
    have h2 := sml_addM h1 (by omega) (f.lb i) (f.la i) (c := c) 1048576 (by omega) c2
    exact sml_mono h2 (by omega)
theorem minL_bd {L bf : List Int} {B : Int} (h : sml L B) : ∀ (p : List Nat) (m : Int), -B ≤ m ∧ m ≤ B → -B ≤ minL L bf p m ∧ minL L bf p m ≤ B
  | [], m, hm => hm
  | x :: p, m, hm => by
    have := h (pv bf x * 8 + x)
    exact minL_bd h p _ (by omega)
/-- The rounds of the program. -/
inductive FlowR (a b : Nat) : Nat → List Int → Int → Int → Prop where
  | stop {n : Nat} {L : List Int} {t : Int} (h : (srZ L a).getD b 0 < 0) : FlowR a b n L t t
  | step {n : Nat} {L : List Int} {t r : Int} (p : List Nat) (y : Nat) (h0 : (srZ L a).getD b 0 = (y : Int)) (hy : y < 8) (hp : isP (srZ L a) a p b) (hl : p.length ≤ 8) (hs : sml L 1000000000000) (ht : -1000000000000 ≤ t ∧ t ≤ 1000000000000)
      (h : FlowR a b n (updP (srZ L a) (minL L (srZ L a) p (L.getD (y * 8 + b) 0)) p L) (t + minL L (srZ L a) p (L.getD (y * 8 + b) 0)) r) : FlowR a b (n + 1) L t r
theorem srF_len (L : List Int) : ∀ (n : Nat) (b q : List Int), b.length = 8 → (∀ y ∈ q, 0 ≤ y ∧ y < 8) → (srF L n b q).length = 8
  | 0, b, q, h, _ => h
  | n + 1, b, q, h, hq => by
    cases q with
    | nil => exact h
    | cons s q =>
      have hs := hq s List.mem_cons_self
      obtain ⟨h1, h2, -⟩ := srT_inv L s hs.1 hs.2 (b, q) h (fun y hy => hq y (List.mem_cons_of_mem _ hy)) 8 (Nat.le_refl 8)
      exact srF_len L n _ _ h1 h2
theorem srZ_len (L : List Int) {a : Nat} (ha : a < 8) : (srZ L a).length = 8 := srF_len L 8 _ _ (by simp) fun y hy => by simp only [List.mem_singleton] at hy; omega
set_option maxHeartbeats 16000000 in
set_option maxRecDepth 100000 in
theorem Flow0_spec {F : FK} (h : F.ok = true) (a b : Int) (hg : (a == b) = true ∨ F.al a = false ∨ F.al b = false) : Spec Try.prog 27 [.agg F.A, .val (.int .i64 a), .val (.int .i64 b)] [] (.val (.int .i64 0)) [] := by
  have sv := valid_spec F
  rw [h] at sv
  have s1 := alive_spec h a
  have s2 := alive_spec h b
  clear h
  obtain ⟨FAv, hFA⟩ : ∃ x, F.A = x := ⟨_, rfl⟩
  have hFA2 : FAv = [.val (.int .i64 F.sw), .ro (F.ls.map lkA), .ro (bls F.dn), .ro (bls F.dd)] := by rw [← hFA]; rfl
  rw [hFA] at sv s1 s2 ⊢
  rw [hFA2] at sv s1 s2 ⊢
  clear hFA hFA2 FAv
  generalize F.al a = A at *
  generalize F.al b = B at *
  refine spec_of_awp Try.func27 rfl (Nat.le_of_ble_eq_true rfl) fun ini => ?_
  simp only [Try.ntmps27]
  cases q1 : (a == b) with
  | true => (repeat (first | refine awp_reg_seq rfl fun k => ?_ | refine awp_seq ?_ | refine awp_true rfl ?_ | (refine awp_ret ?_; (apply ends_pure ?_ ?_ ?_ ?_ ?_ (.inl rfl); rotate_left 1; (· first | exact res_one rfl rfl | exact res_two rfl rfl rfl | exact res_none rfl | exact res_three rfl rfl rfl rfl | exact res_cell rfl rfl rfl rfl rfl | exact res_cell2 rfl rfl rfl rfl rfl rfl | exact res3 rfl (rv_cell rfl rfl rfl rfl) (rv_tmp rfl) (rv_tmp rfl) | exact res3 rfl (rv_cell rfl rfl rfl rfl) (rv_cell rfl rfl rfl rfl) (rv_cell rfl rfl rfl rfl)); (· first | rfl | ((conv => (lhs; whnf)); first | rfl | (simp; done))); (· first | rfl | (simp; done) | (simp [AVal.pure, AVal.pures, AObj.pure]; done)); (· rfl); (· rfl))) | (apply runk_pure rfl rfl rfl ?_ ?_ ?_ ?_ ?_ ?_ ?_ ?_; rotate_left 6; (· (conv => (lhs; whnf))); (· exact Try.func15); (· rfl); (· rfl); (· exact (sv)); (· (repeat (first | exact Rens.nil | (refine Rens.cons ?_ ?_; (· first | exact Ren.own _ _ _ _ _ _ rfl List.mem_cons_self | exact Ren.own _ _ _ _ _ _ rfl (List.mem_cons_of_mem _ List.mem_cons_self) | (refine (Ren.own _ _ _ _ _ _ ?_ List.mem_cons_self); first | rfl | (simp; done)) | (refine (Ren.own _ _ _ _ _ _ ?_ (List.mem_cons_of_mem _ List.mem_cons_self)); first | rfl | (simp; done)) | exact Ren.ptr _ _ _ _ _ List.mem_cons_self | (refine Ren.pureR ?_ rfl; (first | rfl | (simp; done) | (simp [AVal.pure, AVal.pures, AObj.pure]; done)))))))); (· first | rfl | (simp; done) | simp [AVal.pure, AVal.pures, AObj.pure])) | (apply runk0 rfl rfl (opok_box_ro rfl ?_ ?_ ?_) ?_; rotate_left 2; (· (conv => (lhs; whnf))); (· rfl); (· (conv => (lhs; whnf)))) | (first | refine runk_ung rfl rfl rfl rfl ?_ | refine runk_ung rfl rfl rfl (by assumption) ?_) | (first | refine runk_off rfl rfl rfl rfl rfl ?_ | refine runk_off rfl rfl rfl (by assumption) rfl ?_ | refine runk_offN rfl rfl rfl rfl rfl ?_ | refine runk_offU rfl rfl rfl rfl ?_ | refine runk_offUN rfl rfl rfl rfl ?_) | (apply runk0 rfl rfl (opok_move rfl ?_) ?_; rotate_left 1; (· (conv => (lhs; whnf)))) | (apply runk0 rfl rfl (opok_assign rfl ?_) ?_; rotate_left 1; (· (conv => (lhs; whnf)))) | (apply runk0 rfl rfl (opok_bin rfl ?_ ?_ ?_) ?_; rotate_left 3; (· (conv => (lhs; whnf))); (· (conv => (lhs; whnf))); (· (intro w; go_simp; first | done | rfl))) | (apply runk0 rfl rfl (opok_un rfl ?_ ?_) ?_; rotate_left 2; (· (conv => (lhs; whnf))); (· (intro w; go_simp; first | done | rfl))) | (apply runk0 rfl rfl (opok_pick rfl ?_ ?_) ?_; rotate_left 2; (· (conv => (lhs; whnf))); (· first | exact pick_or | exact pick_and | (conv => (lhs; whnf)))) | refine runk_end (by kernel_rfl) ?_ | (apply runk0 rfl rfl (opok_loadRA2 rfl ?_ ?_ ?_ ?_) ?_; rotate_left 2; (· (conv => (lhs; whnf))); (· rfl); (· (unfold sizeIs; conv => (lhs; whnf; arg 1; whnf))); (· rfl))))
  | false =>
    cases A with
    | false => (repeat (first | refine awp_reg_seq rfl fun k => ?_ | refine awp_seq ?_ | refine awp_true rfl ?_ | (refine awp_ret ?_; (apply ends_pure ?_ ?_ ?_ ?_ ?_ (.inl rfl); rotate_left 1; (· first | exact res_one rfl rfl | exact res_two rfl rfl rfl | exact res_none rfl | exact res_three rfl rfl rfl rfl | exact res_cell rfl rfl rfl rfl rfl | exact res_cell2 rfl rfl rfl rfl rfl rfl | exact res3 rfl (rv_cell rfl rfl rfl rfl) (rv_tmp rfl) (rv_tmp rfl) | exact res3 rfl (rv_cell rfl rfl rfl rfl) (rv_cell rfl rfl rfl rfl) (rv_cell rfl rfl rfl rfl)); (· first | rfl | ((conv => (lhs; whnf)); first | rfl | (simp; done))); (· first | rfl | (simp; done) | (simp [AVal.pure, AVal.pures, AObj.pure]; done)); (· rfl); (· rfl))) | (apply runk_pure rfl rfl rfl ?_ ?_ ?_ ?_ ?_ ?_ ?_ ?_; rotate_left 6; (· (conv => (lhs; whnf))); (· exact Try.func15); (· rfl); (· rfl); (· exact (sv)); (· (repeat (first | exact Rens.nil | (refine Rens.cons ?_ ?_; (· first | exact Ren.own _ _ _ _ _ _ rfl List.mem_cons_self | exact Ren.own _ _ _ _ _ _ rfl (List.mem_cons_of_mem _ List.mem_cons_self) | (refine (Ren.own _ _ _ _ _ _ ?_ List.mem_cons_self); first | rfl | (simp; done)) | (refine (Ren.own _ _ _ _ _ _ ?_ (List.mem_cons_of_mem _ List.mem_cons_self)); first | rfl | (simp; done)) | exact Ren.ptr _ _ _ _ _ List.mem_cons_self | (refine Ren.pureR ?_ rfl; (first | rfl | (simp; done) | (simp [AVal.pure, AVal.pures, AObj.pure]; done)))))))); (· first | rfl | (simp; done) | simp [AVal.pure, AVal.pures, AObj.pure])) | (apply runk_pure rfl rfl rfl ?_ ?_ ?_ ?_ ?_ ?_ ?_ ?_; rotate_left 6; (· (conv => (lhs; whnf))); (· exact Try.func36); (· rfl); (· rfl); (· exact (s1)); (· (repeat (first | exact Rens.nil | (refine Rens.cons ?_ ?_; (· first | exact Ren.own _ _ _ _ _ _ rfl List.mem_cons_self | exact Ren.own _ _ _ _ _ _ rfl (List.mem_cons_of_mem _ List.mem_cons_self) | (refine (Ren.own _ _ _ _ _ _ ?_ List.mem_cons_self); first | rfl | (simp; done)) | (refine (Ren.own _ _ _ _ _ _ ?_ (List.mem_cons_of_mem _ List.mem_cons_self)); first | rfl | (simp; done)) | exact Ren.ptr _ _ _ _ _ List.mem_cons_self | (refine Ren.pureR ?_ rfl; (first | rfl | (simp; done) | (simp [AVal.pure, AVal.pures, AObj.pure]; done)))))))); (· first | rfl | (simp; done) | simp [AVal.pure, AVal.pures, AObj.pure])) | (apply runk0 rfl rfl (opok_box_ro rfl ?_ ?_ ?_) ?_; rotate_left 2; (· (conv => (lhs; whnf))); (· rfl); (· (conv => (lhs; whnf)))) | (first | refine runk_ung rfl rfl rfl rfl ?_ | refine runk_ung rfl rfl rfl (by assumption) ?_) | (first | refine runk_off rfl rfl rfl rfl rfl ?_ | refine runk_off rfl rfl rfl (by assumption) rfl ?_ | refine runk_offN rfl rfl rfl rfl rfl ?_ | refine runk_offU rfl rfl rfl rfl ?_ | refine runk_offUN rfl rfl rfl rfl ?_) | (apply runk0 rfl rfl (opok_move rfl ?_) ?_; rotate_left 1; (· (conv => (lhs; whnf)))) | (apply runk0 rfl rfl (opok_assign rfl ?_) ?_; rotate_left 1; (· (conv => (lhs; whnf)))) | (apply runk0 rfl rfl (opok_bin rfl ?_ ?_ ?_) ?_; rotate_left 3; (· (conv => (lhs; whnf))); (· (conv => (lhs; whnf))); (· (intro w; go_simp; first | done | rfl))) | (apply runk0 rfl rfl (opok_un rfl ?_ ?_) ?_; rotate_left 2; (· (conv => (lhs; whnf))); (· (intro w; go_simp; first | done | rfl))) | (apply runk0 rfl rfl (opok_pick rfl ?_ ?_) ?_; rotate_left 2; (· (conv => (lhs; whnf))); (· first | exact pick_or | exact pick_and | (conv => (lhs; whnf)))) | refine runk_end (by kernel_rfl) ?_ | (apply runk0 rfl rfl (opok_loadRA2 rfl ?_ ?_ ?_ ?_) ?_; rotate_left 2; (· (conv => (lhs; whnf))); (· rfl); (· (unfold sizeIs; conv => (lhs; whnf; arg 1; whnf))); (· rfl))))
    | true =>
      cases B with
      | false => (repeat (first | refine awp_reg_seq rfl fun k => ?_ | refine awp_seq ?_ | refine awp_true rfl ?_ | (refine awp_ret ?_; (apply ends_pure ?_ ?_ ?_ ?_ ?_ (.inl rfl); rotate_left 1; (· first | exact res_one rfl rfl | exact res_two rfl rfl rfl | exact res_none rfl | exact res_three rfl rfl rfl rfl | exact res_cell rfl rfl rfl rfl rfl | exact res_cell2 rfl rfl rfl rfl rfl rfl | exact res3 rfl (rv_cell rfl rfl rfl rfl) (rv_tmp rfl) (rv_tmp rfl) | exact res3 rfl (rv_cell rfl rfl rfl rfl) (rv_cell rfl rfl rfl rfl) (rv_cell rfl rfl rfl rfl)); (· first | rfl | ((conv => (lhs; whnf)); first | rfl | (simp; done))); (· first | rfl | (simp; done) | (simp [AVal.pure, AVal.pures, AObj.pure]; done)); (· rfl); (· rfl))) | (apply runk_pure rfl rfl rfl ?_ ?_ ?_ ?_ ?_ ?_ ?_ ?_; rotate_left 6; (· (conv => (lhs; whnf))); (· exact Try.func15); (· rfl); (· rfl); (· exact (sv)); (· (repeat (first | exact Rens.nil | (refine Rens.cons ?_ ?_; (· first | exact Ren.own _ _ _ _ _ _ rfl List.mem_cons_self | exact Ren.own _ _ _ _ _ _ rfl (List.mem_cons_of_mem _ List.mem_cons_self) | (refine (Ren.own _ _ _ _ _ _ ?_ List.mem_cons_self); first | rfl | (simp; done)) | (refine (Ren.own _ _ _ _ _ _ ?_ (List.mem_cons_of_mem _ List.mem_cons_self)); first | rfl | (simp; done)) | exact Ren.ptr _ _ _ _ _ List.mem_cons_self | (refine Ren.pureR ?_ rfl; (first | rfl | (simp; done) | (simp [AVal.pure, AVal.pures, AObj.pure]; done)))))))); (· first | rfl | (simp; done) | simp [AVal.pure, AVal.pures, AObj.pure])) | (apply runk_pure rfl rfl rfl ?_ ?_ ?_ ?_ ?_ ?_ ?_ ?_; rotate_left 6; (· (conv => (lhs; whnf))); (· exact Try.func36); (· rfl); (· rfl); (· exact (s1)); (· (repeat (first | exact Rens.nil | (refine Rens.cons ?_ ?_; (· first | exact Ren.own _ _ _ _ _ _ rfl List.mem_cons_self | exact Ren.own _ _ _ _ _ _ rfl (List.mem_cons_of_mem _ List.mem_cons_self) | (refine (Ren.own _ _ _ _ _ _ ?_ List.mem_cons_self); first | rfl | (simp; done)) | (refine (Ren.own _ _ _ _ _ _ ?_ (List.mem_cons_of_mem _ List.mem_cons_self)); first | rfl | (simp; done)) | exact Ren.ptr _ _ _ _ _ List.mem_cons_self | (refine Ren.pureR ?_ rfl; (first | rfl | (simp; done) | (simp [AVal.pure, AVal.pures, AObj.pure]; done)))))))); (· first | rfl | (simp; done) | simp [AVal.pure, AVal.pures, AObj.pure])) | (apply runk_pure rfl rfl rfl ?_ ?_ ?_ ?_ ?_ ?_ ?_ ?_; rotate_left 6; (· (conv => (lhs; whnf))); (· exact Try.func36); (· rfl); (· rfl); (· exact (s2)); (· (repeat (first | exact Rens.nil | (refine Rens.cons ?_ ?_; (· first | exact Ren.own _ _ _ _ _ _ rfl List.mem_cons_self | exact Ren.own _ _ _ _ _ _ rfl (List.mem_cons_of_mem _ List.mem_cons_self) | (refine (Ren.own _ _ _ _ _ _ ?_ List.mem_cons_self); first | rfl | (simp; done)) | (refine (Ren.own _ _ _ _ _ _ ?_ (List.mem_cons_of_mem _ List.mem_cons_self)); first | rfl | (simp; done)) | exact Ren.ptr _ _ _ _ _ List.mem_cons_self | (refine Ren.pureR ?_ rfl; (first | rfl | (simp; done) | (simp [AVal.pure, AVal.pures, AObj.pure]; done)))))))); (· first | rfl | (simp; done) | simp [AVal.pure, AVal.pures, AObj.pure])) | (apply runk0 rfl rfl (opok_box_ro rfl ?_ ?_ ?_) ?_; rotate_left 2; (· (conv => (lhs; whnf))); (· rfl); (· (conv => (lhs; whnf)))) | (first | refine runk_ung rfl rfl rfl rfl ?_ | refine runk_ung rfl rfl rfl (by assumption) ?_) | (apply runk0 rfl rfl (opok_move rfl ?_) ?_; rotate_left 1; (· (conv => (lhs; whnf)))) | (apply runk0 rfl rfl (opok_assign rfl ?_) ?_; rotate_left 1; (· (conv => (lhs; whnf)))) | (apply runk0 rfl rfl (opok_bin rfl ?_ ?_ ?_) ?_; rotate_left 3; (· (conv => (lhs; whnf))); (· (conv => (lhs; whnf))); (· (intro w; go_simp; first | done | rfl))) | (apply runk0 rfl rfl (opok_un rfl ?_ ?_) ?_; rotate_left 2; (· (conv => (lhs; whnf))); (· (intro w; go_simp; first | done | rfl))) | (apply runk0 rfl rfl (opok_pick rfl ?_ ?_) ?_; rotate_left 2; (· (conv => (lhs; whnf))); (· first | exact pick_or | exact pick_and | (conv => (lhs; whnf)))) | refine runk_end (by kernel_rfl) ?_ | (apply runk0 rfl rfl (opok_loadRA2 rfl ?_ ?_ ?_ ?_) ?_; rotate_left 2; (· (conv => (lhs; whnf))); (· rfl); (· (unfold sizeIs; conv => (lhs; whnf; arg 1; whnf))); (· rfl))))
      | true => exfalso; rw [q1] at hg; simp at hg

set_option maxHeartbeats 64000000 in
set_option maxRecDepth 100000 in
theorem Flow_spec {F : FK} (h : F.ok = true) (a b : Nat) (hab : a ≠ b) (ha : F.al a = true) (hb : F.al b = true) (n : Nat) (r : Int) (hr : FlowR a b n (cap0 F) 0 r) : Spec Try.prog 27 [.agg F.A, .val (.int .i64 (a : Int)), .val (.int .i64 (b : Int))] [] (.val (.int .i64 r)) [] := by
  have sv := valid_spec F
  rw [h] at sv
  have s1 := alive_spec h a
  have s2 := alive_spec h b
  rw [ha] at s1
  rw [hb] at s2
  have s3 := working_spec h
  obtain ⟨hs1, hs8, hl24, -, hdd, hco⟩ := FK.ok_facts h
  have ha8 : a < 8 := by simp only [FK.al, Bool.and_eq_true, decide_eq_true_eq] at ha; omega
  have hb8 : b < 8 := by simp only [FK.al, Bool.and_eq_true, decide_eq_true_eq] at hb; omega
  have hq : ((a : Int) == (b : Int)) = false := by simp; omega
  have hend : ∀ i, i < F.ls.length → (F.ls.map lkA)[i]? = some (.agg [.val (.int .i64 (F.la i : Int)), .val (.int .i64 (F.lb i : Int)), .val (.int .i64 (F.ls.getD i (0, 0, 0)).2.2)]) ∧ F.la i < 8 ∧ F.lb i < 8 ∧ 1 ≤ (F.ls.getD i (0, 0, 0)).2.2 ∧ (F.ls.getD i (0, 0, 0)).2.2 ≤ 1048576 := fun i hi => by
    obtain ⟨e1, e2, ha, hb, -⟩ := FK.ends h hi
    have hx := lk_at F.ls hi
    rw [e1, e2] at hx
    obtain ⟨a', b', c', e3, _, _, _, e4, e5⟩ := hco i hi
    rw [e3] at hx ⊢
    exact ⟨hx, by omega, by omega, e4, e5⟩
  have hW : ∀ k, k < (wkL F F.ls.length).length → ∃ i : Nat, (wkL F F.ls.length).getD k 0 = i ∧ i < F.ls.length := fun k hk => by
    obtain ⟨i, e1, e2, -⟩ := wkL_at k hk
    exact ⟨i, e1, e2⟩
  have hWl := wkL_len F F.ls.length
  have hsm := sml_capN (f := F) hW fun i hi => ⟨(hend i hi).2.2.2.1, (hend i hi).2.2.2.2⟩
  unfold cap0 at hr
  clear h ha hb hco
  obtain ⟨FAv, hFA⟩ : ∃ x, F.A = x := ⟨_, rfl⟩
  have hFA2 : FAv = [.val (.int .i64 F.sw), .ro (F.ls.map lkA), .ro (bls F.dn), .ro (bls F.dd)] := by rw [← hFA]; rfl
  rw [hFA] at sv s1 s2 s3 ⊢
  rw [hFA2] at sv s1 s2 s3 ⊢
  clear hFA hFA2 FAv
  generalize wkL F F.ls.length = W at *
  generalize hls : F.ls = ls at *
  generalize F.sw = sw at *
  generalize F.dn = dn at *
  generalize F.dd = dd at *
  refine spec_of_awp Try.func27 rfl (Nat.le_of_ble_eq_true rfl) fun ini => ?_
  simp only [Try.ntmps27]
  (repeat (first | refine awp_reg_seq rfl fun k => ?_ | refine awp_seq ?_ | refine awp_false rfl ?_ | refine awp_skip (?_ : Awp _ _ _ _ _ _) | refine awp_block ?_ | (apply runk_pure rfl rfl rfl ?_ ?_ ?_ ?_ ?_ ?_ ?_ ?_; rotate_left 6; (· (conv => (lhs; whnf))); (· exact Try.func15); (· rfl); (· rfl); (· exact (sv)); (· (repeat (first | exact Rens.nil | (refine Rens.cons ?_ ?_; (· first | exact Ren.own _ _ _ _ _ _ rfl List.mem_cons_self | exact Ren.own _ _ _ _ _ _ rfl (List.mem_cons_of_mem _ List.mem_cons_self) | (refine (Ren.own _ _ _ _ _ _ ?_ List.mem_cons_self); first | rfl | (simp; done)) | (refine (Ren.own _ _ _ _ _ _ ?_ (List.mem_cons_of_mem _ List.mem_cons_self)); first | rfl | (simp; done)) | exact Ren.ptr _ _ _ _ _ List.mem_cons_self | (refine Ren.pureR ?_ rfl; (first | rfl | (simp; done) | (simp [AVal.pure, AVal.pures, AObj.pure]; done)))))))); (· first | rfl | (simp; done) | simp [AVal.pure, AVal.pures, AObj.pure])) | (apply runk_pure rfl rfl rfl ?_ ?_ ?_ ?_ ?_ ?_ ?_ ?_; rotate_left 6; (· (conv => (lhs; whnf))); (· exact Try.func36); (· rfl); (· rfl); (· exact (s1)); (· (repeat (first | exact Rens.nil | (refine Rens.cons ?_ ?_; (· first | exact Ren.own _ _ _ _ _ _ rfl List.mem_cons_self | exact Ren.own _ _ _ _ _ _ rfl (List.mem_cons_of_mem _ List.mem_cons_self) | (refine (Ren.own _ _ _ _ _ _ ?_ List.mem_cons_self); first | rfl | (simp; done)) | (refine (Ren.own _ _ _ _ _ _ ?_ (List.mem_cons_of_mem _ List.mem_cons_self)); first | rfl | (simp; done)) | exact Ren.ptr _ _ _ _ _ List.mem_cons_self | (refine Ren.pureR ?_ rfl; (first | rfl | (simp; done) | (simp [AVal.pure, AVal.pures, AObj.pure]; done)))))))); (· first | rfl | (simp; done) | simp [AVal.pure, AVal.pures, AObj.pure])) | (apply runk_pure rfl rfl rfl ?_ ?_ ?_ ?_ ?_ ?_ ?_ ?_; rotate_left 6; (· (conv => (lhs; whnf))); (· exact Try.func36); (· rfl); (· rfl); (· exact (s2)); (· (repeat (first | exact Rens.nil | (refine Rens.cons ?_ ?_; (· first | exact Ren.own _ _ _ _ _ _ rfl List.mem_cons_self | exact Ren.own _ _ _ _ _ _ rfl (List.mem_cons_of_mem _ List.mem_cons_self) | (refine (Ren.own _ _ _ _ _ _ ?_ List.mem_cons_self); first | rfl | (simp; done)) | (refine (Ren.own _ _ _ _ _ _ ?_ (List.mem_cons_of_mem _ List.mem_cons_self)); first | rfl | (simp; done)) | exact Ren.ptr _ _ _ _ _ List.mem_cons_self | (refine Ren.pureR ?_ rfl; (first | rfl | (simp; done) | (simp [AVal.pure, AVal.pures, AObj.pure]; done)))))))); (· first | rfl | (simp; done) | simp [AVal.pure, AVal.pures, AObj.pure])) | (apply runk_pure rfl rfl rfl ?_ ?_ ?_ ?_ ?_ ?_ ?_ ?_; rotate_left 6; (· (conv => (lhs; whnf))); (· exact Try.func35); (· rfl); (· rfl); (· exact (s3)); (· (repeat (first | exact Rens.nil | (refine Rens.cons ?_ ?_; (· first | exact Ren.own _ _ _ _ _ _ rfl List.mem_cons_self | exact Ren.own _ _ _ _ _ _ rfl (List.mem_cons_of_mem _ List.mem_cons_self) | (refine (Ren.own _ _ _ _ _ _ ?_ List.mem_cons_self); first | rfl | (simp; done)) | (refine (Ren.own _ _ _ _ _ _ ?_ (List.mem_cons_of_mem _ List.mem_cons_self)); first | rfl | (simp; done)) | exact Ren.ptr _ _ _ _ _ List.mem_cons_self | (refine Ren.pureR ?_ rfl; (first | rfl | (simp; done) | (simp [AVal.pure, AVal.pures, AObj.pure]; done)))))))); (· first | rfl | (simp; done) | simp [AVal.pure, AVal.pures, AObj.pure])) | (apply runk0 rfl rfl (opok_box_ro rfl ?_ ?_ ?_) ?_; rotate_left 2; (· (conv => (lhs; whnf))); (· rfl); (· (conv => (lhs; whnf)))) | (first | refine runk_ung rfl rfl rfl rfl ?_ | refine runk_ung rfl rfl rfl (by assumption) ?_) | (apply runk0 rfl rfl (opok_move rfl ?_) ?_; rotate_left 1; (· (conv => (lhs; whnf)))) | (apply runk0 rfl rfl (opok_assign rfl ?_) ?_; rotate_left 1; (· (conv => (lhs; whnf)))) | (apply runk0 rfl rfl (opok_bin rfl ?_ ?_ ?_) ?_; rotate_left 3; (· (conv => (lhs; whnf))); (· (conv => (lhs; whnf))); (· (intro w; go_simp; first | done | rfl))) | (apply runk0 rfl rfl (opok_un rfl ?_ ?_) ?_; rotate_left 2; (· (conv => (lhs; whnf))); (· (intro w; go_simp; first | done | rfl))) | (first | (apply runk0 rfl rfl (opok_lenO rfl ?_ ?_ ?_) ?_; rotate_left 5; (· (conv => (lhs; whnf))); (· (conv => (lhs; whnf; arg 1; whnf))); (· first | exact length_ints _ _ | rfl)) | (apply runk0 rfl rfl (opok_len_own rfl ?_ ?_) ?_; rotate_left 4; (· (conv => (lhs; whnf))); (· (conv => (lhs; whnf; arg 1; whnf)))) | (apply runk0 rfl rfl (opok_len rfl ?_ ?_ ?_) ?_; rotate_left 3; (· (conv => (lhs; whnf))); (· (conv => (lhs; whnf; arg 1; whnf))); (· first | exact length_ints _ _ | rfl))) | (apply runk0 rfl rfl (opok_pick rfl ?_ ?_) ?_; rotate_left 2; (· (conv => (lhs; whnf))); (· first | exact pick_or | exact pick_and | (conv => (lhs; whnf)))) | (apply runk_alloc rfl rfl rfl ?_ ?_ ?_; rotate_left 2; (· (conv => (lhs; whnf; arg 1; whnf))); (· (conv => (lhs; whnf)))) | refine runk_end (by kernel_rfl) ?_ | (apply runk0 rfl rfl (opok_loadRA2 rfl ?_ ?_ ?_ ?_) ?_; rotate_left 2; (· (conv => (lhs; whnf))); (· rfl); (· (unfold sizeIs; conv => (lhs; whnf; arg 1; whnf))); (· rfl))))
  rename_i y1 y2 k7
  refine awp_less (st' := ⟨[(37, .ro (ints .i64 W)), (38, .val (.int .i64 (W.length : Int))), (39, .val (.int .i64 0)), (1, .val (.int .i64 (a : Int))), (2, .val (.int .i64 (b : Int))), (3, .rref [.val (.int .i64 sw), .ro (ls.map lkA), .ro (bls dn), .ro (bls dd)]), (7, .ptr 7 k7 0)], [(7, some (k7, .box 59 (ints .i64 (capN F W 0))))]⟩) ?_ ?_
  · (refine leB_of ?_ ?_; (· (repeat (first | exact EnvIs.nil | (refine EnvIs.cons ?_ ?_; (· first | rfl | ((conv => (lhs; whnf)); first | (simp [ints, capN, List.replicate]; done) | (simp [ints, capN, List.replicate]; omega))))))); (· (repeat (first | exact ObjsAre.nil | (refine ObjsAre.cons ?_ ?_; (· first | rfl | ((conv => (lhs; whnf)); first | (simp [ints, capN, List.replicate]; done) | (simp [ints, capN, List.replicate]; omega))))))))
  refine awp_loop (fun n st => ∃ m : Nat, m + n = W.length ∧ st.leB ⟨[(37, .ro (ints .i64 W)), (38, .val (.int .i64 (W.length : Int))), (39, .val (.int .i64 (m : Int))), (1, .val (.int .i64 (a : Int))), (2, .val (.int .i64 (b : Int))), (3, .rref [.val (.int .i64 sw), .ro (ls.map lkA), .ro (bls dn), .ro (bls dd)]), (7, .ptr 7 k7 0)], [(7, some (k7, .box 59 (ints .i64 (capN F W m))))]⟩) W.length ⟨0, by omega, ?_⟩ ?_
  · (refine leB_of ?_ ?_; (· (repeat (first | exact EnvIs.nil | (refine EnvIs.cons ?_ ?_; (· first | rfl | ((conv => (lhs; whnf)); first | (simp [capN]; done) | (simp [capN]; omega))))))); (· (repeat (first | exact ObjsAre.nil | (refine ObjsAre.cons ?_ ?_; (· first | rfl | ((conv => (lhs; whnf)); first | (simp [capN]; done) | (simp [capN]; omega))))))))
  · rintro n1 st ⟨m, hm, hle⟩
    refine awp_less hle ?_
    clear hle st
    (repeat (first | refine awp_reg_seq rfl fun k => ?_ | refine awp_seq ?_ | (apply runk0 rfl rfl (opok_bin rfl ?_ ?_ ?_) ?_; rotate_left 3; (· (conv => (lhs; whnf))); (· (conv => (lhs; whnf))); (· (intro w; go_simp; first | done | rfl))) | refine runk_end (by kernel_rfl) ?_))
    refine awp_if rfl (fun hc => ?_) (fun hc => ?_)
    · have hlt : m < W.length := by simpa using hc
      clear hc sv s1 s2 s3 hr
      have wp : IntKind.i64.wrap ((m : Int) + 1) = ((m + 1 : Nat) : Int) := by rw [IntKind.wrap_i64]; omega
      have hx : (ints .i64 W)[m]? = some (.val (.int .i64 (W.getD m 0))) := ints_getD .i64 W m hlt
      obtain ⟨i, hi, hil⟩ := hW m hlt
      have eT : capN F W (m + 1) = cap1 F (capN F W m) (W.getD m 0).toNat := rfl
      have hl := capN_len F W m
      have hsL := hsm m (by omega)
      obtain ⟨hy, ha', hb', hc1, hc2⟩ := hend i hil
      rw [hi] at hx eT
      rw [Int.toNat_natCast, cap1, hls] at eT
      generalize hY : capN F W (m + 1) = Y at *
      generalize capN F W m = L at *
      generalize F.la i = x at *
      generalize F.lb i = y at *
      generalize (ls.getD i (0, 0, 0)).2.2 = c at *
      have hL2l : (addM L x y c).length = 64 := by rw [addM_len]; exact hl
      have hs2 := sml_addM hsL (by omega) x y (c := c) 1048576 (by omega) hc2
      have hu2 := hs2 (y * 8 + x)
      have hu := hsL (x * 8 + y)
      have hL1 : (ints .i64 L)[x * 8 + y]? = some (.val (.int .i64 (L.getD (x * 8 + y) 0))) := ints_getD .i64 L _ (by omega)
      have hL2 : (ints .i64 (addM L x y c))[y * 8 + x]? = some (.val (.int .i64 ((addM L x y c).getD (y * 8 + x) 0))) := ints_getD .i64 _ _ (by rw [hL2l]; omega)
      rw [show addM (addM L x y c) y x c = (addM L x y c).set (y * 8 + x) ((addM L x y c).getD (y * 8 + x) 0 + c) from rfl] at eT
      generalize (addM L x y c).getD (y * 8 + x) 0 = u2 at *
      unfold addM at hL2 eT
      generalize L.getD (x * 8 + y) 0 = u at *
      rw [show ints .i64 (L.set (x * 8 + y) (u + c)) = (ints .i64 L).set (x * 8 + y) (.val (.int .i64 (u + c))) from by simp [ints, List.map_set]] at hL2
      have hm24 : (m : Int) ≤ 24 := by omega
      have w1 : IntKind.i64.wrap (u + c) = u + c := by rw [IntKind.wrap_i64]; omega
      have w2 : IntKind.i64.wrap (u2 + c) = u2 + c := by rw [IntKind.wrap_i64]; omega
      clear hs2 hsL hsm hW hend hi hu hu2 hL2l
      (repeat (first | refine awp_reg_seq rfl fun k => ?_ | refine awp_seq ?_ | refine awp_skip (?_ : Awp _ _ _ _ _ _) | refine awp_block ?_ | (apply runk0 rfl rfl (opok_move rfl ?_) ?_; rotate_left 1; (· (conv => (lhs; whnf)))) | (apply runk0 rfl rfl (opok_assign rfl ?_) ?_; rotate_left 1; (· (conv => (lhs; whnf)))) | (first | (apply runk0 rfl rfl (opok_load rfl ?_ ?_ ?_ ?_) ?_; rotate_left 5; (· (conv => (lhs; whnf))); (· (conv => (lhs; whnf; arg 1; whnf; arg 2; whnf))); (· rfl); (· (conv => (lhs; whnf; arg 1; whnf)))) | (apply runk0 rfl rfl (opok_loadR rfl ?_ ?_ ?_) ?_; rotate_left 2; (· (conv => (lhs; whnf))); (· rfl); (· (conv => (lhs; whnf; arg 1; whnf))))) | refine runk_end (by kernel_rfl) ?_ | (apply runk0 rfl rfl (opok_faR rfl ?_ rfl rfl ?_ ?_ ?_) ?_; rotate_left 3; (· (conv => (lhs; whnf))); (· (unfold sizeIs; conv => (lhs; whnf; arg 1; whnf))); (· rfl); (· (conv => (lhs; (repeat (whnf; arg 2)); whnf)))) | (apply runk0 rfl rfl (opok_index_ro rfl ?_ ?_ ?_ ?_ ?_ ?_ ?_) ?_; rotate_left 6; (· (conv => (lhs; whnf))); (· (conv => (lhs; whnf))); (· (conv => (lhs; whnf; arg 1; whnf))); (· (unfold sizeIs; conv => (lhs; whnf; arg 1; whnf))); (· first | exact widths_ints _ _ | rfl | simp [widths, AVal.flat]); (· first | omega | (simp; done) | (simp; omega)); (· first | assumption | (simp only [Int.toNat_natCast]; assumption) | (simp only [Int.reduceToNat]; assumption)))))
      (apply runk0 rfl rfl (opok_index_ro rfl ?_ ?_ ?_ ?_ ?_ ?_ ?_) ?_; rotate_left 6; (· (conv => (lhs; whnf))); (· (conv => (lhs; whnf))); (· (conv => (lhs; whnf; arg 1; whnf))); (· (unfold sizeIs; conv => (lhs; whnf; arg 1; whnf))); (· simp); (· first | omega | (simp; done) | (simp; omega)); (· simp only [Int.toNat_natCast]; exact hy))
      (repeat (first | refine awp_reg_seq rfl fun k => ?_ | refine awp_reg rfl fun k => ?_ | refine awp_isF rfl (by assumption) ?_ | (((apply runk0 rfl rfl (opok_indexP rfl ?_ ?_ rfl ?_ ?_ ?_) ?_; rotate_left 6; (· (conv => (lhs; whnf))); (· (conv => (lhs; whnf))); (· (unfold sizeIs; conv => (lhs; whnf; arg 1; whnf))); (· first | omega | (simp; done) | (simp; omega)); (· first | omega | (simp; done) | (simp; omega))))) | (((apply runk0 rfl rfl (opok_load rfl ?_ ?_ ?_ ?_) ?_; rotate_left 5; (· (conv => (lhs; whnf))); (· (conv => (lhs; whnf; arg 1; whnf; arg 2; whnf))); (· rfl); (· (simp only [AObj.cells, Int.toNat_natCast, Nat.mul_one, Nat.zero_add]; assumption))))) | (((apply runk_storeI rfl rfl rfl ?_ ?_ ?_ ?_ ?_ ?_ ?_ ?_ ?_; rotate_left 7; (· (conv => (lhs; whnf))); (· rfl); (· (conv => (lhs; whnf))); (· rfl); (· rfl); (· (unfold sizeIs; conv => (lhs; whnf; arg 1; whnf))); (· first | (simp; done) | (simp; omega) | omega); (· rfl)))) | (apply runk0 rfl rfl (opok_move rfl ?_) ?_; rotate_left 1; (· (conv => (lhs; whnf)))) | (apply runk_fa rfl rfl rfl ?_ rfl rfl ?_ ?_ ?_ ?_; rotate_left 5; (· (conv => (lhs; whnf))); (· (unfold sizeIs; conv => (lhs; whnf; arg 1; whnf))); (· rfl); (· (conv => (lhs; whnf)))) | (first | (apply runk0 rfl rfl (opok_load rfl ?_ ?_ ?_ ?_) ?_; rotate_left 5; (· (conv => (lhs; whnf))); (· (conv => (lhs; whnf; arg 1; whnf; arg 2; whnf))); (· rfl); (· (conv => (lhs; whnf; arg 1; whnf)))) | (apply runk0 rfl rfl (opok_loadR rfl ?_ ?_ ?_) ?_; rotate_left 2; (· (conv => (lhs; whnf))); (· rfl); (· (conv => (lhs; whnf; arg 1; whnf))))) | (apply runk0 rfl rfl (opok_bin rfl ?_ ?_ ?_) ?_; rotate_left 3; (· (conv => (lhs; whnf))); (· (conv => (lhs; whnf))); (· (intro w; go_simp; first | done | rfl))) | (apply runk_alloc rfl rfl rfl ?_ ?_ ?_; rotate_left 2; (· (conv => (lhs; whnf; arg 1; whnf))); (· (conv => (lhs; whnf)))) | (apply runk_store rfl rfl rfl ?_ ?_ ?_ ?_ ?_ ?_ ?_ ?_ ?_ ?_ ?_; rotate_left 9; (· (conv => (lhs; whnf))); (· (conv => (lhs; whnf))); (· (conv => (lhs; whnf; arg 1; whnf; arg 2; whnf))); (· rfl); (· (conv => (lhs; whnf))); (· rfl); (· (unfold sizeIs; conv => (lhs; whnf; arg 1; whnf))); (· rfl); (· rfl); (· (conv => (lhs; repeat (whnf; arg 2))))) | refine runk_end (by kernel_rfl) ?_ | (apply runk0 rfl rfl (opok_loadRA2 rfl ?_ ?_ ?_ ?_) ?_; rotate_left 2; (· (conv => (lhs; whnf))); (· rfl); (· (unfold sizeIs; conv => (lhs; whnf; arg 1; whnf))); (· rfl))))
      refine ⟨n1 - 1, by omega, m + 1, by omega, ?_⟩
      rw [hY, eT]
      (refine leB_of ?_ ?_; (· (repeat (first | exact EnvIs.nil | (refine EnvIs.cons ?_ ?_; (· first | rfl | ((conv => (lhs; whnf)); first | (simp [ints, List.map_set]; done) | (simp [ints, List.map_set]; omega))))))); (· (repeat (first | exact ObjsAre.nil | (refine ObjsAre.cons ?_ ?_; (· first | rfl | ((conv => (lhs; whnf)); first | (simp [ints, List.map_set]; done) | (simp [ints, List.map_set]; omega))))))))
    · have hie : m = W.length := by simp at hc; omega
      subst hie
      clear hc hW hend
      refine awp_exit (?_ : Awp _ _ _ _ _ _)
      have hl := capN_len F W W.length
      generalize capN F W W.length = L at *
      (repeat (first | refine awp_reg_seq rfl fun k => ?_ | refine awp_block ?_ | (apply runk0 rfl rfl (opok_assign rfl ?_) ?_; rotate_left 1; (· (conv => (lhs; whnf)))) | refine runk_end (by kernel_rfl) ?_))
      clear sv s1 s2 s3 hm
      refine awp_loop (fun n st => ∃ (L : List Int) (t : Int), L.length = 64 ∧ FlowR a b n L t r ∧ st.leB ⟨[(11, .val (.int .i64 t)), (1, .val (.int .i64 (a : Int))), (2, .val (.int .i64 (b : Int))), (3, .rref [.val (.int .i64 sw), .ro (ls.map lkA), .ro (bls dn), .ro (bls dd)]), (7, .ptr 7 k7 0)], [(7, some (k7, .box 59 (ints .i64 (L))))]⟩) n ⟨L, 0, hl, hr, ?_⟩ ?_
      · (refine leB_of ?_ ?_; (· (repeat (first | exact EnvIs.nil | (refine EnvIs.cons ?_ ?_; (· first | rfl | ((conv => (lhs; whnf)); first | (simp [ints]; done) | (simp [ints]; omega))))))); (· (repeat (first | exact ObjsAre.nil | (refine ObjsAre.cons ?_ ?_; (· first | rfl | ((conv => (lhs; whnf)); first | (simp [ints]; done) | (simp [ints]; omega))))))))
      clear hr hl
      rintro n st ⟨L, t, hl, hr, hle⟩
      refine awp_less hle ?_
      clear hle st
      have sS := search_spec L hl a ha8
      have hbl := srZ_len L ha8
      obtain ⟨b0, b1, b2, b3, b4, b5, b6, b7, e8⟩ := eight hbl
      rw [e8, show ints .i64 [b0, b1, b2, b3, b4, b5, b6, b7] = [.val (.int .i64 b0), .val (.int .i64 b1), .val (.int .i64 b2), .val (.int .i64 b3), .val (.int .i64 b4), .val (.int .i64 b5), .val (.int .i64 b6), .val (.int .i64 b7)] from rfl] at sS
      refine awp_block ?_
      refine awp_reg_seq rfl fun k12 => ?_
      (apply runk0 rfl rfl (opok_loadAll rfl ?_ ?_ ?_ ?_ ?_) ?_; rotate_left 5; (· (conv => (lhs; whnf))); (· (conv => (lhs; whnf; arg 1; whnf; arg 2; whnf))); (· rfl); (· (unfold sizeIs; conv => (lhs; whnf; arg 1; whnf))); (· first | assumption | (simp; done) | (simp; assumption)))
      (repeat (first | (apply runk0 rfl rfl (opok_move rfl ?_) ?_; rotate_left 1; (· (conv => (lhs; whnf))))))
      (apply runk_pure rfl rfl rfl ?_ ?_ ?_ ?_ ?_ ?_ ?_ ?_; rotate_left 6; (· (conv => (lhs; whnf))); (· exact Try.func37); (· rfl); (· rfl); (· exact (sS)); (· (repeat (first | exact Rens.nil | (refine Rens.cons ?_ ?_; (· first | exact Ren.own _ _ _ _ _ _ rfl List.mem_cons_self | exact Ren.own _ _ _ _ _ _ rfl (List.mem_cons_of_mem _ List.mem_cons_self) | (refine (Ren.own _ _ _ _ _ _ ?_ List.mem_cons_self); first | rfl | (simp; done)) | (refine (Ren.own _ _ _ _ _ _ ?_ (List.mem_cons_of_mem _ List.mem_cons_self)); first | rfl | (simp; done)) | exact Ren.ptr _ _ _ _ _ List.mem_cons_self | (refine Ren.pureR ?_ rfl; (first | rfl | (simp; done) | (simp [AVal.pure, AVal.pures, AObj.pure]; done)))))))); (· first | rfl | (simp; done) | simp [AVal.pure, AVal.pures, AObj.pure]))
      (repeat (first | (apply runk_alloc rfl rfl rfl ?_ ?_ ?_; rotate_left 2; (· (conv => (lhs; whnf; arg 1; whnf))); (· (conv => (lhs; whnf)))) | (apply runk_store rfl rfl rfl ?_ ?_ ?_ ?_ ?_ ?_ ?_ ?_ ?_ ?_ ?_; rotate_left 9; (· (conv => (lhs; whnf))); (· (conv => (lhs; whnf))); (· (conv => (lhs; whnf; arg 1; whnf; arg 2; whnf))); (· rfl); (· (conv => (lhs; whnf))); (· rfl); (· (unfold sizeIs; conv => (lhs; whnf; arg 1; whnf))); (· rfl); (· rfl); (· (conv => (lhs; repeat (whnf; arg 2))))) | refine runk_end (by kernel_rfl) ?_))
      generalize hBF : srZ L a = BF at *
      refine awp_less (st' := ⟨[(11, .val (.int .i64 t)), (12, .ptr 12 k12 0), (1, .val (.int .i64 (a : Int))), (2, .val (.int .i64 (b : Int))), (3, .rref [.val (.int .i64 sw), .ro (ls.map lkA), .ro (bls dn), .ro (bls dd)]), (7, .ptr 7 k7 0)], [(12, some (k12, .box 56 (ints .i64 BF))), (7, some (k7, .box 59 (ints .i64 (L))))]⟩) ?_ ?_
      · rw [e8]
        (refine leB_of ?_ ?_; (· (repeat (first | exact EnvIs.nil | (refine EnvIs.cons ?_ ?_; (· first | rfl | ((conv => (lhs; whnf)); first | (simp [ints]; done) | (simp [ints]; omega))))))); (· (repeat (first | exact ObjsAre.nil | (refine ObjsAre.cons ?_ ?_; (· first | rfl | ((conv => (lhs; whnf)); first | (simp [ints]; done) | (simp [ints]; omega))))))))
      clear e8 sS
      have hbf : (ints .i64 BF)[b]? = some (.val (.int .i64 (BF.getD b 0))) := ints_getD .i64 BF b (by omega)
      cases hr with
      | stop h =>
        rw [hBF] at h
        generalize BF.getD b 0 = v at *
        have q1 : decide (v < 0) = true := by simpa using h
        (repeat (first | refine awp_reg_seq rfl fun k => ?_ | refine awp_seq ?_ | refine awp_true rfl ?_ | (refine awp_ret ?_; (apply ends_pure ?_ ?_ ?_ ?_ ?_ (.inl rfl); rotate_left 1; (· first | exact res_one rfl rfl | exact res_two rfl rfl rfl | exact res_none rfl | exact res_three rfl rfl rfl rfl | exact res_cell rfl rfl rfl rfl rfl | exact res_cell2 rfl rfl rfl rfl rfl rfl | exact res3 rfl (rv_cell rfl rfl rfl rfl) (rv_tmp rfl) (rv_tmp rfl) | exact res3 rfl (rv_cell rfl rfl rfl rfl) (rv_cell rfl rfl rfl rfl) (rv_cell rfl rfl rfl rfl)); (· first | rfl | ((conv => (lhs; whnf)); first | rfl | (simp; done))); (· first | rfl | (simp; done) | (simp [AVal.pure, AVal.pures, AObj.pure]; done)); (· rfl); (· rfl))) | (((apply runk0 rfl rfl (opok_indexP rfl ?_ ?_ rfl ?_ ?_ ?_) ?_; rotate_left 6; (· (conv => (lhs; whnf))); (· (conv => (lhs; whnf))); (· (unfold sizeIs; conv => (lhs; whnf; arg 1; whnf))); (· first | omega | (simp; done) | (simp; omega)); (· first | omega | (simp; done) | (simp; omega))))) | (((apply runk0 rfl rfl (opok_load rfl ?_ ?_ ?_ ?_) ?_; rotate_left 5; (· (conv => (lhs; whnf))); (· (conv => (lhs; whnf; arg 1; whnf; arg 2; whnf))); (· rfl); (· (simp only [AObj.cells, Int.toNat_natCast, Nat.mul_one, Nat.zero_add]; assumption))))) | (apply runk0 rfl rfl (opok_move rfl ?_) ?_; rotate_left 1; (· (conv => (lhs; whnf)))) | (apply runk0 rfl rfl (opok_assign rfl ?_) ?_; rotate_left 1; (· (conv => (lhs; whnf)))) | (apply runk0 rfl rfl (opok_bin rfl ?_ ?_ ?_) ?_; rotate_left 3; (· (conv => (lhs; whnf))); (· (conv => (lhs; whnf))); (· (intro w; go_simp; first | done | rfl))) | refine runk_end (by kernel_rfl) ?_))
      | @step n0 _ _ _ p y h0 hy hp hpl hs ht hR =>
        rw [hBF] at h0 hp hR
        rw [h0] at hbf
        clear h0
        have q1 : decide ((y : Int) < 0) = false := by simp
        have hLy : (ints .i64 L)[y * 8 + b]? = some (.val (.int .i64 (L.getD (y * 8 + b) 0))) := ints_getD .i64 L _ (by omega)
        have hNb := minL_bd (bf := BF) hs p (L.getD (y * 8 + b) 0) (hs _)
        generalize hN : minL L BF p (L.getD (y * 8 + b) 0) = N at *
        generalize L.getD (y * 8 + b) 0 = u at *
        (repeat (first | refine awp_reg_seq rfl fun k => ?_ | refine awp_seq ?_ | refine awp_false rfl ?_ | refine awp_skip (?_ : Awp _ _ _ _ _ _) | refine awp_block ?_ | (((apply runk0 rfl rfl (opok_indexP rfl ?_ ?_ rfl ?_ ?_ ?_) ?_; rotate_left 6; (· (conv => (lhs; whnf))); (· (conv => (lhs; whnf))); (· (unfold sizeIs; conv => (lhs; whnf; arg 1; whnf))); (· first | omega | (simp; done) | (simp; omega)); (· first | omega | (simp; done) | (simp; omega))))) | (((apply runk0 rfl rfl (opok_load rfl ?_ ?_ ?_ ?_) ?_; rotate_left 5; (· (conv => (lhs; whnf))); (· (conv => (lhs; whnf; arg 1; whnf; arg 2; whnf))); (· rfl); (· (simp only [AObj.cells, Int.toNat_natCast, Nat.mul_one, Nat.zero_add]; assumption))))) | (apply runk0 rfl rfl (opok_move rfl ?_) ?_; rotate_left 1; (· (conv => (lhs; whnf)))) | (apply runk0 rfl rfl (opok_assign rfl ?_) ?_; rotate_left 1; (· (conv => (lhs; whnf)))) | (apply runk0 rfl rfl (opok_bin rfl ?_ ?_ ?_) ?_; rotate_left 3; (· (conv => (lhs; whnf))); (· (conv => (lhs; whnf))); (· (intro w; go_simp; first | done | rfl))) | refine runk_end (by kernel_rfl) ?_))
        refine awp_loop (fun n2 st => ∃ (p' : List Nat) (x : Nat) (mm : Int), n2 = p'.length ∧ isP BF a p' x ∧ minL L BF p' mm = N ∧ st.leB ⟨[(13, .val (.int .i64 mm)), (14, .val (.int .i64 (x : Int))), (11, .val (.int .i64 t)), (12, .ptr 12 k12 0), (1, .val (.int .i64 (a : Int))), (2, .val (.int .i64 (b : Int))), (3, .rref [.val (.int .i64 sw), .ro (ls.map lkA), .ro (bls dn), .ro (bls dd)]), (7, .ptr 7 k7 0)], [(12, some (k12, .box 56 (ints .i64 BF))), (7, some (k7, .box 59 (ints .i64 (L))))]⟩) p.length ⟨p, b, u, rfl, hp, hN, ?_⟩ ?_
        · (refine leB_of ?_ ?_; (· (repeat (first | exact EnvIs.nil | (refine EnvIs.cons ?_ ?_; (· first | rfl | ((conv => (lhs; whnf)); first | (simp [ints]; done) | (simp [ints]; omega))))))); (· (repeat (first | exact ObjsAre.nil | (refine ObjsAre.cons ?_ ?_; (· first | rfl | ((conv => (lhs; whnf)); first | (simp [ints]; done) | (simp [ints]; omega))))))))
        · rintro n2 st ⟨p', x, mm, hn2, hpx, hNx, hle⟩
          refine awp_less hle ?_
          clear hle st hN hbf q1 hLy
          cases p' with
          | nil =>
            have hxa : x = a := hpx
            subst hxa
            have hNm : mm = N := hNx
            subst hNm
            clear hpx hNx hn2
            have dxx : ((x : Int) != (x : Int)) = false := by simp
            have w3 : IntKind.i64.wrap (t + mm) = t + mm := by rw [IntKind.wrap_i64]; omega
            (repeat (first | refine awp_reg_seq rfl fun k => ?_ | refine awp_seq ?_ | refine awp_false rfl ?_ | refine awp_block ?_ | refine awp_exit (?_ : Awp _ _ _ _ _ _) | (apply runk0 rfl rfl (opok_move rfl ?_) ?_; rotate_left 1; (· (conv => (lhs; whnf)))) | (apply runk0 rfl rfl (opok_assign rfl ?_) ?_; rotate_left 1; (· (conv => (lhs; whnf)))) | (apply runk0 rfl rfl (opok_bin rfl ?_ ?_ ?_) ?_; rotate_left 3; (· (conv => (lhs; whnf))); (· (conv => (lhs; whnf))); (· (intro w; go_simp; first | done | rfl))) | (apply runk0 rfl rfl (opok_extract rfl ?_ ?_) ?_; rotate_left 2; (· (conv => (lhs; whnf))); (· (conv => (lhs; whnf; arg 1; whnf)))) | refine runk_end (by kernel_rfl) ?_))
            have hs17 : sml L ((17 - 2 * (p.length : Int)) * 1000000000000) := sml_mono hs (by omega)
            refine awp_loop (fun n2 st => ∃ (p' : List Nat) (z : Nat) (L' : List Int), n2 = p'.length ∧ p'.length ≤ 8 ∧ isP BF x p' z ∧ updP BF mm p' L' = updP BF mm p L ∧ L'.length = 64 ∧ sml L' ((17 - 2 * (p'.length : Int)) * 1000000000000) ∧ st.leB ⟨[(13, .val (.int .i64 mm)), (15, .val (.int .i64 (z : Int))), (11, .val (.int .i64 t)), (12, .ptr 12 k12 0), (1, .val (.int .i64 (x : Int))), (2, .val (.int .i64 (b : Int))), (3, .rref [.val (.int .i64 sw), .ro (ls.map lkA), .ro (bls dn), .ro (bls dd)]), (7, .ptr 7 k7 0)], [(12, some (k12, .box 56 (ints .i64 BF))), (7, some (k7, .box 59 (ints .i64 (L'))))]⟩) p.length ⟨p, b, L, rfl, hpl, hp, rfl, hl, hs17, ?_⟩ ?_
            · (refine leB_of ?_ ?_; (· (repeat (first | exact EnvIs.nil | (refine EnvIs.cons ?_ ?_; (· first | rfl | ((conv => (lhs; whnf)); first | (simp [ints]; done) | (simp [ints]; omega))))))); (· (repeat (first | exact ObjsAre.nil | (refine ObjsAre.cons ?_ ?_; (· first | rfl | ((conv => (lhs; whnf)); first | (simp [ints]; done) | (simp [ints]; omega))))))))
            · rintro n3 st ⟨p', z, L', hn3, hp8, hpz, hU, hl', hs', hle⟩
              refine awp_less hle ?_
              clear hle st hp hs17 hl hs hpl
              cases p' with
              | nil =>
                have hza : z = x := hpz
                subst hza
                have hU2 : L' = updP BF mm p L := hU
                rw [← hU2] at hR
                clear hU2 hU hpz hn3 hs'
                (repeat (first | refine awp_reg_seq rfl fun k => ?_ | refine awp_reg rfl fun k => ?_ | refine awp_seq ?_ | refine awp_false rfl ?_ | refine awp_exit (?_ : Awp _ _ _ _ _ _) | (apply runk0 rfl rfl (opok_move rfl ?_) ?_; rotate_left 1; (· (conv => (lhs; whnf)))) | (apply runk0 rfl rfl (opok_assign rfl ?_) ?_; rotate_left 1; (· (conv => (lhs; whnf)))) | (apply runk0 rfl rfl (opok_bin rfl ?_ ?_ ?_) ?_; rotate_left 3; (· (conv => (lhs; whnf))); (· (conv => (lhs; whnf))); (· (intro w; go_simp; first | done | rfl))) | (apply runk0 rfl rfl (opok_extract rfl ?_ ?_) ?_; rotate_left 2; (· (conv => (lhs; whnf))); (· (conv => (lhs; whnf; arg 1; whnf)))) | refine runk_end (by kernel_rfl) ?_))
                refine ⟨n0, by omega, L', t + mm, hl', hR, ?_⟩
                (refine leB_of ?_ ?_; (· (repeat (first | exact EnvIs.nil | (refine EnvIs.cons ?_ ?_; (· first | rfl | ((conv => (lhs; whnf)); first | (simp [ints]; done) | (simp [ints]; omega))))))); (· (repeat (first | exact ObjsAre.nil | (refine ObjsAre.cons ?_ ?_; (· first | rfl | ((conv => (lhs; whnf)); first | (simp [ints]; done) | (simp [ints]; omega))))))))
              | cons z2 p' =>
                obtain ⟨hz, hza, hz8, y', hy', hy8', hpz⟩ := hpz
                subst hz
                have hpv : pv BF z = y' := by unfold pv; rw [hy']; rfl
                rw [updP, hpv] at hU
                have hbx : (ints .i64 BF)[z]? = some (.val (.int .i64 (y' : Int))) := by rw [← hy']; exact ints_getD .i64 BF z (by omega)
                have dzx : ((z : Int) != (x : Int)) = true := by simp; omega
                simp only [List.length_cons] at hs' hp8
                have hs1' := sml_addM hs' (by omega) y' z (c := -mm) 1000000000000 (by omega) (by omega)
                have hs2' := sml_addM hs1' (by omega) z y' (c := mm) 1000000000000 (by omega) (by omega)
                have hs3' := sml_mono (n := (17 - 2 * (p'.length : Int)) * 1000000000000) hs2' (by omega)
                have hL2l : (addM L' y' z (-mm)).length = 64 := by rw [addM_len]; exact hl'
                have hL3l : (addM (addM L' y' z (-mm)) z y' mm).length = 64 := by rw [addM_len]; exact hL2l
                have hu1 := hs' (y' * 8 + z)
                have hu2 := hs1' (z * 8 + y')
                have hL1 : (ints .i64 L')[y' * 8 + z]? = some (.val (.int .i64 (L'.getD (y' * 8 + z) 0))) := ints_getD .i64 L' _ (by omega)
                have hL2 : (ints .i64 (addM L' y' z (-mm)))[z * 8 + y']? = some (.val (.int .i64 ((addM L' y' z (-mm)).getD (z * 8 + y') 0))) := ints_getD .i64 _ _ (by rw [hL2l]; omega)
                have eT : addM (addM L' y' z (-mm)) z y' mm = (addM L' y' z (-mm)).set (z * 8 + y') ((addM L' y' z (-mm)).getD (z * 8 + y') 0 + mm) := rfl
                generalize hG : addM (addM L' y' z (-mm)) z y' mm = G at *
                generalize (addM L' y' z (-mm)).getD (z * 8 + y') 0 = u2 at *
                unfold addM at hL2 eT
                rw [← Int.sub_eq_add_neg] at hL2 eT
                generalize L'.getD (y' * 8 + z) 0 = u1 at *
                rw [show ints .i64 (L'.set (y' * 8 + z) (u1 - mm)) = (ints .i64 L').set (y' * 8 + z) (.val (.int .i64 (u1 - mm))) from by simp [ints, List.map_set]] at hL2
                have hp9 : (p'.length : Int) ≤ 8 := by omega
                have w1 : IntKind.i64.wrap (u1 - mm) = u1 - mm := by rw [IntKind.wrap_i64]; omega
                have w2 : IntKind.i64.wrap (u2 + mm) = u2 + mm := by rw [IntKind.wrap_i64]; omega
                clear hs1' hs2' hs' hG hu1 hu2 hL2l hR w3 dxx
                (repeat (first | refine awp_reg_seq rfl fun k => ?_ | refine awp_reg rfl fun k => ?_ | refine awp_seq ?_ | refine awp_true rfl ?_ | refine awp_skip (?_ : Awp _ _ _ _ _ _) | refine awp_block ?_ | (((apply runk0 rfl rfl (opok_indexP rfl ?_ ?_ rfl ?_ ?_ ?_) ?_; rotate_left 6; (· (conv => (lhs; whnf))); (· (conv => (lhs; whnf))); (· (unfold sizeIs; conv => (lhs; whnf; arg 1; whnf))); (· first | omega | (simp; done) | (simp; omega)); (· first | omega | (simp; done) | (simp; omega))))) | (((apply runk0 rfl rfl (opok_load rfl ?_ ?_ ?_ ?_) ?_; rotate_left 5; (· (conv => (lhs; whnf))); (· (conv => (lhs; whnf; arg 1; whnf; arg 2; whnf))); (· rfl); (· (simp only [AObj.cells, Int.toNat_natCast, Nat.mul_one, Nat.zero_add]; assumption))))) | (((apply runk_storeI rfl rfl rfl ?_ ?_ ?_ ?_ ?_ ?_ ?_ ?_ ?_; rotate_left 7; (· (conv => (lhs; whnf))); (· rfl); (· (conv => (lhs; whnf))); (· rfl); (· rfl); (· (unfold sizeIs; conv => (lhs; whnf; arg 1; whnf))); (· first | (simp; done) | (simp; omega) | omega); (· rfl)))) | (apply runk0 rfl rfl (opok_move rfl ?_) ?_; rotate_left 1; (· (conv => (lhs; whnf)))) | (apply runk0 rfl rfl (opok_assign rfl ?_) ?_; rotate_left 1; (· (conv => (lhs; whnf)))) | (apply runk0 rfl rfl (opok_bin rfl ?_ ?_ ?_) ?_; rotate_left 3; (· (conv => (lhs; whnf))); (· (conv => (lhs; whnf))); (· (intro w; go_simp; first | done | rfl))) | refine runk_end (by kernel_rfl) ?_))
                refine ⟨p'.length, by simp only [List.length_cons] at hn3; omega, p', y', G, rfl, by omega, hpz, hU, hL3l, hs3', ?_⟩
                rw [eT]
                (refine leB_of ?_ ?_; (· (repeat (first | exact EnvIs.nil | (refine EnvIs.cons ?_ ?_; (· first | rfl | ((conv => (lhs; whnf)); first | (simp [ints, List.map_set]; done) | (simp [ints, List.map_set]; omega))))))); (· (repeat (first | exact ObjsAre.nil | (refine ObjsAre.cons ?_ ?_; (· first | rfl | ((conv => (lhs; whnf)); first | (simp [ints, List.map_set]; done) | (simp [ints, List.map_set]; omega))))))))
          | cons z p' =>
            obtain ⟨hz, hza, hz8, y', hy', hy8', hpx⟩ := hpx
            subst hz
            have hpv : pv BF x = y' := by unfold pv; rw [hy']; rfl
            have hN2 : minL L BF p' (min mm (L.getD (y' * 8 + x) 0)) = N := by rw [← hNx, minL, hpv]
            have hbx : (ints .i64 BF)[x]? = some (.val (.int .i64 (y' : Int))) := by rw [← hy']; exact ints_getD .i64 BF x (by omega)
            have hLx : (ints .i64 L)[y' * 8 + x]? = some (.val (.int .i64 (L.getD (y' * 8 + x) 0))) := ints_getD .i64 L _ (by omega)
            have dxx : ((x : Int) != (a : Int)) = true := by simp; omega
            generalize L.getD (y' * 8 + x) 0 = u' at *
            clear hNx
            (repeat (first | refine awp_reg_seq rfl fun k => ?_ | refine awp_reg rfl fun k => ?_ | refine awp_seq ?_ | refine awp_true rfl ?_ | refine awp_skip (?_ : Awp _ _ _ _ _ _) | refine awp_block ?_ | (((apply runk0 rfl rfl (opok_indexP rfl ?_ ?_ rfl ?_ ?_ ?_) ?_; rotate_left 6; (· (conv => (lhs; whnf))); (· (conv => (lhs; whnf))); (· (unfold sizeIs; conv => (lhs; whnf; arg 1; whnf))); (· first | omega | (simp; done) | (simp; omega)); (· first | omega | (simp; done) | (simp; omega))))) | (((apply runk0 rfl rfl (opok_load rfl ?_ ?_ ?_ ?_) ?_; rotate_left 5; (· (conv => (lhs; whnf))); (· (conv => (lhs; whnf; arg 1; whnf; arg 2; whnf))); (· rfl); (· (simp only [AObj.cells, Int.toNat_natCast, Nat.mul_one, Nat.zero_add]; assumption))))) | (apply runk0 rfl rfl (opok_move rfl ?_) ?_; rotate_left 1; (· (conv => (lhs; whnf)))) | (apply runk0 rfl rfl (opok_assign rfl ?_) ?_; rotate_left 1; (· (conv => (lhs; whnf)))) | (apply runk0 rfl rfl (opok_bin rfl ?_ ?_ ?_) ?_; rotate_left 3; (· (conv => (lhs; whnf))); (· (conv => (lhs; whnf))); (· (intro w; go_simp; first | done | rfl))) | (apply runk0 rfl rfl (opok_min rfl ?_ ?_) ?_; rotate_left 2; (· (conv => (lhs; whnf))); (· (conv => (lhs; whnf)))) | refine runk_end (by kernel_rfl) ?_))
            refine ⟨p'.length, by simp only [List.length_cons] at hn2; omega, p', y', min mm u', rfl, hpx, hN2, ?_⟩
            (refine leB_of ?_ ?_; (· (repeat (first | exact EnvIs.nil | (refine EnvIs.cons ?_ ?_; (· first | rfl | ((conv => (lhs; whnf)); first | (simp [ints]; done) | (simp [ints]; omega))))))); (· (repeat (first | exact ObjsAre.nil | (refine ObjsAre.cons ?_ ?_; (· first | rfl | ((conv => (lhs; whnf)); first | (simp [ints]; done) | (simp [ints]; omega))))))))
end Go.Proofs.Ytlmgbfbcaokedaa
