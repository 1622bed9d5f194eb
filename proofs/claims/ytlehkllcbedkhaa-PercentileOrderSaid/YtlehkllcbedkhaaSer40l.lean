/-
  Layer 40: percentile.Percentile of any list, by states.
-/
import Derived.Test.YtlehkllcbedkhaaSer40b
namespace Go.Proofs.Ytlehkllcbedkhaa
open Go.RowKit
theorem spec_below2 {P : Program} {f : FuncId} {args : List AVal} {a b : Value} (h : ∀ (ψ : Ghost) (prot : Nat → Prop) (w : World) (cargs : Array Value), (∀ b, prot b → b < w.heap.size) → cargs.size = args.length → (∀ (i : Nat) (x : AVal) (v : Value), args[i]? = some x → cargs[i]? = some v → VRel ψ prot w x v) →
    Calls P f cargs w fun e w' => e = .returned (.tuple #[a, b]) ∧ Below w.heap.size w w') : Spec P f args [] (.tuple [.val a, .val b]) [] := by
  intro ψ prot w cargs _ hrh hsz hargs
  refine Calls.mono (h ψ prot w cargs (fun b hb => (hrh.pr b hb).1) hsz hargs) ?_
  rintro e w' ⟨rfl, hb⟩
  refine ⟨.tuple #[a, b], ψ, prot, rfl, ⟨hb.os, hb.tape, hb.output, hb.size, fun _ _ _ h => h, fun _ h => h, fun b hb' => ⟨unowned_nil.2 (Nat.lt_of_lt_of_le (unowned_nil.1 hb') hb.size), hb.block b (unowned_nil.1 hb')⟩, fun b hb' => .inl hb'⟩, rh_nil fun b hb' => Nat.lt_of_lt_of_le (hrh.pr b hb').1 hb.size, .tuple _ _ rfl fun i x v' h1 h2 => ?_⟩
  match i, h1, h2 with
  | 0, h1, h2 => cases h1; cases h2; exact .val _
  | 1, h1, h2 => cases h1; cases h2; exact .val _
  | _ + 2, h1, h2 => cases h1
def pctZ (zs : List Int) (p : Int) : Int × Int := if (decide (p < 1) || decide (100 < p) || decide ((9000 : Int) < (zs.length : Int))) = true then (0, 1) else if zs.length = 0 then (0, 39) else ((sortZ zs).getD (rankOf p zs.length) 0, 0)
theorem ppct_some (zs : List Int) (p : Int) (h0 : 1 ≤ p) (h1 : p ≤ 100) (hn : 0 < zs.length) (hm : zs.length ≤ 9000) : Spec Try.prog 22 [.ro (ints .i64 zs), .val (.int .i64 p)] [] (.tuple [.val (.int .i64 ((sortZ zs).getD (rankOf p zs.length) 0)), .val (.int .i64 0)]) [] :=
  spec_below2 fun ψ prot w cargs hk hsz hargs => by
    have hs2 : cargs.size = 2 := by simpa using hsz
    obtain ⟨A, n, c, hu, hl, hc, -, hL⟩ := ro_lies hk (hargs 0 _ cargs[0] rfl (by simp [hs2]))
    have hv := (hargs 1 _ cargs[1] rfl (by simp [hs2])).val_eq
    have hro := hargs 0 _ cargs[0] rfl (by simp [hs2])
    obtain rfl : cargs = #[.slice A n c, .int .i64 p] := by
      apply Array.ext
      · simpa using hs2
      · intro i h1 h2
        have : i = 0 ∨ i = 1 := by simp at h2; omega
        rcases this with rfl | rfl
        · exact hu
        · exact hv
    subst hl
    refine pctl_some p A zs.length c zs w h0 h1 rfl hn hm ?_
    obtain ⟨b, o, rfl, hcell⟩ := lies_cells rfl hL (fun h => ro_plain hro h) hn
    obtain ⟨ad, v, q1, q2, -, -⟩ := hL 0 (by simpa using hn)
    injection q1 with q1
    subst q1
    exact ⟨b, o, c, rfl, q2, fun j hj => by rw [hcell j hj, List.getD_eq_getElem?_getD]⟩
set_option maxHeartbeats 8000000 in
set_option maxRecDepth 100000 in
theorem ppct40 (zs : List Int) (p : Int) : Spec Try.prog 22 [.ro (ints .i64 zs), .val (.int .i64 p)] [] (.tuple [.val (.int .i64 (pctZ zs p).1), .val (.int .i64 (pctZ zs p).2)]) [] := by
  have s1 := within_spec p 1 100
  cases h1 : inB p 1 100 with
  | false =>
    have e : pctZ zs p = (0, 1) := by
      unfold pctZ
      rw [if_pos]
      simp only [inB, Bool.and_eq_false_iff, decide_eq_false_iff_not] at h1
      simp only [Bool.or_eq_true, decide_eq_true_eq]
      omega
    rw [e]
    rw [h1] at s1
    clear h1 e
    refine spec_of_awp Try.func22 rfl (Nat.le_of_ble_eq_true rfl) fun ini => ?_
    simp only [Try.ntmps22]
    (repeat (first | refine awp_reg_seq rfl fun k => ?_ | refine awp_seq ?_ | refine awp_true rfl ?_ | (refine awp_ret ?_; (apply ends_pure ?_ ?_ ?_ ?_ ?_ (.inl rfl); rotate_left 1; (· first | exact res_one rfl rfl | exact res_two rfl rfl rfl | exact res_none rfl | exact res_three rfl rfl rfl rfl | exact res_cell rfl rfl rfl rfl rfl | exact res_cell2 rfl rfl rfl rfl rfl rfl | exact res3 rfl (rv_cell rfl rfl rfl rfl) (rv_tmp rfl) (rv_tmp rfl) | exact res3 rfl (rv_cell rfl rfl rfl rfl) (rv_cell rfl rfl rfl rfl) (rv_cell rfl rfl rfl rfl)); (· first | rfl | ((conv => (lhs; whnf)); first | rfl | (simp; done))); (· first | rfl | (simp; done) | (simp [AVal.pure, AVal.pures, AObj.pure]; done)); (· rfl); (· rfl))) | (apply runk_pure rfl rfl rfl ?_ ?_ ?_ ?_ ?_ ?_ ?_ ?_; rotate_left 6; (· (conv => (lhs; whnf))); (· exact Try.func31); (· rfl); (· rfl); (· exact (s1)); (· (repeat (first | exact Rens.nil | (refine Rens.cons ?_ ?_; (· first | exact Ren.own _ _ _ _ _ _ rfl List.mem_cons_self | exact Ren.own _ _ _ _ _ _ rfl (List.mem_cons_of_mem _ List.mem_cons_self) | (refine (Ren.own _ _ _ _ _ _ ?_ List.mem_cons_self); first | rfl | (simp; done)) | (refine (Ren.own _ _ _ _ _ _ ?_ (List.mem_cons_of_mem _ List.mem_cons_self)); first | rfl | (simp; done)) | exact Ren.ptr _ _ _ _ _ List.mem_cons_self | (refine Ren.pureR ?_ rfl; (first | rfl | (simp; done) | (simp [AVal.pure, AVal.pures, AObj.pure]; done)))))))); (· first | rfl | (simp; done) | simp [AVal.pure, AVal.pures, AObj.pure])) | (first | refine runk_off rfl rfl rfl rfl rfl ?_ | refine runk_off rfl rfl rfl (by assumption) rfl ?_ | refine runk_offN rfl rfl rfl rfl rfl ?_ | refine runk_offU rfl rfl rfl rfl ?_ | refine runk_offUN rfl rfl rfl rfl ?_) | (apply runk0 rfl rfl (opok_move rfl ?_) ?_; rotate_left 1; (· (conv => (lhs; whnf)))) | (apply runk0 rfl rfl (opok_assign rfl ?_) ?_; rotate_left 1; (· (conv => (lhs; whnf)))) | (apply runk0 rfl rfl (opok_un rfl ?_ ?_) ?_; rotate_left 2; (· (conv => (lhs; whnf))); (· (intro w; go_simp; first | done | rfl))) | (apply runk0 rfl rfl (opok_pick rfl ?_ ?_) ?_; rotate_left 2; (· (conv => (lhs; whnf))); (· first | exact pick_or | exact pick_and | (conv => (lhs; whnf)))) | refine runk_end (by kernel_rfl) ?_))
  | true =>
    have hp : 1 ≤ p ∧ p ≤ 100 := by simpa [inB] using h1
    rw [h1] at s1
    clear h1
    by_cases h2 : zs.length ≤ 9000
    · by_cases h3 : zs.length = 0
      · have e : pctZ zs p = (0, 39) := by
          unfold pctZ
          rw [if_neg, if_pos h3]
          simp only [Bool.or_eq_true, decide_eq_true_eq]
          omega
        rw [e]
        clear e
        have d3 : decide (9000 < zs.length) = false := decide_eq_false (by omega)
        have d3' : decide ((9000 : Int) < (zs.length : Int)) = false := decide_eq_false (by omega)
        have d4 : ((zs.length : Int) == 0) = true := by rw [h3]; rfl
        refine spec_of_awp Try.func22 rfl (Nat.le_of_ble_eq_true rfl) fun ini => ?_
        simp only [Try.ntmps22]
        (repeat (first | refine awp_reg_seq rfl fun k => ?_ | refine awp_seq ?_ | refine awp_true rfl ?_ | refine awp_false rfl ?_ | refine awp_skip (?_ : Awp _ _ _ _ _ _) | (refine awp_ret ?_; (apply ends_pure ?_ ?_ ?_ ?_ ?_ (.inl rfl); rotate_left 1; (· first | exact res_one rfl rfl | exact res_two rfl rfl rfl | exact res_none rfl | exact res_three rfl rfl rfl rfl | exact res_cell rfl rfl rfl rfl rfl | exact res_cell2 rfl rfl rfl rfl rfl rfl | exact res3 rfl (rv_cell rfl rfl rfl rfl) (rv_tmp rfl) (rv_tmp rfl) | exact res3 rfl (rv_cell rfl rfl rfl rfl) (rv_cell rfl rfl rfl rfl) (rv_cell rfl rfl rfl rfl)); (· first | rfl | ((conv => (lhs; whnf)); first | rfl | (simp; done))); (· first | rfl | (simp; done) | (simp [AVal.pure, AVal.pures, AObj.pure]; done)); (· rfl); (· rfl))) | (apply runk_pure rfl rfl rfl ?_ ?_ ?_ ?_ ?_ ?_ ?_ ?_; rotate_left 6; (· (conv => (lhs; whnf))); (· exact Try.func31); (· rfl); (· rfl); (· exact (s1)); (· (repeat (first | exact Rens.nil | (refine Rens.cons ?_ ?_; (· first | exact Ren.own _ _ _ _ _ _ rfl List.mem_cons_self | exact Ren.own _ _ _ _ _ _ rfl (List.mem_cons_of_mem _ List.mem_cons_self) | (refine (Ren.own _ _ _ _ _ _ ?_ List.mem_cons_self); first | rfl | (simp; done)) | (refine (Ren.own _ _ _ _ _ _ ?_ (List.mem_cons_of_mem _ List.mem_cons_self)); first | rfl | (simp; done)) | exact Ren.ptr _ _ _ _ _ List.mem_cons_self | (refine Ren.pureR ?_ rfl; (first | rfl | (simp; done) | (simp [AVal.pure, AVal.pures, AObj.pure]; done)))))))); (· first | rfl | (simp; done) | simp [AVal.pure, AVal.pures, AObj.pure])) | (first | refine runk_ung rfl rfl rfl rfl ?_ | refine runk_ung rfl rfl rfl (by assumption) ?_) | (apply runk0 rfl rfl (opok_move rfl ?_) ?_; rotate_left 1; (· (conv => (lhs; whnf)))) | (apply runk0 rfl rfl (opok_assign rfl ?_) ?_; rotate_left 1; (· (conv => (lhs; whnf)))) | (apply runk0 rfl rfl (opok_bin rfl ?_ ?_ ?_) ?_; rotate_left 3; (· (conv => (lhs; whnf))); (· (conv => (lhs; whnf))); (· (intro w; go_simp; first | done | rfl))) | (apply runk0 rfl rfl (opok_un rfl ?_ ?_) ?_; rotate_left 2; (· (conv => (lhs; whnf))); (· (intro w; go_simp; first | done | rfl))) | (first | (apply runk0 rfl rfl (opok_lenO rfl ?_ ?_ ?_) ?_; rotate_left 5; (· (conv => (lhs; whnf))); (· (conv => (lhs; whnf; arg 1; whnf))); (· first | exact length_ints _ _ | rfl)) | (apply runk0 rfl rfl (opok_len_own rfl ?_ ?_) ?_; rotate_left 4; (· (conv => (lhs; whnf))); (· (conv => (lhs; whnf; arg 1; whnf)))) | (apply runk0 rfl rfl (opok_len rfl ?_ ?_ ?_) ?_; rotate_left 3; (· (conv => (lhs; whnf))); (· (conv => (lhs; whnf; arg 1; whnf))); (· first | exact length_ints _ _ | rfl))) | (apply runk0 rfl rfl (opok_pick rfl ?_ ?_) ?_; rotate_left 2; (· (conv => (lhs; whnf))); (· first | exact pick_or | exact pick_and | (conv => (lhs; whnf)))) | refine runk_end (by kernel_rfl) ?_))
      · have e : pctZ zs p = ((sortZ zs).getD (rankOf p zs.length) 0, 0) := by
          unfold pctZ
          rw [if_neg, if_neg h3]
          simp only [Bool.or_eq_true, decide_eq_true_eq]
          omega
        rw [e]
        exact ppct_some zs p hp.1 hp.2 (by omega) h2
    · have e : pctZ zs p = (0, 1) := by
        unfold pctZ
        rw [if_pos]
        simp only [Bool.or_eq_true, decide_eq_true_eq]
        omega
      rw [e]
      clear e
      have d3 : decide (9000 < zs.length) = true := decide_eq_true (by omega)
      have d3' : decide ((9000 : Int) < (zs.length : Int)) = true := decide_eq_true (by omega)
      refine spec_of_awp Try.func22 rfl (Nat.le_of_ble_eq_true rfl) fun ini => ?_
      simp only [Try.ntmps22]
      (repeat (first | refine awp_reg_seq rfl fun k => ?_ | refine awp_seq ?_ | refine awp_true rfl ?_ | (refine awp_ret ?_; (apply ends_pure ?_ ?_ ?_ ?_ ?_ (.inl rfl); rotate_left 1; (· first | exact res_one rfl rfl | exact res_two rfl rfl rfl | exact res_none rfl | exact res_three rfl rfl rfl rfl | exact res_cell rfl rfl rfl rfl rfl | exact res_cell2 rfl rfl rfl rfl rfl rfl | exact res3 rfl (rv_cell rfl rfl rfl rfl) (rv_tmp rfl) (rv_tmp rfl) | exact res3 rfl (rv_cell rfl rfl rfl rfl) (rv_cell rfl rfl rfl rfl) (rv_cell rfl rfl rfl rfl)); (· first | rfl | ((conv => (lhs; whnf)); first | rfl | (simp; done))); (· first | rfl | (simp; done) | (simp [AVal.pure, AVal.pures, AObj.pure]; done)); (· rfl); (· rfl))) | (apply runk_pure rfl rfl rfl ?_ ?_ ?_ ?_ ?_ ?_ ?_ ?_; rotate_left 6; (· (conv => (lhs; whnf))); (· exact Try.func31); (· rfl); (· rfl); (· exact (s1)); (· (repeat (first | exact Rens.nil | (refine Rens.cons ?_ ?_; (· first | exact Ren.own _ _ _ _ _ _ rfl List.mem_cons_self | exact Ren.own _ _ _ _ _ _ rfl (List.mem_cons_of_mem _ List.mem_cons_self) | (refine (Ren.own _ _ _ _ _ _ ?_ List.mem_cons_self); first | rfl | (simp; done)) | (refine (Ren.own _ _ _ _ _ _ ?_ (List.mem_cons_of_mem _ List.mem_cons_self)); first | rfl | (simp; done)) | exact Ren.ptr _ _ _ _ _ List.mem_cons_self | (refine Ren.pureR ?_ rfl; (first | rfl | (simp; done) | (simp [AVal.pure, AVal.pures, AObj.pure]; done)))))))); (· first | rfl | (simp; done) | simp [AVal.pure, AVal.pures, AObj.pure])) | (first | refine runk_ung rfl rfl rfl rfl ?_ | refine runk_ung rfl rfl rfl (by assumption) ?_) | (apply runk0 rfl rfl (opok_move rfl ?_) ?_; rotate_left 1; (· (conv => (lhs; whnf)))) | (apply runk0 rfl rfl (opok_assign rfl ?_) ?_; rotate_left 1; (· (conv => (lhs; whnf)))) | (apply runk0 rfl rfl (opok_bin rfl ?_ ?_ ?_) ?_; rotate_left 3; (· (conv => (lhs; whnf))); (· (conv => (lhs; whnf))); (· (intro w; go_simp; first | done | rfl))) | (apply runk0 rfl rfl (opok_un rfl ?_ ?_) ?_; rotate_left 2; (· (conv => (lhs; whnf))); (· (intro w; go_simp; first | done | rfl))) | (first | (apply runk0 rfl rfl (opok_lenO rfl ?_ ?_ ?_) ?_; rotate_left 5; (· (conv => (lhs; whnf))); (· (conv => (lhs; whnf; arg 1; whnf))); (· first | exact length_ints _ _ | rfl)) | (apply runk0 rfl rfl (opok_len_own rfl ?_ ?_) ?_; rotate_left 4; (· (conv => (lhs; whnf))); (· (conv => (lhs; whnf; arg 1; whnf)))) | (apply runk0 rfl rfl (opok_len rfl ?_ ?_ ?_) ?_; rotate_left 3; (· (conv => (lhs; whnf))); (· (conv => (lhs; whnf; arg 1; whnf))); (· first | exact length_ints _ _ | rfl))) | (apply runk0 rfl rfl (opok_pick rfl ?_ ?_) ?_; rotate_left 2; (· (conv => (lhs; whnf))); (· first | exact pick_or | exact pick_and | (conv => (lhs; whnf)))) | refine runk_end (by kernel_rfl) ?_))
end Go.Proofs.Ytlehkllcbedkhaa
