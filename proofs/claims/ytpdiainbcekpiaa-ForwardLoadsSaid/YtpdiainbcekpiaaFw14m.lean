/-
  Layer 14: loads of links, of both, by states.
-/
import Derived.Test.YtpdiainbcekpiaaFw14l
import Derived.Test.YtpdiainbcekpiaaAbsBl
import Derived.Test.YtpdiainbcekpiaaAbsU
namespace Go.Proofs.Ytpdiainbcekpiaa
open Go.RowKit
def rws (ws : List (List Int)) : List AVal := ws.map fun w => .ro (ints .i64 w)
theorem rws_len (ws : List (List Int)) : (rws ws).length = ws.length := by simp [rws]
theorem rws_at (ws : List (List Int)) {i : Nat} (hi : i < ws.length) : (rws ws)[i]? = some (.ro (ints .i64 (ws.getD i []))) := by
  unfold rws
  rw [List.getElem?_map, List.getD_eq_getElem?_getD, List.getElem?_eq_getElem hi]; rfl
theorem rws_flat : ∀ ws : List (List Int), (rws ws).flatMap AVal.flat = rws ws
  | [] => rfl
  | w :: ws => by
    show AVal.flat (.ro (ints .i64 w)) ++ (rws ws).flatMap AVal.flat = .ro (ints .i64 w) :: rws ws
    rw [rws_flat ws]; rfl
theorem rws_widths (ws : List (List Int)) : widths 1 (rws ws) = true := by
  simp only [widths, List.all_eq_true]
  intro x hx
  obtain ⟨w, -, rfl⟩ := List.mem_map.1 hx
  rfl
theorem rws_one (ws : List (List Int)) : ((rws ws).flatMap AVal.flat).all AVal.one = true := by
  rw [rws_flat, List.all_eq_true]
  intro x hx
  obtain ⟨w, -, rfl⟩ := List.mem_map.1 hx
  rfl
theorem rws_take (ws : List (List Int)) (m : Nat) : (rws ws).take m = rws (ws.take m) := by unfold rws; rw [List.map_take]
theorem rws_mid (ws : List (List Int)) (a m : Nat) : ((rws ws).drop a).take m = rws ((ws.drop a).take m) := by unfold rws; rw [List.map_take, List.map_drop]
theorem rws_app (ws : List (List Int)) (w : List Int) : rws (ws ++ [w]) = rws ws ++ [.ro (ints .i64 w)] := by simp [rws]
theorem getD_takeL (ws : List (List Int)) {m i : Nat} (hi : i < m) : (ws.take m).getD i [] = ws.getD i [] := by
  rw [List.getD_eq_getElem?_getD, List.getElem?_take, if_pos hi, ← List.getD_eq_getElem?_getD]
theorem flat_blsL : ∀ l : List Bool, (bls l).flatMap AVal.flat = bls l
  | [] => rfl
  | b :: l => by
    show AVal.flat (.val (.bool b)) ++ (bls l).flatMap AVal.flat = .val (.bool b) :: bls l
    rw [flat_blsL l]; rfl
theorem bls_setL (L : List Bool) (i : Nat) (b : Bool) : (bls L).set i (.val (.bool b)) = bls (L.set i b) := by simp [bls, List.map_set]
attribute [local simp] rws_len rws_widths flat_blsL bls_setL
set_option maxHeartbeats 64000000 in
set_option maxRecDepth 100000 in
theorem Loads_spec {F : FK} (ws : List (List Int)) (am : List Int) (hn : F.ls.length ≤ 1000) (hws : ws.length ≤ 1000) (hw : ∀ w ∈ ws, w.length ≤ 1000000) (ham : am.length ≤ 1000000) (hab : ∀ a ∈ am, 0 ≤ a ∧ a ≤ 1073741824) : Spec Try.prog 18 [.agg F.A, .ro (rws ws), .ro (ints .i64 am)] [] (.ro (ints .i64 (ldN ws am F.ls.length (min ws.length am.length)))) [] := by
  have hm : min (ws.length : Int) (am.length : Int) = ((min ws.length am.length : Nat) : Int) := by omega
  have hm1 : min ws.length am.length ≤ ws.length := Nat.min_le_left _ _
  have hm2 : min ws.length am.length ≤ am.length := Nat.min_le_right _ _
  have bd := fun i k hk => ldN_bd (ws := ws) (n := F.ls.length) hab i k hk
  have hl := fun i => ldN_len ws am F.ls.length i
  have l0 : ldN ws am F.ls.length 0 = List.replicate F.ls.length 0 := rfl
  have lS : ∀ i, ldN ws am F.ls.length (i + 1) = adT (ldN ws am F.ls.length i) (ws.getD i []) (am.getD i 0) := fun i => rfl
  have hwl : ∀ i, i < ws.length → (ws.getD i []).length ≤ 1000000 := fun i hi => by
    have : ws.getD i [] ∈ ws := by
      rw [List.getD_eq_getElem?_getD, List.getElem?_eq_getElem hi]
      exact List.getElem_mem hi
    exact hw _ this
  have hal : ∀ i, i < am.length → 0 ≤ am.getD i 0 ∧ am.getD i 0 ≤ 1073741824 := fun i hi => by
    have : am.getD i 0 ∈ am := by
      rw [List.getD_eq_getElem?_getD, List.getElem?_eq_getElem hi]
      exact List.getElem_mem hi
    exact hab _ this
  clear hw hab
  have hr := fun i hi => rws_at (ws.take (min ws.length am.length)) (i := i) hi
  have htl : (ws.take (min ws.length am.length)).length = min ws.length am.length := by rw [List.length_take]; omega
  have hgt : ∀ i, i < min ws.length am.length → (ws.take (min ws.length am.length)).getD i [] = ws.getD i [] := fun i hi => getD_takeL _ hi
  generalize hM : min ws.length am.length = M at *
  generalize ldN ws am F.ls.length = L at *
  obtain ⟨sw, ls, dn, dd⟩ := F
  unfold FK.A at *
  dsimp only at *
  refine spec_of_awp Try.func18 rfl (Nat.le_of_ble_eq_true rfl) fun ini => ?_
  simp only [Try.ntmps18]
  (repeat (first | refine awp_reg_seq rfl fun k => ?_ | refine awp_seq ?_ | (((apply runk_makeG rfl rfl rfl ?_ ?_ ?_ ?_ ?_ ?_ ?_ ?_ ?_ ?_ ?_ ?_; rotate_left 4; (· (conv => (lhs; whnf))); (· (conv => (lhs; whnf))); (· (conv => (lhs; whnf; arg 1; whnf))); (· (unfold sizeIs; conv => (lhs; whnf; arg 1; whnf))); (· (conv => (lhs; whnf; arg 1; whnf))); (· (conv => (lhs; whnf; arg 1; whnf))); (· rfl); (· rfl); (· rfl); (· first | omega | (simp; done) | (simp; omega)); (· first | omega | (simp; done) | (simp; omega))))) | (apply runk0 rfl rfl (opok_box_ro rfl ?_ ?_ ?_) ?_; rotate_left 2; (· (conv => (lhs; whnf))); (· rfl); (· (conv => (lhs; whnf)))) | (apply runk0 rfl rfl (opok_move rfl ?_) ?_; rotate_left 1; (· (conv => (lhs; whnf)))) | (apply runk_assignOwn rfl rfl rfl ?_ ?_ ?_; rotate_left 4; (· (conv => (lhs; whnf))); (· (conv => (lhs; whnf; arg 1; whnf)))) | (apply runk0 rfl rfl (opok_assign rfl ?_) ?_; rotate_left 1; (· (conv => (lhs; whnf)))) | (first | (apply runk0 rfl rfl (opok_load rfl ?_ ?_ ?_ ?_) ?_; rotate_left 5; (· (conv => (lhs; whnf))); (· (conv => (lhs; whnf; arg 1; whnf; arg 2; whnf))); (· rfl); (· (conv => (lhs; whnf; arg 1; whnf)))) | (apply runk0 rfl rfl (opok_loadR rfl ?_ ?_ ?_) ?_; rotate_left 2; (· (conv => (lhs; whnf))); (· rfl); (· (conv => (lhs; whnf; arg 1; whnf))))) | (first | (apply runk0 rfl rfl (opok_lenO rfl ?_ ?_ ?_) ?_; rotate_left 5; (· (conv => (lhs; whnf))); (· (conv => (lhs; whnf; arg 1; whnf))); (· first | exact length_ints _ _ | rfl)) | (apply runk0 rfl rfl (opok_len_own rfl ?_ ?_) ?_; rotate_left 4; (· (conv => (lhs; whnf))); (· (conv => (lhs; whnf; arg 1; whnf)))) | (apply runk0 rfl rfl (opok_len rfl ?_ ?_ ?_) ?_; rotate_left 3; (· (conv => (lhs; whnf))); (· (conv => (lhs; whnf; arg 1; whnf))); (· first | exact length_ints _ _ | rfl))) | (apply runk0 rfl rfl (opok_min rfl ?_ ?_) ?_; rotate_left 2; (· (conv => (lhs; whnf))); (· (conv => (lhs; whnf)))) | refine runk_end (by kernel_rfl) ?_ | (apply runk0 rfl rfl (opok_faR rfl ?_ rfl rfl ?_ ?_ ?_) ?_; rotate_left 3; (· (conv => (lhs; whnf))); (· (unfold sizeIs; conv => (lhs; whnf; arg 1; whnf))); (· rfl); (· (conv => (lhs; (repeat (whnf; arg 2)); whnf))))))
  rw [show min ((rws ws).length : Int) (am.length : Int) = (M : Int) by rw [rws_len]; exact hm]
  refine runk0 rfl rfl (opok_slice_ro (e := 24) (sz := 1) (es' := rws (ws.take M)) 0 M rfl rfl (by kernel_rfl) (by unfold sizeIs; kernel_rfl) (rws_widths _) (.inl ⟨rfl, rfl⟩) (.inr ⟨_, _, rfl, rfl⟩) (Nat.zero_le _) (by rw [rws_len]; exact hm1) (by rw [List.drop_zero, Nat.sub_zero, rws_take])) ?_
  (repeat (first | (apply runk0 rfl rfl (opok_move rfl ?_) ?_; rotate_left 1; (· (conv => (lhs; whnf)))) | (first | (apply runk0 rfl rfl (opok_lenO rfl ?_ ?_ ?_) ?_; rotate_left 5; (· (conv => (lhs; whnf))); (· (conv => (lhs; whnf; arg 1; whnf))); (· first | exact length_ints _ _ | rfl)) | (apply runk0 rfl rfl (opok_len_own rfl ?_ ?_) ?_; rotate_left 4; (· (conv => (lhs; whnf))); (· (conv => (lhs; whnf; arg 1; whnf)))) | (apply runk0 rfl rfl (opok_len rfl ?_ ?_ ?_) ?_; rotate_left 3; (· (conv => (lhs; whnf))); (· (conv => (lhs; whnf; arg 1; whnf))); (· first | exact length_ints _ _ | rfl))) | refine runk_end (by kernel_rfl) ?_))
  rename_i k7
  generalize hws' : ws.take M = WS at *
  refine (?_ : Awp _ _ _ _ _ _)
  refine awp_less (st' := ⟨[(2, .ro (ints .i64 am)), (7, .own 7 k7 (ints .i64 (L 0)).length), (23, .ro (rws WS)), (24, .val (.int .i64 (M : Int))), (25, .val (.int .i64 0))], [(7, some (k7, .row 3 1 (ints .i64 (L 0))))]⟩) ?_ ?_
  · rw [l0]
    (refine leB_of ?_ ?_; (· (repeat (first | exact EnvIs.nil | (refine EnvIs.cons ?_ ?_; (· first | rfl | ((conv => (lhs; whnf)); first | (simp [ints, htl, List.map_replicate, Int.toNat_natCast, List.length_replicate, List.length_map]; done) | (simp [ints, htl, List.map_replicate, Int.toNat_natCast, List.length_replicate, List.length_map]; omega))))))); (· (repeat (first | exact ObjsAre.nil | (refine ObjsAre.cons ?_ ?_; (· first | rfl | ((conv => (lhs; whnf)); first | (simp [ints, htl, List.map_replicate, Int.toNat_natCast, List.length_replicate, List.length_map]; done) | (simp [ints, htl, List.map_replicate, Int.toNat_natCast, List.length_replicate, List.length_map]; omega))))))))
  refine awp_block ?_
  clear hm hM l0 hws'
  refine awp_loop (fun n st => ∃ (i k7 : Nat), i + n = M ∧ st.leB ⟨[(2, .ro (ints .i64 am)), (7, .own 7 k7 (ints .i64 (L i)).length), (23, .ro (rws WS)), (24, .val (.int .i64 (M : Int))), (25, .val (.int .i64 (i : Int)))], [(7, some (k7, .row 3 1 (ints .i64 (L i))))]⟩) M ⟨0, k7, by omega, ?_⟩ ?_
  · (refine leB_of ?_ ?_; (· (repeat (first | exact EnvIs.nil | (refine EnvIs.cons ?_ ?_; (· first | rfl | ((conv => (lhs; whnf)); first | (simp [ints]; done) | (simp [ints]; omega))))))); (· (repeat (first | exact ObjsAre.nil | (refine ObjsAre.cons ?_ ?_; (· first | rfl | ((conv => (lhs; whnf)); first | (simp [ints]; done) | (simp [ints]; omega))))))))
  · rintro n st ⟨i, k7, hi, hle⟩
    refine awp_less hle ?_
    clear hle st
    (repeat (first | refine awp_reg_seq rfl fun k => ?_ | refine awp_seq ?_ | (apply runk0 rfl rfl (opok_bin rfl ?_ ?_ ?_) ?_; rotate_left 3; (· (conv => (lhs; whnf))); (· (conv => (lhs; whnf))); (· (intro w; go_simp; first | done | rfl))) | refine runk_end (by kernel_rfl) ?_))
    refine awp_if rfl (fun hc => ?_) (fun hc => ?_)
    · have hlt : i < M := by simp at hc; omega
      clear hc
      have wi : IntKind.i64.wrap ((i : Int) + 1) = ((i + 1 : Nat) : Int) := by rw [IntKind.wrap_i64]; omega
      have hri := hr i (by omega)
      rw [hgt i hlt] at hri
      have hwi := hwl i (by omega)
      have hai := hal i (by omega)
      have hav := ints_getD .i64 am i (by omega)
      have eS := lS i
      have hLl := hl i
      have hb := bd i
      clear hr hgt hwl hal lS hl bd
      generalize hY : L (i + 1) = Y at *
      generalize L i = X at *
      generalize ws.getD i [] = w at *
      generalize am.getD i 0 = a at *
      (repeat (first | refine awp_reg_seq rfl fun k => ?_ | refine awp_seq ?_ | refine awp_skip (?_ : Awp _ _ _ _ _ _) | refine awp_block ?_ | (apply runk0 rfl rfl (opok_move rfl ?_) ?_; rotate_left 1; (· (conv => (lhs; whnf))))))
      (apply runk0 rfl rfl (opok_index_ro rfl ?_ ?_ ?_ ?_ ?_ ?_ ?_) ?_; rotate_left 6; (· (conv => (lhs; whnf))); (· (conv => (lhs; whnf))); (· (conv => (lhs; whnf; arg 1; whnf))); (· (unfold sizeIs; conv => (lhs; whnf; arg 1; whnf))); (· simp); (· first | omega | (simp; done) | (simp; omega)); (· simp only [Int.toNat_natCast]; exact hri))
      (repeat (first | refine awp_reg_seq rfl fun k => ?_ | refine awp_block ?_ | (((apply runk_makeG rfl rfl rfl ?_ ?_ ?_ ?_ ?_ ?_ ?_ ?_ ?_ ?_ ?_ ?_; rotate_left 4; (· (conv => (lhs; whnf))); (· (conv => (lhs; whnf))); (· (conv => (lhs; whnf; arg 1; whnf))); (· (unfold sizeIs; conv => (lhs; whnf; arg 1; whnf))); (· (conv => (lhs; whnf; arg 1; whnf))); (· (conv => (lhs; whnf; arg 1; whnf))); (· rfl); (· rfl); (· rfl); (· first | omega | (simp; done) | (simp; omega)); (· first | omega | (simp; done) | (simp; omega))))) | (apply runk0 rfl rfl (opok_move rfl ?_) ?_; rotate_left 1; (· (conv => (lhs; whnf)))) | (apply runk_assignOwn rfl rfl rfl ?_ ?_ ?_; rotate_left 4; (· (conv => (lhs; whnf))); (· (conv => (lhs; whnf; arg 1; whnf)))) | (apply runk0 rfl rfl (opok_assign rfl ?_) ?_; rotate_left 1; (· (conv => (lhs; whnf)))) | (first | (apply runk0 rfl rfl (opok_load rfl ?_ ?_ ?_ ?_) ?_; rotate_left 5; (· (conv => (lhs; whnf))); (· (conv => (lhs; whnf; arg 1; whnf; arg 2; whnf))); (· rfl); (· (conv => (lhs; whnf; arg 1; whnf)))) | (apply runk0 rfl rfl (opok_loadR rfl ?_ ?_ ?_) ?_; rotate_left 2; (· (conv => (lhs; whnf))); (· rfl); (· (conv => (lhs; whnf; arg 1; whnf))))) | (first | (apply runk0 rfl rfl (opok_lenO rfl ?_ ?_ ?_) ?_; rotate_left 5; (· (conv => (lhs; whnf))); (· (conv => (lhs; whnf; arg 1; whnf))); (· first | exact length_ints _ _ | rfl)) | (apply runk0 rfl rfl (opok_len_own rfl ?_ ?_) ?_; rotate_left 4; (· (conv => (lhs; whnf))); (· (conv => (lhs; whnf; arg 1; whnf)))) | (apply runk0 rfl rfl (opok_len rfl ?_ ?_ ?_) ?_; rotate_left 3; (· (conv => (lhs; whnf))); (· (conv => (lhs; whnf; arg 1; whnf))); (· first | exact length_ints _ _ | rfl))) | refine runk_end (by kernel_rfl) ?_))
      rename_i x0 xz k10
      refine awp_less (st' := ⟨[(8, .val (.int .i64 (i : Int))), (10, .own 10 k10 (bls (mkT ls.length (w.take 0))).length), (33, .ro (ints .i64 w)), (34, .val (.int .i64 (w.length : Int))), (35, .val (.int .i64 0)), (2, .ro (ints .i64 am)), (7, .own 7 k7 (ints .i64 (adT X (w.take 0) a)).length), (23, .ro (rws WS)), (24, .val (.int .i64 (M : Int))), (25, .val (.int .i64 (i : Int)))], [(7, some (k7, .row 3 1 (ints .i64 (adT X (w.take 0) a)))), (10, some (k10, .row 4 1 (bls (mkT ls.length (w.take 0)))))]⟩) ?_ ?_
      · rw [List.take_zero, adT_nil, mkT_nil]
        (refine leB_of ?_ ?_; (· (repeat (first | exact EnvIs.nil | (refine EnvIs.cons ?_ ?_; (· first | rfl | ((conv => (lhs; whnf)); first | (simp [ints, bls, hLl, List.map_replicate, Int.toNat_natCast, List.length_replicate, List.length_map]; done) | (simp [ints, bls, hLl, List.map_replicate, Int.toNat_natCast, List.length_replicate, List.length_map]; omega))))))); (· (repeat (first | exact ObjsAre.nil | (refine ObjsAre.cons ?_ ?_; (· first | rfl | ((conv => (lhs; whnf)); first | (simp [ints, bls, hLl, List.map_replicate, Int.toNat_natCast, List.length_replicate, List.length_map]; done) | (simp [ints, bls, hLl, List.map_replicate, Int.toNat_natCast, List.length_replicate, List.length_map]; omega))))))))
      refine awp_loop (fun r st => ∃ (j k7 k10 : Nat), j + r = w.length ∧ st.leB ⟨[(8, .val (.int .i64 (i : Int))), (10, .own 10 k10 (bls (mkT ls.length (w.take j))).length), (33, .ro (ints .i64 w)), (34, .val (.int .i64 (w.length : Int))), (35, .val (.int .i64 (j : Int))), (2, .ro (ints .i64 am)), (7, .own 7 k7 (ints .i64 (adT X (w.take j) a)).length), (23, .ro (rws WS)), (24, .val (.int .i64 (M : Int))), (25, .val (.int .i64 (i : Int)))], [(7, some (k7, .row 3 1 (ints .i64 (adT X (w.take j) a)))), (10, some (k10, .row 4 1 (bls (mkT ls.length (w.take j)))))]⟩) w.length ⟨0, k7, k10, by omega, ?_⟩ ?_
      · (refine leB_of ?_ ?_; (· (repeat (first | exact EnvIs.nil | (refine EnvIs.cons ?_ ?_; (· first | rfl | ((conv => (lhs; whnf)); first | (simp [ints, bls]; done) | (simp [ints, bls]; omega))))))); (· (repeat (first | exact ObjsAre.nil | (refine ObjsAre.cons ?_ ?_; (· first | rfl | ((conv => (lhs; whnf)); first | (simp [ints, bls]; done) | (simp [ints, bls]; omega))))))))
      · rintro r st ⟨j, k7, k10, hj, hle⟩
        refine awp_less hle ?_
        clear hle st
        (repeat (first | refine awp_reg_seq rfl fun k => ?_ | refine awp_seq ?_ | (apply runk0 rfl rfl (opok_bin rfl ?_ ?_ ?_) ?_; rotate_left 3; (· (conv => (lhs; whnf))); (· (conv => (lhs; whnf))); (· (intro w; go_simp; first | done | rfl))) | refine runk_end (by kernel_rfl) ?_))
        refine awp_if rfl (fun hc => ?_) (fun hc => ?_)
        · have hjl : j < w.length := by simpa using hc
          clear hc
          have wj : IntKind.i64.wrap ((j : Int) + 1) = ((j + 1 : Nat) : Int) := by rw [IntKind.wrap_i64]; omega
          have hv := ints_getD .i64 w j hjl
          have hAl : (adT X (w.take j) a).length = ls.length := by rw [adT_len]; exact hLl
          have hMl : (mkT ls.length (w.take j)).length = ls.length := mkT_len _ _
          by_cases hmiss : w.getD j 0 < 0 ∨ (ls.length : Int) ≤ w.getD j 0 ∨ (w.take j).contains (w.getD j 0) = true
          · have hYA : adT X (w.take (j + 1)) a = adT X (w.take j) a := adT_miss a hjl (by rw [hLl]; exact hmiss)
            have hYM : mkT ls.length (w.take (j + 1)) = mkT ls.length (w.take j) := mkT_miss hjl hmiss
            by_cases h1 : w.getD j 0 < 0
            · have q1 : decide (0 ≤ w.getD j 0) = false := decide_eq_false (by omega)
              clear hmiss
              generalize w.getD j 0 = l at *
              generalize hA : adT X (w.take j) a = A at *
              generalize hMt : mkT ls.length (w.take j) = Mt at *
              (repeat (first | refine awp_reg_seq rfl fun k => ?_ | refine awp_reg rfl fun k => ?_ | refine awp_seq ?_ | refine awp_false rfl ?_ | refine awp_skip (?_ : Awp _ _ _ _ _ _) | refine awp_block ?_ | (((apply runk0 rfl rfl (opok_index_ro rfl ?_ ?_ ?_ ?_ ?_ ?_ ?_) ?_; rotate_left 6; (· (conv => (lhs; whnf))); (· (conv => (lhs; whnf))); (· (conv => (lhs; whnf; arg 1; whnf))); (· (unfold sizeIs; conv => (lhs; whnf; arg 1; whnf))); (· first | exact widths_ints _ _ | rfl | simp [widths, AVal.flat]); (· first | omega | (simp; done) | (simp; omega)); (· first | assumption | (simp only [Int.toNat_natCast]; assumption))))) | (first | refine runk_off rfl rfl rfl rfl rfl ?_ | refine runk_off rfl rfl rfl (by assumption) rfl ?_ | refine runk_offN rfl rfl rfl rfl rfl ?_ | refine runk_offU rfl rfl rfl rfl ?_ | refine runk_offUN rfl rfl rfl rfl ?_) | (apply runk0 rfl rfl (opok_move rfl ?_) ?_; rotate_left 1; (· (conv => (lhs; whnf)))) | (apply runk0 rfl rfl (opok_assign rfl ?_) ?_; rotate_left 1; (· (conv => (lhs; whnf)))) | (first | (apply runk0 rfl rfl (opok_load rfl ?_ ?_ ?_ ?_) ?_; rotate_left 5; (· (conv => (lhs; whnf))); (· (conv => (lhs; whnf; arg 1; whnf; arg 2; whnf))); (· rfl); (· (conv => (lhs; whnf; arg 1; whnf)))) | (apply runk0 rfl rfl (opok_loadR rfl ?_ ?_ ?_) ?_; rotate_left 2; (· (conv => (lhs; whnf))); (· rfl); (· (conv => (lhs; whnf; arg 1; whnf))))) | (apply runk0 rfl rfl (opok_bin rfl ?_ ?_ ?_) ?_; rotate_left 3; (· (conv => (lhs; whnf))); (· (conv => (lhs; whnf))); (· (intro w; go_simp; first | done | rfl))) | (apply runk0 rfl rfl (opok_pick rfl ?_ ?_) ?_; rotate_left 2; (· (conv => (lhs; whnf))); (· first | exact pick_or | exact pick_and | (conv => (lhs; whnf)))) | refine runk_end (by kernel_rfl) ?_))
              refine ⟨r - 1, by omega, j + 1, k7, k10, by omega, ?_⟩
              rw [hYA, hYM]
              (refine leB_of ?_ ?_; (· (repeat (first | exact EnvIs.nil | (refine EnvIs.cons ?_ ?_; (· first | rfl | ((conv => (lhs; whnf)); first | (simp [ints, bls]; done) | (simp [ints, bls]; omega))))))); (· (repeat (first | exact ObjsAre.nil | (refine ObjsAre.cons ?_ ?_; (· first | rfl | ((conv => (lhs; whnf)); first | (simp [ints, bls]; done) | (simp [ints, bls]; omega))))))))
            · obtain ⟨l, hl⟩ : ∃ l : Nat, w.getD j 0 = l := ⟨(w.getD j 0).toNat, by omega⟩
              rw [hl] at hv hmiss
              by_cases h2 : l < ls.length
              · have hb3 : (w.take j).contains (l : Int) = true := by
                  rcases hmiss with q | q | q
                  · omega
                  · omega
                  · exact q
                have hvM := bl_at (mkT ls.length (w.take j)) (i := l) (by omega)
                rw [mkT_at _ h2, hb3] at hvM
                have q2 : decide ((l : Int) < (ls.length : Int)) = true := decide_eq_true (by omega)
                have q2b : decide (l < ls.length) = true := decide_eq_true h2
                clear hmiss hb3 h1 hl
                generalize hA : adT X (w.take j) a = A at *
                generalize hMt : mkT ls.length (w.take j) = Mt at *
                (repeat (first | refine awp_reg_seq rfl fun k => ?_ | refine awp_reg rfl fun k => ?_ | refine awp_seq ?_ | refine awp_false rfl ?_ | refine awp_skip (?_ : Awp _ _ _ _ _ _) | refine awp_block ?_ | (((apply runk0 rfl rfl (opok_index_ro rfl ?_ ?_ ?_ ?_ ?_ ?_ ?_) ?_; rotate_left 6; (· (conv => (lhs; whnf))); (· (conv => (lhs; whnf))); (· (conv => (lhs; whnf; arg 1; whnf))); (· (unfold sizeIs; conv => (lhs; whnf; arg 1; whnf))); (· first | exact widths_ints _ _ | rfl | simp [widths, AVal.flat]); (· first | omega | (simp; done) | (simp; omega)); (· first | assumption | (simp only [Int.toNat_natCast]; assumption))))) | (((apply runk0 rfl rfl (opok_elem _ rfl ?_ ?_ ?_ ?_ ?_ ?_ ?_ ?_) ?_; rotate_left 8; (· (conv => (lhs; whnf))); (· (conv => (lhs; whnf; arg 1; whnf; arg 2; whnf))); (· rfl); (· rfl); (· simp); (· rfl); (· first | assumption | (simp only [Int.toNat_natCast]; assumption) | (simp only [Int.reduceToNat]; assumption)); (· rfl)))) | (first | refine runk_ung rfl rfl rfl rfl ?_ | refine runk_ung rfl rfl rfl (by assumption) ?_) | (apply runk0 rfl rfl (opok_move rfl ?_) ?_; rotate_left 1; (· (conv => (lhs; whnf)))) | (apply runk0 rfl rfl (opok_assign rfl ?_) ?_; rotate_left 1; (· (conv => (lhs; whnf)))) | (first | (apply runk0 rfl rfl (opok_load rfl ?_ ?_ ?_ ?_) ?_; rotate_left 5; (· (conv => (lhs; whnf))); (· (conv => (lhs; whnf; arg 1; whnf; arg 2; whnf))); (· rfl); (· (conv => (lhs; whnf; arg 1; whnf)))) | (apply runk0 rfl rfl (opok_loadR rfl ?_ ?_ ?_) ?_; rotate_left 2; (· (conv => (lhs; whnf))); (· rfl); (· (conv => (lhs; whnf; arg 1; whnf))))) | (apply runk0 rfl rfl (opok_bin rfl ?_ ?_ ?_) ?_; rotate_left 3; (· (conv => (lhs; whnf))); (· (conv => (lhs; whnf))); (· (intro w; go_simp; first | done | rfl))) | (apply runk0 rfl rfl (opok_un rfl ?_ ?_) ?_; rotate_left 2; (· (conv => (lhs; whnf))); (· (intro w; go_simp; first | done | rfl))) | (first | (apply runk0 rfl rfl (opok_lenO rfl ?_ ?_ ?_) ?_; rotate_left 5; (· (conv => (lhs; whnf))); (· (conv => (lhs; whnf; arg 1; whnf))); (· first | exact length_ints _ _ | rfl)) | (apply runk0 rfl rfl (opok_len_own rfl ?_ ?_) ?_; rotate_left 4; (· (conv => (lhs; whnf))); (· (conv => (lhs; whnf; arg 1; whnf)))) | (apply runk0 rfl rfl (opok_len rfl ?_ ?_ ?_) ?_; rotate_left 3; (· (conv => (lhs; whnf))); (· (conv => (lhs; whnf; arg 1; whnf))); (· first | exact length_ints _ _ | rfl))) | (apply runk0 rfl rfl (opok_pick rfl ?_ ?_) ?_; rotate_left 2; (· (conv => (lhs; whnf))); (· first | exact pick_or | exact pick_and | (conv => (lhs; whnf)))) | (apply runk0 rfl rfl (opok_index_own rfl ?_ ?_ ?_ ?_ ?_ ?_ ?_ ?_) ?_; rotate_left 10; (· (conv => (lhs; whnf))); (· (conv => (lhs; whnf; arg 1; whnf; arg 2; whnf))); (· (conv => (lhs; whnf))); (· (conv => (lhs; whnf; arg 1; whnf))); (· (unfold sizeIs; conv => (lhs; whnf; arg 1; whnf))); (· first | omega | (simp; done) | (simp; omega)); (· first | omega | (simp; done) | (simp; omega)); (· first | rfl | (simp; done) | (simp; omega))) | refine runk_end (by kernel_rfl) ?_))
                refine ⟨r - 1, by omega, j + 1, k7, k10, by omega, ?_⟩
                rw [hYA, hYM]
                (refine leB_of ?_ ?_; (· (repeat (first | exact EnvIs.nil | (refine EnvIs.cons ?_ ?_; (· first | rfl | ((conv => (lhs; whnf)); first | (simp [ints, bls]; done) | (simp [ints, bls]; omega))))))); (· (repeat (first | exact ObjsAre.nil | (refine ObjsAre.cons ?_ ?_; (· first | rfl | ((conv => (lhs; whnf)); first | (simp [ints, bls]; done) | (simp [ints, bls]; omega))))))))
              · have q2 : decide ((l : Int) < (ls.length : Int)) = false := decide_eq_false (by omega)
                have q2b : decide (l < ls.length) = false := decide_eq_false h2
                clear hmiss h1 hl
                generalize hA : adT X (w.take j) a = A at *
                generalize hMt : mkT ls.length (w.take j) = Mt at *
                (repeat (first | refine awp_reg_seq rfl fun k => ?_ | refine awp_reg rfl fun k => ?_ | refine awp_seq ?_ | refine awp_false rfl ?_ | refine awp_skip (?_ : Awp _ _ _ _ _ _) | refine awp_block ?_ | (((apply runk0 rfl rfl (opok_index_ro rfl ?_ ?_ ?_ ?_ ?_ ?_ ?_) ?_; rotate_left 6; (· (conv => (lhs; whnf))); (· (conv => (lhs; whnf))); (· (conv => (lhs; whnf; arg 1; whnf))); (· (unfold sizeIs; conv => (lhs; whnf; arg 1; whnf))); (· first | exact widths_ints _ _ | rfl | simp [widths, AVal.flat]); (· first | omega | (simp; done) | (simp; omega)); (· first | assumption | (simp only [Int.toNat_natCast]; assumption))))) | (first | refine runk_ung rfl rfl rfl rfl ?_ | refine runk_ung rfl rfl rfl (by assumption) ?_) | (first | refine runk_off rfl rfl rfl rfl rfl ?_ | refine runk_off rfl rfl rfl (by assumption) rfl ?_ | refine runk_offN rfl rfl rfl rfl rfl ?_ | refine runk_offU rfl rfl rfl rfl ?_ | refine runk_offUN rfl rfl rfl rfl ?_) | (apply runk0 rfl rfl (opok_move rfl ?_) ?_; rotate_left 1; (· (conv => (lhs; whnf)))) | (apply runk0 rfl rfl (opok_assign rfl ?_) ?_; rotate_left 1; (· (conv => (lhs; whnf)))) | (first | (apply runk0 rfl rfl (opok_load rfl ?_ ?_ ?_ ?_) ?_; rotate_left 5; (· (conv => (lhs; whnf))); (· (conv => (lhs; whnf; arg 1; whnf; arg 2; whnf))); (· rfl); (· (conv => (lhs; whnf; arg 1; whnf)))) | (apply runk0 rfl rfl (opok_loadR rfl ?_ ?_ ?_) ?_; rotate_left 2; (· (conv => (lhs; whnf))); (· rfl); (· (conv => (lhs; whnf; arg 1; whnf))))) | (apply runk0 rfl rfl (opok_bin rfl ?_ ?_ ?_) ?_; rotate_left 3; (· (conv => (lhs; whnf))); (· (conv => (lhs; whnf))); (· (intro w; go_simp; first | done | rfl))) | (first | (apply runk0 rfl rfl (opok_lenO rfl ?_ ?_ ?_) ?_; rotate_left 5; (· (conv => (lhs; whnf))); (· (conv => (lhs; whnf; arg 1; whnf))); (· first | exact length_ints _ _ | rfl)) | (apply runk0 rfl rfl (opok_len_own rfl ?_ ?_) ?_; rotate_left 4; (· (conv => (lhs; whnf))); (· (conv => (lhs; whnf; arg 1; whnf)))) | (apply runk0 rfl rfl (opok_len rfl ?_ ?_ ?_) ?_; rotate_left 3; (· (conv => (lhs; whnf))); (· (conv => (lhs; whnf; arg 1; whnf))); (· first | exact length_ints _ _ | rfl))) | (apply runk0 rfl rfl (opok_pick rfl ?_ ?_) ?_; rotate_left 2; (· (conv => (lhs; whnf))); (· first | exact pick_or | exact pick_and | (conv => (lhs; whnf)))) | refine runk_end (by kernel_rfl) ?_))
                refine ⟨r - 1, by omega, j + 1, k7, k10, by omega, ?_⟩
                rw [hYA, hYM]
                (refine leB_of ?_ ?_; (· (repeat (first | exact EnvIs.nil | (refine EnvIs.cons ?_ ?_; (· first | rfl | ((conv => (lhs; whnf)); first | (simp [ints, bls]; done) | (simp [ints, bls]; omega))))))); (· (repeat (first | exact ObjsAre.nil | (refine ObjsAre.cons ?_ ?_; (· first | rfl | ((conv => (lhs; whnf)); first | (simp [ints, bls]; done) | (simp [ints, bls]; omega))))))))
          · obtain ⟨l, hl⟩ : ∃ l : Nat, w.getD j 0 = l := ⟨(w.getD j 0).toNat, by omega⟩
            rw [hl] at hv hmiss
            have h2 : l < ls.length := by omega
            have hb3 : (w.take j).contains (l : Int) = false := by
              cases q : (w.take j).contains (l : Int) with
              | false => rfl
              | true => exact absurd (.inr (.inr q)) hmiss
            have hvM := bl_at (mkT ls.length (w.take j)) (i := l) (by omega)
            rw [mkT_at _ h2, hb3] at hvM
            have q2 : decide ((l : Int) < (ls.length : Int)) = true := decide_eq_true (by omega)
            have q2b : decide (l < ls.length) = true := decide_eq_true h2
            have hYA := adT_hit (L := X) a hjl hl (by omega) hb3
            have hYM := mkT_hit (n := ls.length) hjl hl
            have hvA := ints_getD .i64 (adT X (w.take j) a) l (by omega)
            have hb4 := adT_at X (w.take j) a (k := l) (by omega)
            have hb5 := hb l h2
            rw [hb3, cond_false] at hb4
            have wv : IntKind.i64.wrap ((adT X (w.take j) a).getD l 0 + a) = (adT X (w.take j) a).getD l 0 + a := by rw [IntKind.wrap_i64]; omega
            clear hmiss hb3 hl hb4 hb5
            generalize hA : adT X (w.take j) a = A at *
            generalize hMt : mkT ls.length (w.take j) = Mt at *
            generalize A.getD l 0 = u at *
            (repeat (first | refine awp_reg_seq rfl fun k => ?_ | refine awp_reg rfl fun k => ?_ | refine awp_seq ?_ | refine awp_true rfl ?_ | refine awp_skip (?_ : Awp _ _ _ _ _ _) | refine awp_block ?_ | (((apply runk0 rfl rfl (opok_index_ro rfl ?_ ?_ ?_ ?_ ?_ ?_ ?_) ?_; rotate_left 6; (· (conv => (lhs; whnf))); (· (conv => (lhs; whnf))); (· (conv => (lhs; whnf; arg 1; whnf))); (· (unfold sizeIs; conv => (lhs; whnf; arg 1; whnf))); (· first | exact widths_ints _ _ | rfl | simp [widths, AVal.flat]); (· first | omega | (simp; done) | (simp; omega)); (· first | assumption | (simp only [Int.toNat_natCast]; assumption))))) | (((apply runk0 rfl rfl (opok_elem _ rfl ?_ ?_ ?_ ?_ ?_ ?_ ?_ ?_) ?_; rotate_left 8; (· (conv => (lhs; whnf))); (· (conv => (lhs; whnf; arg 1; whnf; arg 2; whnf))); (· rfl); (· rfl); (· simp); (· rfl); (· first | assumption | (simp only [Int.toNat_natCast]; assumption) | (simp only [Int.reduceToNat]; assumption)); (· rfl)))) | (((apply runk_setG rfl rfl rfl ?_ ?_ ?_ ?_ ?_ ?_ ?_ ?_ ?_ ?_ ?_ ?_ ?_; rotate_left 8; (· (conv => (lhs; whnf))); (· (conv => (lhs; whnf))); (· (conv => (lhs; whnf; arg 1; whnf; arg 2; whnf))); (· rfl); (· rfl); (· rfl); (· (unfold sizeIs; conv => (lhs; whnf; arg 1; whnf))); (· first | (simp only [Int.toNat_natCast, Nat.mul_one, Int.reduceToNat]; done) | (simp only [Int.toNat_natCast, Nat.mul_one, Int.reduceToNat]; rfl) | rfl); (· simp); (· simp); (· first | omega | (simp; done) | (simp; omega)); (· rfl)))) | (first | refine runk_ung rfl rfl rfl rfl ?_ | refine runk_ung rfl rfl rfl (by assumption) ?_) | (apply runk0 rfl rfl (opok_move rfl ?_) ?_; rotate_left 1; (· (conv => (lhs; whnf)))) | (apply runk0 rfl rfl (opok_assign rfl ?_) ?_; rotate_left 1; (· (conv => (lhs; whnf)))) | (first | (apply runk0 rfl rfl (opok_load rfl ?_ ?_ ?_ ?_) ?_; rotate_left 5; (· (conv => (lhs; whnf))); (· (conv => (lhs; whnf; arg 1; whnf; arg 2; whnf))); (· rfl); (· (conv => (lhs; whnf; arg 1; whnf)))) | (apply runk0 rfl rfl (opok_loadR rfl ?_ ?_ ?_) ?_; rotate_left 2; (· (conv => (lhs; whnf))); (· rfl); (· (conv => (lhs; whnf; arg 1; whnf))))) | (apply runk0 rfl rfl (opok_bin rfl ?_ ?_ ?_) ?_; rotate_left 3; (· (conv => (lhs; whnf))); (· (conv => (lhs; whnf))); (· (intro w; go_simp; first | done | rfl))) | (apply runk0 rfl rfl (opok_un rfl ?_ ?_) ?_; rotate_left 2; (· (conv => (lhs; whnf))); (· (intro w; go_simp; first | done | rfl))) | (first | (apply runk0 rfl rfl (opok_lenO rfl ?_ ?_ ?_) ?_; rotate_left 5; (· (conv => (lhs; whnf))); (· (conv => (lhs; whnf; arg 1; whnf))); (· first | exact length_ints _ _ | rfl)) | (apply runk0 rfl rfl (opok_len_own rfl ?_ ?_) ?_; rotate_left 4; (· (conv => (lhs; whnf))); (· (conv => (lhs; whnf; arg 1; whnf)))) | (apply runk0 rfl rfl (opok_len rfl ?_ ?_ ?_) ?_; rotate_left 3; (· (conv => (lhs; whnf))); (· (conv => (lhs; whnf; arg 1; whnf))); (· first | exact length_ints _ _ | rfl))) | (apply runk0 rfl rfl (opok_pick rfl ?_ ?_) ?_; rotate_left 2; (· (conv => (lhs; whnf))); (· first | exact pick_or | exact pick_and | (conv => (lhs; whnf)))) | (apply runk0 rfl rfl (opok_index_own rfl ?_ ?_ ?_ ?_ ?_ ?_ ?_ ?_) ?_; rotate_left 10; (· (conv => (lhs; whnf))); (· (conv => (lhs; whnf; arg 1; whnf; arg 2; whnf))); (· (conv => (lhs; whnf))); (· (conv => (lhs; whnf; arg 1; whnf))); (· (unfold sizeIs; conv => (lhs; whnf; arg 1; whnf))); (· first | omega | (simp; done) | (simp; omega)); (· first | omega | (simp; done) | (simp; omega)); (· first | rfl | (simp; done) | (simp; omega))) | refine runk_end (by kernel_rfl) ?_ | (apply runk_setN rfl rfl rfl ?_ ?_ ?_ ?_ ?_ ?_ ?_; rotate_left 8; (· (conv => (lhs; whnf))); (· (conv => (lhs; whnf))); (· rfl); (· (unfold sizeIs; conv => (lhs; whnf; arg 1; whnf))); (· first | (simp only [Int.toNat_natCast, Nat.mul_one, Int.reduceToNat]; done) | (simp only [Int.toNat_natCast, Nat.mul_one, Int.reduceToNat]; rfl) | rfl); (· first | omega | (simp; done) | (simp; omega)))))
            refine ⟨r - 1, by omega, j + 1, k7, k10, by omega, ?_⟩
            rw [hYA, hYM]
            (refine leB_of ?_ ?_; (· (repeat (first | exact EnvIs.nil | (refine EnvIs.cons ?_ ?_; (· first | rfl | ((conv => (lhs; whnf)); first | (simp [ints, bls, wv, List.map_set]; done) | (simp [ints, bls, wv, List.map_set]; omega))))))); (· (repeat (first | exact ObjsAre.nil | (refine ObjsAre.cons ?_ ?_; (· first | rfl | ((conv => (lhs; whnf)); first | (simp [ints, bls, wv, List.map_set]; done) | (simp [ints, bls, wv, List.map_set]; omega))))))))
        · have hie : j = w.length := by simp at hc; omega
          subst hie
          clear hc
          rw [List.take_of_length_le (Nat.le_refl _), ← eS]
          generalize bls (mkT ls.length w) = MM at *
          refine awp_exit (?_ : Awp _ _ _ _ _ _)
          (repeat (first | refine awp_reg rfl fun k => ?_ | (apply runk0 rfl rfl (opok_move rfl ?_) ?_; rotate_left 1; (· (conv => (lhs; whnf)))) | (apply runk0 rfl rfl (opok_bin rfl ?_ ?_ ?_) ?_; rotate_left 3; (· (conv => (lhs; whnf))); (· (conv => (lhs; whnf))); (· (intro w; go_simp; first | done | rfl))) | refine runk_end (by kernel_rfl) ?_))
          refine ⟨n - 1, by omega, i + 1, k7, by omega, ?_⟩
          rw [hY]
          (refine leB_of ?_ ?_; (· (repeat (first | exact EnvIs.nil | (refine EnvIs.cons ?_ ?_; (· first | rfl | ((conv => (lhs; whnf)); first | (simp [ints]; done) | (simp [ints]; omega))))))); (· (repeat (first | exact ObjsAre.nil | (refine ObjsAre.cons ?_ ?_; (· first | rfl | ((conv => (lhs; whnf)); first | (simp [ints]; done) | (simp [ints]; omega))))))))
    · have hie : i = M := by simp at hc; omega
      subst hie
      clear hc hr hgt hwl hal lS hl bd
      generalize L i = XL at *
      refine awp_exit (?_ : Awp _ _ _ _ _ _)
      refine awp_less (st' := ⟨[(7, .own 7 k7 (ints .i64 XL).length)], [(7, some (k7, .row 3 1 (ints .i64 XL)))]⟩) ?_ ?_
      · (refine leB_of ?_ ?_; (· (repeat (first | exact EnvIs.nil | (refine EnvIs.cons ?_ ?_; (· first | rfl | ((conv => (lhs; whnf)); first | (simp [ints]; done) | (simp [ints]; omega))))))); (· (repeat (first | exact ObjsAre.nil | (refine ObjsAre.cons ?_ ?_; (· first | rfl | ((conv => (lhs; whnf)); first | (simp [ints]; done) | (simp [ints]; omega))))))))
      (refine awp_frz 7 k7 (ints .i64 XL) ([(7, .ro (ints .i64 XL))]) ([]) rfl ?_ ?_ ?_; (· (repeat (first | exact EnvFrz.nil | (refine EnvFrz.cons rfl ?_ ?_; (· first | exact .one (.same _) | (refine .one (.own _ ?_); first | rfl | (simp; done) | (simp only [length_ints]; omega)) | (refine .agg ?_; (repeat (first | exact Frzs.nil | (refine Frzs.cons ?_ ?_; (· first | exact Frz1.same _ | (refine Frz1.own _ ?_; first | rfl | (simp; done) | (simp only [length_ints]; omega)) | exact Frz1.any _))))) | (refine .tuple ?_; (repeat (first | exact Frzs.nil | (refine Frzs.cons ?_ ?_; (· first | exact Frz1.same _ | (refine Frz1.own _ ?_; first | rfl | (simp; done) | (simp only [length_ints]; omega)) | exact Frz1.any _)))))))))); (· (repeat (first | exact ObjsFrz.nil | (refine ObjsFrz.cons rfl rfl ?_ ?_; (· first | exact .same _ | (refine .box ?_; (repeat (first | exact Frzs.nil | (refine Frzs.cons ?_ ?_; (· first | exact Frz1.same _ | (refine Frz1.own _ ?_; first | rfl | (simp; done) | (simp only [length_ints]; omega)) | exact Frz1.any _))))) | (refine .row ?_ rfl; (repeat (first | exact Frzs.nil | (refine Frzs.cons ?_ ?_; (· first | exact Frz1.same _ | (refine Frz1.own _ ?_; first | rfl | (simp; done) | (simp only [length_ints]; omega)) | exact Frz1.any _)))))))))))
      (repeat (first | refine awp_reg_seq rfl fun k => ?_ | (refine awp_ret ?_; (apply ends_pure ?_ ?_ ?_ ?_ ?_ (.inl rfl); rotate_left 1; (· first | exact res_one rfl rfl | exact res_two rfl rfl rfl | exact res_none rfl | exact res_three rfl rfl rfl rfl | exact res_cell rfl rfl rfl rfl rfl | exact res_cell2 rfl rfl rfl rfl rfl rfl | exact res3 rfl (rv_cell rfl rfl rfl rfl) (rv_tmp rfl) (rv_tmp rfl) | exact res3 rfl (rv_cell rfl rfl rfl rfl) (rv_cell rfl rfl rfl rfl) (rv_cell rfl rfl rfl rfl)); (· first | rfl | ((conv => (lhs; whnf)); first | rfl | (simp; done))); (· first | rfl | (simp; done) | (simp [AVal.pure, AVal.pures, AObj.pure]; done)); (· rfl); (· rfl))) | (apply runk0 rfl rfl (opok_move rfl ?_) ?_; rotate_left 1; (· (conv => (lhs; whnf)))) | (apply runk0 rfl rfl (opok_assign rfl ?_) ?_; rotate_left 1; (· (conv => (lhs; whnf)))) | refine runk_end (by kernel_rfl) ?_))
end Go.Proofs.Ytpdiainbcekpiaa
