/-
  Layer 14: loads of links, of the reference, by states.
-/
import Derived.Test.YtpdiainbcekpiaaFw14m
namespace Go.Proofs.Ytpdiainbcekpiaa
open Go.RowKit
attribute [local simp] rws_len rws_widths flat_blsL bls_setL
theorem pkT_none (L w : List Int) (m : Nat) : pkT L w 0 m = L := ext_getD (pkT_len _ _ _ _) fun i hi => by
  rw [pkT_len] at hi
  rw [pkT_at _ _ _ _ hi]
  cases decide (i < m) && w.contains (i : Int)
  · rw [cond_false]; omega
  · rw [cond_true]; omega
theorem ldN_stop (ws : List (List Int)) (am : List Int) (n : Nat) : ldN ws am n ws.length = ldN ws am n (min ws.length am.length) := by
  by_cases h : ws.length ≤ am.length
  · rw [Nat.min_eq_left h]
  · rw [Nat.min_eq_right (by omega)]
    obtain ⟨m, hm⟩ : ∃ m, ws.length = am.length + m := ⟨ws.length - am.length, by omega⟩
    rw [hm, ldN_min]
set_option maxHeartbeats 64000000 in
set_option maxRecDepth 100000 in
theorem rLoads_spec {F : FK} (ws : List (List Int)) (am : List Int) (hn : F.ls.length ≤ 1000) (hws : ws.length ≤ 1000) (hw : ∀ w ∈ ws, w.length ≤ 1000000) (ham : am.length ≤ 1000000) (hab : ∀ a ∈ am, 0 ≤ a ∧ a ≤ 1073741824) : Spec Try.prog 19 [.agg F.A, .ro (rws ws), .ro (ints .i64 am)] [] (.ro (ints .i64 (ldN ws am F.ls.length (min ws.length am.length)))) [] := by
  rw [← ldN_stop]
  have bd := fun i k hk => ldN_bd (ws := ws) (n := F.ls.length) hab i k hk
  have hl := fun i => ldN_len ws am F.ls.length i
  have l0 : ldN ws am F.ls.length 0 = List.replicate F.ls.length 0 := rfl
  have lS : ∀ i, ldN ws am F.ls.length (i + 1) = adT (ldN ws am F.ls.length i) (ws.getD i []) (am.getD i 0) := fun i => rfl
  have hwl : ∀ i, i < ws.length → (ws.getD i []).length ≤ 1000000 := fun i hi => by
    have : ws.getD i [] ∈ ws := by
      rw [List.getD_eq_getElem?_getD, List.getElem?_eq_getElem hi]
      exact List.getElem_mem hi
    exact hw _ this
  have hal : ∀ i, i < am.length → 0 ≤ am.getD i 0 ∧ am.getD i 0 ≤ 1073741824 := fun i hi => by
    have : am.getD i 0 ∈ am := by
      rw [List.getD_eq_getElem?_getD, List.getElem?_eq_getElem hi]
      exact List.getElem_mem hi
    exact hab _ this
  have hal2 : ∀ i, am.length ≤ i → am.getD i 0 = 0 := fun i hi => by rw [List.getD_eq_getElem?_getD, List.getElem?_eq_none hi]; rfl
  clear hw hab
  have hr := fun i hi => rws_at ws (i := i) hi
  generalize ldN ws am F.ls.length = L at *
  obtain ⟨sw, ls, dn, dd⟩ := F
  unfold FK.A at *
  dsimp only at *
  refine spec_of_awp Try.func19 rfl (Nat.le_of_ble_eq_true rfl) fun ini => ?_
  simp only [Try.ntmps19]
  (repeat (first | refine awp_reg_seq rfl fun k => ?_ | refine awp_seq ?_ | refine awp_block ?_ | (((apply runk_makeG rfl rfl rfl ?_ ?_ ?_ ?_ ?_ ?_ ?_ ?_ ?_ ?_ ?_ ?_; rotate_left 4; (· (conv => (lhs; whnf))); (· (conv => (lhs; whnf))); (· (conv => (lhs; whnf; arg 1; whnf))); (· (unfold sizeIs; conv => (lhs; whnf; arg 1; whnf))); (· (conv => (lhs; whnf; arg 1; whnf))); (· (conv => (lhs; whnf; arg 1; whnf))); (· rfl); (· rfl); (· rfl); (· first | omega | (simp; done) | (simp; omega)); (· first | omega | (simp; done) | (simp; omega))))) | (apply runk0 rfl rfl (opok_box_ro rfl ?_ ?_ ?_) ?_; rotate_left 2; (· (conv => (lhs; whnf))); (· rfl); (· (conv => (lhs; whnf)))) | (apply runk0 rfl rfl (opok_move rfl ?_) ?_; rotate_left 1; (· (conv => (lhs; whnf)))) | (apply runk_assignOwn rfl rfl rfl ?_ ?_ ?_; rotate_left 4; (· (conv => (lhs; whnf))); (· (conv => (lhs; whnf; arg 1; whnf)))) | (apply runk0 rfl rfl (opok_assign rfl ?_) ?_; rotate_left 1; (· (conv => (lhs; whnf)))) | (first | (apply runk0 rfl rfl (opok_load rfl ?_ ?_ ?_ ?_) ?_; rotate_left 5; (· (conv => (lhs; whnf))); (· (conv => (lhs; whnf; arg 1; whnf; arg 2; whnf))); (· rfl); (· (conv => (lhs; whnf; arg 1; whnf)))) | (apply runk0 rfl rfl (opok_loadR rfl ?_ ?_ ?_) ?_; rotate_left 2; (· (conv => (lhs; whnf))); (· rfl); (· (conv => (lhs; whnf; arg 1; whnf))))) | (first | (apply runk0 rfl rfl (opok_lenO rfl ?_ ?_ ?_) ?_; rotate_left 5; (· (conv => (lhs; whnf))); (· (conv => (lhs; whnf; arg 1; whnf))); (· first | exact length_ints _ _ | rfl)) | (apply runk0 rfl rfl (opok_len_own rfl ?_ ?_) ?_; rotate_left 4; (· (conv => (lhs; whnf))); (· (conv => (lhs; whnf; arg 1; whnf)))) | (apply runk0 rfl rfl (opok_len rfl ?_ ?_ ?_) ?_; rotate_left 3; (· (conv => (lhs; whnf))); (· (conv => (lhs; whnf; arg 1; whnf))); (· first | exact length_ints _ _ | rfl))) | refine runk_end (by kernel_rfl) ?_ | (apply runk0 rfl rfl (opok_faR rfl ?_ rfl rfl ?_ ?_ ?_) ?_; rotate_left 3; (· (conv => (lhs; whnf))); (· (unfold sizeIs; conv => (lhs; whnf; arg 1; whnf))); (· rfl); (· (conv => (lhs; (repeat (whnf; arg 2)); whnf))))))
  rename_i xx k7
  refine awp_less (st' := ⟨[(2, .ro (ints .i64 am)), (7, .own 7 k7 (ints .i64 (L 0)).length), (18, .ro (rws ws)), (19, .val (.int .i64 (ws.length : Int))), (20, .val (.int .i64 0))], [(7, some (k7, .row 3 1 (ints .i64 (L 0))))]⟩) ?_ ?_
  · rw [l0]
    (refine leB_of ?_ ?_; (· (repeat (first | exact EnvIs.nil | (refine EnvIs.cons ?_ ?_; (· first | rfl | ((conv => (lhs; whnf)); first | (simp [ints, List.map_replicate, Int.toNat_natCast, List.length_replicate, List.length_map]; done) | (simp [ints, List.map_replicate, Int.toNat_natCast, List.length_replicate, List.length_map]; omega))))))); (· (repeat (first | exact ObjsAre.nil | (refine ObjsAre.cons ?_ ?_; (· first | rfl | ((conv => (lhs; whnf)); first | (simp [ints, List.map_replicate, Int.toNat_natCast, List.length_replicate, List.length_map]; done) | (simp [ints, List.map_replicate, Int.toNat_natCast, List.length_replicate, List.length_map]; omega))))))))
  clear l0
  refine awp_loop (fun n st => ∃ (i k7 : Nat), i + n = ws.length ∧ st.leB ⟨[(2, .ro (ints .i64 am)), (7, .own 7 k7 (ints .i64 (L i)).length), (18, .ro (rws ws)), (19, .val (.int .i64 (ws.length : Int))), (20, .val (.int .i64 (i : Int)))], [(7, some (k7, .row 3 1 (ints .i64 (L i))))]⟩) ws.length ⟨0, k7, by omega, ?_⟩ ?_
  · (refine leB_of ?_ ?_; (· (repeat (first | exact EnvIs.nil | (refine EnvIs.cons ?_ ?_; (· first | rfl | ((conv => (lhs; whnf)); first | (simp [ints]; done) | (simp [ints]; omega))))))); (· (repeat (first | exact ObjsAre.nil | (refine ObjsAre.cons ?_ ?_; (· first | rfl | ((conv => (lhs; whnf)); first | (simp [ints]; done) | (simp [ints]; omega))))))))
  · rintro n st ⟨i, k7, hi, hle⟩
    refine awp_less hle ?_
    clear hle st
    (repeat (first | refine awp_reg_seq rfl fun k => ?_ | refine awp_seq ?_ | (apply runk0 rfl rfl (opok_bin rfl ?_ ?_ ?_) ?_; rotate_left 3; (· (conv => (lhs; whnf))); (· (conv => (lhs; whnf))); (· (intro w; go_simp; first | done | rfl))) | refine runk_end (by kernel_rfl) ?_))
    refine awp_if rfl (fun hc => ?_) (fun hc => ?_)
    · have hlt : i < ws.length := by simp at hc; omega
      clear hc
      have wi : IntKind.i64.wrap ((i : Int) + 1) = ((i + 1 : Nat) : Int) := by rw [IntKind.wrap_i64]; omega
      have hri := hr i (by omega)
      have hwi := hwl i (by omega)
      have hai := hal i
      have hai2 := hal2 i
      have hav := fun h => ints_getD .i64 am i h
      have eS := lS i
      have hLl := hl i
      have hb := bd i
      clear hr hwl hal hal2 lS hl bd
      generalize hY : L (i + 1) = Y at *
      generalize L i = X at *
      generalize ws.getD i [] = w at *
      generalize am.getD i 0 = a at *
      (repeat (first | refine awp_reg_seq rfl fun k => ?_ | refine awp_seq ?_ | refine awp_skip (?_ : Awp _ _ _ _ _ _) | refine awp_block ?_ | (apply runk0 rfl rfl (opok_move rfl ?_) ?_; rotate_left 1; (· (conv => (lhs; whnf))))))
      (apply runk0 rfl rfl (opok_index_ro rfl ?_ ?_ ?_ ?_ ?_ ?_ ?_) ?_; rotate_left 6; (· (conv => (lhs; whnf))); (· (conv => (lhs; whnf))); (· (conv => (lhs; whnf; arg 1; whnf))); (· (unfold sizeIs; conv => (lhs; whnf; arg 1; whnf))); (· simp); (· first | omega | (simp; done) | (simp; omega)); (· simp only [Int.toNat_natCast]; exact hri))
      (repeat (first | refine awp_reg_seq rfl fun k => ?_ | refine awp_block ?_ | (apply runk0 rfl rfl (opok_move rfl ?_) ?_; rotate_left 1; (· (conv => (lhs; whnf)))) | (apply runk0 rfl rfl (opok_assign rfl ?_) ?_; rotate_left 1; (· (conv => (lhs; whnf)))) | (first | (apply runk0 rfl rfl (opok_load rfl ?_ ?_ ?_ ?_) ?_; rotate_left 5; (· (conv => (lhs; whnf))); (· (conv => (lhs; whnf; arg 1; whnf; arg 2; whnf))); (· rfl); (· (conv => (lhs; whnf; arg 1; whnf)))) | (apply runk0 rfl rfl (opok_loadR rfl ?_ ?_ ?_) ?_; rotate_left 2; (· (conv => (lhs; whnf))); (· rfl); (· (conv => (lhs; whnf; arg 1; whnf))))) | (first | (apply runk0 rfl rfl (opok_lenO rfl ?_ ?_ ?_) ?_; rotate_left 5; (· (conv => (lhs; whnf))); (· (conv => (lhs; whnf; arg 1; whnf))); (· first | exact length_ints _ _ | rfl)) | (apply runk0 rfl rfl (opok_len_own rfl ?_ ?_) ?_; rotate_left 4; (· (conv => (lhs; whnf))); (· (conv => (lhs; whnf; arg 1; whnf)))) | (apply runk0 rfl rfl (opok_len rfl ?_ ?_ ?_) ?_; rotate_left 3; (· (conv => (lhs; whnf))); (· (conv => (lhs; whnf; arg 1; whnf))); (· first | exact length_ints _ _ | rfl))) | refine runk_end (by kernel_rfl) ?_))
      refine awp_less (st' := ⟨[(2, .ro (ints .i64 am)), (18, .ro (rws ws)), (19, .val (.int .i64 (ws.length : Int))), (20, .val (.int .i64 (i : Int))), (8, .val (.int .i64 (i : Int))), (9, .ro (ints .i64 w)), (7, .own 7 k7 (ints .i64 (pkT X w a 0)).length), (26, .val (.int .i64 (ls.length : Int))), (27, .val (.int .i64 0))], [(7, some (k7, .row 3 1 (ints .i64 (pkT X w a 0))))]⟩) ?_ ?_
      · rw [pkT_zero]
        (refine leB_of ?_ ?_; (· (repeat (first | exact EnvIs.nil | (refine EnvIs.cons ?_ ?_; (· first | rfl | ((conv => (lhs; whnf)); first | (simp [ints, hLl]; done) | (simp [ints, hLl]; omega))))))); (· (repeat (first | exact ObjsAre.nil | (refine ObjsAre.cons ?_ ?_; (· first | rfl | ((conv => (lhs; whnf)); first | (simp [ints, hLl]; done) | (simp [ints, hLl]; omega))))))))
      refine awp_loop (fun r st => ∃ (j k7 : Nat), j + r = ls.length ∧ st.leB ⟨[(2, .ro (ints .i64 am)), (18, .ro (rws ws)), (19, .val (.int .i64 (ws.length : Int))), (20, .val (.int .i64 (i : Int))), (8, .val (.int .i64 (i : Int))), (9, .ro (ints .i64 w)), (7, .own 7 k7 (ints .i64 (pkT X w a j)).length), (26, .val (.int .i64 (ls.length : Int))), (27, .val (.int .i64 (j : Int)))], [(7, some (k7, .row 3 1 (ints .i64 (pkT X w a j))))]⟩) ls.length ⟨0, k7, by omega, ?_⟩ ?_
      · (refine leB_of ?_ ?_; (· (repeat (first | exact EnvIs.nil | (refine EnvIs.cons ?_ ?_; (· first | rfl | ((conv => (lhs; whnf)); first | (simp [ints, bls]; done) | (simp [ints, bls]; omega))))))); (· (repeat (first | exact ObjsAre.nil | (refine ObjsAre.cons ?_ ?_; (· first | rfl | ((conv => (lhs; whnf)); first | (simp [ints, bls]; done) | (simp [ints, bls]; omega))))))))
      · rintro r st ⟨j, k7, hj, hle⟩
        refine awp_less hle ?_
        clear hle st
        have hAl : (pkT X w a j).length = ls.length := by rw [pkT_len]; exact hLl
        (repeat (first | refine awp_reg_seq rfl fun k => ?_ | refine awp_seq ?_ | (apply runk0 rfl rfl (opok_bin rfl ?_ ?_ ?_) ?_; rotate_left 3; (· (conv => (lhs; whnf))); (· (conv => (lhs; whnf))); (· (intro w; go_simp; first | done | rfl))) | refine runk_end (by kernel_rfl) ?_))
        refine awp_if rfl (fun hc => ?_) (fun hc => ?_)
        · have hjl : j < ls.length := by simpa using hc
          clear hc
          have wj : IntKind.i64.wrap ((j : Int) + 1) = ((j + 1 : Nat) : Int) := by rw [IntKind.wrap_i64]; omega
          have eP := pkT_step (L := X) (w := w) a (m := j) (by omega)
          have eK := pkT_keep (L := X) (w := w) a (m := j) (by omega)
          have eZ := fun m => pkT_none X w m
          have hvA := ints_getD .i64 (pkT X w a j) j (by omega)
          rw [eK] at hvA
          have hb5 := hb j hjl
          (repeat (first | refine awp_reg_seq rfl fun k => ?_ | refine awp_seq ?_ | refine awp_skip (?_ : Awp _ _ _ _ _ _) | refine awp_block ?_ | (apply runk0 rfl rfl (opok_move rfl ?_) ?_; rotate_left 1; (· (conv => (lhs; whnf)))) | (apply runk0 rfl rfl (opok_assign rfl ?_) ?_; rotate_left 1; (· (conv => (lhs; whnf)))) | (first | (apply runk0 rfl rfl (opok_lenO rfl ?_ ?_ ?_) ?_; rotate_left 5; (· (conv => (lhs; whnf))); (· (conv => (lhs; whnf; arg 1; whnf))); (· first | exact length_ints _ _ | rfl)) | (apply runk0 rfl rfl (opok_len_own rfl ?_ ?_) ?_; rotate_left 4; (· (conv => (lhs; whnf))); (· (conv => (lhs; whnf; arg 1; whnf)))) | (apply runk0 rfl rfl (opok_len rfl ?_ ?_ ?_) ?_; rotate_left 3; (· (conv => (lhs; whnf))); (· (conv => (lhs; whnf; arg 1; whnf))); (· first | exact length_ints _ _ | rfl))) | refine runk_end (by kernel_rfl) ?_))
          refine awp_less (st' := ⟨[(2, .ro (ints .i64 am)), (18, .ro (rws ws)), (19, .val (.int .i64 (ws.length : Int))), (20, .val (.int .i64 (i : Int))), (8, .val (.int .i64 (i : Int))), (9, .ro (ints .i64 w)), (7, .own 7 k7 (ints .i64 (pkT X w a j)).length), (26, .val (.int .i64 (ls.length : Int))), (27, .val (.int .i64 (j : Int))), (10, .val (.int .i64 (j : Int))), (11, .val (.bool ((w.take 0).contains (j : Int)))), (30, .ro (ints .i64 w)), (31, .val (.int .i64 (w.length : Int))), (32, .val (.int .i64 0))], [(7, some (k7, .row 3 1 (ints .i64 (pkT X w a j))))]⟩) ?_ ?_
          · (refine leB_of ?_ ?_; (· (repeat (first | exact EnvIs.nil | (refine EnvIs.cons ?_ ?_; (· first | rfl | ((conv => (lhs; whnf)); first | (simp [ints]; done) | (simp [ints]; omega))))))); (· (repeat (first | exact ObjsAre.nil | (refine ObjsAre.cons ?_ ?_; (· first | rfl | ((conv => (lhs; whnf)); first | (simp [ints]; done) | (simp [ints]; omega))))))))
          refine awp_loop (fun q st => ∃ m : Nat, m + q = w.length ∧ st.leB ⟨[(2, .ro (ints .i64 am)), (18, .ro (rws ws)), (19, .val (.int .i64 (ws.length : Int))), (20, .val (.int .i64 (i : Int))), (8, .val (.int .i64 (i : Int))), (9, .ro (ints .i64 w)), (7, .own 7 k7 (ints .i64 (pkT X w a j)).length), (26, .val (.int .i64 (ls.length : Int))), (27, .val (.int .i64 (j : Int))), (10, .val (.int .i64 (j : Int))), (11, .val (.bool ((w.take m).contains (j : Int)))), (30, .ro (ints .i64 w)), (31, .val (.int .i64 (w.length : Int))), (32, .val (.int .i64 (m : Int)))], [(7, some (k7, .row 3 1 (ints .i64 (pkT X w a j))))]⟩) w.length ⟨0, by omega, ?_⟩ ?_
          · (refine leB_of ?_ ?_; (· (repeat (first | exact EnvIs.nil | (refine EnvIs.cons ?_ ?_; (· first | rfl | ((conv => (lhs; whnf)); first | (simp [ints]; done) | (simp [ints]; omega))))))); (· (repeat (first | exact ObjsAre.nil | (refine ObjsAre.cons ?_ ?_; (· first | rfl | ((conv => (lhs; whnf)); first | (simp [ints]; done) | (simp [ints]; omega))))))))
          · rintro q st ⟨m, hm, hle⟩
            refine awp_less hle ?_
            clear hle st
            (repeat (first | refine awp_reg_seq rfl fun k => ?_ | refine awp_seq ?_ | (apply runk0 rfl rfl (opok_bin rfl ?_ ?_ ?_) ?_; rotate_left 3; (· (conv => (lhs; whnf))); (· (conv => (lhs; whnf))); (· (intro w; go_simp; first | done | rfl))) | refine runk_end (by kernel_rfl) ?_))
            refine awp_if rfl (fun hc => ?_) (fun hc => ?_)
            · have hml : m < w.length := by simpa using hc
              clear hc
              have wm : IntKind.i64.wrap ((m : Int) + 1) = ((m + 1 : Nat) : Int) := by rw [IntKind.wrap_i64]; omega
              have hv := ints_getD .i64 w m hml
              have eN := take_contains w hml (j : Int)
              rw [show ((j : Int) == w.getD m 0) = (w.getD m 0 == (j : Int)) by rw [Bool.eq_iff_iff, beq_iff_eq, beq_iff_eq]; exact eq_comm] at eN
              clear eP eZ hvA eK hav hai hai2
              generalize w.getD m 0 = v at *
              generalize hO : (w.take m).contains (j : Int) = o at *
              generalize pkT X w a j = PJ at *
              (repeat (first | refine awp_reg_seq rfl fun k => ?_ | refine awp_reg rfl fun k => ?_ | refine awp_seq ?_ | refine awp_skip (?_ : Awp _ _ _ _ _ _) | refine awp_block ?_ | (((apply runk0 rfl rfl (opok_index_ro rfl ?_ ?_ ?_ ?_ ?_ ?_ ?_) ?_; rotate_left 6; (· (conv => (lhs; whnf))); (· (conv => (lhs; whnf))); (· (conv => (lhs; whnf; arg 1; whnf))); (· (unfold sizeIs; conv => (lhs; whnf; arg 1; whnf))); (· first | exact widths_ints _ _ | rfl | simp [widths, AVal.flat]); (· first | omega | (simp; done) | (simp; omega)); (· first | assumption | (simp only [Int.toNat_natCast]; assumption))))) | (apply runk0 rfl rfl (opok_move rfl ?_) ?_; rotate_left 1; (· (conv => (lhs; whnf)))) | (apply runk0 rfl rfl (opok_assign rfl ?_) ?_; rotate_left 1; (· (conv => (lhs; whnf)))) | (first | (apply runk0 rfl rfl (opok_load rfl ?_ ?_ ?_ ?_) ?_; rotate_left 5; (· (conv => (lhs; whnf))); (· (conv => (lhs; whnf; arg 1; whnf; arg 2; whnf))); (· rfl); (· (conv => (lhs; whnf; arg 1; whnf)))) | (apply runk0 rfl rfl (opok_loadR rfl ?_ ?_ ?_) ?_; rotate_left 2; (· (conv => (lhs; whnf))); (· rfl); (· (conv => (lhs; whnf; arg 1; whnf))))) | (apply runk0 rfl rfl (opok_bin rfl ?_ ?_ ?_) ?_; rotate_left 3; (· (conv => (lhs; whnf))); (· (conv => (lhs; whnf))); (· (intro w; go_simp; first | done | rfl))) | (apply runk_guard rfl rfl ?_ rfl ?_ ?_; rotate_left 3; (· (conv => (lhs; whnf))); (· (intro hb; (try rw [hb]); apply opok_move rfl ?_; rotate_left 1; (· (conv => (lhs; whnf)))))) | (apply runk_guard rfl rfl ?_ rfl ?_ ?_; rotate_left 3; (· (conv => (lhs; whnf))); (· (intro hb; (try rw [hb]); apply opok_bin rfl ?_ ?_ ?_; rotate_left 3; (· (conv => (lhs; whnf))); (· (conv => (lhs; whnf))); (· (intro w; go_simp; first | done | rfl))))) | (apply runk0 rfl rfl (opok_pick rfl ?_ ?_) ?_; rotate_left 2; (· (conv => (lhs; whnf))); (· first | exact pick_or | exact pick_and | (conv => (lhs; whnf)))) | refine runk_end (by kernel_rfl) ?_))
              refine ⟨q - 1, by omega, m + 1, by omega, ?_⟩
              rw [eN]
              (refine leB_of ?_ ?_; (· (repeat (first | exact EnvIs.nil | (refine EnvIs.cons ?_ ?_; (· first | rfl | ((conv => (lhs; whnf)); first | (simp [ints]; done) | (simp [ints]; omega))))))); (· (repeat (first | exact ObjsAre.nil | (refine ObjsAre.cons ?_ ?_; (· first | rfl | ((conv => (lhs; whnf)); first | (simp [ints]; done) | (simp [ints]; omega))))))))
            · have hme : m = w.length := by simp at hc; omega
              subst hme
              clear hc
              rw [List.take_of_length_le (Nat.le_refl _)]
              generalize w.contains (j : Int) = o at *
              refine awp_exit (?_ : Awp _ _ _ _ _ _)
              by_cases hia : i < am.length
              · have q1 : decide ((i : Int) < (am.length : Int)) = true := decide_eq_true (by omega)
                have q1b : decide (i < am.length) = true := decide_eq_true hia
                have hav := hav hia
                have hai := hai hia
                have wv : IntKind.i64.wrap (X.getD j 0 + a) = X.getD j 0 + a := by rw [IntKind.wrap_i64]; omega
                cases o with
                | false =>
                  rw [cond_false] at eP
                  clear eZ hai2 eK
                  generalize hPN : pkT X w a (j + 1) = PN at *
                  generalize pkT X w a j = PJ at *
                  (repeat (first | refine awp_reg_seq rfl fun k => ?_ | refine awp_reg rfl fun k => ?_ | refine awp_false rfl ?_ | refine awp_skip (?_ : Awp _ _ _ _ _ _) | (first | refine runk_off rfl rfl rfl rfl rfl ?_ | refine runk_off rfl rfl rfl (by assumption) rfl ?_ | refine runk_offN rfl rfl rfl rfl rfl ?_ | refine runk_offU rfl rfl rfl rfl ?_ | refine runk_offUN rfl rfl rfl rfl ?_) | (apply runk0 rfl rfl (opok_move rfl ?_) ?_; rotate_left 1; (· (conv => (lhs; whnf)))) | (apply runk0 rfl rfl (opok_bin rfl ?_ ?_ ?_) ?_; rotate_left 3; (· (conv => (lhs; whnf))); (· (conv => (lhs; whnf))); (· (intro w; go_simp; first | done | rfl))) | (apply runk0 rfl rfl (opok_pick rfl ?_ ?_) ?_; rotate_left 2; (· (conv => (lhs; whnf))); (· first | exact pick_or | exact pick_and | (conv => (lhs; whnf)))) | refine runk_end (by kernel_rfl) ?_))
                  refine ⟨r - 1, by omega, j + 1, k7, by omega, ?_⟩
                  rw [hPN, eP]
                  (refine leB_of ?_ ?_; (· (repeat (first | exact EnvIs.nil | (refine EnvIs.cons ?_ ?_; (· first | rfl | ((conv => (lhs; whnf)); first | (simp [ints]; done) | (simp [ints]; omega))))))); (· (repeat (first | exact ObjsAre.nil | (refine ObjsAre.cons ?_ ?_; (· first | rfl | ((conv => (lhs; whnf)); first | (simp [ints]; done) | (simp [ints]; omega))))))))
                | true =>
                  rw [cond_true] at eP
                  clear eZ hai2 eK
                  generalize hPN : pkT X w a (j + 1) = PN at *
                  generalize pkT X w a j = PJ at *
                  generalize X.getD j 0 = u at *
                  (repeat (first | refine awp_reg_seq rfl fun k => ?_ | refine awp_reg rfl fun k => ?_ | refine awp_true rfl ?_ | (((apply runk0 rfl rfl (opok_index_ro rfl ?_ ?_ ?_ ?_ ?_ ?_ ?_) ?_; rotate_left 6; (· (conv => (lhs; whnf))); (· (conv => (lhs; whnf))); (· (conv => (lhs; whnf; arg 1; whnf))); (· (unfold sizeIs; conv => (lhs; whnf; arg 1; whnf))); (· first | exact widths_ints _ _ | rfl | simp [widths, AVal.flat]); (· first | omega | (simp; done) | (simp; omega)); (· first | assumption | (simp only [Int.toNat_natCast]; assumption))))) | (((apply runk0 rfl rfl (opok_elem _ rfl ?_ ?_ ?_ ?_ ?_ ?_ ?_ ?_) ?_; rotate_left 8; (· (conv => (lhs; whnf))); (· (conv => (lhs; whnf; arg 1; whnf; arg 2; whnf))); (· rfl); (· rfl); (· simp); (· rfl); (· first | assumption | (simp only [Int.toNat_natCast]; assumption) | (simp only [Int.reduceToNat]; assumption)); (· rfl)))) | (first | refine runk_ung rfl rfl rfl rfl ?_ | refine runk_ung rfl rfl rfl (by assumption) ?_) | (apply runk0 rfl rfl (opok_move rfl ?_) ?_; rotate_left 1; (· (conv => (lhs; whnf)))) | (first | (apply runk0 rfl rfl (opok_load rfl ?_ ?_ ?_ ?_) ?_; rotate_left 5; (· (conv => (lhs; whnf))); (· (conv => (lhs; whnf; arg 1; whnf; arg 2; whnf))); (· rfl); (· (conv => (lhs; whnf; arg 1; whnf)))) | (apply runk0 rfl rfl (opok_loadR rfl ?_ ?_ ?_) ?_; rotate_left 2; (· (conv => (lhs; whnf))); (· rfl); (· (conv => (lhs; whnf; arg 1; whnf))))) | (apply runk0 rfl rfl (opok_bin rfl ?_ ?_ ?_) ?_; rotate_left 3; (· (conv => (lhs; whnf))); (· (conv => (lhs; whnf))); (· (intro w; go_simp; first | done | rfl))) | (first | (apply runk0 rfl rfl (opok_lenO rfl ?_ ?_ ?_) ?_; rotate_left 5; (· (conv => (lhs; whnf))); (· (conv => (lhs; whnf; arg 1; whnf))); (· first | exact length_ints _ _ | rfl)) | (apply runk0 rfl rfl (opok_len_own rfl ?_ ?_) ?_; rotate_left 4; (· (conv => (lhs; whnf))); (· (conv => (lhs; whnf; arg 1; whnf)))) | (apply runk0 rfl rfl (opok_len rfl ?_ ?_ ?_) ?_; rotate_left 3; (· (conv => (lhs; whnf))); (· (conv => (lhs; whnf; arg 1; whnf))); (· first | exact length_ints _ _ | rfl))) | (apply runk0 rfl rfl (opok_pick rfl ?_ ?_) ?_; rotate_left 2; (· (conv => (lhs; whnf))); (· first | exact pick_or | exact pick_and | (conv => (lhs; whnf)))) | (apply runk0 rfl rfl (opok_index_own rfl ?_ ?_ ?_ ?_ ?_ ?_ ?_ ?_) ?_; rotate_left 10; (· (conv => (lhs; whnf))); (· (conv => (lhs; whnf; arg 1; whnf; arg 2; whnf))); (· (conv => (lhs; whnf))); (· (conv => (lhs; whnf; arg 1; whnf))); (· (unfold sizeIs; conv => (lhs; whnf; arg 1; whnf))); (· first | omega | (simp; done) | (simp; omega)); (· first | omega | (simp; done) | (simp; omega)); (· first | rfl | (simp; done) | (simp; omega))) | refine runk_end (by kernel_rfl) ?_ | (apply runk_setN rfl rfl rfl ?_ ?_ ?_ ?_ ?_ ?_ ?_; rotate_left 8; (· (conv => (lhs; whnf))); (· (conv => (lhs; whnf))); (· rfl); (· (unfold sizeIs; conv => (lhs; whnf; arg 1; whnf))); (· first | (simp only [Int.toNat_natCast, Nat.mul_one, Int.reduceToNat]; done) | (simp only [Int.toNat_natCast, Nat.mul_one, Int.reduceToNat]; rfl) | rfl); (· first | omega | (simp; done) | (simp; omega)))))
                  refine ⟨r - 1, by omega, j + 1, k7, by omega, ?_⟩
                  rw [hPN, eP]
                  (refine leB_of ?_ ?_; (· (repeat (first | exact EnvIs.nil | (refine EnvIs.cons ?_ ?_; (· first | rfl | ((conv => (lhs; whnf)); first | (simp [ints, wv, List.map_set]; done) | (simp [ints, wv, List.map_set]; omega))))))); (· (repeat (first | exact ObjsAre.nil | (refine ObjsAre.cons ?_ ?_; (· first | rfl | ((conv => (lhs; whnf)); first | (simp [ints, wv, List.map_set]; done) | (simp [ints, wv, List.map_set]; omega))))))))
              · have q1 : decide ((i : Int) < (am.length : Int)) = false := decide_eq_false (by omega)
                have q1b : decide (i < am.length) = false := decide_eq_false hia
                have h0 := hai2 (by omega)
                subst h0
                rw [eZ] at hvA ⊢
                clear eP eK hai hav
                cases o with
                | false =>
                  (repeat (first | refine awp_reg_seq rfl fun k => ?_ | refine awp_reg rfl fun k => ?_ | refine awp_false rfl ?_ | refine awp_skip (?_ : Awp _ _ _ _ _ _) | (first | refine runk_off rfl rfl rfl rfl rfl ?_ | refine runk_off rfl rfl rfl (by assumption) rfl ?_ | refine runk_offN rfl rfl rfl rfl rfl ?_ | refine runk_offU rfl rfl rfl rfl ?_ | refine runk_offUN rfl rfl rfl rfl ?_) | (apply runk0 rfl rfl (opok_move rfl ?_) ?_; rotate_left 1; (· (conv => (lhs; whnf)))) | (apply runk0 rfl rfl (opok_bin rfl ?_ ?_ ?_) ?_; rotate_left 3; (· (conv => (lhs; whnf))); (· (conv => (lhs; whnf))); (· (intro w; go_simp; first | done | rfl))) | (apply runk0 rfl rfl (opok_pick rfl ?_ ?_) ?_; rotate_left 2; (· (conv => (lhs; whnf))); (· first | exact pick_or | exact pick_and | (conv => (lhs; whnf)))) | refine runk_end (by kernel_rfl) ?_))
                  refine ⟨r - 1, by omega, j + 1, k7, by omega, ?_⟩
                  rw [eZ]
                  (refine leB_of ?_ ?_; (· (repeat (first | exact EnvIs.nil | (refine EnvIs.cons ?_ ?_; (· first | rfl | ((conv => (lhs; whnf)); first | (simp [ints]; done) | (simp [ints]; omega))))))); (· (repeat (first | exact ObjsAre.nil | (refine ObjsAre.cons ?_ ?_; (· first | rfl | ((conv => (lhs; whnf)); first | (simp [ints]; done) | (simp [ints]; omega))))))))
                | true =>
                  (repeat (first | refine awp_reg_seq rfl fun k => ?_ | refine awp_reg rfl fun k => ?_ | refine awp_false rfl ?_ | refine awp_skip (?_ : Awp _ _ _ _ _ _) | (first | refine runk_ung rfl rfl rfl rfl ?_ | refine runk_ung rfl rfl rfl (by assumption) ?_) | (apply runk0 rfl rfl (opok_move rfl ?_) ?_; rotate_left 1; (· (conv => (lhs; whnf)))) | (apply runk0 rfl rfl (opok_bin rfl ?_ ?_ ?_) ?_; rotate_left 3; (· (conv => (lhs; whnf))); (· (conv => (lhs; whnf))); (· (intro w; go_simp; first | done | rfl))) | (first | (apply runk0 rfl rfl (opok_lenO rfl ?_ ?_ ?_) ?_; rotate_left 5; (· (conv => (lhs; whnf))); (· (conv => (lhs; whnf; arg 1; whnf))); (· first | exact length_ints _ _ | rfl)) | (apply runk0 rfl rfl (opok_len_own rfl ?_ ?_) ?_; rotate_left 4; (· (conv => (lhs; whnf))); (· (conv => (lhs; whnf; arg 1; whnf)))) | (apply runk0 rfl rfl (opok_len rfl ?_ ?_ ?_) ?_; rotate_left 3; (· (conv => (lhs; whnf))); (· (conv => (lhs; whnf; arg 1; whnf))); (· first | exact length_ints _ _ | rfl))) | (apply runk0 rfl rfl (opok_pick rfl ?_ ?_) ?_; rotate_left 2; (· (conv => (lhs; whnf))); (· first | exact pick_or | exact pick_and | (conv => (lhs; whnf)))) | refine runk_end (by kernel_rfl) ?_))
                  refine ⟨r - 1, by omega, j + 1, k7, by omega, ?_⟩
                  rw [eZ]
                  (refine leB_of ?_ ?_; (· (repeat (first | exact EnvIs.nil | (refine EnvIs.cons ?_ ?_; (· first | rfl | ((conv => (lhs; whnf)); first | (simp [ints]; done) | (simp [ints]; omega))))))); (· (repeat (first | exact ObjsAre.nil | (refine ObjsAre.cons ?_ ?_; (· first | rfl | ((conv => (lhs; whnf)); first | (simp [ints]; done) | (simp [ints]; omega))))))))
        · have hje : j = ls.length := by simp at hc; omega
          subst hje
          clear hc
          rw [← hLl, pkT_all, ← eS]
          refine awp_exit (?_ : Awp _ _ _ _ _ _)
          (repeat (first | refine awp_reg rfl fun k => ?_ | (apply runk0 rfl rfl (opok_move rfl ?_) ?_; rotate_left 1; (· (conv => (lhs; whnf)))) | (apply runk0 rfl rfl (opok_bin rfl ?_ ?_ ?_) ?_; rotate_left 3; (· (conv => (lhs; whnf))); (· (conv => (lhs; whnf))); (· (intro w; go_simp; first | done | rfl))) | refine runk_end (by kernel_rfl) ?_))
          refine ⟨n - 1, by omega, i + 1, k7, by omega, ?_⟩
          rw [hY]
          (refine leB_of ?_ ?_; (· (repeat (first | exact EnvIs.nil | (refine EnvIs.cons ?_ ?_; (· first | rfl | ((conv => (lhs; whnf)); first | (simp [ints]; done) | (simp [ints]; omega))))))); (· (repeat (first | exact ObjsAre.nil | (refine ObjsAre.cons ?_ ?_; (· first | rfl | ((conv => (lhs; whnf)); first | (simp [ints]; done) | (simp [ints]; omega))))))))
    · have hie : i = ws.length := by simp at hc; omega
      subst hie
      clear hc hr hwl hal hal2 lS hl bd
      generalize L ws.length = XL at *
      refine awp_exit (?_ : Awp _ _ _ _ _ _)
      refine awp_less (st' := ⟨[(7, .own 7 k7 (ints .i64 XL).length)], [(7, some (k7, .row 3 1 (ints .i64 XL)))]⟩) ?_ ?_
      · (refine leB_of ?_ ?_; (· (repeat (first | exact EnvIs.nil | (refine EnvIs.cons ?_ ?_; (· first | rfl | ((conv => (lhs; whnf)); first | (simp [ints]; done) | (simp [ints]; omega))))))); (· (repeat (first | exact ObjsAre.nil | (refine ObjsAre.cons ?_ ?_; (· first | rfl | ((conv => (lhs; whnf)); first | (simp [ints]; done) | (simp [ints]; omega))))))))
      (refine awp_frz 7 k7 (ints .i64 XL) ([(7, .ro (ints .i64 XL))]) ([]) rfl ?_ ?_ ?_; (· (repeat (first | exact EnvFrz.nil | (refine EnvFrz.cons rfl ?_ ?_; (· first | exact .one (.same _) | (refine .one (.own _ ?_); first | rfl | (simp; done) | (simp only [length_ints]; omega)) | (refine .agg ?_; (repeat (first | exact Frzs.nil | (refine Frzs.cons ?_ ?_; (· first | exact Frz1.same _ | (refine Frz1.own _ ?_; first | rfl | (simp; done) | (simp only [length_ints]; omega)) | exact Frz1.any _))))) | (refine .tuple ?_; (repeat (first | exact Frzs.nil | (refine Frzs.cons ?_ ?_; (· first | exact Frz1.same _ | (refine Frz1.own _ ?_; first | rfl | (simp; done) | (simp only [length_ints]; omega)) | exact Frz1.any _)))))))))); (· (repeat (first | exact ObjsFrz.nil | (refine ObjsFrz.cons rfl rfl ?_ ?_; (· first | exact .same _ | (refine .box ?_; (repeat (first | exact Frzs.nil | (refine Frzs.cons ?_ ?_; (· first | exact Frz1.same _ | (refine Frz1.own _ ?_; first | rfl | (simp; done) | (simp only [length_ints]; omega)) | exact Frz1.any _))))) | (refine .row ?_ rfl; (repeat (first | exact Frzs.nil | (refine Frzs.cons ?_ ?_; (· first | exact Frz1.same _ | (refine Frz1.own _ ?_; first | rfl | (simp; done) | (simp only [length_ints]; omega)) | exact Frz1.any _)))))))))))
      (repeat (first | refine awp_reg_seq rfl fun k => ?_ | (refine awp_ret ?_; (apply ends_pure ?_ ?_ ?_ ?_ ?_ (.inl rfl); rotate_left 1; (· first | exact res_one rfl rfl | exact res_two rfl rfl rfl | exact res_none rfl | exact res_three rfl rfl rfl rfl | exact res_cell rfl rfl rfl rfl rfl | exact res_cell2 rfl rfl rfl rfl rfl rfl | exact res3 rfl (rv_cell rfl rfl rfl rfl) (rv_tmp rfl) (rv_tmp rfl) | exact res3 rfl (rv_cell rfl rfl rfl rfl) (rv_cell rfl rfl rfl rfl) (rv_cell rfl rfl rfl rfl)); (· first | rfl | ((conv => (lhs; whnf)); first | rfl | (simp; done))); (· first | rfl | (simp; done) | (simp [AVal.pure, AVal.pures, AObj.pure]; done)); (· rfl); (· rfl))) | (apply runk0 rfl rfl (opok_move rfl ?_) ?_; rotate_left 1; (· (conv => (lhs; whnf)))) | (apply runk0 rfl rfl (opok_assign rfl ?_) ?_; rotate_left 1; (· (conv => (lhs; whnf)))) | refine runk_end (by kernel_rfl) ?_))
end Go.Proofs.Ytpdiainbcekpiaa
