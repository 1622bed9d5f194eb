/-
  The maker of hops: the region that draws a role.
-/
import Derived.Test.YtagkpocagkfhoaaDeckM
import Derived.Test.YtagkpocagkfhoaaPart
import Derived.Test.YtagkpocagkfhoaaConn
namespace Go.Proofs.Ytagkpocagkfhoaa
open Go.RowKit
set_option maxRecDepth 100000 in
set_option maxHeartbeats 2000000 in
theorem hops9_0 (D H : Nat) (A : Option Addr) (n c : Nat) (zs : List Int) (s d r : Int) (w0 : World) (hdeck : Deck D A n c zs w0) (hH : Box H 56 #[.int .i64 s, .int .i64 d, .int .i64 r] w0) (hHD : ¬ H = D)
    {Q : Exit → Act → World → Prop} (y1 y2 y3 y4 y6 y8 y9 y10 y11 y12 y13 y14 y15 y16 y17 y18 y19 y20 y21 y22 y23 y24 y25 y26 y27 y28 y29 y30 y31 y32 y33 y34 y35 y36 y37 y38 y39 y40 y41 y42 y43 y44 y45 y46 y47 y48 y49 y50 y51 y52 y53 y54 y55 y56 y57 y58 : Value)
    (h : ∀ (W : World) (z : Int) (u27 u28 u29 u30 u31 u32 u33 u34 u35 u36 u37 u38 : Value), Stays (· = D) w0 W → Deck D A n c zs W → Box H 56 #[.int .i64 s, .int .i64 d, .int .i64 r] W → Q .normal { tmps := #[.pointer (some ⟨D, 0, none⟩), y1, y2, y3, y4, .int .i64 ((0 : Nat) : Int), y6, .pointer (some ⟨H, 0, none⟩), y8, y9, y10, y11, y12, y13, y14, y15, y16, y17, y18, y19, y20, y21, y22, y23, y24, y25, y26, u27, u28, u29, u30, u31, u32, u33, u34, u35, u36, u37, u38, y39, y40, y41, y42, y43, y44, y45, y46, y47, y48, y49, y50, y51, y52, y53, y54, y55, y56, y57, y58], defers := [] } (W.setCell ⟨H, 2, none⟩ (.int .i64 z))) :
    (regionAt Try.f14 9).wp Try.prog Q { tmps := #[.pointer (some ⟨D, 0, none⟩), y1, y2, y3, y4, .int .i64 ((0 : Nat) : Int), y6, .pointer (some ⟨H, 0, none⟩), y8, y9, y10, y11, y12, y13, y14, y15, y16, y17, y18, y19, y20, y21, y22, y23, y24, y25, y26, y27, y28, y29, y30, y31, y32, y33, y34, y35, y36, y37, y38, y39, y40, y41, y42, y43, y44, y45, y46, y47, y48, y49, y50, y51, y52, y53, y54, y55, y56, y57, y58], defers := [] } w0 := by
  conv in (regionAt _ _) => whnf
  refine Code.wp_mono (Q := fun e a w => match e with | .normal => Q .normal a w | _ => False) (fun e a w hx => by cases e <;> first | exact hx | exact hx.elim) ?_
  refine wp_region_tail 12 ((· = D)) (fun W => Deck D A n c zs W) (Stays ((· = D))) [isLit ((· = D)) (0) 3 #[.int .i64 3, .int .i64 2] 2, isLit ((· = D)) (0) 3 #[.int .i64 4, .int .i64 0] 2, isLit ((· = D)) (0) 3 #[.int .i64 0, .int .i64 1] 2, .fact (fun env v W => ∃ g, v = .slice (some ⟨g, 0, none⟩) 3 3 ∧ ¬ g = D ∧ Box g 22 #[env 0, env 1, env 2] W), isV (.int .i64 0), .fact (fun env v W => ∃ g, env 3 = .slice (some ⟨g, 0, none⟩) 3 3 ∧ v = .pointer (some ⟨g, 0, none⟩)), .fact (fun env v W => v = env 0), isV (.pointer (some ⟨D, 0, none⟩)), .fact (fun _ v _ => ∃ r : Nat, v = .int .i64 r ∧ r < 2), .fact (fun env v W => ∃ g r : Nat, env 0 = .slice (some ⟨g, 0, none⟩) 2 2 ∧ r < 2 ∧ v = .pointer (some ⟨g, r, none⟩)), .fact (fun _ v _ => ∃ z, v = .int .i64 z), isV (.pointer (some ⟨H, 2, none⟩))] (by kernel_rfl) (by kernel_rfl) (by kernel_rfl) (by kernel_rfl) hdeck (fun k h => by have h : k = D := h; subst h; exact hdeck.inside) (fun _ _ _ h => h) ?spr1 ?enr1
  case spr1 =>
    -- 0: Op.buildSlice 22 2 #[(0, const (3:i64)), (1, const (2:i64))]
    refine specs_cons (lit_made (Nat.zero_le _) _ _ _ rfl (fun k h => by have h : k = D := h; subst h; exact hdeck.inside) (fun _ _ hb hI => Deck.stays hI hb) fun env ρ W hW hI hF hS => ?_) ?_
    · have cc := hS.const
      go_simp
      try with_reducible rfl
    -- 1: Op.buildSlice 22 2 #[(0, const (4:i64)), (1, const (0:i64))]
    refine specs_cons (lit_made (Nat.zero_le _) _ _ _ rfl (fun k h => by have h : k = D := h; subst h; exact hdeck.inside) (fun _ _ hb hI => Deck.stays hI hb) fun env ρ W hW hI hF hS => ?_) ?_
    · have cc := hS.const
      go_simp
      try with_reducible rfl
    -- 2: Op.buildSlice 22 2 #[(0, const (0:i64)), (1, const (1:i64))]
    refine specs_cons (lit_made (Nat.zero_le _) _ _ _ rfl (fun k h => by have h : k = D := h; subst h; exact hdeck.inside) (fun _ _ hb hI => Deck.stays hI hb) fun env ρ W hW hI hF hS => ?_) ?_
    · have cc := hS.const
      go_simp
      try with_reducible rfl
    -- 3: Op.buildSlice 24 3 #[(0, t27), (1, t28), (2, t29)]
    refine specs_cons (mk_fact _ rfl (fun env env' v W he ⟨g, h1, h2, h3⟩ => ⟨g, h1, h2, by rw [← he 0 (by kernel_rfl), ← he 1 (by kernel_rfl), ← he 2 (by kernel_rfl)]; exact h3⟩) (fun _ _ _ _ hs ⟨g, h1, h2, h3⟩ => ⟨g, h1, h2, box_stays h3 hs h2⟩) fun env ρ W hW hI hF hS => ?_) ?_
    · have e27 := hS.at 27 (by kernel_rfl) (v := env 0) (by kernel_rfl); obtain ⟨g0, k0, ⟨l0, n0⟩, b0⟩ := hF 0 (by kernel_rfl); have e28 := hS.at 28 (by kernel_rfl) (v := env 1) (by kernel_rfl); obtain ⟨g1, k1, ⟨l1, n1⟩, b1⟩ := hF 1 (by kernel_rfl); have e29 := hS.at 29 (by kernel_rfl) (v := env 2) (by kernel_rfl); obtain ⟨g2, k2, ⟨l2, n2⟩, b2⟩ := hF 2 (by kernel_rfl)
      rw [k0] at e27
      rw [k1] at e28
      rw [k2] at e29
      refine ⟨.slice (some ⟨W.heap.size, 0, none⟩) 3 3, W.alloc (.cells #[.slice (some ⟨g0, 0, none⟩) 2 2, .slice (some ⟨g1, 0, none⟩) 2 2, .slice (some ⟨g2, 0, none⟩) 2 2] 22), by go_simp, Stays.alloc _ _ _, Deck.stays hI ((Below.refl _ _).alloc (Nat.le_refl _) _), W.heap.size, rfl, (by have := Deck.inside hI; omega), ?_⟩
      rw [k0, k1, k2]
      exact Box.made _ _ _
    -- 4: Op.move t5
    refine specs_cons (cst _ rfl fun env ρ W hW hI hF hS => ?_) ?_
    · have e5 := hS.at 5 (by kernel_rfl) (slot_base (by kernel_rfl))
      go_simp
      try with_reducible rfl
    -- 5: Op.indexAddr 24 t30 t31
    refine specs_cons (val_fact _ rfl (fun env env' v W he ⟨g, h1, h2⟩ => ⟨g, (he 3 (by kernel_rfl)).symm.trans h1, h2⟩) (fun _ _ _ _ _ h => h) fun env ρ W hW hI hF hS => ?_) ?_
    · have hc := stays_cells hW; have e30 := hS.at 30 (by kernel_rfl) (v := env 3) (by kernel_rfl); obtain ⟨g3, v3, n3, b3⟩ := hF 3 (by kernel_rfl); have e31 := (hS.at 31 (by kernel_rfl) (v := env 4) (by kernel_rfl)).trans (hF 4 (by kernel_rfl))
      rw [v3] at e30
      refine ⟨_, by (go_simp; rfl), ?_⟩
      exact ⟨g3, v3, rfl⟩
    -- 6: Op.load 22 t32
    refine specs_cons (val_fact _ rfl (fun env env' v W he h => h.trans (he 0 (by kernel_rfl))) (fun _ _ _ _ _ h => h) fun env ρ W hW hI hF hS => ?_) ?_
    · have hc := stays_cells hW; have e32 := hS.at 32 (by kernel_rfl) (v := env 5) (by kernel_rfl); obtain ⟨g5, u5, v5⟩ := hF 5 (by kernel_rfl)
      obtain ⟨g3, v3, n3, b3⟩ := hF 3 (by kernel_rfl); have hg : g3 = g5 := (by have h9 := v3.symm.trans u5; simpa using h9); have cK : W.cell? ⟨g5, 0, none⟩ = some (env 0) := hg ▸ b3.at_ 0
      refine ⟨_, by (go_simp; rfl), ?_⟩
      exact rfl
    -- 7: Op.move t0
    refine specs_cons (cst _ rfl fun env ρ W hW hI hF hS => ?_) ?_
    · have e0 := hS.at 0 (by kernel_rfl) (slot_base (by kernel_rfl))
      go_simp
      try with_reducible rfl
    -- 8: Op.call { value (Operand.func 28), args := #[t34, const (2:i64)], argT
    refine specs_cons (call_fact _ rfl (fun _ _ _ _ _ h => h) (fun _ _ _ _ _ h => h) fun env ρ W hW hI hF hS => ?_) ?_
    · have hc := stays_cells hW; have cf := hS.func; have cc := hS.const; have e34 := (hS.at 34 (by kernel_rfl) (v := env 7) (by kernel_rfl)).trans (hF 7 (by kernel_rfl))
      refine ⟨_, _, ?_, (next_any D A n c zs 2 W (by omega) (by omega) hI).mono ?_⟩
      · go_simp
      · rintro e w' ⟨r, rfl, ⟨p0, p1⟩, hd, hs⟩
        exact ⟨_, rfl, hs, hd, r.toNat, by rw [Int.toNat_of_nonneg p0], by omega⟩
    -- 9: Op.indexAddr 22 t33 t35
    refine specs_cons (val_fact _ rfl (fun env env' v W he ⟨g, r, h1, h2, h3⟩ => ⟨g, r, (he 0 (by kernel_rfl)).symm.trans h1, h2, h3⟩) (fun _ _ _ _ _ h => h) fun env ρ W hW hI hF hS => ?_) ?_
    · have hc := stays_cells hW; have e33 := hS.at 33 (by kernel_rfl) (v := env 6) (by kernel_rfl); obtain v6 := hF 6 (by kernel_rfl); have e35 := hS.at 35 (by kernel_rfl) (v := env 8) (by kernel_rfl); obtain ⟨r8, v8, q8⟩ := hF 8 (by kernel_rfl)
      obtain ⟨gK, kK, ⟨lK, nK⟩, bK⟩ := hF 0 (by kernel_rfl); rw [v6, kK] at e33; rw [v8] at e35; have q8' : (r8 : Int) < 2 := by omega
      refine ⟨_, by (go_simp; rfl), ?_⟩
      exact ⟨gK, r8, kK, q8, rfl⟩
    -- 10: Op.load 3 t36
    refine specs_cons (val_fact _ rfl (fun _ _ _ _ _ h => h) (fun _ _ _ _ _ h => h) fun env ρ W hW hI hF hS => ?_) ?_
    · have hc := stays_cells hW; have e36 := hS.at 36 (by kernel_rfl) (v := env 9) (by kernel_rfl); obtain ⟨g9, r9, u9, q9, v9⟩ := hF 9 (by kernel_rfl)
      obtain ⟨gK, kK, ⟨lK, nK⟩, bK⟩ := hF 0 (by kernel_rfl); have hg : gK = g9 := (by have h9 := kK.symm.trans u9; simpa using h9); have hcell : ∃ z, W.cell? ⟨g9, r9, none⟩ = some (.int .i64 z) := (by subst hg; rcases (show r9 = 0 ∨ r9 = 1 by omega) with rfl | rfl; exact ⟨_, bK.at_ 0⟩; exact ⟨_, bK.at_ 1⟩); obtain ⟨z, hz⟩ := hcell
      refine ⟨_, by (go_simp; rfl), ?_⟩
      exact ⟨_, rfl⟩
    -- 11: Op.fieldAddr 56 t7 2
    refine specs_cons (cst _ rfl fun env ρ W hW hI hF hS => ?_) ?_
    · have e7 := hS.at 7 (by kernel_rfl) (slot_base (by kernel_rfl))
      go_simp
      try with_reducible rfl
    exact specs_nil
  case enr1 =>
    intro env W K
    obtain ⟨g0, k0, ⟨l0, x0⟩, b0⟩ := K.facts 0 (by decide) rfl
    obtain ⟨g1, k1, ⟨l1, x1⟩, b1⟩ := K.facts 1 (by decide) rfl
    obtain ⟨g2, k2, ⟨l2, x2⟩, b2⟩ := K.facts 2 (by decide) rfl
    obtain ⟨g3, v3, n3, b3⟩ := K.facts 3 (by decide) rfl
    have f4 : env 4 = _ := K.facts 4 (by decide) rfl
    obtain ⟨g5, u5, v5⟩ := K.facts 5 (by decide) rfl
    obtain v6 := K.facts 6 (by decide) rfl
    have f7 : env 7 = _ := K.facts 7 (by decide) rfl
    obtain ⟨r8, v8, q8⟩ := K.facts 8 (by decide) rfl
    obtain ⟨g9, r9, u9, q9, v9⟩ := K.facts 9 (by decide) rfl
    obtain ⟨z10, v10⟩ := K.facts 10 (by decide) rfl
    have f11 : env 11 = _ := K.facts 11 (by decide) rfl
    have hgrow := K.stays.of_drew
    have hinv := K.inv
    clear K
    simp only [List.take_succ_cons, List.take_zero, List.drop_zero, List.drop_succ_cons, putAll, Nat.reduceAdd]
    simp only [Act.put, List.setIfInBounds_toArray, List.set_cons_succ, List.set_cons_zero, k0, k1, k2, v3, f4, v5, v6, f7, v8, v9, v10, f11]
    clear f4 f7 f11
    have hH' := box_stays hH hgrow hHD
    have hH2 := hH'.at_ 2; have hHo := hH'.open_ 2
    have hfin := fun u27 u28 u29 u30 u31 u32 u33 u34 u35 u36 u37 u38 => h W z10 u27 u28 u29 u30 u31 u32 u33 u34 u35 u36 u37 u38 hgrow hinv hH'
    have hfin := Lib.hid hfin
    go_wp2
    exact hfin.out _ _ _ _ _ _ _ _ _ _ _ _
set_option maxRecDepth 100000 in
set_option maxHeartbeats 2000000 in
theorem hops9_1 (D H : Nat) (A : Option Addr) (n c : Nat) (zs : List Int) (s d r : Int) (w0 : World) (hdeck : Deck D A n c zs w0) (hH : Box H 56 #[.int .i64 s, .int .i64 d, .int .i64 r] w0) (hHD : ¬ H = D)
    {Q : Exit → Act → World → Prop} (y1 y2 y3 y4 y6 y8 y9 y10 y11 y12 y13 y14 y15 y16 y17 y18 y19 y20 y21 y22 y23 y24 y25 y26 y27 y28 y29 y30 y31 y32 y33 y34 y35 y36 y37 y38 y39 y40 y41 y42 y43 y44 y45 y46 y47 y48 y49 y50 y51 y52 y53 y54 y55 y56 y57 y58 : Value)
    (h : ∀ (W : World) (z : Int) (u27 u28 u29 u30 u31 u32 u33 u34 u35 u36 u37 u38 : Value), Stays (· = D) w0 W → Deck D A n c zs W → Box H 56 #[.int .i64 s, .int .i64 d, .int .i64 r] W → Q .normal { tmps := #[.pointer (some ⟨D, 0, none⟩), y1, y2, y3, y4, .int .i64 ((1 : Nat) : Int), y6, .pointer (some ⟨H, 0, none⟩), y8, y9, y10, y11, y12, y13, y14, y15, y16, y17, y18, y19, y20, y21, y22, y23, y24, y25, y26, u27, u28, u29, u30, u31, u32, u33, u34, u35, u36, u37, u38, y39, y40, y41, y42, y43, y44, y45, y46, y47, y48, y49, y50, y51, y52, y53, y54, y55, y56, y57, y58], defers := [] } (W.setCell ⟨H, 2, none⟩ (.int .i64 z))) :
    (regionAt Try.f14 9).wp Try.prog Q { tmps := #[.pointer (some ⟨D, 0, none⟩), y1, y2, y3, y4, .int .i64 ((1 : Nat) : Int), y6, .pointer (some ⟨H, 0, none⟩), y8, y9, y10, y11, y12, y13, y14, y15, y16, y17, y18, y19, y20, y21, y22, y23, y24, y25, y26, y27, y28, y29, y30, y31, y32, y33, y34, y35, y36, y37, y38, y39, y40, y41, y42, y43, y44, y45, y46, y47, y48, y49, y50, y51, y52, y53, y54, y55, y56, y57, y58], defers := [] } w0 := by
  conv in (regionAt _ _) => whnf
  refine Code.wp_mono (Q := fun e a w => match e with | .normal => Q .normal a w | _ => False) (fun e a w hx => by cases e <;> first | exact hx | exact hx.elim) ?_
  refine wp_region_tail 12 ((· = D)) (fun W => Deck D A n c zs W) (Stays ((· = D))) [isLit ((· = D)) (0) 3 #[.int .i64 3, .int .i64 2] 2, isLit ((· = D)) (0) 3 #[.int .i64 4, .int .i64 0] 2, isLit ((· = D)) (0) 3 #[.int .i64 0, .int .i64 1] 2, .fact (fun env v W => ∃ g, v = .slice (some ⟨g, 0, none⟩) 3 3 ∧ ¬ g = D ∧ Box g 22 #[env 0, env 1, env 2] W), isV (.int .i64 1), .fact (fun env v W => ∃ g, env 3 = .slice (some ⟨g, 0, none⟩) 3 3 ∧ v = .pointer (some ⟨g, 1, none⟩)), .fact (fun env v W => v = env 1), isV (.pointer (some ⟨D, 0, none⟩)), .fact (fun _ v _ => ∃ r : Nat, v = .int .i64 r ∧ r < 2), .fact (fun env v W => ∃ g r : Nat, env 1 = .slice (some ⟨g, 0, none⟩) 2 2 ∧ r < 2 ∧ v = .pointer (some ⟨g, r, none⟩)), .fact (fun _ v _ => ∃ z, v = .int .i64 z), isV (.pointer (some ⟨H, 2, none⟩))] (by kernel_rfl) (by kernel_rfl) (by kernel_rfl) (by kernel_rfl) hdeck (fun k h => by have h : k = D := h; subst h; exact hdeck.inside) (fun _ _ _ h => h) ?spr2 ?enr2
  case spr2 =>
    -- 0: Op.buildSlice 22 2 #[(0, const (3:i64)), (1, const (2:i64))]
    refine specs_cons (lit_made (Nat.zero_le _) _ _ _ rfl (fun k h => by have h : k = D := h; subst h; exact hdeck.inside) (fun _ _ hb hI => Deck.stays hI hb) fun env ρ W hW hI hF hS => ?_) ?_
    · have cc := hS.const
      go_simp
      try with_reducible rfl
    -- 1: Op.buildSlice 22 2 #[(0, const (4:i64)), (1, const (0:i64))]
    refine specs_cons (lit_made (Nat.zero_le _) _ _ _ rfl (fun k h => by have h : k = D := h; subst h; exact hdeck.inside) (fun _ _ hb hI => Deck.stays hI hb) fun env ρ W hW hI hF hS => ?_) ?_
    · have cc := hS.const
      go_simp
      try with_reducible rfl
    -- 2: Op.buildSlice 22 2 #[(0, const (0:i64)), (1, const (1:i64))]
    refine specs_cons (lit_made (Nat.zero_le _) _ _ _ rfl (fun k h => by have h : k = D := h; subst h; exact hdeck.inside) (fun _ _ hb hI => Deck.stays hI hb) fun env ρ W hW hI hF hS => ?_) ?_
    · have cc := hS.const
      go_simp
      try with_reducible rfl
    -- 3: Op.buildSlice 24 3 #[(0, t27), (1, t28), (2, t29)]
    refine specs_cons (mk_fact _ rfl (fun env env' v W he ⟨g, h1, h2, h3⟩ => ⟨g, h1, h2, by rw [← he 0 (by kernel_rfl), ← he 1 (by kernel_rfl), ← he 2 (by kernel_rfl)]; exact h3⟩) (fun _ _ _ _ hs ⟨g, h1, h2, h3⟩ => ⟨g, h1, h2, box_stays h3 hs h2⟩) fun env ρ W hW hI hF hS => ?_) ?_
    · have e27 := hS.at 27 (by kernel_rfl) (v := env 0) (by kernel_rfl); obtain ⟨g0, k0, ⟨l0, n0⟩, b0⟩ := hF 0 (by kernel_rfl); have e28 := hS.at 28 (by kernel_rfl) (v := env 1) (by kernel_rfl); obtain ⟨g1, k1, ⟨l1, n1⟩, b1⟩ := hF 1 (by kernel_rfl); have e29 := hS.at 29 (by kernel_rfl) (v := env 2) (by kernel_rfl); obtain ⟨g2, k2, ⟨l2, n2⟩, b2⟩ := hF 2 (by kernel_rfl)
      rw [k0] at e27
      rw [k1] at e28
      rw [k2] at e29
      refine ⟨.slice (some ⟨W.heap.size, 0, none⟩) 3 3, W.alloc (.cells #[.slice (some ⟨g0, 0, none⟩) 2 2, .slice (some ⟨g1, 0, none⟩) 2 2, .slice (some ⟨g2, 0, none⟩) 2 2] 22), by go_simp, Stays.alloc _ _ _, Deck.stays hI ((Below.refl _ _).alloc (Nat.le_refl _) _), W.heap.size, rfl, (by have := Deck.inside hI; omega), ?_⟩
      rw [k0, k1, k2]
      exact Box.made _ _ _
    -- 4: Op.move t5
    refine specs_cons (cst _ rfl fun env ρ W hW hI hF hS => ?_) ?_
    · have e5 := hS.at 5 (by kernel_rfl) (slot_base (by kernel_rfl))
      go_simp
      try with_reducible rfl
    -- 5: Op.indexAddr 24 t30 t31
    refine specs_cons (val_fact _ rfl (fun env env' v W he ⟨g, h1, h2⟩ => ⟨g, (he 3 (by kernel_rfl)).symm.trans h1, h2⟩) (fun _ _ _ _ _ h => h) fun env ρ W hW hI hF hS => ?_) ?_
    · have hc := stays_cells hW; have e30 := hS.at 30 (by kernel_rfl) (v := env 3) (by kernel_rfl); obtain ⟨g3, v3, n3, b3⟩ := hF 3 (by kernel_rfl); have e31 := (hS.at 31 (by kernel_rfl) (v := env 4) (by kernel_rfl)).trans (hF 4 (by kernel_rfl))
      rw [v3] at e30
      refine ⟨_, by (go_simp; rfl), ?_⟩
      exact ⟨g3, v3, rfl⟩
    -- 6: Op.load 22 t32
    refine specs_cons (val_fact _ rfl (fun env env' v W he h => h.trans (he 1 (by kernel_rfl))) (fun _ _ _ _ _ h => h) fun env ρ W hW hI hF hS => ?_) ?_
    · have hc := stays_cells hW; have e32 := hS.at 32 (by kernel_rfl) (v := env 5) (by kernel_rfl); obtain ⟨g5, u5, v5⟩ := hF 5 (by kernel_rfl)
      obtain ⟨g3, v3, n3, b3⟩ := hF 3 (by kernel_rfl); have hg : g3 = g5 := (by have h9 := v3.symm.trans u5; simpa using h9); have cK : W.cell? ⟨g5, 1, none⟩ = some (env 1) := hg ▸ b3.at_ 1
      refine ⟨_, by (go_simp; rfl), ?_⟩
      exact rfl
    -- 7: Op.move t0
    refine specs_cons (cst _ rfl fun env ρ W hW hI hF hS => ?_) ?_
    · have e0 := hS.at 0 (by kernel_rfl) (slot_base (by kernel_rfl))
      go_simp
      try with_reducible rfl
    -- 8: Op.call { value (Operand.func 28), args := #[t34, const (2:i64)], argT
    refine specs_cons (call_fact _ rfl (fun _ _ _ _ _ h => h) (fun _ _ _ _ _ h => h) fun env ρ W hW hI hF hS => ?_) ?_
    · have hc := stays_cells hW; have cf := hS.func; have cc := hS.const; have e34 := (hS.at 34 (by kernel_rfl) (v := env 7) (by kernel_rfl)).trans (hF 7 (by kernel_rfl))
      refine ⟨_, _, ?_, (next_any D A n c zs 2 W (by omega) (by omega) hI).mono ?_⟩
      · go_simp
      · rintro e w' ⟨r, rfl, ⟨p0, p1⟩, hd, hs⟩
        exact ⟨_, rfl, hs, hd, r.toNat, by rw [Int.toNat_of_nonneg p0], by omega⟩
    -- 9: Op.indexAddr 22 t33 t35
    refine specs_cons (val_fact _ rfl (fun env env' v W he ⟨g, r, h1, h2, h3⟩ => ⟨g, r, (he 1 (by kernel_rfl)).symm.trans h1, h2, h3⟩) (fun _ _ _ _ _ h => h) fun env ρ W hW hI hF hS => ?_) ?_
    · have hc := stays_cells hW; have e33 := hS.at 33 (by kernel_rfl) (v := env 6) (by kernel_rfl); obtain v6 := hF 6 (by kernel_rfl); have e35 := hS.at 35 (by kernel_rfl) (v := env 8) (by kernel_rfl); obtain ⟨r8, v8, q8⟩ := hF 8 (by kernel_rfl)
      obtain ⟨gK, kK, ⟨lK, nK⟩, bK⟩ := hF 1 (by kernel_rfl); rw [v6, kK] at e33; rw [v8] at e35; have q8' : (r8 : Int) < 2 := by omega
      refine ⟨_, by (go_simp; rfl), ?_⟩
      exact ⟨gK, r8, kK, q8, rfl⟩
    -- 10: Op.load 3 t36
    refine specs_cons (val_fact _ rfl (fun _ _ _ _ _ h => h) (fun _ _ _ _ _ h => h) fun env ρ W hW hI hF hS => ?_) ?_
    · have hc := stays_cells hW; have e36 := hS.at 36 (by kernel_rfl) (v := env 9) (by kernel_rfl); obtain ⟨g9, r9, u9, q9, v9⟩ := hF 9 (by kernel_rfl)
      obtain ⟨gK, kK, ⟨lK, nK⟩, bK⟩ := hF 1 (by kernel_rfl); have hg : gK = g9 := (by have h9 := kK.symm.trans u9; simpa using h9); have hcell : ∃ z, W.cell? ⟨g9, r9, none⟩ = some (.int .i64 z) := (by subst hg; rcases (show r9 = 0 ∨ r9 = 1 by omega) with rfl | rfl; exact ⟨_, bK.at_ 0⟩; exact ⟨_, bK.at_ 1⟩); obtain ⟨z, hz⟩ := hcell
      refine ⟨_, by (go_simp; rfl), ?_⟩
      exact ⟨_, rfl⟩
    -- 11: Op.fieldAddr 56 t7 2
    refine specs_cons (cst _ rfl fun env ρ W hW hI hF hS => ?_) ?_
    · have e7 := hS.at 7 (by kernel_rfl) (slot_base (by kernel_rfl))
      go_simp
      try with_reducible rfl
    exact specs_nil
  case enr2 =>
    intro env W K
    obtain ⟨g0, k0, ⟨l0, x0⟩, b0⟩ := K.facts 0 (by decide) rfl
    obtain ⟨g1, k1, ⟨l1, x1⟩, b1⟩ := K.facts 1 (by decide) rfl
    obtain ⟨g2, k2, ⟨l2, x2⟩, b2⟩ := K.facts 2 (by decide) rfl
    obtain ⟨g3, v3, n3, b3⟩ := K.facts 3 (by decide) rfl
    have f4 : env 4 = _ := K.facts 4 (by decide) rfl
    obtain ⟨g5, u5, v5⟩ := K.facts 5 (by decide) rfl
    obtain v6 := K.facts 6 (by decide) rfl
    have f7 : env 7 = _ := K.facts 7 (by decide) rfl
    obtain ⟨r8, v8, q8⟩ := K.facts 8 (by decide) rfl
    obtain ⟨g9, r9, u9, q9, v9⟩ := K.facts 9 (by decide) rfl
    obtain ⟨z10, v10⟩ := K.facts 10 (by decide) rfl
    have f11 : env 11 = _ := K.facts 11 (by decide) rfl
    have hgrow := K.stays.of_drew
    have hinv := K.inv
    clear K
    simp only [List.take_succ_cons, List.take_zero, List.drop_zero, List.drop_succ_cons, putAll, Nat.reduceAdd]
    simp only [Act.put, List.setIfInBounds_toArray, List.set_cons_succ, List.set_cons_zero, k0, k1, k2, v3, f4, v5, v6, f7, v8, v9, v10, f11]
    clear f4 f7 f11
    have hH' := box_stays hH hgrow hHD
    have hH2 := hH'.at_ 2; have hHo := hH'.open_ 2
    have hfin := fun u27 u28 u29 u30 u31 u32 u33 u34 u35 u36 u37 u38 => h W z10 u27 u28 u29 u30 u31 u32 u33 u34 u35 u36 u37 u38 hgrow hinv hH'
    have hfin := Lib.hid hfin
    go_wp2
    exact hfin.out _ _ _ _ _ _ _ _ _ _ _ _
set_option maxRecDepth 100000 in
set_option maxHeartbeats 2000000 in
theorem hops9_2 (D H : Nat) (A : Option Addr) (n c : Nat) (zs : List Int) (s d r : Int) (w0 : World) (hdeck : Deck D A n c zs w0) (hH : Box H 56 #[.int .i64 s, .int .i64 d, .int .i64 r] w0) (hHD : ¬ H = D)
    {Q : Exit → Act → World → Prop} (y1 y2 y3 y4 y6 y8 y9 y10 y11 y12 y13 y14 y15 y16 y17 y18 y19 y20 y21 y22 y23 y24 y25 y26 y27 y28 y29 y30 y31 y32 y33 y34 y35 y36 y37 y38 y39 y40 y41 y42 y43 y44 y45 y46 y47 y48 y49 y50 y51 y52 y53 y54 y55 y56 y57 y58 : Value)
    (h : ∀ (W : World) (z : Int) (u27 u28 u29 u30 u31 u32 u33 u34 u35 u36 u37 u38 : Value), Stays (· = D) w0 W → Deck D A n c zs W → Box H 56 #[.int .i64 s, .int .i64 d, .int .i64 r] W → Q .normal { tmps := #[.pointer (some ⟨D, 0, none⟩), y1, y2, y3, y4, .int .i64 ((2 : Nat) : Int), y6, .pointer (some ⟨H, 0, none⟩), y8, y9, y10, y11, y12, y13, y14, y15, y16, y17, y18, y19, y20, y21, y22, y23, y24, y25, y26, u27, u28, u29, u30, u31, u32, u33, u34, u35, u36, u37, u38, y39, y40, y41, y42, y43, y44, y45, y46, y47, y48, y49, y50, y51, y52, y53, y54, y55, y56, y57, y58], defers := [] } (W.setCell ⟨H, 2, none⟩ (.int .i64 z))) :
    (regionAt Try.f14 9).wp Try.prog Q { tmps := #[.pointer (some ⟨D, 0, none⟩), y1, y2, y3, y4, .int .i64 ((2 : Nat) : Int), y6, .pointer (some ⟨H, 0, none⟩), y8, y9, y10, y11, y12, y13, y14, y15, y16, y17, y18, y19, y20, y21, y22, y23, y24, y25, y26, y27, y28, y29, y30, y31, y32, y33, y34, y35, y36, y37, y38, y39, y40, y41, y42, y43, y44, y45, y46, y47, y48, y49, y50, y51, y52, y53, y54, y55, y56, y57, y58], defers := [] } w0 := by
  conv in (regionAt _ _) => whnf
  refine Code.wp_mono (Q := fun e a w => match e with | .normal => Q .normal a w | _ => False) (fun e a w hx => by cases e <;> first | exact hx | exact hx.elim) ?_
  refine wp_region_tail 12 ((· = D)) (fun W => Deck D A n c zs W) (Stays ((· = D))) [isLit ((· = D)) (0) 3 #[.int .i64 3, .int .i64 2] 2, isLit ((· = D)) (0) 3 #[.int .i64 4, .int .i64 0] 2, isLit ((· = D)) (0) 3 #[.int .i64 0, .int .i64 1] 2, .fact (fun env v W => ∃ g, v = .slice (some ⟨g, 0, none⟩) 3 3 ∧ ¬ g = D ∧ Box g 22 #[env 0, env 1, env 2] W), isV (.int .i64 2), .fact (fun env v W => ∃ g, env 3 = .slice (some ⟨g, 0, none⟩) 3 3 ∧ v = .pointer (some ⟨g, 2, none⟩)), .fact (fun env v W => v = env 2), isV (.pointer (some ⟨D, 0, none⟩)), .fact (fun _ v _ => ∃ r : Nat, v = .int .i64 r ∧ r < 2), .fact (fun env v W => ∃ g r : Nat, env 2 = .slice (some ⟨g, 0, none⟩) 2 2 ∧ r < 2 ∧ v = .pointer (some ⟨g, r, none⟩)), .fact (fun _ v _ => ∃ z, v = .int .i64 z), isV (.pointer (some ⟨H, 2, none⟩))] (by kernel_rfl) (by kernel_rfl) (by kernel_rfl) (by kernel_rfl) hdeck (fun k h => by have h : k = D := h; subst h; exact hdeck.inside) (fun _ _ _ h => h) ?spr3 ?enr3
  case spr3 =>
    -- 0: Op.buildSlice 22 2 #[(0, const (3:i64)), (1, const (2:i64))]
    refine specs_cons (lit_made (Nat.zero_le _) _ _ _ rfl (fun k h => by have h : k = D := h; subst h; exact hdeck.inside) (fun _ _ hb hI => Deck.stays hI hb) fun env ρ W hW hI hF hS => ?_) ?_
    · have cc := hS.const
      go_simp
      try with_reducible rfl
    -- 1: Op.buildSlice 22 2 #[(0, const (4:i64)), (1, const (0:i64))]
    refine specs_cons (lit_made (Nat.zero_le _) _ _ _ rfl (fun k h => by have h : k = D := h; subst h; exact hdeck.inside) (fun _ _ hb hI => Deck.stays hI hb) fun env ρ W hW hI hF hS => ?_) ?_
    · have cc := hS.const
      go_simp
      try with_reducible rfl
    -- 2: Op.buildSlice 22 2 #[(0, const (0:i64)), (1, const (1:i64))]
    refine specs_cons (lit_made (Nat.zero_le _) _ _ _ rfl (fun k h => by have h : k = D := h; subst h; exact hdeck.inside) (fun _ _ hb hI => Deck.stays hI hb) fun env ρ W hW hI hF hS => ?_) ?_
    · have cc := hS.const
      go_simp
      try with_reducible rfl
    -- 3: Op.buildSlice 24 3 #[(0, t27), (1, t28), (2, t29)]
    refine specs_cons (mk_fact _ rfl (fun env env' v W he ⟨g, h1, h2, h3⟩ => ⟨g, h1, h2, by rw [← he 0 (by kernel_rfl), ← he 1 (by kernel_rfl), ← he 2 (by kernel_rfl)]; exact h3⟩) (fun _ _ _ _ hs ⟨g, h1, h2, h3⟩ => ⟨g, h1, h2, box_stays h3 hs h2⟩) fun env ρ W hW hI hF hS => ?_) ?_
    · have e27 := hS.at 27 (by kernel_rfl) (v := env 0) (by kernel_rfl); obtain ⟨g0, k0, ⟨l0, n0⟩, b0⟩ := hF 0 (by kernel_rfl); have e28 := hS.at 28 (by kernel_rfl) (v := env 1) (by kernel_rfl); obtain ⟨g1, k1, ⟨l1, n1⟩, b1⟩ := hF 1 (by kernel_rfl); have e29 := hS.at 29 (by kernel_rfl) (v := env 2) (by kernel_rfl); obtain ⟨g2, k2, ⟨l2, n2⟩, b2⟩ := hF 2 (by kernel_rfl)
      rw [k0] at e27
      rw [k1] at e28
      rw [k2] at e29
      refine ⟨.slice (some ⟨W.heap.size, 0, none⟩) 3 3, W.alloc (.cells #[.slice (some ⟨g0, 0, none⟩) 2 2, .slice (some ⟨g1, 0, none⟩) 2 2, .slice (some ⟨g2, 0, none⟩) 2 2] 22), by go_simp, Stays.alloc _ _ _, Deck.stays hI ((Below.refl _ _).alloc (Nat.le_refl _) _), W.heap.size, rfl, (by have := Deck.inside hI; omega), ?_⟩
      rw [k0, k1, k2]
      exact Box.made _ _ _
    -- 4: Op.move t5
    refine specs_cons (cst _ rfl fun env ρ W hW hI hF hS => ?_) ?_
    · have e5 := hS.at 5 (by kernel_rfl) (slot_base (by kernel_rfl))
      go_simp
      try with_reducible rfl
    -- 5: Op.indexAddr 24 t30 t31
    refine specs_cons (val_fact _ rfl (fun env env' v W he ⟨g, h1, h2⟩ => ⟨g, (he 3 (by kernel_rfl)).symm.trans h1, h2⟩) (fun _ _ _ _ _ h => h) fun env ρ W hW hI hF hS => ?_) ?_
    · have hc := stays_cells hW; have e30 := hS.at 30 (by kernel_rfl) (v := env 3) (by kernel_rfl); obtain ⟨g3, v3, n3, b3⟩ := hF 3 (by kernel_rfl); have e31 := (hS.at 31 (by kernel_rfl) (v := env 4) (by kernel_rfl)).trans (hF 4 (by kernel_rfl))
      rw [v3] at e30
      refine ⟨_, by (go_simp; rfl), ?_⟩
      exact ⟨g3, v3, rfl⟩
    -- 6: Op.load 22 t32
    refine specs_cons (val_fact _ rfl (fun env env' v W he h => h.trans (he 2 (by kernel_rfl))) (fun _ _ _ _ _ h => h) fun env ρ W hW hI hF hS => ?_) ?_
    · have hc := stays_cells hW; have e32 := hS.at 32 (by kernel_rfl) (v := env 5) (by kernel_rfl); obtain ⟨g5, u5, v5⟩ := hF 5 (by kernel_rfl)
      obtain ⟨g3, v3, n3, b3⟩ := hF 3 (by kernel_rfl); have hg : g3 = g5 := (by have h9 := v3.symm.trans u5; simpa using h9); have cK : W.cell? ⟨g5, 2, none⟩ = some (env 2) := hg ▸ b3.at_ 2
      refine ⟨_, by (go_simp; rfl), ?_⟩
      exact rfl
    -- 7: Op.move t0
    refine specs_cons (cst _ rfl fun env ρ W hW hI hF hS => ?_) ?_
    · have e0 := hS.at 0 (by kernel_rfl) (slot_base (by kernel_rfl))
      go_simp
      try with_reducible rfl
    -- 8: Op.call { value (Operand.func 28), args := #[t34, const (2:i64)], argT
    refine specs_cons (call_fact _ rfl (fun _ _ _ _ _ h => h) (fun _ _ _ _ _ h => h) fun env ρ W hW hI hF hS => ?_) ?_
    · have hc := stays_cells hW; have cf := hS.func; have cc := hS.const; have e34 := (hS.at 34 (by kernel_rfl) (v := env 7) (by kernel_rfl)).trans (hF 7 (by kernel_rfl))
      refine ⟨_, _, ?_, (next_any D A n c zs 2 W (by omega) (by omega) hI).mono ?_⟩
      · go_simp
      · rintro e w' ⟨r, rfl, ⟨p0, p1⟩, hd, hs⟩
        exact ⟨_, rfl, hs, hd, r.toNat, by rw [Int.toNat_of_nonneg p0], by omega⟩
    -- 9: Op.indexAddr 22 t33 t35
    refine specs_cons (val_fact _ rfl (fun env env' v W he ⟨g, r, h1, h2, h3⟩ => ⟨g, r, (he 2 (by kernel_rfl)).symm.trans h1, h2, h3⟩) (fun _ _ _ _ _ h => h) fun env ρ W hW hI hF hS => ?_) ?_
    · have hc := stays_cells hW; have e33 := hS.at 33 (by kernel_rfl) (v := env 6) (by kernel_rfl); obtain v6 := hF 6 (by kernel_rfl); have e35 := hS.at 35 (by kernel_rfl) (v := env 8) (by kernel_rfl); obtain ⟨r8, v8, q8⟩ := hF 8 (by kernel_rfl)
      obtain ⟨gK, kK, ⟨lK, nK⟩, bK⟩ := hF 2 (by kernel_rfl); rw [v6, kK] at e33; rw [v8] at e35; have q8' : (r8 : Int) < 2 := by omega
      refine ⟨_, by (go_simp; rfl), ?_⟩
      exact ⟨gK, r8, kK, q8, rfl⟩
    -- 10: Op.load 3 t36
    refine specs_cons (val_fact _ rfl (fun _ _ _ _ _ h => h) (fun _ _ _ _ _ h => h) fun env ρ W hW hI hF hS => ?_) ?_
    · have hc := stays_cells hW; have e36 := hS.at 36 (by kernel_rfl) (v := env 9) (by kernel_rfl); obtain ⟨g9, r9, u9, q9, v9⟩ := hF 9 (by kernel_rfl)
      obtain ⟨gK, kK, ⟨lK, nK⟩, bK⟩ := hF 2 (by kernel_rfl); have hg : gK = g9 := (by have h9 := kK.symm.trans u9; simpa using h9); have hcell : ∃ z, W.cell? ⟨g9, r9, none⟩ = some (.int .i64 z) := (by subst hg; rcases (show r9 = 0 ∨ r9 = 1 by omega) with rfl | rfl; exact ⟨_, bK.at_ 0⟩; exact ⟨_, bK.at_ 1⟩); obtain ⟨z, hz⟩ := hcell
      refine ⟨_, by (go_simp; rfl), ?_⟩
      exact ⟨_, rfl⟩
    -- 11: Op.fieldAddr 56 t7 2
    refine specs_cons (cst _ rfl fun env ρ W hW hI hF hS => ?_) ?_
    · have e7 := hS.at 7 (by kernel_rfl) (slot_base (by kernel_rfl))
      go_simp
      try with_reducible rfl
    exact specs_nil
  case enr3 =>
    intro env W K
    obtain ⟨g0, k0, ⟨l0, x0⟩, b0⟩ := K.facts 0 (by decide) rfl
    obtain ⟨g1, k1, ⟨l1, x1⟩, b1⟩ := K.facts 1 (by decide) rfl
    obtain ⟨g2, k2, ⟨l2, x2⟩, b2⟩ := K.facts 2 (by decide) rfl
    obtain ⟨g3, v3, n3, b3⟩ := K.facts 3 (by decide) rfl
    have f4 : env 4 = _ := K.facts 4 (by decide) rfl
    obtain ⟨g5, u5, v5⟩ := K.facts 5 (by decide) rfl
    obtain v6 := K.facts 6 (by decide) rfl
    have f7 : env 7 = _ := K.facts 7 (by decide) rfl
    obtain ⟨r8, v8, q8⟩ := K.facts 8 (by decide) rfl
    obtain ⟨g9, r9, u9, q9, v9⟩ := K.facts 9 (by decide) rfl
    obtain ⟨z10, v10⟩ := K.facts 10 (by decide) rfl
    have f11 : env 11 = _ := K.facts 11 (by decide) rfl
    have hgrow := K.stays.of_drew
    have hinv := K.inv
    clear K
    simp only [List.take_succ_cons, List.take_zero, List.drop_zero, List.drop_succ_cons, putAll, Nat.reduceAdd]
    simp only [Act.put, List.setIfInBounds_toArray, List.set_cons_succ, List.set_cons_zero, k0, k1, k2, v3, f4, v5, v6, f7, v8, v9, v10, f11]
    clear f4 f7 f11
    have hH' := box_stays hH hgrow hHD
    have hH2 := hH'.at_ 2; have hHo := hH'.open_ 2
    have hfin := fun u27 u28 u29 u30 u31 u32 u33 u34 u35 u36 u37 u38 => h W z10 u27 u28 u29 u30 u31 u32 u33 u34 u35 u36 u37 u38 hgrow hinv hH'
    have hfin := Lib.hid hfin
    go_wp2
    exact hfin.out _ _ _ _ _ _ _ _ _ _ _ _
end Go.Proofs.Ytagkpocagkfhoaa
