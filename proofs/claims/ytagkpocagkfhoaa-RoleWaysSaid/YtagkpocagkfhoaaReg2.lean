/-
  A region that draws its order, with a tail that has more orders than one. No program is named here.
-/
import Derived.Test.YtagkpocagkfhoaaUse
namespace Go.Proofs.Ytagkpocagkfhoaa
open Go.RowKit
section
variable {P : Program} {ops : Array Oper} {base : Act} {Q : Exit → Act → World → Prop}
def tailOpen (ops : Array Oper) (m : Nat) : Bool :=
  decide (m ≤ ops.size) && (List.range ops.size).all fun i => decide (i < m) || (List.range m).all fun j => pre ops i j
theorem wpOp_val {i : Nat} {o : Oper} {K : Act → World → Prop} {a : Act} {w : World} {v : Value} (ho : ops[i]? = some o) (hg : o.guard = none) (hr : (execOp a.eval o).run P w = .ok (.value v) w) (hK : K (a.put o.dst v) w) : wpOp P ops Q i K a w := by
  unfold wpOp
  rw [ho]
  simp only [Region.wanted, hg, if_true]
  refine .inl ?_
  unfold Oper.wp
  rw [hr]
  exact hK
theorem wpOp_skip {i : Nat} {o : Oper} {K : Act → World → Prop} {a : Act} {w w' : World} (ho : ops[i]? = some o) (hg : o.guard = none) (hr : (execOp a.eval o).run P w = .ok .skip w') (hK : K (a.put o.dst undef) w') : wpOp P ops Q i K a w := by
  unfold wpOp
  rw [ho]
  simp only [Region.wanted, hg, if_true]
  refine .inl ?_
  unfold Oper.wp
  rw [hr]
  exact hK
/-- One step: what is ready is known. -/
theorem any_step {md : Region.Mode} {n : Nat} {listed : Array Bool} {a : Act} {w : World} (l : List Nat) (hl : Region.ready md ops listed = l) (hne : l ≠ []) (h : ∀ i ∈ l, wpOp P ops Q i (wpAny P md ops Q n (listed.setIfInBounds i true)) a w) : wpAny P md ops Q (n + 1) listed a w :=
  ⟨fun e => absurd (hl.symm.trans e) hne, fun i hi => h i (hl ▸ hi)⟩
theorem any_done {md : Region.Mode} {listed : Array Bool} {a : Act} {w : World} (hl : Region.ready md ops listed = []) (h : Q .normal a w) : wpAny P md ops Q 0 listed a w := ⟨hl, h⟩
/-- The same, where the operations behind the first m may come in more orders than one. -/
theorem wp_region_open {id : Nat} {w : World} (m : Nat) (X : Nat → Prop) (I : World → Prop) (E : World → World → Prop) (Ks : List Kind) (hm : P.follows .mixedOrders = true) (hok : regionOk ops base = true) (hpo : putsOk Ks = true) (htl : tailOpen ops m = true) (hI : I w.drew)
    (hX : ∀ k, X k → k < w.drew.heap.size) (hE : ∀ W W', Stays X w.drew W → Stays X W W' → E W W')
    (hs : Specs P ops base X I E w.drew Ks 0 (ops.toList.take m) Ks)
    (hend : ∀ env W, Known m X I w.drew Ks (fun _ => true) env W → wpAny P .any ops Q (ops.size - m) (headArr m ops.size) (putAll (ops.toList.take m) env 0 base) W) :
    (Code.region id ops true).wp P Q base w := by
  have ok := regionOk_spec hok
  have someOf : ∀ s m t C, kindAt Ks s = .put m t C → Ks[s]? = some (.put m t C) := fun s m t C h => by
    unfold kindAt at h
    rw [List.getD_eq_getElem?_getD] at h
    cases hk : Ks[s]? with
    | none => rw [hk] at h; cases h
    | some k => rw [hk] at h; simp at h; rw [h]
  have once : ∀ {s i m t t' C C'}, kindAt Ks s = .put m t C → kindAt Ks i = .put m t' C' → s = i := fun h h' => puts_once hpo (someOf _ _ _ _ h) (someOf _ _ _ _ h')
  simp only [tailOpen, Bool.and_eq_true, decide_eq_true_eq, List.all_eq_true, List.mem_range, Bool.or_eq_true] at htl
  obtain ⟨hmn, hwait⟩ := htl
  have at_ : ∀ i o, i < m → ops[i]? = some o → (kindAt Ks i).spec P ops base X I E w.drew Ks i o := fun i o hi h => by
    obtain ⟨k, h1, h2⟩ := specs_at (ops.toList.take m) Ks 0 hs i o (by rw [List.getElem?_take_of_lt hi]; simpa using h)
    rw [Nat.zero_add] at h2
    rw [kindAt_some h1]; exact h2
  refine wp_region_any hm ?_
  have hnil : ∀ n env, actL ops base (fun _ => false) env (down n) = base := by
    intro n env
    induction n with
    | zero => rfl
    | succ n ih => simp only [down, actL, Bool.false_eq_true, if_false, ih]
  have main := region_any (P := P) (Q := Q) ok hmn (fun i j hi1 hi2 hj => (hwait i hi2).resolve_left (by omega) j hj) (Known m X I w.drew Ks) ?_ ?_ m (Array.replicate ops.size false) (fun _ => false) (fun _ => undef) w.drew (by simp) (by intro i hi; simp [hi]) (by intro j h; cases h) (by intro i j _ _ h; cases h)
    (by
      refine ⟨Stays.refl _ _, hI, ?_, ?_, ?_⟩
      · intro i _ h; cases h
      · intro i t z _ h; cases h
      · intro i j t z t' z' _ _ h; cases h) ?_
  · rw [hnil, show m + (ops.size - m) = ops.size by omega] at main
    exact main
  · intro i o him ho L env A W hcl hLm hLi hpre K hsees
    have hlt := (Array.getElem?_eq_some_iff.1 ho).1
    have hpl : ∀ j, pre ops i j = true → j < ops.size := fun j hp => by
      rcases Nat.lt_or_ge j ops.size with h | h
      · exact h
      · simp [pre, show ¬ j < ops.size by omega] at hp
    have hspec := at_ i o him ho
    have hfacts : ∀ j, pre ops i j = true → (kindAt Ks j).holds w.drew.heap.size env W j := fun j hp => K.facts j (hLm j (hpre j (hpl j hp) hp)) (hpre j (hpl j hp) hp)
    -- a value of those before k is as it was
    have agree : ∀ v k, k < m → (k = i ∨ L k = true) → ∀ j, pre ops k j = true → env j = updE env i v j := fun v k hk hki j hp => by
      have hjs : j < ops.size := by
        rcases Nat.lt_or_ge j ops.size with h | h
        · exact h
        · simp [pre, show ¬ j < ops.size by omega] at hp
      have hji : j ≠ i := by
        intro e
        subst e
        rcases hki with rfl | hLk'
        · have := ok.preLess _ _ (by omega) (by omega) hp; omega
        · have := hcl k j (by omega) hlt hLk' hp
          rw [hLi] at this; cases this
      simp [updE, hji]
    have eSelf : ∀ v, updE env i v i = v := fun v => by simp [updE]
    have eOther : ∀ v k, k ≠ i → updE env i v k = env k := fun v k h => by simp [updE, h]
    have lOther : ∀ k, k ≠ i → updL L i k = true → L k = true := fun k h hl => by unfold updL at hl; rwa [if_neg h] at hl
    -- whoever is listed keeps its fact
    have keep : ∀ v W', E W W' → W.heap.size ≤ W'.heap.size → (∀ g t z, w.drew.heap.size ≤ g → Box g t z W → (∀ m t' C, kindAt Ks i = .put m t' C → env m ≠ ptr g) → Box g t z W') →
        ∀ k, k < m → k ≠ i → L k = true → (kindAt Ks k).holds w.drew.heap.size (updE env i v) W' k := by
      intro v W' he hsz hbox k hk hki hLk
      have h4 := K.facts k hk hLk
      have hsk := at_ k (ops[k]'(by omega)) hk (Array.getElem?_eq_getElem (by omega))
      cases hkk : kindAt Ks k with
      | fact r =>
        rw [hkk] at h4 hsk
        simp only [Kind.holds, Kind.spec] at h4 hsk ⊢
        rw [eOther v k hki]
        exact hsk.1 env _ _ W' (agree v k hk (.inr hLk)) (hsk.2.1 _ _ _ _ he h4)
      | made t z =>
        rw [hkk] at h4
        simp only [Kind.holds] at h4 ⊢
        rw [eOther v k hki]
        obtain ⟨g, g1, g2, g3⟩ := h4
        exact ⟨g, g1, g2, by omega⟩
      | put q t C =>
        rw [hkk] at h4 hsk
        simp only [Kind.holds, Kind.spec] at h4 hsk ⊢
        obtain ⟨g, g1, g2, g3⟩ := h4
        obtain ⟨hm1, hm2, hm3, -, hm6, -⟩ := hsk
        have hmi : q ≠ i := by
          intro e; subst e
          have := hcl k q (by omega) hlt hLk hm2
          rw [hLi] at this; cases this
        rw [eOther v q hmi, ← hm6 env _ (agree v k hk (.inr hLk))]
        refine ⟨g, g1, g2, hbox g t _ g2 g3 fun m' t' C' hk' he' => ?_⟩
        -- i fills the box of m', and that is m's
        have hsi := hspec
        rw [hk'] at hsi
        simp only [Kind.spec] at hsi
        obtain ⟨hm'1, hm'2, ⟨z', hm'3⟩, -⟩ := hsi
        obtain ⟨z, hm3⟩ := hm3
        have hmm : q = m' := K.alone q m' _ _ _ _ (hLm q (hcl k q (by omega) hm1 hLk hm2)) (hLm m' (hpre m' hm'1 hm'2)) (hcl k q (by omega) hm1 hLk hm2) (hpre m' hm'1 hm'2) hm3 hm'3 (by rw [g1, he'])
        subst hmm
        exact hki (once hkk hk')
    cases hki : kindAt Ks i with
    | fact r =>
      rw [hki] at hspec
      simp only [Kind.spec] at hspec
      obtain ⟨hloc, hstab, hop⟩ := hspec
      have hstep := hop env A W K.stays K.inv hfacts hsees
      have fin : ∀ v W', (Stays X W W' ∧ I W' ∧ r env v W') → Known m X I w.drew Ks (updL L i) (updE env i v) W' := by
        intro v W' ⟨g1, g2, g3⟩
        have hbx : ∀ g t z, w.drew.heap.size ≤ g → Box g t z W → Box g t z W' := fun g t z hg hb => by
          show W'.heap[g]? = _
          rw [g1.block g hb.inside (fun hx => by have := hX g hx; omega)]
          exact hb
        refine ⟨K.stays.trans g1, g2, fun k hk hLk => ?_, fun k t z hk hLk hkk hput => ?_, fun a b t z t' z' ha hb hLa hLb hka hkb he => ?_⟩
        · by_cases e : k = i
          · subst e
            rw [hki]
            simp only [Kind.holds]
            rw [eSelf]
            exact hloc env _ v W' (agree v k hk (.inl rfl)) g3
          · exact keep v W' (hE _ _ K.stays g1) g1.size (fun g t z hg hb _ => hbx g t z hg hb) k hk e (lOther k e hLk)
        · have e : k ≠ i := fun e => by subst e; rw [hki] at hkk; cases hkk
          obtain ⟨g, g4, g5, g6⟩ := K.made k t z hk (lOther k e hLk) hkk (fun s t' C hs' hks => by
            have h9 := hput s t' C hs' hks
            unfold updL at h9
            by_cases e' : s = i
            · subst e'; rw [hki] at hks; cases hks
            · rwa [if_neg e'] at h9)
          exact ⟨g, by rw [eOther v k e]; exact g4, g5, hbx g t z g5 g6⟩
        · have e1 : a ≠ i := fun e => by subst e; rw [hki] at hka; cases hka
          have e2 : b ≠ i := fun e => by subst e; rw [hki] at hkb; cases hkb
          rw [eOther v a e1, eOther v b e2] at he
          exact K.alone a b _ _ _ _ ha hb (lOther a e1 hLa) (lOther b e2 hLb) hka hkb he
      unfold OpStep at hstep ⊢
      split
      · rename_i hw
        rw [if_pos hw] at hstep
        exact specUpon_mono hstep fin
      · rename_i hw
        rw [if_neg hw] at hstep
        exact fin _ _ hstep
    | made t z =>
      rw [hki] at hspec
      simp only [Kind.spec] at hspec
      obtain ⟨hIa, hop⟩ := hspec
      have hstep := hop A W
      have fin : ∀ v W', (v = ptr W.heap.size ∧ W' = W.alloc (.cells z t)) → Known m X I w.drew Ks (updL L i) (updE env i v) W' := by
        rintro v W' ⟨rfl, rfl⟩
        have g1 := Stays.alloc X W (.cells z t)
        have hbx : ∀ g t' z', w.drew.heap.size ≤ g → Box g t' z' W → Box g t' z' (W.alloc (.cells z t)) := fun g t' z' _ hb => hb.past _
        have hptr : ∀ k t z, k < m → L k = true → kindAt Ks k = .made t z → env k ≠ ptr W.heap.size := fun k t z hk hLk hkk he => by
          have := K.facts k hk hLk
          rw [hkk] at this
          simp only [Kind.holds] at this
          obtain ⟨g, g2, _, g3⟩ := this
          rw [g2] at he
          have := ptr_inj he
          omega
        refine ⟨K.stays.trans g1, hIa _ K.inv, fun k hk hLk => ?_, fun k t' z' hk hLk hkk hput => ?_, fun a b t1 z1 t2 z2 ha hb hLa hLb hka hkb he => ?_⟩
        · by_cases e : k = i
          · subst e
            rw [hki]
            simp only [Kind.holds]
            rw [eSelf]
            exact ⟨_, rfl, K.stays.size, by simp⟩
          · exact keep _ _ (hE _ _ K.stays g1) g1.size (fun g t' z' hg hb _ => hbx g t' z' hg hb) k hk e (lOther k e hLk)
        · by_cases e : k = i
          · subst e
            rw [hki] at hkk
            injection hkk with e1 e2
            subst e1; subst e2
            exact ⟨W.heap.size, by rw [eSelf], K.stays.size, Box.made _ _ _⟩
          · obtain ⟨g, g4, g5, g6⟩ := K.made k t' z' hk (lOther k e hLk) hkk (fun s t'' C hs' hks => by
              have h9 := hput s t'' C hs' hks
              unfold updL at h9
              by_cases e' : s = i
              · subst e'; rw [hki] at hks; cases hks
              · rwa [if_neg e'] at h9)
            exact ⟨g, by rw [eOther _ k e]; exact g4, g5, hbx g t' z' g5 g6⟩
        · by_cases e1 : a = i
          · by_cases e2 : b = i
            · omega
            · rw [e1, eSelf, eOther _ b e2] at he
              exact absurd he.symm (hptr b _ _ hb (lOther b e2 hLb) hkb)
          · by_cases e2 : b = i
            · rw [e2, eSelf, eOther _ a e1] at he
              exact absurd he (hptr a _ _ ha (lOther a e1 hLa) hka)
            · rw [eOther _ a e1, eOther _ b e2] at he
              exact K.alone a b _ _ _ _ ha hb (lOther a e1 hLa) (lOther b e2 hLb) hka hkb he
      unfold OpStep at hstep ⊢
      split
      · rename_i hw
        rw [if_pos hw] at hstep
        exact specUpon_mono hstep fin
      · rename_i hw
        rw [if_neg hw] at hstep
        exact fin _ _ hstep
    | put q t C =>
      rw [hki] at hspec
      simp only [Kind.spec] at hspec
      obtain ⟨hm1, hm2, ⟨z, hm3⟩, hEP, hloc, hop⟩ := hspec
      have hLq := hpre q hm1 hm2
      obtain ⟨g, g1, g2, g3⟩ := K.made q t z (hLm q hLq) hLq hm3 (fun s t' C' _ hks => by rw [once hks hki]; exact hLi)
      have hstep := hop env A W g z K.stays K.inv hfacts hm3 g1 g3 hsees
      have fin : ∀ v W', (Box g t (C env) W' ∧ OnlyBlock g W W') → Known m X I w.drew Ks (updL L i) (updE env i v) W' := by
        rintro v W' ⟨b1, b2⟩
        have hmi : q ≠ i := by
          intro e; subst e
          have := ok.preLess q q hlt hlt hm2; omega
        obtain ⟨q1, q2⟩ := hEP g W W' g2 b2
        refine ⟨b2.stays K.stays g2, q2 K.inv, fun k hk hLk => ?_, fun k t' z' hk hLk hkk hput => ?_, fun a b t1 z1 t2 z2 ha hb hLa hLb hka hkb he => ?_⟩
        · by_cases e : k = i
          · subst e
            rw [hki]
            simp only [Kind.holds]
            rw [eOther v q hmi, ← hloc env _ (agree v k hk (.inl rfl))]
            exact ⟨g, g1, g2, b1⟩
          · refine keep v W' q1 (by rw [b2.size]; exact Nat.le_refl _) (fun g' t' z' hg hb hno => ?_) k hk e (lOther k e hLk)
            have hne : g' ≠ g := fun e' => by subst e'; exact hno q t C hki g1
            show W'.heap[g']? = _
            rw [b2.block g' hne]; exact hb
        · have e : k ≠ i := fun e => by subst e; rw [hki] at hkk; cases hkk
          have hkm : k ≠ q := fun e' => by
            subst e'
            have := hput i t C him hki
            simp [updL] at this
          obtain ⟨g', g4, g5, g6⟩ := K.made k t' z' hk (lOther k e hLk) hkk (fun s t'' C' hs' hks => by
            have h9 := hput s t'' C' hs' hks
            unfold updL at h9
            by_cases e' : s = i
            · subst e'; simp at h9
            · rwa [if_neg e'] at h9)
          have hne : g' ≠ g := fun e' => by
            subst e'
            exact hkm (K.alone k q _ _ _ _ hk (hLm q hLq) (lOther k e hLk) hLq hkk hm3 (by rw [g4, g1]))
          refine ⟨g', by rw [eOther v k e]; exact g4, g5, ?_⟩
          show W'.heap[g']? = _
          rw [b2.block g' hne]; exact g6
        · have e1 : a ≠ i := fun e => by subst e; rw [hki] at hka; cases hka
          have e2 : b ≠ i := fun e => by subst e; rw [hki] at hkb; cases hkb
          rw [eOther v a e1, eOther v b e2] at he
          exact K.alone a b _ _ _ _ ha hb (lOther a e1 hLa) (lOther b e2 hLb) hka hkb he
      unfold OpStep at hstep ⊢
      split
      · rename_i hw
        rw [if_pos hw] at hstep
        exact specUpon_mono hstep fin
      · rename_i hw
        rw [if_neg hw] at hstep
        exact fin _ _ hstep
  · intro L env W hall K
    have K' : Known m X I w.drew Ks (fun _ => true) env W := ⟨K.stays, K.inv, fun i hi _ => K.facts i hi (hall i hi), fun i t z hi _ hk hput => K.made i t z hi (hall i hi) hk fun s t' C hs' hks => (by
      have := hput s t' C hs' hks
      cases this), fun i j t z t' z' hi hj _ _ => K.alone i j t z t' z' hi hj (hall i hi) (hall j hj)⟩
    have h1 := hend env W K'
    rw [← actL_all env m hmn] at h1
    exact h1
  · have : ∀ n, (down n).countP (fun _ => !false) = n := by
      intro n
      induction n with
      | zero => rfl
      | succ n ih => simp only [down, List.countP_cons, ih]; simp
    exact this _
end
end Go.Proofs.Ytagkpocagkfhoaa
