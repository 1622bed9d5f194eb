/-
  The theorem on regions: what is found in the text's order holds in every order that may be drawn. No program is named here.
-/
import Derived.Test.YtojapodjlpffdaaAbs
namespace Go.Proofs.Ytojapodjlpffdaa
open Go.RowKit
section
variable (st0 : St) (trs : List Tr) (ops : Array Oper)
def trAt (i : Nat) : Tr := trs.getD i default
def objL (L : Nat → Bool) : Nat → Objs
  | 0 => st0.obj
  | i + 1 => if L i then updW (objL L i) (trAt trs i).wr else objL L i
def objA : Nat → Objs := objL st0 trs fun _ => true
def getA : Nat → Nat → AVal
  | 0, t => st0.get t
  | i + 1, t => if dstOf ops i = some t then (trAt trs i).v else getA i t
end
section
variable {st0 : St} {trs : List Tr} {ops : Array Oper} {L : Nat → Bool}
theorem stN_at (hl : trs.length = ops.size) : ∀ i, i ≤ ops.size → (stN st0 (ops.toList.take i) (trs.take i)).obj = objA st0 trs i ∧ ∀ t, (stN st0 (ops.toList.take i) (trs.take i)).get t = getA st0 trs ops i t := by
  intro i
  induction i with
  | zero => intro _; exact ⟨rfl, fun _ => rfl⟩
  | succ i ih =>
    intro hi
    obtain ⟨h1, h2⟩ := ih (by omega)
    have ho : ops.toList[i]? = some ops[i] := by simp
    have htr : trs[i]? = some (trAt trs i) := by simp [trAt, List.getD_eq_getElem?_getD, List.getElem?_eq_getElem (show i < trs.length by omega)]
    have e : stN st0 (ops.toList.take (i + 1)) (trs.take (i + 1)) = (stN st0 (ops.toList.take i) (trs.take i)).put ops[i].dst (trAt trs i).v (trAt trs i).wr := by
      rw [List.take_add_one, List.take_add_one, ho, htr]
      exact stN_snoc _ _ _ _ _ (by simp [hl])
    have hd : dstOf ops i = ops[i].dst := by simp [dstOf, Array.getElem?_eq_getElem (show i < ops.size by omega)]
    rw [e]
    refine ⟨by rw [St.obj_put, h1]; rfl, fun t => ?_⟩
    rw [St.get_put, h2 t]
    simp only [getA, hd]

theorem objL_agree {n i : Nat} : ∀ m, (∀ j, j < m → n ∈ (trAt trs j).wr.names → L j = decide (j < i)) → objL st0 trs L m n = objA st0 trs (min m i) n := by
  intro m
  induction m with
  | zero => intro _; simp [objL, objA]
  | succ m ih =>
    intro h
    have ih' := ih fun j hj => h j (by omega)
    by_cases hn : n ∈ (trAt trs m).wr.names
    · have hL := h m (by omega) hn
      by_cases hmi : m < i
      · have e1 : min (m + 1) i = m + 1 := by omega
        have e2 : min m i = m := by omega
        rw [e1]
        rw [e2] at ih'
        simp only [objL, hL, hmi, decide_true, if_true, objA]
        exact updW_congr ih'
      · have e1 : min (m + 1) i = min m i := by omega
        rw [e1, ← ih']
        simp [objL, hL, hmi]
    · have e3 : objL st0 trs L (m + 1) n = objL st0 trs L m n := by
        simp only [objL]
        split
        · exact updW_off hn
        · rfl
      rw [e3, ih']
      by_cases hmi : m < i
      · have e1 : min (m + 1) i = m + 1 := by omega
        have e2 : min m i = m := by omega
        rw [e1, e2]
        simp only [objA, objL, if_true]
        exact (updW_off hn).symm
      · have e1 : min (m + 1) i = min m i := by omega
        rw [e1]

theorem updW_comm {obj : Objs} {a b : Writes} (h : ∀ n ∈ a.names, n ∉ b.names) : updW (updW obj a) b = updW (updW obj b) a := by
  funext n
  by_cases hb : n ∈ b.names
  · have ha : n ∉ a.names := fun ha => h n ha hb
    rw [updW_off ha (obj := updW obj b)]
    exact updW_congr (updW_off ha)
  · rw [updW_off hb (obj := updW obj a)]
    exact updW_congr (updW_off hb).symm

theorem objL_upd {i : Nat} (hi : L i = false) : ∀ m, i < m → (∀ j, i < j → j < m → L j = true → ∀ n ∈ (trAt trs i).wr.names, n ∉ (trAt trs j).wr.names) →
    objL st0 trs (updL L i) m = updW (objL st0 trs L m) (trAt trs i).wr := by
  have same : ∀ m, m ≤ i → objL st0 trs (updL L i) m = objL st0 trs L m := by
    intro m
    induction m with
    | zero => intro _; rfl
    | succ m ih =>
      intro hm
      have hne : m ≠ i := by omega
      simp only [objL, updL, hne, if_false, ih (by omega)]
  intro m
  induction m with
  | zero => intro h; omega
  | succ m ih =>
    intro hm hd
    by_cases hmi : m = i
    · subst hmi
      simp only [objL, updL, if_true, same m (Nat.le_refl _), hi, Bool.false_eq_true, if_false]
    · have him : i < m := by omega
      have ih' := ih him fun j h1 h2 => hd j h1 (by omega)
      simp only [objL, updL, hmi, if_false, ih']
      cases hL : L m with
      | false => simp
      | true =>
        simp only [if_true]
        exact updW_comm (hd m him (by omega) hL)
end

/-- Operations of which neither comes before the other touch no common object that one of them writes. -/
def apartTrs (ops : Array Oper) (trs : List Tr) : Bool :=
  (List.range ops.size).all fun i => (List.range ops.size).all fun j =>
    i == j || pre ops i j || pre ops j i || ((trAt trs j).wr.names.all fun n => !(trAt trs i).touch.contains n)
/-- Each name is made by one operation at the most. -/
def madeOnce (trs : List Tr) : Bool :=
  (List.range trs.length).all fun i => (List.range trs.length).all fun j => i == j || ((trAt trs j).made.all fun n => !(trAt trs i).made.contains n)
def dstsIn (N : Nat) (ops : Array Oper) : Bool := ops.all fun o => match o.dst with | some d => decide (d < N) | none => true
def regionChk (N : Nat) (ops : Array Oper) (trs : List Tr) (draw : Bool) : Bool :=
  dstsIn N ops && madeOnce trs && (!draw || (regionOk ops ⟨Array.replicate N undef, []⟩ && apartTrs ops trs))

section
variable {P : Program} {ops : Array Oper} {Q : Exit → Act → World → Prop}
theorem apartTrs_spec {trs : List Tr} (h : apartTrs ops trs = true) {i j : Nat} (hi : i < ops.size) (hj : j < ops.size) (hne : i ≠ j) (h1 : pre ops i j = false) (h2 : pre ops j i = false) :
    ∀ n ∈ (trAt trs j).wr.names, n ∉ (trAt trs i).touch := by
  simp only [apartTrs, List.all_eq_true, List.mem_range, Bool.or_eq_true, beq_iff_eq] at h
  rcases h i hi j hj with ((h | h) | h) | h
  · exact absurd h hne
  · rw [h1] at h; cases h
  · rw [h2] at h; cases h
  · intro n hn
    have := h n hn
    simpa using this
theorem madeOnce_spec {trs : List Tr} (h : madeOnce trs = true) {i j : Nat} (hi : i < trs.length) (hj : j < trs.length) (hne : i ≠ j) : ∀ n ∈ (trAt trs j).made, n ∉ (trAt trs i).made := by
  simp only [madeOnce, List.all_eq_true, List.mem_range, Bool.or_eq_true, beq_iff_eq] at h
  rcases h i hi j hj with h | h
  · exact absurd h hne
  · intro n hn
    have := h n hn
    simpa using this

theorem vrel_operand {ψ : Ghost} {prot : Nat → Prop} {w : World} {st : St} {A : Act} {o : Oper} (h : ∀ t ∈ o.looksAt ops, VRel ψ prot w (st.get t) (A.eval (.tmp t))) : ∀ x ∈ o.op.operands, VRel ψ prot w (st.aop x) (A.eval x) := by
  intro x hx
  cases x with
  | tmp t =>
    refine h t ?_
    simp only [Oper.looksAt, List.mem_append, List.mem_filterMap]
    exact .inl ⟨.tmp t, by simpa using hx, rfl⟩
  | const v => exact .val v
  | global g => exact .any _
  | func f => exact .fn f [] #[] rfl (fun i x v h => by simp at h)

/-- An operation at its turn, guarded or not. -/
theorem step_ok {k : Nat} {st : St} {o : Oper} {tr : Tr} (hs : Step P k ops st o tr) {ψ : Ghost} {prot : Nat → Prop} {obj : Objs} {w : World} {A : Act} (ht : ∀ n ∈ tr.touch, obj n = st.obj n)
    (hv : ∀ t ∈ o.looksAt ops, VRel ψ prot w (st.get t) (A.eval (.tmp t))) (r : RH ψ prot obj w) (hf : ∀ n ∈ tr.made, ψ n k = none) :
    OpStep P ops o A w fun cv w' => ∃ ψ' prot', Evolve ψ prot obj w ψ' prot' (updW obj tr.wr) w' ∧ RH ψ' prot' (updW obj tr.wr) w' ∧ VRel ψ' prot' w' tr.v cv ∧ ∀ n k', ψ' n k' ≠ none → ψ n k' ≠ none ∨ (k' = k ∧ n ∈ tr.made) := by
  rcases hs with ⟨hg, h⟩ | ⟨g, want, t, b, hg, hd, hb, h⟩
  · have hw : Region.wanted o (yielded ops A.tmps) = true := by simp [Region.wanted, hg]
    simp only [OpStep, hw, if_true]
    exact h.2 ψ prot obj w A.eval ht (vrel_operand hv) r hf
  · have htl : t ∈ o.looksAt ops := by
      simp only [Oper.looksAt, hg, List.mem_append]
      right
      have : (ops[g]?).bind (·.dst) = some t := hd
      simp [this]
    have h1 := hv t htl
    rw [hb] at h1
    have h2 : A.eval (.tmp t) = .bool b := h1.val_eq
    have hw := wanted_is hg hd h2
    rcases h with ⟨rfl, h⟩ | ⟨hne, ev, ew, em⟩
    · simp only [beq_self_eq_true] at hw
      simp only [OpStep, hw, if_true]
      exact h.2 ψ prot obj w A.eval ht (vrel_operand hv) r hf
    · have : (b == want) = false := by simpa using hne
      rw [this] at hw
      simp only [OpStep, hw, Bool.false_eq_true, if_false]
      have e : updW obj tr.wr = obj := by rw [ew]; rfl
      exact ⟨ψ, prot, by rw [e]; exact .refl _ _ _ _, by rw [e]; exact r, by rw [ev]; exact .any _, fun n k' h => .inl h⟩
theorem Step.named {k : Nat} {st : St} {o : Oper} {tr : Tr} (hs : Step P k ops st o tr) : ∀ n ∈ tr.wr.names, n ∈ tr.touch := by
  rcases hs with ⟨hg, h⟩ | ⟨g, want, t, b, hg, hd, hb, ⟨-, h⟩ | ⟨-, -, ew, -⟩⟩
  · exact h.1
  · exact h.1
  · intro n hn; rw [ew] at hn; simp [Writes.names] at hn

theorem awp_region {N : Nat} {ini : Ini} {id : Nat} {draw : Bool} {Q : Exit → St → Prop} {st : St} (hm : P.follows .mixedOrders = true)
    (h : ∀ k, ∃ trs st', RunOps P k ops ops.toList st trs st' ∧ regionChk N ops trs draw = true ∧ Q .normal st') : Awp P N ini (.region id ops draw) Q st := by
  rintro a w ⟨hdef, hsz, ψ0, prot0, hev, hrh, ⟨K, hK⟩, hvr⟩
  obtain ⟨trs, st', hrun, hchk, hq⟩ := h K
  obtain ⟨hlen, rfl, hstep⟩ := hrun.all
  have hlen' : trs.length = ops.size := by simpa using hlen
  simp only [regionChk, Bool.and_eq_true, Bool.or_eq_true, Bool.not_eq_true'] at hchk
  obtain ⟨⟨hdst, hmade⟩, hdraw⟩ := hchk
  have hdst' : ∀ j d, dstOf ops j = some d → d < a.tmps.size := fun j d hd => by
    unfold dstOf at hd
    cases ho : ops[j]? with
    | none => rw [ho] at hd; cases hd
    | some o =>
      rw [ho] at hd
      have hmem : o ∈ ops := Array.mem_of_getElem? ho
      have h1 := Array.all_eq_true_iff_forall_mem.1 hdst o hmem
      have h2 : o.dst = some d := hd
      rw [h2] at h1
      rw [hsz]
      simpa using h1
  have hst : ∀ i o, ops[i]? = some o → Step P K ops (stN st (ops.toList.take i) (trs.take i)) o (trAt trs i) := fun i o ho => by
    have hi := (Array.getElem?_eq_some_iff.1 ho).1
    refine hstep i o (trAt trs i) (by simpa using ho) ?_
    simp [trAt, List.getD_eq_getElem?_getD, List.getElem?_eq_getElem (show i < trs.length by omega)]
  have hfull : stN st ops.toList trs = stN st (ops.toList.take ops.size) (trs.take ops.size) := by
    rw [List.take_of_length_le (by simp), List.take_of_length_le (by omega)]
  have hend := stN_at (st0 := st) hlen' ops.size (Nat.le_refl _)
  rw [← hfull] at hend
  -- what is known of values, ghost and memory
  let Kn (L : Nat → Bool) (env : Env) (W : World) : Prop := ∃ ψ prot, Evolve ini.ψ ini.prot ini.obj ini.w ψ prot (objL st trs L ops.size) W ∧ RH ψ prot (objL st trs L ops.size) W ∧ (∀ n k', K < k' → ψ n k' = none) ∧
    (∀ n, ψ n K ≠ none → ∃ j, j < ops.size ∧ L j = true ∧ n ∈ (trAt trs j).made) ∧ (∀ t, VRel ψ prot W (st.get t) (a.eval (.tmp t))) ∧ ∀ j, j < ops.size → L j = true → VRel ψ prot W (trAt trs j).v (env j)
  have hobj0 : ∀ m, objL st trs (fun _ => false) m = st.obj := by
    intro m
    induction m with
    | zero => rfl
    | succ m ih => simp only [objL, Bool.false_eq_true, if_false, ih]
  have hstart : ∀ W, W = w ∨ W = w.drew → Kn (fun _ => false) (fun _ => undef) W := by
    rintro W (rfl | rfl)
    · exact ⟨ψ0, prot0, by rw [hobj0]; exact hev, by rw [hobj0]; exact hrh, fun n k' h => hK n k' (by omega), fun n h => absurd (hK n K (Nat.le_refl _)) h, hvr, fun j _ h => by cases h⟩
    · exact ⟨ψ0, prot0, by rw [hobj0]; exact hev.drew, by rw [hobj0]; exact hrh.drew, fun n k' h => hK n k' (by omega), fun n h => absurd (hK n K (Nat.le_refl _)) h, fun t => (hvr t).drew, fun j _ h => by cases h⟩
  -- one operation more
  have hone : ∀ i o, ops[i]? = some o → ∀ L env A W, L i = false → Kn L env W → (∀ n ∈ (trAt trs i).touch, objL st trs L ops.size n = objA st trs i n) →
      (∀ j, i < j → j < ops.size → L j = true → ∀ n ∈ (trAt trs i).wr.names, n ∉ (trAt trs j).wr.names) →
      (∀ ψ prot W, (∀ t, VRel ψ prot W (st.get t) (a.eval (.tmp t))) → (∀ j, j < ops.size → L j = true → VRel ψ prot W (trAt trs j).v (env j)) → ∀ t ∈ o.looksAt ops, VRel ψ prot W (getA st trs ops i t) (A.eval (.tmp t))) →
      OpStep P ops o A W fun v W' => Kn (updL L i) (updE env i v) W' := by
    rintro i o ho L env A W hLi ⟨ψ, prot, h1, h2, h3, h4, h5, h6⟩ htouch hlater hsees
    have hi := (Array.getElem?_eq_some_iff.1 ho).1
    obtain ⟨ho1, ho2⟩ := stN_at (st0 := st) hlen' i (by omega)
    have hnext : ∀ v W', (∃ ψ' prot', Evolve ψ prot (objL st trs L ops.size) W ψ' prot' (updW (objL st trs L ops.size) (trAt trs i).wr) W' ∧ RH ψ' prot' (updW (objL st trs L ops.size) (trAt trs i).wr) W' ∧ VRel ψ' prot' W' (trAt trs i).v v ∧ ∀ n k', ψ' n k' ≠ none → ψ n k' ≠ none ∨ (k' = K ∧ n ∈ (trAt trs i).made)) →
        Kn (updL L i) (updE env i v) W' := by
      rintro v W' ⟨ψ', prot', g1, g2, g3, g4⟩
      have eo : objL st trs (updL L i) ops.size = updW (objL st trs L ops.size) (trAt trs i).wr := objL_upd hLi ops.size hi hlater
      have hkp := g1.keeps h2
      refine ⟨ψ', prot', by rw [eo]; exact h1.trans g1, by rw [eo]; exact g2, fun n k' hk => ?_, fun n hn => ?_, fun t => (h5 t).mono g1.gh hkp, fun j hj hLj => ?_⟩
      · by_cases hx : ψ' n k' = none
        · exact hx
        · rcases g4 n k' hx with hy | ⟨hy, _⟩
          · exact absurd (h3 n k' hk) hy
          · omega
      · rcases g4 n K hn with hy | ⟨_, hy⟩
        · obtain ⟨j, hj1, hj2, hj3⟩ := h4 n hy
          refine ⟨j, hj1, ?_, hj3⟩
          unfold updL; split
          · rfl
          · exact hj2
        · exact ⟨i, hi, by simp [updL], hy⟩
      · by_cases hji : j = i
        · subst hji; simpa [updE] using g3
        · have hLj' : L j = true := by unfold updL at hLj; rwa [if_neg hji] at hLj
          have := (h6 j hj hLj').mono g1.gh hkp
          simpa [updE, hji] using this
    have hgo := step_ok (hst i o ho) (A := A) (by rw [ho1]; exact htouch) (fun t ht => by rw [ho2 t]; exact hsees ψ prot W h5 h6 t ht) h2 (fun n hn => by
      by_cases hx : ψ n K = none
      · exact hx
      · obtain ⟨j, hj1, hj2, hj3⟩ := h4 n hx
        have hji : j ≠ i := fun e => by subst e; rw [hLi] at hj2; cases hj2
        exact absurd hj3 (madeOnce_spec hmade (by omega) (by omega) hji n hn))
    unfold OpStep at hgo ⊢
    split
    · rename_i hw
      rw [if_pos hw] at hgo
      exact specUpon_mono hgo hnext
    · rename_i hw
      rw [if_neg hw] at hgo
      exact hnext _ _ hgo
  -- the end
  have hlast : ∀ env W, Kn (fun j => decide (j < ops.size)) env W → ∀ A : Act, A.defers = [] → A.tmps.size = N → (∀ ψ prot W, (∀ t, VRel ψ prot W (st.get t) (a.eval (.tmp t))) → (∀ j, j < ops.size → VRel ψ prot W (trAt trs j).v (env j)) → ∀ t, VRel ψ prot W (getA st trs ops ops.size t) (A.eval (.tmp t))) →
      ∃ st', R N ini st' A W ∧ Q .normal st' := by
    rintro env W ⟨ψ, prot, g1, g2, g3, g4, g5, g6⟩ A hAd hAs hA
    have eo : objL st trs (fun j => decide (j < ops.size)) ops.size = objA st trs ops.size := by
      funext n
      have := objL_agree (st0 := st) (trs := trs) (L := fun j => decide (j < ops.size)) (n := n) (i := ops.size) ops.size (fun j hj _ => by simp)
      rwa [Nat.min_self] at this
    rw [eo] at g1 g2
    refine ⟨_, ⟨hAd, hAs, ψ, prot, by rw [hend.1]; exact g1, by rw [hend.1]; exact g2, ⟨K + 1, fun n k hk => g3 n k (by omega)⟩, fun t => ?_⟩, hq⟩
    rw [hend.2 t]
    exact hA ψ prot W g5 (fun j hj => g6 j hj (by simpa using hj)) t
  cases draw with
  | false =>
    refine wp_region ?_
    have main : ∀ d i env A W, i + d = ops.size → A.defers = [] → A.tmps.size = N → Kn (fun j => decide (j < i)) env W →
        (∀ ψ prot W, (∀ t, VRel ψ prot W (st.get t) (a.eval (.tmp t))) → (∀ j, j < i → VRel ψ prot W (trAt trs j).v (env j)) → ∀ t, VRel ψ prot W (getA st trs ops i t) (A.eval (.tmp t))) →
        wpOps P ops (fun e a' w' => ∃ st', R N ini st' a' w' ∧ Q e st') (List.range' i d) A W := by
      intro d
      induction d with
      | zero =>
        intro i env A W hid hAd hAs hk hA
        obtain rfl : i = ops.size := by omega
        exact hlast env W hk A hAd hAs hA
      | succ d ih =>
        intro i env A W hid hAd hAs hk hA
        have hi : i < ops.size := by omega
        have ho : ops[i]? = some ops[i] := Array.getElem?_eq_getElem hi
        rw [List.range'_succ, wpOps_cons]
        have hgo := hone i ops[i] ho (fun j => decide (j < i)) env A W (by simp) hk (fun n hn => by
          have := objL_agree (st0 := st) (trs := trs) (L := fun j => decide (j < i)) (n := n) (i := i) ops.size (fun j hj _ => rfl)
          rwa [Nat.min_eq_right (by omega)] at this) (fun j h1 h2 h3 => by simp at h3; omega) (fun ψ prot W h1 h2 t _ => hA ψ prot W h1 (fun j hj => h2 j (by omega) (by simpa using hj)) t)
        have eL : updL (fun j => decide (j < i)) i = fun j => decide (j < i + 1) := by
          funext j
          unfold updL
          split
          · subst_vars; simp
          · by_cases h : j < i
            · simp [h]; omega
            · simp [h]; omega
        have hdi : dstOf ops i = ops[i].dst := by simp [dstOf, ho]
        have hput : ∀ v W', Kn (updL (fun j => decide (j < i)) i) (updE env i v) W' → wpOps P ops (fun e a' w' => ∃ st', R N ini st' a' w' ∧ Q e st') (List.range' (i + 1) d) (A.put ops[i].dst v) W' := by
          intro v W' hk'
          rw [eL] at hk'
          refine ih (i + 1) (updE env i v) _ W' (by omega) ?_ ?_ hk' fun ψ prot W'' h1 h2 t => ?_
          · cases hd : ops[i].dst <;> simp [Act.put, hAd]
          · cases hd : ops[i].dst <;> simp [Act.put, hAs]
          · have hi2 := h2 i (by omega)
            have eEnv : updE env i v i = v := by simp [updE]
            rw [eEnv] at hi2
            simp only [getA, hdi]
            split
            · rename_i e
              have hlt : t < A.tmps.size := by rw [hAs, ← hsz]; exact hdst' i t (hdi.trans e)
              have : (A.put ops[i].dst v).eval (.tmp t) = v := by rw [e]; simp [Act.put, Act.eval, hlt]
              rw [this]
              exact hi2
            · rename_i e
              rw [Act.eval_put (by intro d hd he; injection he with he; subst he; exact e hd)]
              refine hA ψ prot W'' h1 (fun j hj => ?_) t
              have := h2 j (by omega)
              have hji : j ≠ i := by omega
              simpa [updE, hji] using this
        unfold OpStep at hgo
        unfold wpOp
        simp only [ho]
        split
        · rename_i hw
          rw [if_pos hw] at hgo
          exact .inl (specUpon_wp hgo hput)
        · rename_i hw
          rw [if_neg hw] at hgo
          exact hput _ _ hgo
    have := main ops.size 0 (fun _ => undef) a w (by omega) hdef hsz (by simpa using hstart w (.inl rfl)) (fun ψ prot W h1 _ t => h1 t)
    rwa [← List.range_eq_range'] at this
  | true =>
    have hdraw' := hdraw.resolve_left (by simp)
    obtain ⟨hrok, hapart⟩ := hdraw'
    have ok0 := regionOk_spec hrok
    have ok : RegionOk ops a := ⟨ok0.sel, ok0.less, fun i o d ho hd => hdst' i d (by simp [dstOf, ho, hd]), ok0.preLess, ok0.preBy, ok0.preOf, ok0.apart⟩
    refine wp_region_any hm ?_
    have hnil : ∀ n env, actL ops a (fun _ => false) env (down n) = a := by
      intro n env
      induction n with
      | zero => rfl
      | succ n ih => simp only [down, actL, Bool.false_eq_true, if_false, ih]
    have hdefs : ∀ (L : Nat → Bool) env l, (actL ops a L env l).defers = [] := by
      intro L env l
      induction l with
      | nil => exact hdef
      | cons j l ih =>
        simp only [actL]
        split
        · cases dstOf ops j <;> simp [Act.put, ih]
        · exact ih
    have main := region_any (P := P) (Q := fun e a' w' => ∃ st', R N ini st' a' w' ∧ Q e st') ok (Nat.le_refl _) (fun i j hi1 hi2 hj => by omega) Kn ?_ ?_ ops.size (Array.replicate ops.size false) (fun _ => false) (fun _ => undef) w.drew (by simp) (by intro i hi; simp [hi]) (by intro j h; cases h) (by intro i j _ _ h; cases h) (hstart _ (.inr rfl)) ?_
    · rw [hnil, show ops.size + (ops.size - ops.size) = ops.size by omega] at main
      exact main
    · intro i o hi ho L env A W hcl hLm hLi hpre hk hsees
      -- of the others, only those before i stand in its way
      have hun : ∀ j, j < ops.size → j ≠ i → pre ops i j = false → L j = true → pre ops j i = false := fun j hj hji _ hLj => by
        cases hp : pre ops j i with
        | false => rfl
        | true =>
          have := hcl j i hj hi hLj hp
          rw [hLi] at this; cases this
      refine hone i o ho L env A W hLi hk (fun n hn => ?_) (fun j hij hj hLj n hn hn' => ?_) (fun ψ prot W h1 h2 t ht => ?_)
      · have := objL_agree (st0 := st) (trs := trs) (L := L) (n := n) (i := i) ops.size (fun j hj hnj => by
          by_cases hji : j = i
          · subst hji; simp [hLi]
          · by_cases hlt : j < i
            · have e : decide (j < i) = true := by simpa using hlt
              rw [e]
              cases hp : pre ops i j with
              | true => exact hpre j hj hp
              | false =>
                exfalso
                have h2 : pre ops j i = false := by
                  cases hp2 : pre ops j i with
                  | false => rfl
                  | true => have := ok.preLess j i hj hi hp2; omega
                exact apartTrs_spec hapart hi hj (Ne.symm hji) hp h2 n hnj hn
            · have e : decide (j < i) = false := by simpa using hlt
              rw [e]
              cases hLj : L j with
              | false => rfl
              | true =>
                exfalso
                have h1 : pre ops i j = false := by
                  cases hp2 : pre ops i j with
                  | false => rfl
                  | true => have := ok.preLess i j hi hj hp2; omega
                exact apartTrs_spec hapart hi hj (Ne.symm hji) h1 (hun j hj hji h1 hLj) n hnj hn)
        rwa [Nat.min_eq_right (by omega)] at this
      · have h1 : pre ops i j = false := by
          cases hp2 : pre ops i j with
          | false => rfl
          | true => have := ok.preLess i j hi hj hp2; omega
        exact apartTrs_spec hapart hi hj (by omega) h1 (hun j hj (by omega) h1 hLj) n hn' ((hst i o ho).named n hn)
      · rw [hsees t ht]
        have key : ∀ m, m ≤ i → VRel ψ prot W (getA st trs ops m t) (slotL ops a (pre ops i) env t (down m)) := by
          intro m
          induction m with
          | zero => intro _; exact h1 t
          | succ m ih =>
            intro hm'
            simp only [getA, down, slotL]
            by_cases hd : dstOf ops m = some t
            · have hp : pre ops i m = true := by
                cases hp : pre ops i m with
                | true => rfl
                | false =>
                  exfalso
                  have h3 : pre ops m i = false := by
                    cases hp2 : pre ops m i with
                    | false => rfl
                    | true => have := ok.preLess m i (by omega) hi hp2; omega
                  exact (ok.apart i m o t ho (by omega) (by omega) hp h3 hd).1 ht
              simp only [hd, hp, if_true, Bool.true_and, beq_self_eq_true]
              exact h2 m (by omega) (hpre m (by omega) hp)
            · have : (dstOf ops m == some t) = false := by simpa using hd
              simp only [hd, if_false, this, Bool.and_false, Bool.false_eq_true]
              exact ih (by omega)
        exact key i (Nat.le_refl _)
    · intro L env W hL hk
      have eL : L = fun j => L j := rfl
      rw [Nat.sub_self]
      refine ⟨?_, ?_⟩
      · cases hr : Region.ready .any ops (headArr ops.size ops.size) with
        | nil => rfl
        | cons i l =>
          have hi : i ∈ Region.ready .any ops (headArr ops.size ops.size) := by rw [hr]; exact List.mem_cons_self
          obtain ⟨hun, o, ho, -⟩ := mem_ready.1 hi
          have hlt := (Array.getElem?_eq_some_iff.1 ho).1
          simp [headArr, hlt] at hun
      · have hk' : Kn (fun j => decide (j < ops.size)) env W := by
          obtain ⟨ψ, prot, g1, g2, g3, g4, g5, g6⟩ := hk
          have eo : objL st trs L ops.size = objL st trs (fun j => decide (j < ops.size)) ops.size := by
            funext n
            have e1 := objL_agree (st0 := st) (trs := trs) (L := L) (n := n) (i := ops.size) ops.size (fun j hj _ => by simp [hL j hj, hj])
            have e2 := objL_agree (st0 := st) (trs := trs) (L := fun j => decide (j < ops.size)) (n := n) (i := ops.size) ops.size (fun j hj _ => rfl)
            rw [e1, e2]
          exact ⟨ψ, prot, by rw [← eo]; exact g1, by rw [← eo]; exact g2, g3, fun n hn => let ⟨j, h1, _, h3⟩ := g4 n hn; ⟨j, h1, by simpa using h1, h3⟩, g5, fun j hj _ => g6 j hj (hL j hj)⟩
        refine hlast env W hk' _ (hdefs _ _ _) ?_ fun ψ prot W h1 h2 t => ?_
        · rw [(eval_actL (L := fun _ => true) (env := env) (t := 0) hdst' _).1, hsz]
        · rw [(eval_actL (L := fun _ => true) (env := env) (t := t) hdst' _).2]
          have key : ∀ m, m ≤ ops.size → VRel ψ prot W (getA st trs ops m t) (slotL ops a (fun _ => true) env t (down m)) := by
            intro m
            induction m with
            | zero => intro _; exact h1 t
            | succ m ih =>
              intro hm'
              simp only [getA, down, slotL]
              by_cases hd : dstOf ops m = some t
              · simp only [hd, if_true, Bool.true_and, beq_self_eq_true]
                exact h2 m (by omega)
              · have : (dstOf ops m == some t) = false := by simpa using hd
                simp only [hd, if_false, this, Bool.and_false, Bool.false_eq_true]
                exact ih (by omega)
          exact key _ (Nat.le_refl _)
    · have : ∀ n, (down n).countP (fun _ => !false) = n := by
        intro n
        induction n with
        | zero => rfl
        | succ n ih => simp [down, List.countP_cons] at ih ⊢; omega
      exact this _
end
end Go.Proofs.Ytojapodjlpffdaa
