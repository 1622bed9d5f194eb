/-
  Ways that meet again; arguments that are known in another form. No program is named here.
-/
import Derived.Test.YtojapodjlpffdaaAbsEnds
namespace Go.Proofs.Ytojapodjlpffdaa
open Go.RowKit
inductive EnvIs (st : St) : List (Nat × AVal) → Prop where
  | nil : EnvIs st []
  | cons {t : Nat} {v : AVal} {env : List (Nat × AVal)} (h : st.get t = v) (r : EnvIs st env) : EnvIs st ((t, v) :: env)
inductive ObjsAre (st : St) : Writes → Prop where
  | nil : ObjsAre st []
  | cons {n : Nat} {x : Nat × AObj} {objs : Writes} (h : st.obj n = some x) (r : ObjsAre st objs) : ObjsAre st ((n, some x) :: objs)
theorem EnvIs.mem {st : St} {env : List (Nat × AVal)} (h : EnvIs st env) : ∀ p ∈ env, st.get p.1 = p.2 := by
  induction h with
  | nil => intro p hp; cases hp
  | cons h _ ih => intro p hp; rcases List.mem_cons.1 hp with rfl | hp <;> first | exact h | exact ih p hp
theorem ObjsAre.mem {st : St} {objs : Writes} (h : ObjsAre st objs) : ∀ p ∈ objs, st.obj p.1 = p.2 := by
  induction h with
  | nil => intro p hp; cases hp
  | cons h _ ih => intro p hp; rcases List.mem_cons.1 hp with rfl | hp <;> first | exact h | exact ih p hp
theorem leB_of {st : St} {env : List (Nat × AVal)} {objs : Writes} (h : EnvIs st env) (g : ObjsAre st objs) : st.leB ⟨env, objs⟩ := by
  refine ⟨fun t => ?_, fun n => ?_⟩
  · cases hl : env.lookup t with
    | none => left; simp [St.get, hl]
    | some v =>
      right
      have := h.mem _ (lookup_mem hl)
      simp only [St.get, hl] at this ⊢
      exact this.symm
  · cases hl : objs.lookup n with
    | none => left; simp [St.obj, updW, hl]
    | some v =>
      right
      have := g.mem _ (lookup_mem hl)
      simp only at this
      simp [St.obj, updW, hl] at this ⊢
      exact this.symm
section
variable {P : Program} {N : Nat} {ini : Ini} {Q : Exit → St → Prop} {st : St} {k : Nat} {ops : Array Oper} {draw : Bool}
/-- The ways through x meet in one state (of a family), whatever way was taken. -/
theorem awp_to {ι : Type} (st' : ι → St) {x y : Code} (h : Awp P N ini x (andThen (fun st1 => ∃ i, st1.leB (st' i)) Q) st) (h2 : ∀ i, Awp P N ini y Q (st' i)) : Awp P N ini (.seq x y) Q st :=
  awp_seq (h.mono fun e st1 q => by
    cases e
    case normal =>
      obtain ⟨i, hi⟩ := q
      exact awp_weaken (fun a w r => r.less hi) (h2 i)
    all_goals exact q)
theorem awp_less {st' : St} {c : Code} (h : st.leB st') (h2 : Awp P N ini c Q st') : Awp P N ini c Q st := awp_weaken (fun _ _ r => r.less h) h2
theorem awp_freeze {st' : St} {c : Code} {n kk sz : Nat} {t : TypeId} {es : List AVal} (hn : st.obj n = some (kk, .row t sz es)) (hf : st.frozen st' n kk es) (h2 : Awp P N ini c Q st') : Awp P N ini c Q st := awp_weaken (fun _ _ r => r.freeze hn hf) h2
end
/-- A value that is there if c. -/
def AVal.when (c : Bool) (v : AVal) : AVal := match c with | true => v | false => .any
theorem runk_guard {P : Program} {k : Nat} {ops : Array Oper} {N : Nat} {draw : Bool} {K : St → Prop} {o : Oper} {os : List Oper} {env : List (Nat × AVal)} {objs : Writes} {acc : List Tr} {v : AVal} {touch : List Nat} {d g t : Nat} {b want : Bool}
    (hg : o.guard = some (g, want)) (ht : dstOf ops g = some t) (hb : (⟨env, objs⟩ : St).get t = .val (.bool b)) (hd : o.dst = some d) (h : b = want → OpOk P k ⟨env, objs⟩ o ⟨v, [], touch, []⟩)
    (r : RunK P k ops N draw os ⟨(d, .when (b == want) v) :: env, objs⟩ (⟨.when (b == want) v, [], touch, []⟩ :: acc) K) : RunK P k ops N draw (o :: os) ⟨env, objs⟩ acc K := by
  refine ⟨⟨.when (b == want) v, [], touch, []⟩, .inr ⟨g, want, t, b, hg, ht, hb, ?_⟩, by rw [hd]; exact r⟩
  by_cases hbw : b = want
  · have e : (b == want) = true := by simpa using hbw
    rw [e]
    exact .inl ⟨hbw, h hbw⟩
  · have e : (b == want) = false := by simpa using hbw
    rw [e]
    exact .inr ⟨hbw, rfl, rfl, rfl⟩
theorem pick_or {b x : Bool} : (if b then AVal.val (.bool true) else AVal.when (b == false) (.val (.bool x))) = .val (.bool (b || x)) := by cases b <;> rfl
theorem pick_and {b x : Bool} : (if b then AVal.when (b == true) (.val (.bool x)) else AVal.val (.bool false)) = .val (.bool (b && x)) := by cases b <;> rfl
/-- A nil slice, as a row of the call's own without elements. -/
theorem awp_adopt {P : Program} {N : Nat} {ini : Ini} {Q : Exit → St → Prop} {env : List (Nat × AVal)} {objs : Writes} {c : Code} (t d : Nat) (e : TypeId) (sz : Nat) (hv : (⟨env, objs⟩ : St).get t = .val (.slice none 0 0)) (h : ∀ k, Awp P N ini c Q ⟨(t, .own d k 0) :: env, (d, some (k, .row e sz [])) :: objs⟩) : Awp P N ini c Q ⟨env, objs⟩ := by
  rintro a w ⟨hd, hs, ψ, prot, h1, h2, ⟨K, hK⟩, h4⟩
  obtain ⟨ψ', g1, g2, g3, g4, g5⟩ := evolve_make (w' := w) h2 [] d K ⟨none, 0⟩ (.row e sz []) (hK d K (Nat.le_refl _)) rfl rfl rfl (Nat.le_refl _) (fun _ _ _ => rfl) (fun b hb => by cases hb) (fun ψ' _ => ⟨[], World.ownsRow_nil _ _ _ _, ⟨rfl, fun i x v h => by simp at h⟩⟩)
  have eo : (⟨(t, .own d K 0) :: env, (d, some (K, .row e sz [])) :: objs⟩ : St).obj = updW (⟨env, objs⟩ : St).obj ((d, some (K, .row e sz [])) :: [].map fun n => (n, none)) := by
    funext n
    simp only [St.obj, updW, List.lookup_cons, List.map_nil]
    cases n == d <;> rfl
  refine h K a w ⟨hd, hs, ψ', prot, by rw [eo]; exact h1.trans g1, by rw [eo]; exact g2, ⟨K + 1, fun n k hk => ?_⟩, fun t' => ?_⟩
  · by_cases hx : ψ' n k = none
    · exact hx
    · rcases g5 n k hx with q | ⟨q, _⟩
      · exact absurd (hK n k (by omega)) q
      · omega
  · have h5 := h4 t'
    by_cases ht : t' = t
    · subst ht
      rw [hv] at h5
      have e1 : (⟨(t', .own d K 0) :: env, (d, some (K, .row e sz [])) :: objs⟩ : St).get t' = .own d K 0 := by simp [St.get]
      rw [e1, h5.val_eq]
      exact .own d K 0 ⟨none, 0⟩ g3
    · have e1 : (⟨(t, .own d K 0) :: env, (d, some (K, .row e sz [])) :: objs⟩ : St).get t' = (⟨env, objs⟩ : St).get t' := by
        have : (t' == t) = false := by simpa using ht
        simp [St.get, List.lookup_cons, this]
      rw [e1]
      exact h5.mono g4 fun b hb => ⟨hb, rfl⟩
theorem VRel.agg_vals {ψ : Ghost} {prot : Nat → Prop} {w : World} {vs : List Value} {u : Value} (h : VRel ψ prot w (.agg (vs.map .val)) u) : u = .agg vs.toArray := by
  obtain ⟨us, rfl, h1, h2⟩ := h.aggs
  congr 1
  apply Array.ext
  · simpa using h1
  · intro i h3 h4
    have := h2 i (.val vs[i]) us[i] (by simp at h4; simp [h4]) (by simp [h3])
    simpa using this.val_eq
/-- Arguments that say more. -/
inductive ArgsLe : List AVal → List AVal → Prop where
  | nil : ArgsLe [] []
  | same {x : AVal} {xs ys : List AVal} (t : ArgsLe xs ys) : ArgsLe (x :: xs) (x :: ys)
  | agg {vs : List Value} {xs ys : List AVal} (t : ArgsLe xs ys) : ArgsLe (.agg (vs.map .val) :: xs) (.val (.agg vs.toArray) :: ys)
theorem ArgsLe.rel {xs ys : List AVal} (h : ArgsLe xs ys) : xs.length = ys.length ∧ ∀ (i : Nat) (y : AVal), ys[i]? = some y → ∃ x, xs[i]? = some x ∧ ∀ (ψ : Ghost) (prot : Nat → Prop) (w : World) (u : Value), VRel ψ prot w x u → VRel ψ prot w y u := by
  induction h with
  | nil => exact ⟨rfl, fun i y h => by simp at h⟩
  | same _ ih =>
    refine ⟨by simp [ih.1], fun i y hy => ?_⟩
    cases i with
    | zero => simp at hy; subst hy; exact ⟨_, rfl, fun _ _ _ _ h => h⟩
    | succ i => exact ih.2 i y (by simpa using hy)
  | agg _ ih =>
    refine ⟨by simp [ih.1], fun i y hy => ?_⟩
    cases i with
    | zero => simp at hy; subst hy; exact ⟨_, rfl, fun _ _ _ u h => by rw [h.agg_vals]; exact .val _⟩
    | succ i => exact ih.2 i y (by simpa using hy)
theorem Spec.of {P : Program} {f : FuncId} {args args' : List AVal} {objs objs' : Writes} {v : AVal} (h : Spec P f args objs v objs') (hl : ArgsLe args' args) : Spec P f args' objs v objs' := fun ψ prot w cargs hψ hr hs ha =>
  h ψ prot w cargs hψ hr (by rw [hs, hl.rel.1]) fun i x u h1 h2 => by
    obtain ⟨y, h3, h4⟩ := hl.rel.2 i x h1
    exact h4 ψ prot w u (ha i y u h3 h2)
end Go.Proofs.Ytojapodjlpffdaa
