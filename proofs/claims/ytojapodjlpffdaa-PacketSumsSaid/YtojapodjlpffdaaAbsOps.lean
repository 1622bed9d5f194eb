/-
  What single operations do by states. No program is named here.
-/
import Derived.Test.YtojapodjlpffdaaAbsCall
import Derived.Test.YtojapodjlpffdaaRow
namespace Go.Proofs.Ytojapodjlpffdaa
open Go.RowKit

section
variable {ψ : Ghost} {prot : Nat → Prop} {obj : Objs} {w w' : World}
/-- An object is made, others may go. -/
theorem evolve_make (r : RH ψ prot obj w) (kl : List Nat) (d k : Nat) (loc : Loc) (ob : AObj) (hf : ψ d k = none) (h1 : w'.os = w.os) (h2 : w'.tape = w.tape) (h3 : w'.output = w.output) (h4 : w.heap.size ≤ w'.heap.size)
    (hu : ∀ b, b < w.heap.size → (∀ n j o l, n ∈ kl → obj n = some (j, o) → ψ n j = some l → l.block ≠ some b) → w'.heap[b]? = w.heap[b]?)
    (hl : ∀ b, loc.block = some b → w.heap.size ≤ b ∨ ∃ n ∈ kl, ∃ j o l, obj n = some (j, o) ∧ ψ n j = some l ∧ l.block = some b)
    (ho : ∀ ψ' : Ghost, (∀ n j l, ψ n j = some l → ψ' n j = some l) → ORel ψ' prot w' loc ob) :
    ∃ ψ' : Ghost, Evolve ψ prot obj w ψ' prot (updW obj ((d, some (k, ob)) :: kl.map fun n => (n, none))) w' ∧ RH ψ' prot (updW obj ((d, some (k, ob)) :: kl.map fun n => (n, none))) w' ∧ ψ' d k = some loc ∧
      (∀ n j l, ψ n j = some l → ψ' n j = some l) ∧ ∀ n k', ψ' n k' ≠ none → ψ n k' ≠ none ∨ (k' = k ∧ n = d) := by
  let ψ' : Ghost := fun n j => if n = d ∧ j = k then some loc else ψ n j
  have hdk : ψ' d k = some loc := by simp [ψ']
  have hold : ∀ n j l, ψ n j = some l → ψ' n j = some l := fun n j l h => by
    simp only [ψ']
    split
    · rename_i e; obtain ⟨rfl, rfl⟩ := e; rw [hf] at h; cases h
    · exact h
  have hobj : ∀ n j o, updW obj ((d, some (k, ob)) :: kl.map fun n => (n, none)) n = some (j, o) → (n = d ∧ j = k ∧ o = ob) ∨ (n ≠ d ∧ n ∉ kl ∧ obj n = some (j, o)) := fun n j o h => by
    simp only [updW, List.lookup_cons] at h
    by_cases hn : n = d
    · subst hn
      simp only [beq_self_eq_true, Option.some.injEq, Prod.mk.injEq] at h
      exact .inl ⟨rfl, h.1.symm, h.2.symm⟩
    · have e : (n == d) = false := by simpa using hn
      rw [e] at h
      simp only at h
      by_cases hk : n ∈ kl
      · cases hlk : (kl.map fun n => ((n, none) : Nat × Option (Nat × AObj))).lookup n with
        | none =>
          exfalso
          have hnm : n ∈ Writes.names (kl.map fun n => (n, none)) := by simp [Writes.names, Function.comp_def, hk]
          have : ∀ (l : List Nat), n ∈ l → (l.map fun n => ((n, none) : Nat × Option (Nat × AObj))).lookup n = some none := by
            intro l
            induction l with
            | nil => intro h; cases h
            | cons m l ih =>
              intro h
              simp only [List.map_cons, List.lookup_cons]
              by_cases hm : n = m
              · subst hm; simp
              · have e2 : (n == m) = false := by simpa using hm
                rw [e2]
                exact ih ((List.mem_cons.1 h).resolve_left hm)
          rw [this kl hk] at hlk; cases hlk
        | some y =>
          rw [hlk] at h
          simp only at h
          have := lookup_mem hlk
          obtain ⟨m, _, e2⟩ := List.mem_map.1 this
          simp only [Prod.mk.injEq] at e2
          rw [← e2.2] at h; cases h
      · rw [lookup_none_of_not_mem (by simpa [Writes.names, Function.comp_def] using hk)] at h
        exact .inr ⟨hn, hk, h⟩
  have hblk : ∀ n j o l b, n ∉ kl → obj n = some (j, o) → ψ n j = some l → l.block = some b → w'.heap[b]? = w.heap[b]? := fun n j o l b hk h g hb => by
    obtain ⟨l', g1, g2⟩ := r.live n j o h
    rw [g] at g1; injection g1 with g1; subst g1
    refine hu b (g2.inside b hb) fun m i oo ll hm h5 h6 h7 => ?_
    exact r.inj n m j i o oo l ll h h5 (fun e => hk (e ▸ hm)) g h6 b hb h7
  have hun : ∀ b, unowned ψ obj w b → w'.heap[b]? = w.heap[b]? := fun b hb => hu b hb.1 fun n j o l _ h g => hb.2 n j o l h g
  have hfree : ∀ b, unowned ψ obj w b → loc.block ≠ some b := fun b hb e => by
    rcases hl b e with h | ⟨n, _, j, o, l, g1, g2, g3⟩
    · have := hb.1; omega
    · exact hb.2 n j o l g1 g2 g3
  have hkeep : ∀ b, prot b → prot b ∧ w'.heap[b]? = w.heap[b]? := fun b hb => ⟨hb, hun b (r.pr b hb)⟩
  have hun' : ∀ b, unowned ψ obj w b → unowned ψ' (updW obj ((d, some (k, ob)) :: kl.map fun n => (n, none))) w' b := fun b hb => ⟨Nat.lt_of_lt_of_le hb.1 h4, fun n j o l g1 g2 => by
    rcases hobj n j o g1 with ⟨rfl, rfl, rfl⟩ | ⟨_, _, g3⟩
    · rw [hdk] at g2; injection g2 with g2; subst g2
      exact hfree b hb
    · obtain ⟨l', g4, _⟩ := r.live n j o g3
      rw [hold _ _ _ g4] at g2; injection g2 with g2; subst g2
      exact hb.2 n j o _ g3 g4⟩
  refine ⟨ψ', ⟨h1, h2, h3, h4, hold, fun _ h => h, fun b hb => ⟨hun' b hb, hun b hb⟩, fun _ h => .inl h⟩, ⟨fun n j o g => ?_, fun n n' j j' o o' l l' g g' hne g1 g2 b g3 g4 => ?_, fun b hb => hun' b (r.pr b hb)⟩, hdk, hold, fun n j hne => ?_⟩
  · rcases hobj n j o g with ⟨rfl, rfl, rfl⟩ | ⟨_, hk, g3⟩
    · exact ⟨loc, hdk, ho ψ' hold⟩
    · obtain ⟨l, g4, g5⟩ := r.live n j o g3
      exact ⟨l, hold _ _ _ g4, g5.mono hold hkeep fun b hb => hblk n j o l b hk g3 g4 hb⟩
  · have aux : ∀ n j o l, n ∉ kl → obj n = some (j, o) → ψ n j = some l → ∀ b, l.block = some b → loc.block ≠ some b := fun n j o l hk g g' b e e' => by
      obtain ⟨l', g4, g5⟩ := r.live n j o g
      rw [g'] at g4; injection g4 with g4; subst g4
      rcases hl b e' with h | ⟨m, hm, i, oo, ll, g6, g7, g8⟩
      · have := g5.inside b e; omega
      · exact r.inj n m j i o oo l ll g g6 (fun e => hk (e ▸ hm)) g' g7 b e g8
    rcases hobj n j o g with ⟨rfl, rfl, rfl⟩ | ⟨_, hk, e3⟩ <;> rcases hobj n' j' o' g' with ⟨rfl, rfl, rfl⟩ | ⟨_, hk', e3'⟩
    · exact hne rfl
    · obtain ⟨ll, g5, _⟩ := r.live n' j' o' e3'
      rw [hold _ _ _ g5] at g2; injection g2 with g2; subst g2
      rw [hdk] at g1; injection g1 with g1; subst g1
      exact aux n' j' o' _ hk' e3' g5 b g4 g3
    · obtain ⟨ll, g5, _⟩ := r.live n j o e3
      rw [hold _ _ _ g5] at g1; injection g1 with g1; subst g1
      rw [hdk] at g2; injection g2 with g2; subst g2
      exact aux n j o _ hk e3 g5 b g3 g4
    · obtain ⟨ll, g5, _⟩ := r.live n j o e3
      rw [hold _ _ _ g5] at g1; injection g1 with g1; subst g1
      obtain ⟨ll', g5', _⟩ := r.live n' j' o' e3'
      rw [hold _ _ _ g5'] at g2; injection g2 with g2; subst g2
      exact r.inj n n' j j' o o' _ _ e3 e3' hne g5 g5' b g3 g4
  · by_cases e : n = d ∧ j = k
    · exact .inr ⟨e.2, e.1⟩
    · left
      simp only [ψ', e, if_false] at hne
      exact hne

/-- An object is written in its place. -/
theorem evolve_store (r : RH ψ prot obj w) (n k : Nat) (o ob : AObj) (loc : Loc) (hn : obj n = some (k, o)) (hl : ψ n k = some loc) (h1 : w'.os = w.os) (h2 : w'.tape = w.tape) (h3 : w'.output = w.output) (h4 : w.heap.size ≤ w'.heap.size)
    (hu : ∀ b, b < w.heap.size → loc.block ≠ some b → w'.heap[b]? = w.heap[b]?) (ho : ORel ψ prot w' loc ob) :
    Evolve ψ prot obj w ψ prot (updW obj [(n, some (k, ob))]) w' ∧ RH ψ prot (updW obj [(n, some (k, ob))]) w' := by
  have hobj : ∀ m j o', updW obj [(n, some (k, ob))] m = some (j, o') → (m = n ∧ j = k ∧ o' = ob) ∨ (m ≠ n ∧ obj m = some (j, o')) := fun m j o' h => by
    simp only [updW, List.lookup_cons] at h
    by_cases hm : m = n
    · subst hm
      simp only [beq_self_eq_true, Option.some.injEq, Prod.mk.injEq] at h
      exact .inl ⟨rfl, h.1.symm, h.2.symm⟩
    · have e : (m == n) = false := by simpa using hm
      rw [e] at h
      exact .inr ⟨hm, h⟩
  have hun : ∀ b, unowned ψ obj w b → w'.heap[b]? = w.heap[b]? := fun b hb => hu b hb.1 (hb.2 n k o loc hn hl)
  have hun' : ∀ b, unowned ψ obj w b → unowned ψ (updW obj [(n, some (k, ob))]) w' b := fun b hb => ⟨Nat.lt_of_lt_of_le hb.1 h4, fun m j o' l g1 g2 => by
    rcases hobj m j o' g1 with ⟨rfl, rfl, rfl⟩ | ⟨_, g3⟩
    · exact hb.2 m j o l hn g2
    · exact hb.2 m j o' l g3 g2⟩
  have hkeep : ∀ b, prot b → prot b ∧ w'.heap[b]? = w.heap[b]? := fun b hb => ⟨hb, hun b (r.pr b hb)⟩
  refine ⟨⟨h1, h2, h3, h4, fun _ _ _ h => h, fun _ h => h, fun b hb => ⟨hun' b hb, hun b hb⟩, fun _ h => .inl h⟩, ⟨fun m j o' g => ?_, fun m m' j j' o' o'' l l' g g' hne g1 g2 => ?_, fun b hb => hun' b (r.pr b hb)⟩⟩
  · rcases hobj m j o' g with ⟨rfl, rfl, rfl⟩ | ⟨hm, g3⟩
    · exact ⟨loc, hl, ho⟩
    · obtain ⟨l, g4, g5⟩ := r.live m j o' g3
      refine ⟨l, g4, g5.mono (fun _ _ _ h => h) hkeep fun b hb => hu b (g5.inside b hb) fun e => ?_⟩
      exact r.inj m n j k o' o l loc g3 hn hm g4 hl b hb e
  · rcases hobj m j o' g with ⟨rfl, rfl, rfl⟩ | ⟨_, e3⟩ <;> rcases hobj m' j' o'' g' with ⟨rfl, rfl, rfl⟩ | ⟨_, e3'⟩
    · exact absurd rfl hne
    · exact r.inj _ _ _ _ _ _ _ _ hn e3' hne g1 g2
    · exact r.inj _ _ _ _ _ _ _ _ e3 hn hne g1 g2
    · exact r.inj _ _ _ _ _ _ _ _ e3 e3' hne g1 g2
end

section
variable {P : Program} {k : Nat} {st : St} {o : Oper}
theorem opok_quiet {v : AVal} {touch : List Nat} (h : ∀ (ψ : Ghost) (prot : Nat → Prop) (obj : Objs) (w : World) (ρ : Operand → Value), (∀ n ∈ touch, obj n = st.obj n) → (∀ x ∈ o.op.operands, VRel ψ prot w (st.aop x) (ρ x)) → RH ψ prot obj w →
      ∃ cv, (execOp ρ o).run P w = .ok (.value cv) w ∧ VRel ψ prot w v cv) : OpOk P k st o ⟨v, [], touch, []⟩ := by
  refine ⟨fun n hn => by simp [Writes.names] at hn, fun ψ prot obj w ρ ht hx r _ => ?_⟩
  obtain ⟨cv, h1, h2⟩ := h ψ prot obj w ρ ht hx r
  rw [h1]
  exact ⟨ψ, prot, .refl _ _ _ _, r, h2, fun n j hne => .inl hne⟩

theorem opok_move {x : Operand} {v : AVal} (ho : o.op = .move x) (hx : st.aop x = v) : OpOk P k st o ⟨v, [], [], []⟩ :=
  opok_quiet fun ψ prot obj w ρ _ hr _ => ⟨ρ x, by simp [execOp, ho, Sem.run, pure], hx ▸ hr x (by simp [ho, Op.operands])⟩
theorem opok_assign {x : Operand} {v : AVal} (ho : o.op = .assign x) (hx : st.aop x = v) : OpOk P k st o ⟨v, [], [], []⟩ :=
  opok_quiet fun ψ prot obj w ρ _ hr _ => ⟨ρ x, by simp [execOp, ho, Sem.run, pure], hx ▸ hr x (by simp [ho, Op.operands])⟩
theorem opok_pick {c x y : Operand} {b : Bool} {v : AVal} (ho : o.op = .pick c x y) (hc : st.aop c = .val (.bool b)) (hv : (if b then st.aop x else st.aop y) = v) : OpOk P k st o ⟨v, [], [], []⟩ :=
  opok_quiet fun ψ prot obj w ρ _ hr _ => by
    have h1 := (hc ▸ hr c (by simp [ho, Op.operands]) : VRel ψ prot w (.val (.bool b)) (ρ c)).val_eq
    refine ⟨if b then ρ x else ρ y, by simp [execOp, ho, h1, asBool, Sem.run, pure, go_sem], ?_⟩
    subst hv
    cases b
    · exact hr y (by simp [ho, Op.operands])
    · exact hr x (by simp [ho, Op.operands])
/-- Operations on values without memory: by what the model reckons in any world. -/
theorem opok_val {cv : Value} (ρ0 : Operand → Value) (hs : ∀ cs b, o.op ≠ .select cs b) (hx : ∀ x ∈ o.op.operands, st.aop x = .val (ρ0 x)) (h : ∀ w, (execOp ρ0 o).run P w = .ok (.value cv) w) : OpOk P k st o ⟨.val cv, [], [], []⟩ :=
  opok_quiet fun ψ prot obj w ρ _ hr _ => ⟨cv, by
    rw [execOp_congr (ρ := ρ) (ρ' := ρ0) o hs fun x hm => (hx x hm ▸ hr x hm : VRel ψ prot w (.val (ρ0 x)) (ρ x)).val_eq]
    exact h w, .val _⟩
end
end Go.Proofs.Ytojapodjlpffdaa
