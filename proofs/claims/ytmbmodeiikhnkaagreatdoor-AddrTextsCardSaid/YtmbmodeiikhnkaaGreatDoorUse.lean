/-
  Words for the use of XReg's theorem. No program is named here.
-/
import Derived.Test.YtmbmodeiikhnkaaGreatDoorReg
namespace Go.Proofs.YtmbmodeiikhnkaaGreatDoor
open Go.RowKit

section
variable {P : Program} {ops : Array Oper} {base : Act} {X : Nat → Prop} {I : World → Prop} {E : World → World → Prop} {w0 : World} {Ks : List Kind} {i : Nat} {o : Oper}

abbrev isV (v : Value) : Kind := .fact fun _ u _ => u = v

/-- What the operation's operands hold. -/
structure Sees (ops : Array Oper) (base : Act) (i : Nat) (o : Oper) (env : Env) (ρ : Operand → Value) : Prop where
  tmp : ∀ t, (o.looksAt ops).contains t = true → ρ (.tmp t) = slotL ops base (pre ops i) env t (down i)
  const : ∀ v, ρ (.const v) = v
  global : ∀ g, ρ (.global g) = .pointer (some ⟨g, 0, none⟩)
  func : ∀ f, ρ (.func f) = .func (.func f) #[] #[]
theorem Sees.at {env : Env} {ρ : Operand → Value} (h : Sees ops base i o env ρ) (t : Tmp) {v : Value} (hc : (o.looksAt ops).contains t = true) (hv : slotL ops base (pre ops i) env t (down i) = v) : ρ (.tmp t) = v := (h.tmp t hc).trans hv
theorem Sees.of {env : Env} {A : Act} (h : ∀ t ∈ o.looksAt ops, A.eval (.tmp t) = slotL ops base (pre ops i) env t (down i)) : Sees ops base i o env A.eval := ⟨fun t ht => h t (by simpa using ht), fun _ => rfl, fun _ => rfl, fun _ => rfl⟩
def Facts (ops : Array Oper) (w0 : World) (Ks : List Kind) (i : Nat) (env : Env) (W : World) : Prop := ∀ j, pre ops i j = true → (kindAt Ks j).holds w0.heap.size env W j

theorem slot_base {env : Env} {L : Nat → Bool} {t : Tmp} : ∀ {l : List Nat}, (l.all fun j => !(L j && dstOf ops j == some t)) = true → slotL ops base L env t l = base.eval (.tmp t)
  | [], _ => rfl
  | j :: l, h => by
    simp only [List.all_cons, Bool.and_eq_true, Bool.not_eq_true'] at h
    simp only [slotL, h.1, Bool.false_eq_true, if_false]
    exact slot_base h.2

theorem specs_cons {os : List Oper} {k : Kind} {ks : List Kind} (h : k.spec P ops base X I E w0 Ks i o) (t : Specs P ops base X I E w0 Ks (i + 1) os ks) : Specs P ops base X I E w0 Ks i (o :: os) (k :: ks) := ⟨h, t⟩
theorem specs_nil {ks : List Kind} : Specs P ops base X I E w0 Ks i [] ks := trivial

theorem tmp_bool {A : Act} {t : Tmp} {b : Bool} (h : A.eval (.tmp t) = .bool b) : A.tmps[t]? = some (.bool b) := by
  simp only [Act.eval, Array.getD_eq_getD_getElem?] at h
  cases hx : A.tmps[t]? with
  | none => rw [hx] at h; simp [undef] at h
  | some x => rw [hx] at h; simp at h; rw [h]
theorem wanted_is {A : Act} {g : Nat} {b c : Bool} {t : Tmp} (hg : o.guard = some (g, b)) (hd : dstOf ops g = some t) (h : A.eval (.tmp t) = .bool c) : Region.wanted o (yielded ops A.tmps) = (c == b) := by
  have hd' : (ops[g]?).bind (·.dst) = some t := hd
  simp only [Region.wanted, hg, yielded, hd', Option.bind_some, tmp_bool h]
  cases b <;> cases c <;> rfl

/-- An operation that yields one value, and leaves the world. -/
theorem cst (v : Value) (hg : o.guard = none) (h : ∀ env ρ W, Stays X w0 W → I W → Facts ops w0 Ks i env W → Sees ops base i o env ρ → (execOp ρ o).run P W = .ok (.value v) W) :
    Kind.spec P ops base X I E w0 Ks i o (isV v) := by
  refine ⟨fun _ _ _ _ _ h => h, fun _ _ _ _ _ h => h, fun env A W hW hI hF hS => ?_⟩
  have hw : Region.wanted o (yielded ops A.tmps) = true := by simp [Region.wanted, hg]
  simp only [OpStep, hw, if_true, h env A.eval W hW hI hF (Sees.of hS), specUpon]
  exact ⟨Stays.refl _ _, hI, trivial⟩
theorem cst_on (v : Value) {g : Nat} {b : Bool} {t : Tmp} (hg : o.guard = some (g, b)) (hd : dstOf ops g = some t)
    (h : ∀ env ρ W, Stays X w0 W → I W → Facts ops w0 Ks i env W → Sees ops base i o env ρ → ρ (.tmp t) = .bool b ∧ (execOp ρ o).run P W = .ok (.value v) W) :
    Kind.spec P ops base X I E w0 Ks i o (isV v) := by
  refine ⟨fun _ _ _ _ _ h => h, fun _ _ _ _ _ h => h, fun env A W hW hI hF hS => ?_⟩
  obtain ⟨h1, h2⟩ := h env A.eval W hW hI hF (Sees.of hS)
  have hw : Region.wanted o (yielded ops A.tmps) = true := by rw [wanted_is hg hd h1]; simp
  simp only [OpStep, hw, if_true, h2, specUpon]
  exact ⟨Stays.refl _ _, hI, trivial⟩
theorem cst_off {g : Nat} {b c : Bool} {t : Tmp} (hg : o.guard = some (g, b)) (hd : dstOf ops g = some t)
    (h : ∀ env ρ W, Stays X w0 W → I W → Facts ops w0 Ks i env W → Sees ops base i o env ρ → ρ (.tmp t) = .bool c ∧ (c == b) = false) :
    Kind.spec P ops base X I E w0 Ks i o (isV undef) := by
  refine ⟨fun _ _ _ _ _ h => h, fun _ _ _ _ _ h => h, fun env A W hW hI hF hS => ?_⟩
  obtain ⟨h1, h2⟩ := h env A.eval W hW hI hF (Sees.of hS)
  have hw : Region.wanted o (yielded ops A.tmps) = false := by rw [wanted_is hg hd h1, h2]
  simp only [OpStep, hw, Bool.false_eq_true, if_false]
  exact ⟨Stays.refl _ _, hI, trivial⟩

/-- A call whose contract gives one value, and makes memory alone. -/
theorem call_cst (v : Value) (hg : o.guard = none) (hI' : ∀ W W', Below W.heap.size W W' → I W → I W') {f : FuncId} {args : Array Value}
    (h : ∀ env ρ W, Stays X w0 W → I W → Facts ops w0 Ks i env W → Sees ops base i o env ρ → (execOp ρ o).run P W = .ok (.enter f args) W ∧ Calls P f args W fun e w' => e = .returned v ∧ Below W.heap.size W w') :
    Kind.spec P ops base X I E w0 Ks i o (isV v) := by
  refine ⟨fun _ _ _ _ _ h => h, fun _ _ _ _ _ h => h, fun env A W hW hI hF hS => ?_⟩
  have hw : Region.wanted o (yielded ops A.tmps) = true := by simp [Region.wanted, hg]
  obtain ⟨h1, h2⟩ := h env A.eval W hW hI hF (Sees.of hS)
  simp only [OpStep, hw, if_true, h1, specUpon]
  exact h2.mono fun e w' ⟨he, hb⟩ => ⟨v, he, Stays.of_below hb, hI' _ _ hb hI, rfl⟩
theorem call_cst_on (v : Value) {g : Nat} {b : Bool} {t : Tmp} (hg : o.guard = some (g, b)) (hd : dstOf ops g = some t) (hI' : ∀ W W', Below W.heap.size W W' → I W → I W') {f : FuncId} {args : Array Value}
    (h : ∀ env ρ W, Stays X w0 W → I W → Facts ops w0 Ks i env W → Sees ops base i o env ρ → ρ (.tmp t) = .bool b ∧ (execOp ρ o).run P W = .ok (.enter f args) W ∧ Calls P f args W fun e w' => e = .returned v ∧ Below W.heap.size W w') :
    Kind.spec P ops base X I E w0 Ks i o (isV v) := by
  refine ⟨fun _ _ _ _ _ h => h, fun _ _ _ _ _ h => h, fun env A W hW hI hF hS => ?_⟩
  obtain ⟨h0, h1, h2⟩ := h env A.eval W hW hI hF (Sees.of hS)
  have hw : Region.wanted o (yielded ops A.tmps) = true := by rw [wanted_is hg hd h0]; simp
  simp only [OpStep, hw, if_true, h1, specUpon]
  exact h2.mono fun e w' ⟨he, hb⟩ => ⟨v, he, Stays.of_below hb, hI' _ _ hb hI, rfl⟩
/-- A call that gives one value and leaves the world but for draws. -/
theorem quiet_below {f : FuncId} {args : Array Value} {W : World} {v : Value} (h : Calls P f args W fun e w' => e = .returned v ∧ ∃ n, w' = W.drewN n) : Calls P f args W fun e w' => e = .returned v ∧ Below W.heap.size W w' :=
  h.mono fun _ _ ⟨he, n, hn⟩ => ⟨he, by subst hn; exact below_drewN (Below.refl _ _) n⟩
theorem same_below {f : FuncId} {args : Array Value} {W : World} {v : Value} (h : Calls P f args W fun e w' => e = .returned v ∧ W = w') : Calls P f args W fun e w' => e = .returned v ∧ Below W.heap.size W w' :=
  h.mono fun _ _ ⟨he, hn⟩ => ⟨he, by subst hn; exact Below.refl _ _⟩
/-- A call with a contract of whatever kind. -/
theorem call_fact (R : Fact) (hg : o.guard = none) (hloc : ∀ env env' v W, (∀ j, pre ops i j = true → env j = env' j) → R env v W → R env' v W) (hstab : ∀ env v W W', E W W' → R env v W → R env v W')
    (h : ∀ env ρ W, Stays X w0 W → I W → Facts ops w0 Ks i env W → Sees ops base i o env ρ → ∃ f args, (execOp ρ o).run P W = .ok (.enter f args) W ∧ Calls P f args W fun e w' => ∃ v, e = .returned v ∧ Stays X W w' ∧ I w' ∧ R env v w') :
    Kind.spec P ops base X I E w0 Ks i o (.fact R) := by
  refine ⟨hloc, hstab, fun env A W hW hI hF hS => ?_⟩
  have hw : Region.wanted o (yielded ops A.tmps) = true := by simp [Region.wanted, hg]
  obtain ⟨f, args, h1, h2⟩ := h env A.eval W hW hI hF (Sees.of hS)
  simp only [OpStep, hw, if_true, h1, specUpon]
  exact h2
/-- An operation that leaves the world, and yields a value of which something is known. -/
theorem val_fact (R : Fact) (hg : o.guard = none) (hloc : ∀ env env' v W, (∀ j, pre ops i j = true → env j = env' j) → R env v W → R env' v W) (hstab : ∀ env v W W', E W W' → R env v W → R env v W')
    (h : ∀ env ρ W, Stays X w0 W → I W → Facts ops w0 Ks i env W → Sees ops base i o env ρ → ∃ v, (execOp ρ o).run P W = .ok (.value v) W ∧ R env v W) :
    Kind.spec P ops base X I E w0 Ks i o (.fact R) := by
  refine ⟨hloc, hstab, fun env A W hW hI hF hS => ?_⟩
  have hw : Region.wanted o (yielded ops A.tmps) = true := by simp [Region.wanted, hg]
  obtain ⟨v, h1, h2⟩ := h env A.eval W hW hI hF (Sees.of hS)
  simp only [OpStep, hw, if_true, h1, specUpon]
  exact ⟨Stays.refl _ _, hI, h2⟩

/-- An operation that makes memory, and yields a value of which something is known. -/
theorem mk_fact (R : Fact) (hg : o.guard = none) (hloc : ∀ env env' v W, (∀ j, pre ops i j = true → env j = env' j) → R env v W → R env' v W) (hstab : ∀ env v W W', E W W' → R env v W → R env v W')
    (h : ∀ env ρ W, Stays X w0 W → I W → Facts ops w0 Ks i env W → Sees ops base i o env ρ → ∃ v W', (execOp ρ o).run P W = .ok (.value v) W' ∧ Stays X W W' ∧ I W' ∧ R env v W') :
    Kind.spec P ops base X I E w0 Ks i o (.fact R) := by
  refine ⟨hloc, hstab, fun env A W hW hI hF hS => ?_⟩
  have hw : Region.wanted o (yielded ops A.tmps) = true := by simp [Region.wanted, hg]
  obtain ⟨v, W', h1, h2⟩ := h env A.eval W hW hI hF (Sees.of hS)
  simp only [OpStep, hw, if_true, h1, specUpon]
  exact h2

/-- A new box. -/
theorem box_made (t : TypeId) (z : Array Value) (hg : o.guard = none) (hI' : ∀ W W', Below W.heap.size W W' → I W → I W')
    (h : ∀ (ρ : Operand → Value) W, (execOp ρ o).run P W = .ok (.value (.pointer (some ⟨W.heap.size, 0, none⟩))) (W.alloc (.cells z t))) :
    Kind.spec P ops base X I E w0 Ks i o (.made t z) := by
  refine ⟨fun W hI => hI' _ _ ((Below.refl _ _).alloc (Nat.le_refl _) _) hI, fun A W => ?_⟩
  have hw : Region.wanted o (yielded ops A.tmps) = true := by simp [Region.wanted, hg]
  simp only [OpStep, hw, if_true, h A.eval W, specUpon]
  exact ⟨rfl, trivial⟩
end

section
variable {P : Program} {ops : Array Oper} {base : Act} {Q : Exit → Act → World → Prop} {X : Nat → Prop} {I : World → Prop} {w0 : World} {Ks : List Kind}
/-- The low part of memory: blocks that were there. -/
def Low (X : Nat → Prop) (B : Nat) (W W' : World) : Prop := ∀ k, k < B → ¬ X k → W'.heap[k]? = W.heap[k]?
theorem low_of_stays {W W' : World} (h : Stays X w0 W) (h' : Stays X W W') : Low X w0.heap.size W W' := fun k hk hx => h'.block k (Nat.lt_of_lt_of_le hk h.size) hx
theorem low_of_only {g : Nat} {W W' : World} (hg : w0.heap.size ≤ g) (h : OnlyBlock g W W') : Low X w0.heap.size W W' := fun k hk _ => h.block k (by omega)
theorem stays_cells {W : World} (h : Stays X w0.drew W) : ∀ b o, b < w0.heap.size → ¬ X b → W.cell? ⟨b, o, none⟩ = w0.cell? ⟨b, o, none⟩ := fun b _ hb hx => h.cell (p := ⟨b, _, none⟩) hb hx

/-- The fill of a box that the region has made. -/
theorem box_put {i : Nat} {o : Oper} (m : Nat) (t : TypeId) (z : Array Value) (C : Array Value) (hg : o.guard = none) (hm : m < ops.size) (hp : pre ops i m = true) (hk : kindAt Ks m = .made t z) (hI' : ∀ W W' g, w0.heap.size ≤ g → OnlyBlock g W W' → I W → I W')
    (h : ∀ env ρ W g, Stays X w0 W → I W → Facts ops w0 Ks i env W → Sees ops base i o env ρ → env m = ptr g → Box g t z W → ∃ W', (execOp ρ o).run P W = .ok .skip W' ∧ Box g t C W' ∧ OnlyBlock g W W') :
    Kind.spec P ops base X I (Low X w0.heap.size) w0 Ks i o (.put m t fun _ => C) := by
  refine ⟨hm, hp, ⟨z, hk⟩, fun g W W' hg ho => ⟨low_of_only hg ho, hI' _ _ g hg ho⟩, fun _ _ _ => rfl, fun env A W g z' hW hI hF hk' he hb hS => ?_⟩
  have hw : Region.wanted o (yielded ops A.tmps) = true := by simp [Region.wanted, hg]
  rw [hk] at hk'
  injection hk' with _ e2
  subst e2
  obtain ⟨W', h1, h2, h3⟩ := h env A.eval W g hW hI hF (Sees.of hS) he hb
  simp only [OpStep, hw, if_true, h1, specUpon]
  exact ⟨h2, h3⟩


/-- New memory that is written out: a slice, a box. -/
abbrev isLit (X : Nat → Prop) (B : Nat) (t : TypeId) (cs : Array Value) (n : Nat) : Kind := .fact fun _ v W => ∃ g, v = .slice (some ⟨g, 0, none⟩) n n ∧ (B ≤ g ∧ ¬ X g) ∧ Box g t cs W
abbrev isBox (X : Nat → Prop) (B : Nat) (t : TypeId) (cs : Array Value) : Kind := .fact fun _ v W => ∃ g, v = .pointer (some ⟨g, 0, none⟩) ∧ (B ≤ g ∧ ¬ X g) ∧ Box g t cs W
theorem box_stays {g : Nat} {t : TypeId} {cs : Array Value} {W W' : World} (h : Box g t cs W) (hs : Stays X W W') (hg : ¬ X g) : Box g t cs W' := by
  show W'.heap[g]? = _
  rw [hs.block g h.inside hg]; exact h
theorem lit_made {i B : Nat} {o : Oper} (hB : B ≤ w0.heap.size) (t : TypeId) (cs : Array Value) (n : Nat) (hg : o.guard = none) (hX : ∀ k, X k → k < w0.heap.size) (hI' : ∀ W W', Below W.heap.size W W' → I W → I W')
    (h : ∀ env ρ W, Stays X w0 W → I W → Facts ops w0 Ks i env W → Sees ops base i o env ρ → (execOp ρ o).run P W = .ok (.value (.slice (some ⟨W.heap.size, 0, none⟩) n n)) (W.alloc (.cells cs t))) :
    Kind.spec P ops base X I (Stays X) w0 Ks i o (isLit X B t cs n) := by
  refine ⟨fun _ _ _ _ _ h => h, ?_, fun env A W hW hI hF hS => ?_⟩
  · rintro _ _ W W' hs ⟨g, h1, h2, h3⟩
    exact ⟨g, h1, h2, box_stays h3 hs h2.2⟩
  · have hw : Region.wanted o (yielded ops A.tmps) = true := by simp [Region.wanted, hg]
    simp only [OpStep, hw, if_true, h env A.eval W hW hI hF (Sees.of hS), specUpon]
    exact ⟨Stays.alloc _ _ _, hI' _ _ ((Below.refl _ _).alloc (Nat.le_refl _) _) hI, W.heap.size, rfl, ⟨Nat.le_trans hB hW.size, fun hx => by have := hX _ hx; have := hW.size; omega⟩, Box.made _ _ _⟩
theorem lit_box {i B : Nat} {o : Oper} (hB : B ≤ w0.heap.size) (t : TypeId) (cs : Array Value) (hg : o.guard = none) (hX : ∀ k, X k → k < w0.heap.size) (hI' : ∀ W W', Below W.heap.size W W' → I W → I W')
    (h : ∀ env ρ W, Stays X w0 W → I W → Facts ops w0 Ks i env W → Sees ops base i o env ρ → (execOp ρ o).run P W = .ok (.value (.pointer (some ⟨W.heap.size, 0, none⟩))) (W.alloc (.cells cs t))) :
    Kind.spec P ops base X I (Stays X) w0 Ks i o (isBox X B t cs) := by
  refine ⟨fun _ _ _ _ _ h => h, ?_, fun env A W hW hI hF hS => ?_⟩
  · rintro _ _ W W' hs ⟨g, h1, h2, h3⟩
    exact ⟨g, h1, h2, box_stays h3 hs h2.2⟩
  · have hw : Region.wanted o (yielded ops A.tmps) = true := by simp [Region.wanted, hg]
    simp only [OpStep, hw, if_true, h env A.eval W hW hI hF (Sees.of hS), specUpon]
    exact ⟨Stays.alloc _ _ _, hI' _ _ ((Below.refl _ _).alloc (Nat.le_refl _) _) hI, W.heap.size, rfl, ⟨Nat.le_trans hB hW.size, fun hx => by have := hX _ hx; have := hW.size; omega⟩, Box.made _ _ _⟩
theorem lies_box {g B : Nat} {t : TypeId} {xs : List Value} {W : World} (h : Box g t xs.toArray W) (hB : g < B) : Lies B (some ⟨g, 0, none⟩) xs W := fun k hk => by
  refine ⟨_, xs[k], rfl, hB, List.getElem?_eq_getElem hk, ?_⟩
  have e : (⟨g, 0, none⟩ : Addr).add k = ⟨g, k, none⟩ := by unfold Addr.add; split <;> simp_all
  rw [e, h.at_ k]
  simp [hk]
end

/-- A whole box written anew, cell by cell. -/
def fillCells (g : Nat) : Nat → List Value → World → World
  | _, [], w => w
  | i, u :: us, w => fillCells g (i + 1) us (w.setCell ⟨g, i, none⟩ u)
theorem fill_from {g : Nat} {t : TypeId} : ∀ (us : List Value) (i : Nat) (cs : Array Value) (w : World), Box g t cs w → i + us.length = cs.size → Box g t (cs.toList.take i ++ us).toArray (fillCells g i us w)
  | [], i, cs, w, h, hl => by
    have : cs.toList.take i = cs.toList := List.take_of_length_le (by simp at hl ⊢; omega)
    simpa [this, fillCells] using h
  | u :: us, i, cs, w, h, hl => by
    have h1 := fill_from us (i + 1) (cs.setIfInBounds i u) (w.setCell ⟨g, i, none⟩ u) (h.put i u) (by simp at hl ⊢; omega)
    have hi : i < cs.toList.length := by simp at hl ⊢; omega
    have e : (cs.setIfInBounds i u).toList.take (i + 1) = cs.toList.take i ++ [u] := by
      rw [Array.toList_setIfInBounds, List.take_succ_eq_append_getElem (by simpa using hi), List.take_set_of_le (Nat.le_refl _)]
      simp
    rw [e, List.append_assoc] at h1
    exact h1
theorem box_fill {g : Nat} {t : TypeId} {cs : Array Value} {us : List Value} {w : World} (h : Box g t cs w) (hl : cs.size = us.length) : Box g t us.toArray (fillCells g 0 us w) := by
  have := fill_from us 0 cs w h (by omega)
  simpa using this

/-- A part of a box, read as a list. -/
theorem lies_part {b off : Nat} {t : TypeId} {cs : Array Value} {W : World} (h : Box b t cs W) (xs : List Value) (hp : (cs.toList.drop off).take xs.length = xs) : Lies W.heap.size (some ⟨b, off, none⟩) xs W := fun k hk => by
  refine ⟨_, xs[k], rfl, h.inside, List.getElem?_eq_getElem hk, ?_⟩
  have e : (⟨b, off, none⟩ : Addr).add k = ⟨b, off + k, none⟩ := by unfold Addr.add; split <;> simp_all
  rw [e, h.at_ (off + k)]
  have h1 : xs[k]? = some xs[k] := List.getElem?_eq_getElem hk
  have h2 : ((cs.toList.drop off).take xs.length)[k]? = some xs[k] := by rw [hp]; exact h1
  rw [List.getElem?_take_of_lt hk, List.getElem?_drop] at h2
  simpa using h2
end Go.Proofs.YtmbmodeiikhnkaaGreatDoor
