/-
  The rules for code, and for functions: what a body does by states, and what a call of it does in the caller's state. No program is named here.
-/
import Derived.Test.YtojapodjlpffdaaAbsReg
namespace Go.Proofs.Ytojapodjlpffdaa
open Go.RowKit
section
variable {P : Program} {N : Nat} {ini : Ini} {Q Q' : Exit → St → Prop} {st : St}

theorem Awp.mono {c : Code} (h : Awp P N ini c Q st) (hq : ∀ e st', Q e st' → Q' e st') : Awp P N ini c Q' st :=
  fun a w r => wp_mono (h a w r) fun e a' w' ⟨st', r', q⟩ => ⟨st', r', hq e st' q⟩
def andThen (next : St → Prop) (Q : Exit → St → Prop) : Exit → St → Prop
  | .normal, st => next st
  | e, st => Q e st
theorem awp_seq {x y : Code} (h : Awp P N ini x (andThen (Awp P N ini y Q) Q) st) : Awp P N ini (.seq x y) Q st := fun a w r =>
  wp_seq (wp_mono (h a w r) fun e a' w' ⟨st', r', q⟩ => by
    cases e
    case normal => exact q a' w' r'
    all_goals exact ⟨st', r', q⟩)
theorem awp_skip (h : Q .normal st) : Awp P N ini .skip Q st := fun _ _ r => wp_skip ⟨st, r, h⟩
theorem awp_label {l : Nat} (h : Q .normal st) : Awp P N ini (.label l) Q st := fun _ _ r => wp_label ⟨st, r, h⟩
theorem awp_ret (h : Q .ret st) : Awp P N ini .ret Q st := fun _ _ r => wp_ret ⟨st, r, h⟩
theorem awp_exit {id : Nat} (h : Q (.exit id) st) : Awp P N ini (.exit id) Q st := fun _ _ r => wp_exit ⟨st, r, h⟩
theorem awp_goto {id : Nat} (h : Q (.goto id) st) : Awp P N ini (.goto id) Q st := fun _ _ r => wp_goto ⟨st, r, h⟩
theorem R.val {a : Act} {w : World} {c : Operand} {v : Value} (r : R N ini st a w) (h : st.aop c = .val v) : a.eval c = v := by
  obtain ⟨ψ, prot, -, -, -, hv⟩ := r.rel
  cases c with
  | tmp t =>
    have h1 := hv t
    have h2 : st.get t = .val v := h
    rw [h2] at h1
    exact h1.val_eq
  | const u => injection h
  | global g => cases h
  | func f => cases h
theorem awp_cond {c : Operand} {x y : Code} (b : Bool) (hc : st.aop c = .val (.bool b)) (h1 : b = true → Awp P N ini x Q st) (h2 : b = false → Awp P N ini y Q st) : Awp P N ini (.cond c x y) Q st := fun a w r =>
  wp_cond_split (r.val hc) (fun h => h1 h a w r) fun h => h2 h a w r
theorem awp_true {c : Operand} {x y : Code} (hc : st.aop c = .val (.bool true)) (h1 : Awp P N ini x Q st) : Awp P N ini (.cond c x y) Q st := awp_cond true hc (fun _ => h1) (fun h => by cases h)
theorem awp_false {c : Operand} {x y : Code} (hc : st.aop c = .val (.bool false)) (h1 : Awp P N ini y Q st) : Awp P N ini (.cond c x y) Q st := awp_cond false hc (fun h => by cases h) (fun _ => h1)
def inBlock (id : Nat) (Q : Exit → St → Prop) : Exit → St → Prop
  | .exit id', st => if id' = id then Q .normal st else Q (.exit id') st
  | e, st => Q e st
theorem awp_block {id : Nat} {c : Code} (h : Awp P N ini c (inBlock id Q) st) : Awp P N ini (.block id c) Q st := fun a w r =>
  wp_block (wp_mono (h a w r) fun e a' w' ⟨st', r', q⟩ => by
    cases e
    case exit id' =>
      simp only [inBlock] at q
      simp only [Exit.inBlock]
      split at q
      · rename_i e; rw [if_pos e]; exact ⟨st', r', q⟩
      · rename_i e; rw [if_neg e]; exact ⟨st', r', q⟩
    all_goals exact ⟨st', r', q⟩)
/-- A loop: what holds of the states at its head, and a number that falls. -/
theorem awp_loop {c : Code} (I : Nat → St → Prop) (n0 : Nat) (h0 : I n0 st) (round : ∀ n st, I n st → Awp P N ini c (andThen (fun st' => ∃ n', n' < n ∧ I n' st') Q) st) : Awp P N ini (.loop c) Q st := by
  intro a w r b k cs
  have key : ∀ n st, I n st → ∀ a w, R N ini st a w → ∃ e a' w', (∃ st', R N ini st' a' w' ∧ Q e st') ∧ Arrives P (lone (b.at a (.code c :: .inLoop c :: k)) cs w) b k cs e a' w' := by
    intro n
    induction n using Nat.strongRecOn with
    | _ n ih =>
      intro st hI a w r
      obtain ⟨e, a₁, w₁, ⟨st₁, r₁, hq⟩, harr⟩ := round n st hI a w r b (.inLoop c :: k) cs
      cases e with
      | normal =>
        obtain ⟨n₁, hlt, hI₁⟩ := hq
        obtain ⟨e₂, a₂, w₂, hq₂, harr₂⟩ := ih n₁ hlt st₁ hI₁ a₁ w₁ r₁
        exact ⟨e₂, a₂, w₂, hq₂, .of_steps (Steps.trans harr (.one step_inLoop)) harr₂⟩
      | exit id => exact ⟨_, a₁, w₁, ⟨st₁, r₁, hq⟩, .pass (x := .inLoop c) rfl (fun _ _ => .inl (by simp)) harr⟩
      | goto l => exact ⟨_, a₁, w₁, ⟨st₁, r₁, hq⟩, .pass (x := .inLoop c) rfl (fun _ _ => .inl (by simp)) harr⟩
      | ret => exact ⟨_, a₁, w₁, ⟨st₁, r₁, hq⟩, .pass (x := .inLoop c) rfl (fun _ _ => .inl (by simp)) harr⟩
      | panic ch => exact ⟨_, a₁, w₁, ⟨st₁, r₁, hq⟩, .pass (x := .inLoop c) rfl (fun _ _ => .inl (by simp)) harr⟩
      | outgrown => exact ⟨_, a₁, w₁, ⟨st₁, r₁, hq⟩, .pass (x := .inLoop c) rfl (fun _ _ => .inl (by simp)) harr⟩
  obtain ⟨e, a', w', hq, harr⟩ := key n0 st h0 a w r
  exact ⟨e, a', w', hq, .of_steps (.one step_loop) harr⟩
theorem awp_weaken {c : Code} {st' : St} (hr : ∀ a w, R N ini st a w → R N ini st' a w) (h : Awp P N ini c Q st') : Awp P N ini c Q st := fun a w r => h a w (hr a w r)

/-- A state that says less. -/
def St.leB (st st' : St) : Prop := (∀ t, st'.get t = .any ∨ st'.get t = st.get t) ∧ ∀ n, st'.obj n = none ∨ st'.obj n = st.obj n
theorem unowned_less {ψ : Ghost} {obj obj' : Objs} {w : World} {b : Nat} (h : ∀ n, obj' n = none ∨ obj' n = obj n) (hu : unowned ψ obj w b) : unowned ψ obj' w b :=
  ⟨hu.1, fun n k o loc h1 h2 => by
    rcases h n with e | e
    · rw [e] at h1; cases h1
    · rw [e] at h1; exact hu.2 n k o loc h1 h2⟩
theorem R.less {st' : St} {a : Act} {w : World} (hl : st.leB st') (r : R N ini st a w) : R N ini st' a w := by
  obtain ⟨hd, hs, ψ, prot, h1, h2, h3, h4⟩ := r
  have live : ∀ n k o, st'.obj n = some (k, o) → st.obj n = some (k, o) := fun n k o h => by
    rcases hl.2 n with e | e
    · rw [e] at h; cases h
    · rwa [e] at h
  refine ⟨hd, hs, ψ, prot, ⟨h1.os, h1.tape, h1.output, h1.size, h1.gh, h1.pr, fun b hb => ⟨unowned_less hl.2 (h1.un b hb).1, (h1.un b hb).2⟩, h1.new⟩, ⟨fun n k o h => h2.live n k o (live n k o h), fun n n' k k' o o' l l' g1 g2 => h2.inj n n' k k' o o' l l' (live _ _ _ g1) (live _ _ _ g2), fun b hb => unowned_less hl.2 (h2.pr b hb)⟩, h3, fun t => ?_⟩
  rcases hl.1 t with e | e
  · rw [e]; exact .any _
  · rw [e]; exact h4 t
end

mutual
/-- No alias of the call's own memory in it. -/
def AVal.pure : AVal → Bool
  | .any => true
  | .val _ => true
  | .ro es => AVal.pures es
  | .own _ _ _ => false
  | .ptr _ _ _ => false
  | .rref cs => AVal.pures cs
  | .agg cs => AVal.pures cs
  | .tuple cs => AVal.pures cs
  | .fn _ cs => AVal.pures cs
def AVal.pures : List AVal → Bool
  | [] => true
  | x :: xs => x.pure && AVal.pures xs
end
theorem AVal.pures_mem : ∀ {xs : List AVal}, AVal.pures xs = true → ∀ x ∈ xs, x.pure = true
  | [], _, _, h => by cases h
  | y :: ys, h, x, hx => by
    simp only [AVal.pures, Bool.and_eq_true] at h
    rcases List.mem_cons.1 hx with rfl | hx
    · exact h.1
    · exact AVal.pures_mem h.2 x hx
theorem AVal.pures_of : ∀ {xs : List AVal}, (∀ x ∈ xs, x.pure = true) → AVal.pures xs = true
  | [], _ => rfl
  | y :: ys, h => by
    simp only [AVal.pures, Bool.and_eq_true]
    exact ⟨h y List.mem_cons_self, AVal.pures_of fun x hx => h x (List.mem_cons_of_mem _ hx)⟩
theorem AVal.pure_flat {x y : AVal} (h : x.pure = true) (hy : y ∈ x.flat) : y.pure = true := by
  unfold AVal.flat at hy
  split at hy
  · exact AVal.pures_mem h y hy
  · simp only [List.mem_map] at hy
    obtain ⟨v, -, rfl⟩ := hy
    rfl
  · simp only [List.mem_singleton] at hy
    subst hy; exact h
theorem AVal.pures_flat {es : List AVal} (h : AVal.pures es = true) : AVal.pures (es.flatMap AVal.flat) = true :=
  AVal.pures_of fun x hx => by
    obtain ⟨y, hy, hxy⟩ := List.mem_flatMap.1 hx
    exact AVal.pure_flat (AVal.pures_mem h y hy) hxy
theorem VRel.pure {ψ ψ' : Ghost} {prot : Nat → Prop} {w : World} {x : AVal} {v : Value} (h : VRel ψ prot w x v) : x.pure = true → VRel ψ' prot w x v := by
  induction h with
  | any v => intro _; exact .any v
  | val v => intro _; exact .val v
  | roNil a cap h => intro _; exact .roNil a cap h
  | ro es vs b o cap hcp hb hl hc _ ih => intro hp; exact .ro es vs b o cap hcp hb hl hc fun i x v h1 h2 => ih i x v h1 h2 (AVal.pures_mem (AVal.pures_flat hp) x (List.mem_of_getElem? h1))
  | own n k len loc h => intro hp; cases hp
  | ptr n k off b cap h => intro hp; cases hp
  | rref cs vs b o hb hl hc _ ih => intro hp; exact .rref cs vs b o hb hl hc fun i x v h1 h2 => ih i x v h1 h2 (AVal.pures_mem hp x (List.mem_of_getElem? h1))
  | agg cs vs hl _ ih => intro hp; exact .agg cs vs hl fun i x v h1 h2 => ih i x v h1 h2 (AVal.pures_mem hp x (List.mem_of_getElem? h1))
  | tuple cs vs hl _ ih => intro hp; exact .tuple cs vs hl fun i x v h1 h2 => ih i x v h1 h2 (AVal.pures_mem hp x (List.mem_of_getElem? h1))
  | fn f cs vs hl _ ih => intro hp; exact .fn f cs vs hl fun i x v h1 h2 => ih i x v h1 h2 (AVal.pures_mem hp x (List.mem_of_getElem? h1))
theorem VRels.pure {ψ ψ' : Ghost} {prot : Nat → Prop} {w : World} {xs : List AVal} {vs : List Value} (h : VRels ψ prot w xs vs) (hp : AVal.pures xs = true) : VRels ψ' prot w xs vs :=
  ⟨h.1, fun i x v h1 h2 => (h.2 i x v h1 h2).pure (AVal.pures_mem hp x (List.mem_of_getElem? h1))⟩
def AObj.pure : AObj → Bool
  | .row _ _ es => AVal.pures es
  | .box _ cs => AVal.pures cs
theorem ORel.pure {ψ ψ' : Ghost} {prot : Nat → Prop} {w : World} {loc : Loc} : ∀ {o : AObj}, ORel ψ prot w loc o → o.pure = true → ORel ψ' prot w loc o
  | .row _ _ _, ⟨xs, h, h2⟩, hp => ⟨xs, h, h2.pure (AVal.pures_flat hp)⟩
  | .box _ _, ⟨b, vs, h0, h, h2⟩, hp => ⟨b, vs, h0, h, h2.pure hp⟩

/-- Names changed at the top of a value: g says for a name which new name and version it has. -/
inductive Ren (g : List (Nat × Nat × Nat × Nat)) : AVal → AVal → Prop where
  | pure (x : AVal) (h : x.pure = true) : Ren g x x
  | own (n k n' k' len len' : Nat) (hl : len = len') (h : (n, k, n', k') ∈ g) : Ren g (.own n k len) (.own n' k' len')
  | ptr (n k n' k' off : Nat) (h : (n, k, n', k') ∈ g) : Ren g (.ptr n k off) (.ptr n' k' off)
inductive Rens (g : List (Nat × Nat × Nat × Nat)) : List AVal → List AVal → Prop where
  | nil : Rens g [] []
  | cons {x y : AVal} {xs ys : List AVal} (h : Ren g x y) (t : Rens g xs ys) : Rens g (x :: xs) (y :: ys)
inductive RenT (g : List (Nat × Nat × Nat × Nat)) : AVal → AVal → Prop where
  | one {x y : AVal} (h : Ren g x y) : RenT g x y
  | tuple {xs ys : List AVal} (h : Rens g xs ys) : RenT g (.tuple xs) (.tuple ys)
section
variable {g : List (Nat × Nat × Nat × Nat)} {ψ ψ' : Ghost} {prot : Nat → Prop} {w : World}
theorem Ren.rel {x y : AVal} {v : Value} (h : Ren g x y) (hg : ∀ n k n' k', (n, k, n', k') ∈ g → ψ' n' k' = ψ n k) (hv : VRel ψ prot w x v) : VRel ψ' prot w y v := by
  cases h with
  | pure _ hp => exact hv.pure hp
  | own n k n' k' len len' he hm => subst he; cases hv with | own _ _ _ loc hl => exact .own n' k' len loc ((hg _ _ _ _ hm).trans hl)
  | ptr n k n' k' off hm => cases hv with | ptr _ _ _ b cap hl => exact .ptr n' k' off b cap ((hg _ _ _ _ hm).trans hl)
theorem Rens.rel (hg : ∀ n k n' k', (n, k, n', k') ∈ g → ψ' n' k' = ψ n k) : ∀ {xs ys : List AVal}, Rens g xs ys → xs.length = ys.length ∧ ∀ (i : Nat) (y : AVal), ys[i]? = some y → ∃ x, xs[i]? = some x ∧ ∀ v, VRel ψ prot w x v → VRel ψ' prot w y v := by
  intro xs ys h
  induction h with
  | nil => exact ⟨rfl, fun i y h => by simp at h⟩
  | cons h _ ih =>
    refine ⟨by simp [ih.1], fun i y hy => ?_⟩
    cases i with
    | zero =>
      simp only [List.getElem?_cons_zero, Option.some.injEq] at hy
      subst hy
      exact ⟨_, rfl, fun v hv => h.rel hg hv⟩
    | succ i =>
      simp only [List.getElem?_cons_succ] at hy
      exact ih.2 i y hy
theorem RenT.rel {x y : AVal} {v : Value} (h : RenT g x y) (hg : ∀ n k n' k', (n, k, n', k') ∈ g → ψ' n' k' = ψ n k) (hv : VRel ψ prot w x v) : VRel ψ' prot w y v := by
  cases h with
  | one h => exact h.rel hg hv
  | tuple h =>
    cases hv with
    | tuple _ vs hl hv =>
      obtain ⟨e, hr⟩ := h.rel (prot := prot) (w := w) hg
      refine .tuple _ vs (hl.trans e) fun i y v hy hvi => ?_
      obtain ⟨x, hx, hxy⟩ := hr i y hy
      exact hxy v (hv i x v hx hvi)
end

/-- **What a function does**: with these arguments and these objects of the caller's (named by numbers of the function's own, version 0), it returns v and leaves the objects as objs' says; a new one is named 1000. -/
def Spec (P : Program) (f : FuncId) (args : List AVal) (objs : Writes) (v : AVal) (objs' : Writes) : Prop :=
  ∀ (ψ : Ghost) (prot : Nat → Prop) (w : World) (cargs : Array Value), (∀ n k, ψ n k ≠ none → k = 0 ∧ n < 1000) → RH ψ prot (updW (fun _ => none) objs) w → cargs.size = args.length → (∀ (i : Nat) (x : AVal) (u : Value), args[i]? = some x → cargs[i]? = some u → VRel ψ prot w x u) →
    Calls P f cargs w fun e w' => ∃ cv ψ' prot', e = .returned cv ∧ Evolve ψ prot (updW (fun _ => none) objs) w ψ' prot' (updW (fun _ => none) objs') w' ∧ RH ψ' prot' (updW (fun _ => none) objs') w' ∧ VRel ψ' prot' w' v cv

/-- What stands in the results' slots. -/
def ResOk (P : Program) (fn : Func) (st : St) (v : AVal) : Prop :=
  ∀ (ψ : Ghost) (prot : Nat → Prop) (w : World) (tmps : Array Value), RH ψ prot st.obj w → (∀ t, VRel ψ prot w (st.get t) (tmps.getD t undef)) → ∃ cv, (results fn tmps).run P w = .ok cv w ∧ VRel ψ prot w v cv
theorem res_none {P : Program} {fn : Func} {st : St} (hr : fn.results = #[]) : ResOk P fn st (.tuple []) := fun ψ prot w tmps _ _ => ⟨.tuple #[], by simp [results, hr, go_sem], .tuple [] #[] rfl fun i x v h => by simp at h⟩
theorem res_one {P : Program} {fn : Func} {st : St} {a : Nat} {x : AVal} (hr : fn.results = #[.tmp a]) (ha : st.get a = x) : ResOk P fn st x := fun ψ prot w tmps _ h => ⟨tmps.getD a undef, by simp [results, hr, go_sem], ha ▸ h a⟩
theorem res_two {P : Program} {fn : Func} {st : St} {a b : Nat} {x y : AVal} (hr : fn.results = #[.tmp a, .tmp b]) (ha : st.get a = x) (hb : st.get b = y) : ResOk P fn st (.tuple [x, y]) := fun ψ prot w tmps _ h =>
  ⟨.tuple #[tmps.getD a undef, tmps.getD b undef], by simp [results, hr, go_sem], .tuple _ _ rfl fun i z v h1 h2 => by
    match i with
    | 0 => simp at h1 h2; subst h1; rw [← h2, ← ha]; simpa using h a
    | 1 => simp at h1 h2; subst h1; rw [← h2, ← hb]; simpa using h b
    | i + 2 => simp at h1⟩
theorem res_three {P : Program} {fn : Func} {st : St} {a b c : Nat} {x y z : AVal} (hr : fn.results = #[.tmp a, .tmp b, .tmp c]) (ha : st.get a = x) (hb : st.get b = y) (hc : st.get c = z) : ResOk P fn st (.tuple [x, y, z]) := fun ψ prot w tmps _ h =>
  ⟨.tuple #[tmps.getD a undef, tmps.getD b undef, tmps.getD c undef], by simp [results, hr, go_sem], .tuple _ _ rfl fun i z v h1 h2 => by
    match i with
    | 0 => simp at h1 h2; subst h1; rw [← h2, ← ha]; simpa using h a
    | 1 => simp at h1 h2; subst h1; rw [← h2, ← hb]; simpa using h b
    | 2 => simp at h1 h2; subst h1; rw [← h2, ← hc]; simpa using h c
    | i + 3 => simp at h1⟩

section lookups
variable {β : Type}
theorem lookup_mem : ∀ {l : List (Nat × β)} {n : Nat} {x : β}, l.lookup n = some x → (n, x) ∈ l
  | [], _, _, h => by cases h
  | (m, y) :: l, n, x, h => by
    rw [List.lookup_cons] at h
    cases hn : n == m with
    | true => rw [hn] at h; simp at h hn; subst h; subst hn; exact List.mem_cons_self
    | false => rw [hn] at h; exact List.mem_cons_of_mem _ (lookup_mem h)
theorem lookup_of_mem : ∀ {l : List (Nat × β)} {n : Nat} {x : β}, (l.map (·.1)).Nodup → (n, x) ∈ l → l.lookup n = some x
  | [], _, _, _, h => by cases h
  | (m, y) :: l, n, x, hd, h => by
    simp only [List.map_cons, List.nodup_cons] at hd
    rw [List.lookup_cons]
    rcases List.mem_cons.1 h with h' | h'
    · injection h' with h1 h2; subst h1; subst h2; simp
    · have : (n == m) = false := by
        simp only [beq_eq_false_iff_ne, ne_eq]
        intro e; subst e
        exact hd.1 (List.mem_map.2 ⟨(n, x), h', rfl⟩)
      rw [this]
      exact lookup_of_mem hd.2 h'
end lookups

/-- The state that a body begins with. -/
def startSt (args : List AVal) (objs : Writes) : St := ⟨(List.range args.length).zip args, objs⟩
theorem lookup_zip : ∀ (args : List AVal) (s t : Nat), ((List.range' s args.length).zip args).lookup t = if s ≤ t then args[t - s]? else none
  | [], s, t => by simp
  | x :: xs, s, t => by
    simp only [List.length_cons, List.range'_succ, List.zip_cons_cons, List.lookup_cons]
    by_cases h : t = s
    · subst h; simp
    · have e : (t == s) = false := by simpa using h
      rw [e]
      have := lookup_zip xs (s + 1) t
      simp only [this]
      by_cases h2 : s + 1 ≤ t
      · have e2 : t - s = (t - (s + 1)) + 1 := by omega
        rw [if_pos h2, if_pos (by omega), e2, List.getElem?_cons_succ]
      · rw [if_neg h2, if_neg (by omega)]
theorem startSt_get (args : List AVal) (objs : Writes) (t : Nat) : (startSt args objs).get t = (args[t]?).getD .any := by
  have := lookup_zip args 0 t
  simp only [Nat.zero_le, if_true, Nat.sub_zero] at this
  simp only [St.get, startSt, List.range_eq_range', this]
  cases args[t]? <;> rfl

/-- How a function ends: 'keep' says which objects are handed back, by which names: (new name, name, version). -/
def Ends (P : Program) (fn : Func) (v : AVal) (objs' : Writes) (e : Exit) (st : St) : Prop :=
  (e = .ret ∨ e = .normal) ∧ ∃ (v0 : AVal) (keep : List (Nat × Nat × Nat)), ResOk P fn st v0 ∧ RenT (keep.map fun x => (x.2.1, x.2.2, x.1, 0)) v0 v ∧
    (∀ n, updW (fun _ => none) objs' n = (match keep.lookup n with | some (m, _) => (st.obj m).map fun y => (0, y.2) | none => none)) ∧ (∀ x ∈ keep, ∃ o, st.obj x.2.1 = some (x.2.2, o) ∧ o.pure = true) ∧ (keep.map (·.2.1)).Nodup ∧ (keep.map (·.1)).Nodup ∧ ∀ x ∈ keep, x.1 = 1000 ∨ (x.2.1 = x.1 ∧ x.2.2 = 0)

theorem nodup_inj {α β : Type} {f : α → β} : ∀ {l : List α}, (l.map f).Nodup → ∀ x ∈ l, ∀ y ∈ l, f x = f y → x = y
  | [], _, x, h, _, _, _ => by cases h
  | a :: l, hd, x, hx, y, hy, e => by
    simp only [List.map_cons, List.nodup_cons] at hd
    rcases List.mem_cons.1 hx with rfl | hx' <;> rcases List.mem_cons.1 hy with rfl | hy'
    · rfl
    · exact absurd (List.mem_map.2 ⟨y, hy', e.symm⟩) hd.1
    · exact absurd (List.mem_map.2 ⟨x, hx', e⟩) hd.1
    · exact nodup_inj hd.2 x hx' y hy' e

theorem spec_of_awp {P : Program} {f : FuncId} {fn : Func} {c : Code} {args : List AVal} {objs objs' : Writes} {v : AVal} (hf : P.funcs[f]? = some fn) (hb : fn.body = some c) (hn : args.length ≤ fn.ntmps)
    (h : ∀ ini, Awp P fn.ntmps ini c (Ends P fn v objs') (startSt args objs)) : Spec P f args objs v objs' := by
  intro ψ prot w cargs hψ hrh hsz hargs
  refine calls_of_wp hf hb (wp_mono (h ⟨ψ, prot, updW (fun _ => none) objs, w⟩ _ w ⟨rfl, by simp [hsz]; omega, ψ, prot, .refl _ _ _ _, hrh, ⟨1, fun n k hk => ?_⟩, fun t => ?_⟩) ?_)
  · by_cases hx : ψ n k = none
    · exact hx
    · have := (hψ n k hx).1; omega
  · rw [startSt_get]
    cases ha : args[t]? with
    | none => exact .any _
    | some x =>
      have ht : t < args.length := (List.getElem?_eq_some_iff.1 ha).1
      have hc : cargs[t]? = some cargs[t] := Array.getElem?_eq_getElem (by omega)
      have := hargs t x _ ha hc
      simp only [Act.eval, Option.getD_some]
      rw [Array.getD_eq_getD_getElem?, Array.getElem?_append_left (by omega), hc]
      exact this
  · rintro e a w' ⟨st, ⟨hd, hs, ψ', prot', g1, g2, g3, g4⟩, he, v0, keep, hres, hren, hobj, hkeep, hnd, hnd1, hid⟩
    obtain ⟨cv, hcv, hv⟩ := hres ψ' prot' w' a.tmps g2 g4
    have fin : a.defers = [] ∧ ∃ u, (results fn a.tmps).run P w' = .ok u w' ∧ ∃ cv ψ' prot', Ending.returned u = .returned cv ∧ Evolve ψ prot (updW (fun _ => none) objs) w ψ' prot' (updW (fun _ => none) objs') w' ∧ RH ψ' prot' (updW (fun _ => none) objs') w' ∧ VRel ψ' prot' w' v cv := by
      let ψ2 : Ghost := fun n k => if k = 0 then (match keep.lookup n with | some (m, j) => ψ' m j | none => ψ n k) else ψ n k
      have hψ2 : ∀ n m j, (n, m, j) ∈ keep → ψ2 n 0 = ψ' m j := fun n m j hm => by
        show (if (0 : Nat) = 0 then (match keep.lookup n with | some (m, j) => ψ' m j | none => ψ n 0) else ψ n 0) = _
        rw [if_pos rfl, lookup_of_mem (x := (m, j)) hnd1 hm]
      have hlive : ∀ n k o, updW (fun _ => none) objs' n = some (k, o) → ∃ m j, k = 0 ∧ (n, m, j) ∈ keep ∧ st.obj m = some (j, o) ∧ o.pure = true := fun n k o hx => by
        rw [hobj n] at hx
        cases hl : keep.lookup n with
        | none => rw [hl] at hx; cases hx
        | some mj =>
          obtain ⟨m, j⟩ := mj
          rw [hl] at hx
          have hm := lookup_mem hl
          obtain ⟨o', ho', hp⟩ := hkeep _ hm
          simp only [ho', Option.map_some, Option.some.injEq, Prod.mk.injEq] at hx
          obtain ⟨rfl, rfl⟩ := hx
          exact ⟨m, j, rfl, hm, ho', hp⟩
      have hun : ∀ b, unowned ψ' st.obj w' b → unowned ψ2 (updW (fun _ => none) objs') w' b := fun b hb => ⟨hb.1, fun n k o loc h1 h2 => by
        obtain ⟨m, j, rfl, h3, h4, _⟩ := hlive n k o h1
        rw [hψ2 n m j h3] at h2
        exact hb.2 m j o loc h4 h2⟩
      refine ⟨hd, cv, hcv, cv, ψ2, prot', rfl, ⟨g1.os, g1.tape, g1.output, g1.size, fun n k loc hl => ?_, g1.pr, fun b hb => ⟨hun b (g1.un b hb).1, (g1.un b hb).2⟩, g1.new⟩, ⟨fun n k o hx => ?_, fun n n' k k' o o' l l' hx hx' hne h1 h2 => ?_, fun b hb => hun b (g2.pr b hb)⟩, hren.rel (fun n k n' k' hm => ?_) hv⟩
      · obtain ⟨rfl, hlt⟩ := hψ n k (by rw [hl]; simp)
        show (if (0 : Nat) = 0 then (match keep.lookup n with | some (m, j) => ψ' m j | none => ψ n 0) else ψ n 0) = _
        rw [if_pos rfl]
        cases hk : keep.lookup n with
        | none => exact hl
        | some mj =>
          obtain ⟨m, j⟩ := mj
          rcases hid _ (lookup_mem hk) with e | ⟨e1, e2⟩
          · simp at e; omega
          · simp at e1 e2; subst e1; subst e2; exact g1.gh _ _ _ hl
      · obtain ⟨m, j, rfl, h3, h4, hp⟩ := hlive n k o hx
        obtain ⟨loc, h5, h6⟩ := g2.live m j o h4
        exact ⟨loc, (hψ2 n m j h3).trans h5, h6.pure hp⟩
      · obtain ⟨m, j, rfl, h3, h4, _⟩ := hlive n k o hx
        obtain ⟨m', j', rfl, h3', h4', _⟩ := hlive n' k' o' hx'
        rw [hψ2 n m j h3] at h1
        rw [hψ2 n' m' j' h3'] at h2
        refine g2.inj m m' j j' o o' l l' h4 h4' (fun e => hne ?_) h1 h2
        have := nodup_inj hnd _ h3 _ h3' e
        injection this
      · simp only [List.mem_map, Prod.mk.injEq] at hm
        obtain ⟨⟨a1, a2, a3⟩, hx, rfl, rfl, rfl, rfl⟩ := hm
        exact hψ2 a1 a2 a3 hx
    rcases he with rfl | rfl
    · exact fin
    · exact fin
end Go.Proofs.Ytojapodjlpffdaa
