/-
  A call inside a region, by what is known of the function. No program is named here.
-/
import Derived.Test.YtojapodjlpffdaaAbsCode
namespace Go.Proofs.Ytojapodjlpffdaa
open Go.RowKit

/-- An object that is handed to a function: its name there, its name and version here, what it is before and behind the call. -/
structure Bind where
  p : Nat
  n : Nat
  k : Nat
  o : AObj
  o' : Option AObj
section
variable (bs : List Bind)
def bindG : List (Nat × Nat × Nat × Nat) := bs.map fun b => (b.n, b.k, b.p, 0)
def bindIn : Writes := bs.map fun b => (b.p, some (0, b.o))
def bindOut (fr : Option AObj) : Writes := bs.map (fun b => (b.p, b.o'.map fun o => (0, o))) ++ fr.toList.map fun o => (1000, some (0, o))
def bindBack (fr : Option AObj) (d k : Nat) : List (Nat × Nat × Nat × Nat) := bs.map (fun b => (b.p, 0, b.n, b.k)) ++ fr.toList.map fun _ => (1000, 0, d, k)
def bindWr (fr : Option AObj) (d k : Nat) : Writes := bs.map (fun b => (b.n, b.o'.map fun o => (b.k, o))) ++ fr.toList.map fun o => (d, some (k, o))
def bindTouch (fr : Option AObj) (d : Nat) : List Nat := bs.map (·.n) ++ fr.toList.map fun _ => d
def bindOk (fr : Option AObj) (d : Nat) : Bool :=
  decide (bs.map (·.n)).Nodup && decide (bs.map (·.p)).Nodup && bs.all (fun b => decide (b.p < 1000) && b.o.pure && (match b.o' with | some o => o.pure | none => true) && (fr.isNone || b.n != d)) && (match fr with | some o => o.pure | none => true)
end

theorem run_call {P : Program} {o : Oper} {x : Operand} {xs : Array Operand} {ats : Array TypeId} {f : FuncId} {fn : Func} {c : Code} {caps : Array Value} {ρ : Operand → Value} {w : World} (ho : o.op = .call { callee := .value x, args := xs, argTypes := ats })
    (hx : ρ x = .func (.func f) #[] caps) (hf : P.funcs[f]? = some fn) (hn : (fn.name == "runtime.NumGoroutine") = false) (hb : fn.body = some c) :
    (execOp ρ o).run P w = .ok (.enter f (xs.map ρ ++ caps)) w := by
  have hn' : fn.name ≠ "runtime.NumGoroutine" := by simpa using hn
  simp [execOp, ho, resolve, hx, Deferred.ofValue, invoke, callFunc, program, Sem.run, hf, hn', hb, go_sem]

theorem mem_lookup_map {β γ : Type} {f : β → γ} : ∀ {l : List (Nat × β)} {n : Nat}, (l.map fun x => (x.1, f x.2)).lookup n = (l.lookup n).map f
  | [], _ => rfl
  | (m, y) :: l, n => by
    simp only [List.map_cons, List.lookup_cons]
    cases n == m with
    | true => rfl
    | false => exact mem_lookup_map (l := l)

theorem VRel.fn_inv {ψ : Ghost} {prot : Nat → Prop} {w : World} {f : FuncId} {cs : List AVal} {v : Value} (h : VRel ψ prot w (.fn f cs) v) :
    ∃ vs, v = .func (.func f) #[] vs ∧ vs.size = cs.length ∧ ∀ (i : Nat) (x : AVal) (u : Value), cs[i]? = some x → vs[i]? = some u → VRel ψ prot w x u := by
  cases h with
  | fn _ _ vs h1 h2 => exact ⟨vs, rfl, h1, h2⟩

section
variable {P : Program} {k : Nat} {st : St} {o : Oper}
theorem opok_call {x : Operand} {xs : Array Operand} {ats : Array TypeId} {f : FuncId} {fn : Func} {c : Code} {caps cargs : List AVal} (bs : List Bind) (fr : Option AObj) {v0 v : AVal} {d : Nat} {objs' : Writes}
    (ho : o.op = .call { callee := .value x, args := xs, argTypes := ats }) (hx : st.aop x = .fn f caps) (hf : P.funcs[f]? = some fn) (hn : (fn.name == "runtime.NumGoroutine") = false) (hb : fn.body = some c)
    (hr : Rens (bindG bs) (xs.toList.map st.aop ++ caps) cargs) (hspec : Spec P f cargs (bindIn bs) v0 objs') (hout : objs' = bindOut bs fr) (hv : RenT (bindBack bs fr d k) v0 v)
    (hobj : ∀ b ∈ bs, st.obj b.n = some (b.k, b.o)) (hok : bindOk bs fr d = true) :
    OpOk P k st o ⟨v, bindWr bs fr d k, bindTouch bs fr d, fr.toList.map fun _ => d⟩ := by
  subst hout
  simp only [bindOk, Bool.and_eq_true, decide_eq_true_eq, List.all_eq_true, Bool.or_eq_true, bne_iff_ne, ne_eq] at hok
  obtain ⟨⟨⟨hnn, hnp⟩, hall⟩, hfr⟩ := hok
  refine ⟨?_, fun ψ prot obj w ρ ht hx' r hfresh => ?_⟩
  · intro n hn
    simp only [Writes.names, bindWr, bindTouch, List.map_append, List.map_map, List.mem_append, List.mem_map] at hn ⊢
    rcases hn with ⟨b, hb, rfl⟩ | ⟨b, hb, rfl⟩
    · exact .inl ⟨b, hb, rfl⟩
    · exact .inr ⟨b, hb, rfl⟩
  have hobj' : ∀ b ∈ bs, obj b.n = some (b.k, b.o) := fun b hb => by
    rw [ht b.n (by simp only [bindTouch, List.mem_append, List.mem_map]; exact .inl ⟨b, hb, rfl⟩)]
    exact hobj b hb
  -- the function's ghost
  let tab : List (Nat × Nat × Nat) := bs.map fun b => (b.p, b.n, b.k)
  have htab : (tab.map (·.1)).Nodup := by simpa [tab, Function.comp_def] using hnp
  let ψc : Ghost := fun n j => if j = 0 then (match tab.lookup n with | some (m, i) => ψ m i | none => none) else none
  have hψc : ∀ b ∈ bs, ψc b.p 0 = ψ b.n b.k := fun b hb => by
    have := lookup_of_mem htab (n := b.p) (x := (b.n, b.k)) (List.mem_map.2 ⟨b, hb, rfl⟩)
    simp only [ψc, if_true, this]
  have hψc' : ∀ n j, ψc n j ≠ none → ∃ b ∈ bs, n = b.p ∧ j = 0 := fun n j hne => by
    simp only [ψc] at hne
    split at hne
    · rename_i e
      cases hl : tab.lookup n with
      | none => rw [hl] at hne; exact absurd rfl hne
      | some mi =>
        have := lookup_mem hl
        obtain ⟨b, hb, e2⟩ := List.mem_map.1 this
        injection e2 with e3 _
        exact ⟨b, hb, e3.symm, e⟩
    · exact absurd rfl hne
  have hin : ∀ n j ob, updW (fun _ => none) (bindIn bs) n = some (j, ob) → ∃ b ∈ bs, n = b.p ∧ j = 0 ∧ ob = b.o := fun n j ob h => by
    simp only [updW] at h
    cases hl : (bindIn bs).lookup n with
    | none => rw [hl] at h; cases h
    | some y =>
      rw [hl] at h
      simp only at h
      subst h
      obtain ⟨b, hb, e2⟩ := List.mem_map.1 (lookup_mem hl)
      simp only [Prod.mk.injEq, Option.some.injEq] at e2
      exact ⟨b, hb, e2.1.symm, e2.2.1.symm, e2.2.2.symm⟩
  have hunc : ∀ b, unowned ψ obj w b → unowned ψc (updW (fun _ => none) (bindIn bs)) w b := fun b hb => ⟨hb.1, fun n j ob loc h1 h2 => by
    obtain ⟨bb, hbb, rfl, rfl, rfl⟩ := hin n j ob h1
    rw [hψc bb hbb] at h2
    exact hb.2 bb.n bb.k bb.o loc (hobj' bb hbb) h2⟩
  have bp_inj : ∀ b ∈ bs, ∀ b' ∈ bs, b.p = b'.p → b = b' := fun b hb b' hb' e => nodup_inj hnp b hb b' hb' e
  have bn_inj : ∀ b ∈ bs, ∀ b' ∈ bs, b.n = b'.n → b = b' := fun b hb b' hb' e => nodup_inj hnn b hb b' hb' e
  have hrc : RH ψc prot (updW (fun _ => none) (bindIn bs)) w := by
    refine ⟨fun n j ob h => ?_, fun n n' j j' ob ob' l l' h h' hne h1 h2 => ?_, fun b hb => hunc b (r.pr b hb)⟩
    · obtain ⟨b, hb, rfl, rfl, rfl⟩ := hin n j ob h
      obtain ⟨loc, g1, g2⟩ := r.live _ _ _ (hobj' b hb)
      exact ⟨loc, (hψc b hb).trans g1, g2.pure (hall b hb).1.1.2⟩
    · obtain ⟨b, hb, rfl, rfl, rfl⟩ := hin n j ob h
      obtain ⟨b', hb', rfl, rfl, rfl⟩ := hin n' j' ob' h'
      rw [hψc b hb] at h1
      rw [hψc b' hb'] at h2
      exact r.inj _ _ _ _ _ _ _ _ (hobj' b hb) (hobj' b' hb') (fun e => hne (by rw [bn_inj b hb b' hb' e])) h1 h2
  -- the callee and its arguments
  obtain ⟨vs, hfx, hcl, hcv⟩ := (hx ▸ hx' x (by simp [ho, Op.operands, Call.operands]) : VRel ψ prot w (.fn f caps) (ρ x)).fn_inv
  rw [run_call ho hfx hf hn hb]
  simp only [specUpon]
  have hav : ∀ (i : Nat) (a : AVal) (u : Value), (xs.toList.map st.aop ++ caps)[i]? = some a → (xs.map ρ ++ vs)[i]? = some u → VRel ψ prot w a u := fun i a u h1 h2 => by
    by_cases hi : i < xs.size
    · rw [List.getElem?_append_left (by simpa using hi)] at h1
      rw [Array.getElem?_append_left (by simpa using hi)] at h2
      simp only [List.getElem?_map, Array.getElem?_toList, Array.getElem?_map, Array.getElem?_eq_getElem hi, Option.map_some, Option.some.injEq] at h1 h2
      subst h1; subst h2
      exact hx' _ (by simp [ho, Op.operands, Call.operands])
    · rw [List.getElem?_append_right (by simpa using hi)] at h1
      rw [Array.getElem?_append_right (by simpa using hi)] at h2
      exact hcv _ a u (by simpa using h1) (by simpa using h2)
  have hrel := hr.rel (ψ := ψ) (ψ' := ψc) (prot := prot) (w := w) (fun n j n' j' hm => by
    obtain ⟨b, hb, e⟩ := List.mem_map.1 hm
    simp only [Prod.mk.injEq] at e
    obtain ⟨rfl, rfl, rfl, rfl⟩ := e
    exact hψc b hb)
  have hcall := hspec ψc prot w (xs.map ρ ++ vs) (fun n j hne => by obtain ⟨b, hb, rfl, rfl⟩ := hψc' n j hne; exact ⟨rfl, by simpa using (hall b hb).1.1.1⟩) hrc (by rw [← hrel.1]; simp [hcl]) (fun i y u h1 h2 => by
    obtain ⟨a, h3, h4⟩ := hrel.2 i y h1
    exact h4 u (hav i a u h3 h2))
  refine Calls.mono hcall ?_
  rintro e w' ⟨cv, ψ1, prot', rfl, g1, g2, g3⟩
  refine ⟨cv, rfl, ?_⟩
  -- the ghost behind the call
  let ψ' : Ghost := fun n j => if fr.isSome = true ∧ n = d ∧ j = k then ψ1 1000 0 else ψ n j
  have hψold : ∀ n j loc, ψ n j = some loc → ψ' n j = some loc := fun n j loc h => by
    simp only [ψ']
    split
    · rename_i e
      obtain ⟨e1, rfl, rfl⟩ := e
      have := hfresh n (by cases hq : fr with | none => rw [hq] at e1; cases e1 | some y => simp)
      rw [this] at h; cases h
    · exact h
  have hψb : ∀ b ∈ bs, ψ' b.n b.k = ψ b.n b.k := fun b hb => by
    obtain ⟨loc, h1, -⟩ := r.live _ _ _ (hobj' b hb)
    rw [h1]; exact hψold _ _ _ h1
  have hψ1 : ∀ b ∈ bs, ψ1 b.p 0 = ψ b.n b.k := fun b hb => by
    obtain ⟨loc, h1, -⟩ := r.live _ _ _ (hobj' b hb)
    rw [h1]; exact g1.gh _ _ _ ((hψc b hb).trans h1)
  have hoc : ((bindOut bs fr).map (·.1)).Nodup := by
    simp only [bindOut, List.map_append, List.map_map]
    refine List.nodup_append.2 ⟨by simpa [Function.comp_def] using hnp, by cases fr <;> simp, fun a ha b hb e => ?_⟩
    subst e
    obtain ⟨bb, hbb, rfl⟩ := List.mem_map.1 ha
    have h1 := (hall bb hbb).1.1.1
    cases fr with
    | none => simp at hb
    | some y => simp at hb; omega
  have hwc : ((bindWr bs fr d k).map (·.1)).Nodup := by
    simp only [bindWr, List.map_append, List.map_map]
    refine List.nodup_append.2 ⟨by simpa [Function.comp_def] using hnn, by cases fr <;> simp, fun a ha b hb e => ?_⟩
    subst e
    obtain ⟨bb, hbb, rfl⟩ := List.mem_map.1 ha
    have h1 := (hall bb hbb).2
    cases fr with
    | none => simp at hb
    | some y => simp at hb h1; exact h1 hb
  have hout : ∀ n j ob, updW (fun _ => none) (bindOut bs fr) n = some (j, ob) → j = 0 ∧ ((∃ b ∈ bs, n = b.p ∧ b.o' = some ob) ∨ (n = 1000 ∧ fr = some ob)) := fun n j ob h => by
    simp only [updW] at h
    cases hl : (bindOut bs fr).lookup n with
    | none => rw [hl] at h; cases h
    | some y =>
      rw [hl] at h
      simp only at h
      subst h
      rcases List.mem_append.1 (lookup_mem hl) with hm | hm
      · obtain ⟨b, hb, e2⟩ := List.mem_map.1 hm
        simp only [Prod.mk.injEq, Option.map_eq_some_iff] at e2
        obtain ⟨rfl, oo, h1, h2, h3⟩ := e2
        exact ⟨h2.symm, .inl ⟨b, hb, rfl, by rw [h1, h3]⟩⟩
      · obtain ⟨oo, hm1, e2⟩ := List.mem_map.1 hm
        simp only [Prod.mk.injEq, Option.some.injEq] at e2
        obtain ⟨h0, h1, h2⟩ := e2
        refine ⟨h1.symm, .inr ⟨h0.symm, ?_⟩⟩
        rw [← h2]; simpa using hm1
  have houtB : ∀ b ∈ bs, ∀ ob, b.o' = some ob → updW (fun _ => none) (bindOut bs fr) b.p = some (0, ob) := fun b hb ob h => by
    have : (b.p, b.o'.map fun o => (0, o)) ∈ bindOut bs fr := List.mem_append.2 (.inl (List.mem_map.2 ⟨b, hb, rfl⟩))
    simp only [updW, lookup_of_mem hoc this, h, Option.map_some]
  have houtF : ∀ ob, fr = some ob → updW (fun _ => none) (bindOut bs fr) 1000 = some (0, ob) := fun ob h => by
    have : (1000, some (0, ob)) ∈ bindOut bs fr := List.mem_append.2 (.inr (List.mem_map.2 ⟨ob, by simp [h], rfl⟩))
    simp only [updW, lookup_of_mem hoc this]
  -- what lives behind the call
  have hnew : ∀ n j ob, updW obj (bindWr bs fr d k) n = some (j, ob) → (∃ p, updW (fun _ => none) (bindOut bs fr) p = some (0, ob) ∧ ψ' n j = ψ1 p 0 ∧ ob.pure = true ∧ ((∃ b ∈ bs, n = b.n ∧ p = b.p) ∨ (n = d ∧ p = 1000 ∧ fr.isSome = true))) ∨ ((∀ b ∈ bs, n ≠ b.n) ∧ obj n = some (j, ob)) := fun n j ob h => by
    simp only [updW] at h
    cases hl : (bindWr bs fr d k).lookup n with
    | none =>
      rw [hl] at h
      refine .inr ⟨fun b hb e => ?_, h⟩
      have : (b.n, b.o'.map fun o => (b.k, o)) ∈ bindWr bs fr d k := List.mem_append.2 (.inl (List.mem_map.2 ⟨b, hb, rfl⟩))
      rw [← e] at this
      rw [lookup_of_mem hwc this] at hl
      cases hl
    | some y =>
      rw [hl] at h
      simp only at h
      subst h
      left
      rcases List.mem_append.1 (lookup_mem hl) with hm | hm
      · obtain ⟨b, hb, e2⟩ := List.mem_map.1 hm
        simp only [Prod.mk.injEq, Option.map_eq_some_iff] at e2
        obtain ⟨rfl, oo, h1, h2, h3⟩ := e2
        subst h2; subst h3
        refine ⟨b.p, houtB b hb _ h1, (hψb b hb).trans (hψ1 b hb).symm, ?_, .inl ⟨b, hb, rfl, rfl⟩⟩
        have := (hall b hb).1.2
        rw [h1] at this; exact this
      · obtain ⟨oo, hm1, e2⟩ := List.mem_map.1 hm
        simp only [Prod.mk.injEq, Option.some.injEq] at e2
        obtain ⟨h0, h1, h2⟩ := e2
        subst h0; subst h1; subst h2
        have hfo : fr = some oo := by simpa using hm1
        refine ⟨1000, houtF oo hfo, by simp [ψ', hfo], ?_, .inr ⟨rfl, rfl, by simp [hfo]⟩⟩
        rw [hfo] at hfr; exact hfr
  have hother : ∀ n j ob loc b, (∀ bb ∈ bs, n ≠ bb.n) → obj n = some (j, ob) → ψ n j = some loc → loc.block = some b → unowned ψc (updW (fun _ => none) (bindIn bs)) w b := fun n j ob loc b h1 h2 h3 h4 => by
    obtain ⟨loc', h5, h6⟩ := r.live n j ob h2
    rw [h3] at h5; injection h5 with h5; subst h5
    refine ⟨h6.inside b h4, fun n' j' ob' loc' h7 h8 => ?_⟩
    obtain ⟨bb, hbb, rfl, rfl, rfl⟩ := hin n' j' ob' h7
    rw [hψc bb hbb] at h8
    exact fun h9 => r.inj n bb.n j bb.k ob bb.o loc loc' h2 (hobj' bb hbb) (h1 bb hbb) h3 h8 b h4 h9
  have hψ'old : ∀ n j ob, obj n = some (j, ob) → ∃ loc, ψ n j = some loc ∧ ψ' n j = some loc := fun n j ob h => by
    obtain ⟨loc, h1, _⟩ := r.live n j ob h
    exact ⟨loc, h1, hψold _ _ _ h1⟩
  have hkeep : ∀ b, prot b → prot' b ∧ w'.heap[b]? = w.heap[b]? := fun b hb => ⟨g1.pr b hb, (g1.un b (hrc.pr b hb)).2⟩
  refine ⟨ψ', prot', ⟨g1.os, g1.tape, g1.output, g1.size, hψold, g1.pr, fun b hb => ⟨⟨Nat.lt_of_lt_of_le hb.1 g1.size, fun n j ob loc h1 h2 h3 => ?_⟩, (g1.un b (hunc b hb)).2⟩, fun b hb => (g1.new b hb).imp id fun h h' => h (hunc b h')⟩, ⟨fun n j ob h => ?_, fun n n' j j' ob ob' l l' h h' hne h1 h2 b h3 h4 => ?_, fun b hb => ⟨(g2.pr b hb).1, fun n j ob loc h1 h2 h3 => ?_⟩⟩, ?_, fun n j hne => ?_⟩
  · -- what nobody owned before
    rcases hnew n j ob h1 with ⟨p, h4, h5, _, _⟩ | ⟨_, h5⟩
    · rw [h5] at h2
      exact (g1.un b (hunc b hb)).1.2 p 0 ob loc h4 h2 h3
    · obtain ⟨loc', h6, h7⟩ := hψ'old n j ob h5
      rw [h7] at h2; injection h2 with h2; subst h2
      exact hb.2 n j ob _ h5 h6 h3
  · rcases hnew n j ob h with ⟨p, h4, h5, h6, _⟩ | ⟨h4, h5⟩
    · obtain ⟨loc, h7, h8⟩ := g2.live p 0 ob h4
      exact ⟨loc, h5.trans h7, h8.pure h6⟩
    · obtain ⟨loc, h6, h7⟩ := hψ'old n j ob h5
      obtain ⟨loc', h8, h9⟩ := r.live n j ob h5
      rw [h6] at h8; injection h8 with h8; subst h8
      exact ⟨loc, h7, h9.mono hψold hkeep fun b hb => (g1.un b (hother n j ob loc b h4 h5 h6 hb)).2⟩
  · rcases hnew n j ob h with ⟨p, e4, e5, _, e7⟩ | ⟨e4, e5⟩ <;> rcases hnew n' j' ob' h' with ⟨p', e4', e5', _, e7'⟩ | ⟨e4', e5'⟩
    · rw [e5] at h1
      rw [e5'] at h2
      refine g2.inj p p' 0 0 ob ob' l l' e4 e4' (fun e => hne ?_) h1 h2 b h3 h4
      subst e
      rcases e7 with ⟨b1, hb1, rfl, hp1⟩ | ⟨rfl, hp1, _⟩ <;> rcases e7' with ⟨b2, hb2, rfl, hp2⟩ | ⟨rfl, hp2, _⟩
      · rw [bp_inj b1 hb1 b2 hb2 (hp1.symm.trans hp2)]
      · have := (hall b1 hb1).1.1.1; omega
      · have := (hall b2 hb2).1.1.1; omega
      · rfl
    · rw [e5] at h1
      obtain ⟨loc, h6, h7⟩ := hψ'old n' j' ob' e5'
      rw [h7] at h2; injection h2 with h2; subst h2
      exact (g1.un b (hother n' j' ob' _ b e4' e5' h6 h4)).1.2 p 0 ob l e4 h1 h3
    · rw [e5'] at h2
      obtain ⟨loc, h6, h7⟩ := hψ'old n j ob e5
      rw [h7] at h1; injection h1 with h1; subst h1
      exact (g1.un b (hother n j ob _ b e4 e5 h6 h3)).1.2 p' 0 ob' l' e4' h2 h4
    · obtain ⟨loc, h6, h7⟩ := hψ'old n j ob e5
      rw [h7] at h1; injection h1 with h1; subst h1
      obtain ⟨loc', h6', h7'⟩ := hψ'old n' j' ob' e5'
      rw [h7'] at h2; injection h2 with h2; subst h2
      exact r.inj n n' j j' ob ob' _ _ e5 e5' hne h6 h6' b h3 h4
  · rcases hnew n j ob h1 with ⟨p, h4, h5, _, _⟩ | ⟨h4, h5⟩
    · rw [h5] at h2
      exact (g2.pr b hb).2 p 0 ob loc h4 h2 h3
    · obtain ⟨loc', h6, h7⟩ := hψ'old n j ob h5
      rw [h7] at h2; injection h2 with h2; subst h2
      rcases g1.new b hb with h8 | h8
      · exact (r.pr b h8).2 n j ob _ h5 h6 h3
      · exact h8 (hother n j ob _ b h4 h5 h6 h3)
  · refine hv.rel (fun n j n' j' hm => ?_) g3
    rcases List.mem_append.1 hm with hm | hm
    · obtain ⟨b, hb, e2⟩ := List.mem_map.1 hm
      simp only [Prod.mk.injEq] at e2
      obtain ⟨rfl, rfl, rfl, rfl⟩ := e2
      exact (hψb b hb).trans (hψ1 b hb).symm
    · obtain ⟨oo, hm1, e2⟩ := List.mem_map.1 hm
      simp only [Prod.mk.injEq] at e2
      obtain ⟨rfl, rfl, rfl, rfl⟩ := e2
      have hfo : fr = some oo := by simpa using hm1
      simp [ψ', hfo]
  · by_cases e : fr.isSome = true ∧ n = d ∧ j = k
    · obtain ⟨e1, rfl, rfl⟩ := e
      refine .inr ⟨rfl, ?_⟩
      cases hq : fr with
      | none => rw [hq] at e1; cases e1
      | some y => simp
    · left
      simp only [ψ', e, if_false] at hne
      exact hne
end
end Go.Proofs.Ytojapodjlpffdaa
