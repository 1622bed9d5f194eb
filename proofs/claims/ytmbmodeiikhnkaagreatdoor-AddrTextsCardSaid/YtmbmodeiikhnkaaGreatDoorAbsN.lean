/-
  A call that makes several objects. No program is named here.
-/
import Derived.Test.YtmbmodeiikhnkaaGreatDoorG04
namespace Go.Proofs.YtmbmodeiikhnkaaGreatDoor
open Go.RowKit
section
variable (bs : List Bind) (fr : List (Nat × Nat × AObj))
def bindOutN : Writes := bs.map (fun b => (b.p, b.o'.map fun o => (0, o))) ++ fr.map fun x => (x.1, some (0, x.2.2))
def bindBackN (k : Nat) : List (Nat × Nat × Nat × Nat) := bs.map (fun b => (b.p, 0, b.n, b.k)) ++ fr.map fun x => (x.1, 0, x.2.1, k)
def bindWrN (k : Nat) : Writes := bs.map (fun b => (b.n, b.o'.map fun o => (b.k, o))) ++ fr.map fun x => (x.2.1, some (k, x.2.2))
def bindTouchN : List Nat := bs.map (·.n) ++ fr.map (·.2.1)
def bindOkN : Bool :=
  decide (bs.map (·.n) ++ fr.map (·.2.1)).Nodup && decide (bs.map (·.p) ++ fr.map (·.1)).Nodup && bs.all (fun b => decide (b.p < 1000) && b.o.pure && (match b.o' with | some o => o.pure | none => true)) && fr.all (fun x => decide (1000 ≤ x.1) && x.2.2.pure)
end
section
variable {P : Program} {k : Nat} {st : St} {o : Oper}
theorem opok_callN {x : Operand} {xs : Array Operand} {ats : Array TypeId} {f : FuncId} {fn : Func} {c : Code} {caps cargs : List AVal} (bs : List Bind) (fr : List (Nat × Nat × AObj)) {v0 v : AVal} {objs' : Writes}
    (ho : o.op = .call { callee := .value x, args := xs, argTypes := ats }) (hx : st.aop x = .fn f caps) (hf : P.funcs[f]? = some fn) (hn : (fn.name == "runtime.NumGoroutine") = false) (hb : fn.body = some c)
    (hr : Rens (bindG bs) (xs.toList.map st.aop ++ caps) cargs) (hspec : Spec P f cargs (bindIn bs) v0 objs') (hout : objs' = bindOutN bs fr) (hv : RenT (bindBackN bs fr k) v0 v)
    (hobj : ∀ b ∈ bs, st.obj b.n = some (b.k, b.o)) (hok : bindOkN bs fr = true) :
    OpOk P k st o ⟨v, bindWrN bs fr k, bindTouchN bs fr, fr.map (·.2.1)⟩ := by
  subst hout
  simp only [bindOkN, Bool.and_eq_true, decide_eq_true_eq, List.all_eq_true] at hok
  obtain ⟨⟨⟨hnnA, hnpA⟩, hall⟩, hfr⟩ := hok
  have hnn : (bs.map (·.n)).Nodup := (List.nodup_append.1 hnnA).1
  have hnp : (bs.map (·.p)).Nodup := (List.nodup_append.1 hnpA).1
  have hfm : (fr.map (·.2.1)).Nodup := (List.nodup_append.1 hnnA).2.1
  have hfq : (fr.map (·.1)).Nodup := (List.nodup_append.1 hnpA).2.1
  refine ⟨?_, fun ψ prot obj w ρ ht hx' r hfresh => ?_⟩
  · intro n hn
    simp only [Writes.names, bindWrN, bindTouchN, List.map_append, List.map_map, List.mem_append, List.mem_map] at hn ⊢
    rcases hn with ⟨b, hb, rfl⟩ | ⟨b, hb, rfl⟩
    · exact .inl ⟨b, hb, rfl⟩
    · exact .inr ⟨b, hb, rfl⟩
  have hobj' : ∀ b ∈ bs, obj b.n = some (b.k, b.o) := fun b hb => by
    rw [ht b.n (by simp only [bindTouchN, List.mem_append, List.mem_map]; exact .inl ⟨b, hb, rfl⟩)]
    exact hobj b hb
  -- the function's ghost
  let tab : List (Nat × Nat × Nat) := bs.map fun b => (b.p, b.n, b.k)
  have htab : (tab.map (·.1)).Nodup := by simpa [tab, Function.comp_def] using hnp
  let ψc : Ghost := fun n j => if j = 0 then (match tab.lookup n with | some (m, i) => ψ m i | none => none) else none
  have hψc : ∀ b ∈ bs, ψc b.p 0 = ψ b.n b.k := fun b hb => by
    have := lookup_of_mem htab (n := b.p) (x := (b.n, b.k)) (List.mem_map.2 ⟨b, hb, rfl⟩)
    simp only [ψc, if_true, this]
  have hψc' : ∀ n j, ψc n j ≠ none → ∃ b ∈ bs, n = b.p ∧ j = 0 := fun n j hne => by
    simp only [ψc] at hne
    split at hne
    · rename_i e
      cases hl : tab.lookup n with
      | none => rw [hl] at hne; exact absurd rfl hne
      | some mi =>
        have := lookup_mem hl
        obtain ⟨b, hb, e2⟩ := List.mem_map.1 this
        injection e2 with e3 _
        exact ⟨b, hb, e3.symm, e⟩
    · exact absurd rfl hne
  have hin : ∀ n j ob, updW (fun _ => none) (bindIn bs) n = some (j, ob) → ∃ b ∈ bs, n = b.p ∧ j = 0 ∧ ob = b.o := fun n j ob h => by
    simp only [updW] at h
    cases hl : (bindIn bs).lookup n with
    | none => rw [hl] at h; cases h
    | some y =>
      rw [hl] at h
      simp only at h
      subst h
      obtain ⟨b, hb, e2⟩ := List.mem_map.1 (lookup_mem hl)
      simp only [Prod.mk.injEq, Option.some.injEq] at e2
      exact ⟨b, hb, e2.1.symm, e2.2.1.symm, e2.2.2.symm⟩
  have hunc : ∀ b, unowned ψ obj w b → unowned ψc (updW (fun _ => none) (bindIn bs)) w b := fun b hb => ⟨hb.1, fun n j ob loc h1 h2 => by
    obtain ⟨bb, hbb, rfl, rfl, rfl⟩ := hin n j ob h1
    rw [hψc bb hbb] at h2
    exact hb.2 bb.n bb.k bb.o loc (hobj' bb hbb) h2⟩
  have bp_inj : ∀ b ∈ bs, ∀ b' ∈ bs, b.p = b'.p → b = b' := fun b hb b' hb' e => nodup_inj hnp b hb b' hb' e
  have bn_inj : ∀ b ∈ bs, ∀ b' ∈ bs, b.n = b'.n → b = b' := fun b hb b' hb' e => nodup_inj hnn b hb b' hb' e
  have hrc : RH ψc prot (updW (fun _ => none) (bindIn bs)) w := by
    refine ⟨fun n j ob h => ?_, fun n n' j j' ob ob' l l' h h' hne h1 h2 => ?_, fun b hb => hunc b (r.pr b hb)⟩
    · obtain ⟨b, hb, rfl, rfl, rfl⟩ := hin n j ob h
      obtain ⟨loc, g1, g2⟩ := r.live _ _ _ (hobj' b hb)
      exact ⟨loc, (hψc b hb).trans g1, g2.pure (hall b hb).1.2⟩
    · obtain ⟨b, hb, rfl, rfl, rfl⟩ := hin n j ob h
      obtain ⟨b', hb', rfl, rfl, rfl⟩ := hin n' j' ob' h'
      rw [hψc b hb] at h1
      rw [hψc b' hb'] at h2
      exact r.inj _ _ _ _ _ _ _ _ (hobj' b hb) (hobj' b' hb') (fun e => hne (by rw [bn_inj b hb b' hb' e])) h1 h2
  -- the callee and its arguments
  obtain ⟨vs, hfx, hcl, hcv⟩ := (hx ▸ hx' x (by simp [ho, Op.operands, Call.operands]) : VRel ψ prot w (.fn f caps) (ρ x)).fn_inv
  rw [run_call ho hfx hf hn hb]
  simp only [specUpon]
  have hav : ∀ (i : Nat) (a : AVal) (u : Value), (xs.toList.map st.aop ++ caps)[i]? = some a → (xs.map ρ ++ vs)[i]? = some u → VRel ψ prot w a u := fun i a u h1 h2 => by
    by_cases hi : i < xs.size
    · rw [List.getElem?_append_left (by simpa using hi)] at h1
      rw [Array.getElem?_append_left (by simpa using hi)] at h2
      simp only [List.getElem?_map, Array.getElem?_toList, Array.getElem?_map, Array.getElem?_eq_getElem hi, Option.map_some, Option.some.injEq] at h1 h2
      subst h1; subst h2
      exact hx' _ (by simp [ho, Op.operands, Call.operands])
    · rw [List.getElem?_append_right (by simpa using hi)] at h1
      rw [Array.getElem?_append_right (by simpa using hi)] at h2
      exact hcv _ a u (by simpa using h1) (by simpa using h2)
  have hrel := hr.rel (ψ := ψ) (ψ' := ψc) (prot := prot) (w := w) (fun n j n' j' hm => by
    obtain ⟨b, hb, e⟩ := List.mem_map.1 hm
    simp only [Prod.mk.injEq] at e
    obtain ⟨rfl, rfl, rfl, rfl⟩ := e
    exact hψc b hb)
  have hcall := hspec ψc prot w (xs.map ρ ++ vs) (fun n j hne => by obtain ⟨b, hb, rfl, rfl⟩ := hψc' n j hne; exact ⟨rfl, by simpa using (hall b hb).1.1⟩) ⟨hrc, r.vr⟩ (by rw [← hrel.1]; simp [hcl]) (fun i y u h1 h2 => by
    obtain ⟨a, h3, h4⟩ := hrel.2 i y h1
    exact h4 u (hav i a u h3 h2))
  refine Calls.mono hcall ?_
  rintro e w' ⟨cv, ψ1, prot', rfl, g1, g2, g3⟩
  refine ⟨cv, rfl, ?_⟩
  -- the ghost behind the call
  let ftab : List (Nat × Nat) := fr.map fun x => (x.2.1, x.1)
  have hftab : (ftab.map (·.1)).Nodup := by simpa [ftab, Function.comp_def] using hfm
  let ψ' : Ghost := fun n j => if j = k then (match ftab.lookup n with | some q => ψ1 q 0 | none => ψ n j) else ψ n j
  have hfl : ∀ n q, ftab.lookup n = some q → ∃ ob, (q, n, ob) ∈ fr := fun n q h => by
    obtain ⟨⟨a, b, c⟩, hm, e⟩ := List.mem_map.1 (lookup_mem h)
    simp only [Prod.mk.injEq] at e
    obtain ⟨rfl, rfl⟩ := e
    exact ⟨c, hm⟩
  have hψf : ∀ q m ob, (q, m, ob) ∈ fr → ψ' m k = ψ1 q 0 := fun q m ob h => by
    have := lookup_of_mem hftab (n := m) (x := q) (List.mem_map.2 ⟨(q, m, ob), h, rfl⟩)
    simp only [ψ', if_true, this]
  have hψold : ∀ n j loc, ψ n j = some loc → ψ' n j = some loc := fun n j loc h => by
    simp only [ψ']
    split
    · rename_i e
      subst e
      cases hl : ftab.lookup n with
      | none => exact h
      | some q =>
        obtain ⟨ob, hm⟩ := hfl n q hl
        rw [hfresh n (List.mem_map.2 ⟨_, hm, rfl⟩)] at h; cases h
    · exact h
  have hψb : ∀ b ∈ bs, ψ' b.n b.k = ψ b.n b.k := fun b hb => by
    obtain ⟨loc, h1, -⟩ := r.live _ _ _ (hobj' b hb)
    rw [h1]; exact hψold _ _ _ h1
  have hψ1 : ∀ b ∈ bs, ψ1 b.p 0 = ψ b.n b.k := fun b hb => by
    obtain ⟨loc, h1, -⟩ := r.live _ _ _ (hobj' b hb)
    rw [h1]; exact g1.gh _ _ _ ((hψc b hb).trans h1)
  have hoc : ((bindOutN bs fr).map (·.1)).Nodup := by simpa [bindOutN, Function.comp_def] using hnpA
  have hwc : ((bindWrN bs fr k).map (·.1)).Nodup := by simpa [bindWrN, Function.comp_def] using hnnA
  have hout : ∀ n j ob, updW (fun _ => none) (bindOutN bs fr) n = some (j, ob) → j = 0 ∧ ((∃ b ∈ bs, n = b.p ∧ b.o' = some ob) ∨ (∃ m, (n, m, ob) ∈ fr)) := fun n j ob h => by
    simp only [updW] at h
    cases hl : (bindOutN bs fr).lookup n with
    | none => rw [hl] at h; cases h
    | some y =>
      rw [hl] at h
      simp only at h
      subst h
      rcases List.mem_append.1 (lookup_mem hl) with hm | hm
      · obtain ⟨b, hb, e2⟩ := List.mem_map.1 hm
        simp only [Prod.mk.injEq, Option.map_eq_some_iff] at e2
        obtain ⟨rfl, oo, h1, h2, h3⟩ := e2
        exact ⟨h2.symm, .inl ⟨b, hb, rfl, by rw [h1, h3]⟩⟩
      · obtain ⟨⟨q, m, oo⟩, hm1, e2⟩ := List.mem_map.1 hm
        simp only [Prod.mk.injEq, Option.some.injEq] at e2
        obtain ⟨rfl, h1, rfl⟩ := e2
        exact ⟨h1.symm, .inr ⟨m, hm1⟩⟩
  have houtB : ∀ b ∈ bs, ∀ ob, b.o' = some ob → updW (fun _ => none) (bindOutN bs fr) b.p = some (0, ob) := fun b hb ob h => by
    have : (b.p, b.o'.map fun o => (0, o)) ∈ bindOutN bs fr := List.mem_append.2 (.inl (List.mem_map.2 ⟨b, hb, rfl⟩))
    simp only [updW, lookup_of_mem hoc this, h, Option.map_some]
  have houtF : ∀ q m ob, (q, m, ob) ∈ fr → updW (fun _ => none) (bindOutN bs fr) q = some (0, ob) := fun q m ob h => by
    have : (q, some (0, ob)) ∈ bindOutN bs fr := List.mem_append.2 (.inr (List.mem_map.2 ⟨(q, m, ob), h, rfl⟩))
    simp only [updW, lookup_of_mem hoc this]
  -- what lives behind the call
  have hnew : ∀ n j ob, updW obj (bindWrN bs fr k) n = some (j, ob) → (∃ p, updW (fun _ => none) (bindOutN bs fr) p = some (0, ob) ∧ ψ' n j = ψ1 p 0 ∧ ob.pure = true ∧ ((∃ b ∈ bs, n = b.n ∧ p = b.p) ∨ ((p, n, ob) ∈ fr))) ∨ ((∀ b ∈ bs, n ≠ b.n) ∧ obj n = some (j, ob)) := fun n j ob h => by
    simp only [updW] at h
    cases hl : (bindWrN bs fr k).lookup n with
    | none =>
      rw [hl] at h
      refine .inr ⟨fun b hb e => ?_, h⟩
      have : (b.n, b.o'.map fun o => (b.k, o)) ∈ bindWrN bs fr k := List.mem_append.2 (.inl (List.mem_map.2 ⟨b, hb, rfl⟩))
      rw [← e] at this
      rw [lookup_of_mem hwc this] at hl
      cases hl
    | some y =>
      rw [hl] at h
      simp only at h
      subst h
      left
      rcases List.mem_append.1 (lookup_mem hl) with hm | hm
      · obtain ⟨b, hb, e2⟩ := List.mem_map.1 hm
        simp only [Prod.mk.injEq, Option.map_eq_some_iff] at e2
        obtain ⟨rfl, oo, h1, h2, h3⟩ := e2
        subst h2; subst h3
        refine ⟨b.p, houtB b hb _ h1, (hψb b hb).trans (hψ1 b hb).symm, ?_, .inl ⟨b, hb, rfl, rfl⟩⟩
        have := (hall b hb).2
        rw [h1] at this; exact this
      · obtain ⟨⟨q, m, oo⟩, hm1, e2⟩ := List.mem_map.1 hm
        simp only [Prod.mk.injEq, Option.some.injEq] at e2
        obtain ⟨rfl, rfl, rfl⟩ := e2
        exact ⟨q, houtF q m oo hm1, hψf q m oo hm1, (hfr _ hm1).2, .inr hm1⟩
  have hother : ∀ n j ob loc b, (∀ bb ∈ bs, n ≠ bb.n) → obj n = some (j, ob) → ψ n j = some loc → loc.block = some b → unowned ψc (updW (fun _ => none) (bindIn bs)) w b := fun n j ob loc b h1 h2 h3 h4 => by
    obtain ⟨loc', h5, h6⟩ := r.live n j ob h2
    rw [h3] at h5; injection h5 with h5; subst h5
    refine ⟨h6.inside b h4, fun n' j' ob' loc' h7 h8 => ?_⟩
    obtain ⟨bb, hbb, rfl, rfl, rfl⟩ := hin n' j' ob' h7
    rw [hψc bb hbb] at h8
    exact fun h9 => r.inj n bb.n j bb.k ob bb.o loc loc' h2 (hobj' bb hbb) (h1 bb hbb) h3 h8 b h4 h9
  have hψ'old : ∀ n j ob, obj n = some (j, ob) → ∃ loc, ψ n j = some loc ∧ ψ' n j = some loc := fun n j ob h => by
    obtain ⟨loc, h1, _⟩ := r.live n j ob h
    exact ⟨loc, h1, hψold _ _ _ h1⟩
  have hkeep : ∀ b, prot b → prot' b ∧ w'.heap[b]? = w.heap[b]? := fun b hb => ⟨g1.pr b hb, (g1.un b (hrc.pr b hb)).2⟩
  refine ⟨ψ', prot', ⟨g1.os, g1.tape, g1.output, g1.size, hψold, g1.pr, fun b hb => ⟨⟨Nat.lt_of_lt_of_le hb.1 g1.size, fun n j ob loc h1 h2 h3 => ?_⟩, (g1.un b (hunc b hb)).2⟩, fun b hb => (g1.new b hb).imp id fun h h' => h (hunc b h')⟩, ⟨fun n j ob h => ?_, fun n n' j j' ob ob' l l' h h' hne h1 h2 b h3 h4 => ?_, fun b hb => ⟨(g2.pr b hb).1, fun n j ob loc h1 h2 h3 => ?_⟩⟩, ?_, fun n j hne => ?_⟩
  · -- what nobody owned before
    rcases hnew n j ob h1 with ⟨p, h4, h5, _, _⟩ | ⟨_, h5⟩
    · rw [h5] at h2
      exact (g1.un b (hunc b hb)).1.2 p 0 ob loc h4 h2 h3
    · obtain ⟨loc', h6, h7⟩ := hψ'old n j ob h5
      rw [h7] at h2; injection h2 with h2; subst h2
      exact hb.2 n j ob _ h5 h6 h3
  · rcases hnew n j ob h with ⟨p, h4, h5, h6, _⟩ | ⟨h4, h5⟩
    · obtain ⟨loc, h7, h8⟩ := g2.live p 0 ob h4
      exact ⟨loc, h5.trans h7, h8.pure h6⟩
    · obtain ⟨loc, h6, h7⟩ := hψ'old n j ob h5
      obtain ⟨loc', h8, h9⟩ := r.live n j ob h5
      rw [h6] at h8; injection h8 with h8; subst h8
      exact ⟨loc, h7, h9.mono hψold hkeep fun b hb => (g1.un b (hother n j ob loc b h4 h5 h6 hb)).2⟩
  · rcases hnew n j ob h with ⟨p, e4, e5, _, e7⟩ | ⟨e4, e5⟩ <;> rcases hnew n' j' ob' h' with ⟨p', e4', e5', _, e7'⟩ | ⟨e4', e5'⟩
    · rw [e5] at h1
      rw [e5'] at h2
      refine g2.inj p p' 0 0 ob ob' l l' e4 e4' (fun e => hne ?_) h1 h2 b h3 h4
      subst e
      rcases e7 with ⟨b1, hb1, rfl, hp1⟩ | e7 <;> rcases e7' with ⟨b2, hb2, rfl, hp2⟩ | e7'
      · rw [bp_inj b1 hb1 b2 hb2 (hp1.symm.trans hp2)]
      · have h8 : b1.p < 1000 := by simpa using (hall b1 hb1).1.1
        have h9 : 1000 ≤ p := by simpa using (hfr _ e7').1
        omega
      · have h8 : b2.p < 1000 := by simpa using (hall b2 hb2).1.1
        have h9 : 1000 ≤ p := by simpa using (hfr _ e7).1
        omega
      · have := nodup_inj hfq _ e7 _ e7' rfl
        injection this with _ this
        injection this
    · rw [e5] at h1
      obtain ⟨loc, h6, h7⟩ := hψ'old n' j' ob' e5'
      rw [h7] at h2; injection h2 with h2; subst h2
      exact (g1.un b (hother n' j' ob' _ b e4' e5' h6 h4)).1.2 p 0 ob l e4 h1 h3
    · rw [e5'] at h2
      obtain ⟨loc, h6, h7⟩ := hψ'old n j ob e5
      rw [h7] at h1; injection h1 with h1; subst h1
      exact (g1.un b (hother n j ob _ b e4 e5 h6 h3)).1.2 p' 0 ob' l' e4' h2 h4
    · obtain ⟨loc, h6, h7⟩ := hψ'old n j ob e5
      rw [h7] at h1; injection h1 with h1; subst h1
      obtain ⟨loc', h6', h7'⟩ := hψ'old n' j' ob' e5'
      rw [h7'] at h2; injection h2 with h2; subst h2
      exact r.inj n n' j j' ob ob' _ _ e5 e5' hne h6 h6' b h3 h4
  · rcases hnew n j ob h1 with ⟨p, h4, h5, _, _⟩ | ⟨h4, h5⟩
    · rw [h5] at h2
      exact (g2.pr b hb).2 p 0 ob loc h4 h2 h3
    · obtain ⟨loc', h6, h7⟩ := hψ'old n j ob h5
      rw [h7] at h2; injection h2 with h2; subst h2
      rcases g1.new b hb with h8 | h8
      · exact (r.pr b h8).2 n j ob _ h5 h6 h3
      · exact h8 (hother n j ob _ b h4 h5 h6 h3)
  · refine hv.rel (fun n j n' j' hm => ?_) g3
    rcases List.mem_append.1 hm with hm | hm
    · obtain ⟨b, hb, e2⟩ := List.mem_map.1 hm
      simp only [Prod.mk.injEq] at e2
      obtain ⟨rfl, rfl, rfl, rfl⟩ := e2
      exact (hψb b hb).trans (hψ1 b hb).symm
    · obtain ⟨⟨q, m, oo⟩, hm1, e2⟩ := List.mem_map.1 hm
      simp only [Prod.mk.injEq] at e2
      obtain ⟨rfl, rfl, rfl, rfl⟩ := e2
      exact hψf q m oo hm1
  · by_cases e : j = k ∧ (ftab.lookup n).isSome = true
    · obtain ⟨rfl, e2⟩ := e
      obtain ⟨q, hq⟩ := Option.isSome_iff_exists.1 e2
      obtain ⟨ob, hm⟩ := hfl n q hq
      exact .inr ⟨rfl, List.mem_map.2 ⟨_, hm, rfl⟩⟩
    · left
      have : ψ' n j = ψ n j := by
        simp only [ψ']
        split
        · rename_i e1
          cases hl : ftab.lookup n with
          | none => rfl
          | some q => exact absurd ⟨e1, by rw [hl]; rfl⟩ e
        · rfl
      rwa [this] at hne
end
/-- A call that is given values alone, and yields two rows of its own. -/
theorem runk_made2 {P : Program} {k : Nat} {ops : Array Oper} {N : Nat} {draw : Bool} {K : St → Prop} {o : Oper} {os : List Oper} {env : List (Nat × AVal)} {objs : Writes} {acc : List Tr} {d : Nat} {x : Operand} {xs : Array Operand} {ats : Array TypeId} {f : FuncId} {fn : Func} {c : Code} {caps cargs : List AVal} {v0 v : AVal} {f1 f2 : AObj} (hg : o.guard = none) (hd : o.dst = some d)
    (ho : o.op = .call { callee := .value x, args := xs, argTypes := ats }) (hx : (⟨env, objs⟩ : St).aop x = .fn f caps) (hf : P.funcs[f]? = some fn) (hn : (fn.name == "runtime.NumGoroutine") = false) (hb : fn.body = some c)
    (hspec : Spec P f cargs [] v0 [(1000, some (0, f1)), (1001, some (0, f2))]) (hr : Rens [] (xs.toList.map (⟨env, objs⟩ : St).aop ++ caps) cargs) (hv : RenT [(1000, 0, d, k), (1001, 0, d + 1000000, k)] v0 v) (hp1 : f1.pure = true) (hp2 : f2.pure = true)
    (t : RunK P k ops N draw os ⟨(d, v) :: env, (d, some (k, f1)) :: (d + 1000000, some (k, f2)) :: objs⟩ (⟨v, [(d, some (k, f1)), (d + 1000000, some (k, f2))], [d, d + 1000000], [d, d + 1000000]⟩ :: acc) K) : RunK P k ops N draw (o :: os) ⟨env, objs⟩ acc K :=
  runk hg hd (opok_callN [] [(1000, d, f1), (1001, d + 1000000, f2)] ho hx hf hn hb hr hspec rfl hv (fun b h => by cases h) (by simp [bindOkN, hp1, hp2])) t
/-- Two rows are handed back, inside of the result. -/
theorem ends_rows2 {P : Program} {fn : Func} {st : St} {objs' : Writes} {v0 v : AVal} {n1 k1 n2 k2 : Nat} {o1 o2 : AObj} (hres : ResOk P fn st v0) (h1 : st.obj n1 = some (k1, o1)) (h2 : st.obj n2 = some (k2, o2)) (hren : RenT [(n1, k1, 1000, 0), (n2, k2, 1001, 0)] v0 v)
    (hout : (objs'.filter fun x => x.2.isSome) = [(1000, some (0, o1)), (1001, some (0, o2))]) (hne : n1 ≠ n2) (hp1 : o1.pure = true) (hp2 : o2.pure = true) (hn : nodupB (objs'.map (·.1)) = true) {e : Exit} (he : e = .ret ∨ e = .normal) : Ends P fn v objs' e st :=
  ends [(1000, n1, k1, o1), (1001, n2, k2, o2)] hres hren (fun x h => by
    simp at h
    rcases h with rfl | rfl
    · exact h1
    · exact h2) hout hn (by simp [nodupB, hne]) (fun x h => by
    simp at h
    rcases h with rfl | rfl
    · exact hp1
    · exact hp2) rfl he
end Go.Proofs.YtmbmodeiikhnkaaGreatDoor
