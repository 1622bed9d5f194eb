/-
  Maps of the call's own with integers as keys, by states. No program is named here.
-/
import Derived.Test.YtpclmngkpkinoaaAbsC
import Derived.Test.YtpclmngkpkinoaaAbsQ
import Derived.MapKept
import Derived.Carry
namespace Go.Proofs.Ytpclmngkpkinoaa
open Go.RowKit
section
variable {ψ : Ghost} {prot : Nat → Prop} {w : World}
theorem VRel.mp_inv {n k : Nat} {v : Value} (h : VRel ψ prot w (.mp n k) v) : ∃ b cap, v = .map (some b) ∧ ψ n k = some ⟨some b, cap⟩ := by
  cases h with
  | mp n k b cap h => exact ⟨b, cap, rfl, h⟩
end
/-- A map with one entry put. -/
def putI (f : Int → Option Value) (x : Int) (v : Value) : Int → Option Value := fun y => if y = x then some v else f y
theorem lookI_push (es : List MapEntry) (hk : keysI es) (x : Int) (v : Value) (c : Nat) (hx : lookI es x = none) : ∀ y, lookI (es ++ [⟨.int .i64 x, v, c⟩]) y = putI (lookI es) x v y := by
  induction es with
  | nil => intro y; simp [lookI, putI]
  | cons e es ih =>
    intro y
    obtain ⟨z, hz⟩ := hk e List.mem_cons_self
    have hk' : keysI es := fun e he => hk e (List.mem_cons_of_mem _ he)
    simp only [lookI, hz] at hx
    by_cases hxz : x = z
    · rw [if_pos hxz] at hx; cases hx
    · rw [if_neg hxz] at hx
      have := ih hk' hx y
      simp only [List.cons_append, lookI, hz, putI] at this ⊢
      by_cases hyz : y = z
      · have hyx : ¬ y = x := fun e => hxz (e ▸ hyz)
        rw [if_pos hyz, if_neg hyx, if_pos hyz]
      · rw [if_neg hyz, this, if_neg hyz]
theorem findNow_I (x : Int) : ∀ (es : List MapEntry) (i : Nat), keysI es → ∃ r, Instr.findNow (.int .i64) (.int .i64 x) es i = some r ∧ r.map (·.2) = lookI es x ∧ ∀ j v, r = some (j, v) → ∃ m, j = i + m ∧ m < es.length ∧ (∀ e, es[m]? = some e → e.key = .int .i64 x ∧ e.val = v) ∧ ∀ u y, lookI (es.modify m fun e => { e with key := .int .i64 x, val := u }) y = putI (lookI es) x u y
  | [], i, _ => ⟨none, rfl, rfl, fun j v h => by cases h⟩
  | e :: es, i, hk => by
    obtain ⟨z, hz⟩ := hk e List.mem_cons_self
    have hk' : keysI es := fun e he => hk e (List.mem_cons_of_mem _ he)
    by_cases hxz : x = z
    · subst hxz
      refine ⟨some (i, e.val), by simp [Instr.findNow, Instr.sameNow, hz], by simp [lookI, hz], fun j v h => ?_⟩
      injection h with h
      injection h with h1 h2
      subst h1; subst h2
      refine ⟨0, rfl, by simp, fun e' he => ?_, fun u y => ?_⟩
      · simp at he; subst he; exact ⟨hz, rfl⟩
      · simp only [List.modify_zero_cons, lookI, hz, putI]
        by_cases hy : y = x
        · rw [if_pos hy, if_pos hy]
        · rw [if_neg hy, if_neg hy, if_neg hy]
    · obtain ⟨r, h1, h2, h3⟩ := findNow_I x es (i + 1) hk'
      have hb : (x == z) = false := by simpa using hxz
      refine ⟨r, by simp only [Instr.findNow, Instr.sameNow, hz, if_pos, hb]; exact h1, by simp [lookI, hz, hxz, h2], fun j v h => ?_⟩
      obtain ⟨m, m1, m2, m3, m4⟩ := h3 j v h
      refine ⟨m + 1, by omega, by simp only [List.length_cons]; omega, fun e' he => m3 e' (by simpa using he), fun u y => ?_⟩
      have := m4 u y
      simp only [List.modify_succ_cons, lookI, hz, putI] at this ⊢
      by_cases hyz : y = z
      · have hyx : ¬ y = x := fun e => hxz (e ▸ hyz)
        rw [if_pos hyz, if_neg hyx, if_pos hyz]
      · rw [if_neg hyz, this, if_neg hyz]
section
variable {P : Program} {k : Nat} {st : St} {o : Oper}
theorem opok_makeMap {t : TypeId} (d : Nat) (ho : o.op = .makeMap t none) : OpOk P k st o ⟨.mp d k, [(d, some (k, .mapI fun _ => none))], [d], [d]⟩ :=
  opok_new fun ψ prot w ρ hr => by
    refine ⟨.map (some w.heap.size), .map #[] 0, 0, ?_, fun ψ' hψ hpr => ⟨w.heap.size, #[], 0, rfl, (MapKept.heap_alloc w _).1, fun e he => by simp at he, fun x => rfl⟩, fun ψ' h => .mp d k _ _ h⟩
    simp only [execOp, ho, Option.map_none, run_makeMap, Sem.run_bind, Sem.run_pure, Result.andThen_ok]
theorem opok_assignMap {x : Operand} (d : Nat) {n kk : Nat} {ob : AObj} (ho : o.op = .assign x) (hx : st.aop x = .mp n kk) (hn : st.obj n = some (kk, ob)) : OpOk P k st o ⟨.mp d k, [(d, some (k, ob)), (n, none)], [d, n], [d]⟩ := by
  refine ⟨fun m hm => by simpa [Writes.names] using hm, fun ψ prot obj w ρ hob hr r hf => ?_⟩
  have e1 := hx ▸ hr x (by simp [ho, Op.operands])
  obtain ⟨b, cap, hv, hψ⟩ := e1.mp_inv
  have hnn := (hob n (by simp)).trans hn
  obtain ⟨loc', g1, g2⟩ := r.live n kk _ hnn
  rw [hψ] at g1; injection g1 with g1; subst g1
  have hexec : (execOp ρ o).run P w = .ok (.value (ρ x)) w := by simp [execOp, ho, pure]
  rw [hexec]
  obtain ⟨ψ', k1, k2, k3, k4, k5⟩ := evolve_make (w' := w) r [n] d k ⟨some b, cap⟩ ob (hf d (by simp)) rfl rfl rfl (Nat.le_refl _) (fun _ _ _ => rfl) (fun b' hb => .inr ⟨n, by simp, kk, ob, _, hnn, hψ, hb⟩) (fun ψ' hψ' => g2.mono hψ' (fun b hb => ⟨hb, rfl⟩) (fun _ _ => rfl))
  refine ⟨ψ', prot, k1, k2, ?_, fun n j hne => (k5 n j hne).imp id fun ⟨q1, q2⟩ => ⟨q1, by simp [q2]⟩⟩
  rw [hv]
  exact .mp d k b cap k3
theorem opok_lookupI {t kt et : TypeId} {x y : Operand} {n kk : Nat} {f : Int → Option Value} {i : Int} {z : Value} (ho : o.op = .lookup t x y false) (hx : st.aop x = .mp n kk) (hy : st.aop y = .val (.int .i64 i)) (hn : st.obj n = some (kk, .mapI f)) (ht : P.underlying t = some (.map kt et)) (hk : P.underlying kt = some (.int .i64)) (hz : (P.info? et).bind (·.zero) = some z) :
    OpOk P k st o ⟨.val ((f i).getD z), [], [n], []⟩ :=
  opok_quiet fun ψ prot obj w ρ hob hr r => by
    have e1 := hx ▸ hr x (by simp [ho, Op.operands])
    have e2 := (hy ▸ hr y (by simp [ho, Op.operands]) : VRel ψ prot w (.val (.int .i64 i)) (ρ y)).val_eq
    obtain ⟨b, cap, hv, hψ⟩ := e1.mp_inv
    obtain ⟨loc', g1, g2⟩ := r.live n kk _ ((hob n (by simp)).trans hn)
    rw [hψ] at g1; injection g1 with g1; subst g1
    obtain ⟨b', es, c, h0, h1, h2, h3⟩ := g2
    injection h0 with h0; subst h0
    obtain ⟨q, q1, q2, -⟩ := findNow_I i es.toList 0 h2
    have hz' : (zeroValue et).run P w = .ok z w := by
      cases hi : P.info? et with
      | none => rw [hi] at hz; cases hz
      | some inf =>
        rw [hi] at hz
        have hz0 : inf.zero = some z := hz
        simp [zeroValue, typeInfo, hi, hz0, Sem.run_bind, Sem.run_pure, Result.andThen_ok]
    have hg := MapKept.run_getObj_map (P := P) h1
    have hck : (Instr.checkKey es.isEmpty 10000 kt (.int .i64 i)).run P w = .ok () w := MapKept.run_checkKey hk (by simp [MapKept.IsKey]) es.isEmpty 9999
    have hfk := MapKept.run_findKey (w := w) hk q1
    refine ⟨(f i).getD z, ?_, .val _⟩
    rw [← h3 i, ← q2]
    cases q with
    | none => simp only [execOp, ho, hv, e2, Instr.lookup, Sem.run_bind, Sem.run_pure, run_underlying ht, Result.andThen_ok, hg, hck, hfk, hz', Option.map_none, Option.getD_none, Bool.false_eq_true, if_false]
    | some jv => simp only [execOp, ho, hv, e2, Instr.lookup, Sem.run_bind, Sem.run_pure, run_underlying ht, Result.andThen_ok, hg, hck, hfk, Option.map_some, Option.getD_some, Bool.false_eq_true, if_false]
theorem opok_updateI {t kt et : TypeId} {x y u : Operand} {n kk : Nat} {f : Int → Option Value} {i : Int} {v : Value} (ho : o.op = .mapUpdate t x y u) (hx : st.aop x = .mp n kk) (hy : st.aop y = .val (.int .i64 i)) (hu : st.aop u = .val v) (hn : st.obj n = some (kk, .mapI f)) (ht : P.underlying t = some (.map kt et)) (hk : P.underlying kt = some (.int .i64)) :
    OpOk P k st o ⟨.any, [(n, some (kk, .mapI (putI f i v)))], [n], []⟩ := by
  refine ⟨fun m hm => by simpa [Writes.names] using hm, fun ψ prot obj w ρ hob hr r _ => ?_⟩
  have e1 := hx ▸ hr x (by simp [ho, Op.operands])
  have e2 := (hy ▸ hr y (by simp [ho, Op.operands]) : VRel ψ prot w (.val (.int .i64 i)) (ρ y)).val_eq
  have e3 := (hu ▸ hr u (by simp [ho, Op.operands]) : VRel ψ prot w (.val v) (ρ u)).val_eq
  obtain ⟨b, cap, hv, hψ⟩ := e1.mp_inv
  have hnn := (hob n (by simp)).trans hn
  obtain ⟨loc', g1, g2⟩ := r.live n kk _ hnn
  rw [hψ] at g1; injection g1 with g1; subst g1
  obtain ⟨b', es, c, h0, h1, h2, h3⟩ := g2
  injection h0 with h0; subst h0
  obtain ⟨q, q1, q2, q3⟩ := findNow_I i es.toList 0 h2
  have hg := MapKept.run_getObj_map (P := P) h1
  have hck : (Instr.checkKey false 10000 kt (.int .i64 i)).run P w = .ok () w := MapKept.run_checkKey hk (by simp [MapKept.IsKey]) false 9999
  have hfk := MapKept.run_findKey (w := w) hk q1
  have key : ∃ (es' : Array MapEntry) (c' : Nat), (execOp ρ o).run P w = .ok .skip { w with heap := w.heap.setIfInBounds b (.map es' c') } ∧ keysI es'.toList ∧ ∀ z, lookI es'.toList z = putI f i v z := by
    cases q with
    | none =>
      refine ⟨es.push ⟨.int .i64 i, v, c⟩, c + 1, ?_, fun e he => ?_, fun z => ?_⟩
      · simp only [execOp, ho, hv, e2, e3, Instr.mapUpdate, Sem.run_bind, Sem.run_pure, run_underlying ht, Result.andThen_ok, hg, hck, hfk, MapKept.run_setObj_map _ h1]
      · rw [Array.toList_push] at he
        rcases List.mem_append.1 he with he | he
        · exact h2 e he
        · simp only [List.mem_singleton] at he
          subst he
          exact ⟨i, rfl⟩
      · rw [Array.toList_push, lookI_push _ h2 i v c (by rw [← q2]; rfl)]
        unfold putI
        rw [h3 z]
    | some jv =>
      obtain ⟨j, u0⟩ := jv
      obtain ⟨m, m1, m2, m3, m4⟩ := q3 j u0 rfl
      have hj : j = m := by omega
      subst hj
      have hat : es[j]? = some es.toList[j] := by rw [← Array.getElem?_toList, List.getElem?_eq_getElem m2]
      have hkk := (m3 es.toList[j] (List.getElem?_eq_getElem m2)).1
      refine ⟨es.modify j fun e => { e with key := .int .i64 i, val := v }, c, ?_, fun e he => ?_, fun z => ?_⟩
      · have hst : (Instr.keyThatStays (((es[j]?).map (·.key)).getD (.int .i64 i)) (.int .i64 i)).run P w = .ok (.int .i64 i) w := by
          rw [hat, Option.map_some, Option.getD_some, hkk]
          exact MapKept.run_keyThatStays (d := .int .i64) (by simp [MapKept.IsKey])
        simp only [execOp, ho, hv, e2, e3, Instr.mapUpdate, Sem.run_bind, Sem.run_pure, run_underlying ht, Result.andThen_ok, hg, hck, hfk, hst, MapKept.run_setObj_map _ h1]
      · rw [Array.toList_modify] at he
        obtain ⟨m', hm', rfl⟩ := List.mem_iff_getElem.1 he
        rw [List.getElem_modify]
        split
        · exact ⟨i, rfl⟩
        · exact h2 _ (List.getElem_mem _)
      · rw [Array.toList_modify, m4]
        unfold putI
        rw [h3 z]
  obtain ⟨es', c', hrun, k1, k2⟩ := key
  rw [hrun]
  have hs := MapKept.heap_set (o' := .map es' c') h1
  obtain ⟨j1, j2⟩ := evolve_store (w' := { w with heap := w.heap.setIfInBounds b (.map es' c') }) r n kk _ (.mapI (putI f i v)) _ hnn hψ rfl rfl rfl (by simp) (fun c _ hc => hs.2 c fun e => hc (by rw [e]))
    ⟨b, es', c', rfl, hs.1, k1, k2⟩
  exact ⟨ψ, prot, j1, j2, .any _, fun m j hne => .inl hne⟩
variable {ops : Array Oper} {N : Nat} {draw : Bool} {K : St → Prop} {os : List Oper} {env : List (Nat × AVal)} {objs : Writes} {acc : List Tr} {d : Nat}
theorem runk_makeMap {t : TypeId} (hg : o.guard = none) (hd : o.dst = some d) (ho : o.op = .makeMap t none)
    (r : RunK P k ops N draw os ⟨(d, .mp d k) :: env, (d, some (k, .mapI fun _ => none)) :: objs⟩ (⟨.mp d k, [(d, some (k, .mapI fun _ => none))], [d], [d]⟩ :: acc) K) : RunK P k ops N draw (o :: os) ⟨env, objs⟩ acc K :=
  runk hg hd (opok_makeMap d ho) r
theorem runk_assignMap {x : Operand} {n kk : Nat} {ob : AObj} (hg : o.guard = none) (hd : o.dst = some d) (ho : o.op = .assign x) (hx : (⟨env, objs⟩ : St).aop x = .mp n kk) (hn : (⟨env, objs⟩ : St).obj n = some (kk, ob))
    (r : RunK P k ops N draw os ⟨(d, .mp d k) :: env, (d, some (k, ob)) :: (n, none) :: objs⟩ (⟨.mp d k, [(d, some (k, ob)), (n, none)], [d, n], [d]⟩ :: acc) K) : RunK P k ops N draw (o :: os) ⟨env, objs⟩ acc K :=
  runk hg hd (opok_assignMap d ho hx hn) r
theorem runk_updateI {t kt et : TypeId} {x y u : Operand} {n kk : Nat} {f : Int → Option Value} {i : Int} {v : Value} (hg : o.guard = none) (hd : o.dst = none) (ho : o.op = .mapUpdate t x y u) (hx : (⟨env, objs⟩ : St).aop x = .mp n kk) (hy : (⟨env, objs⟩ : St).aop y = .val (.int .i64 i)) (hu : (⟨env, objs⟩ : St).aop u = .val v) (hn : (⟨env, objs⟩ : St).obj n = some (kk, .mapI f)) (ht : P.underlying t = some (.map kt et)) (hk : P.underlying kt = some (.int .i64))
    (r : RunK P k ops N draw os ⟨env, (n, some (kk, .mapI (putI f i v))) :: objs⟩ (⟨.any, [(n, some (kk, .mapI (putI f i v)))], [n], []⟩ :: acc) K) : RunK P k ops N draw (o :: os) ⟨env, objs⟩ acc K :=
  runkN hg hd (opok_updateI ho hx hy hu hn ht hk) r
end
end Go.Proofs.Ytpclmngkpkinoaa
