/-
  Function values with captured variables, and maps whose values are not numbers, by states. No program is named here.
-/
import Derived.Test.YtpclmngkpkinoaaAbsIns
import Derived.Test.YtpclmngkpkinoaaAbsY
namespace Go.Proofs.Ytpclmngkpkinoaa
open Go.RowKit
section
variable {g : List (Nat × Nat × Nat × Nat)}
theorem Rens.parts {xs ys : List AVal} (h : Rens g xs ys) : xs.length = ys.length ∧ ∀ (i : Nat) (x y : AVal), xs[i]? = some x → ys[i]? = some y → Ren g x y := by
  induction h with
  | nil => exact ⟨rfl, fun i x y h => by simp at h⟩
  | cons h _ ih =>
    refine ⟨by simp [ih.1], fun i x y hx hy => ?_⟩
    cases i with
    | zero =>
      simp only [List.getElem?_cons_zero, Option.some.injEq] at hx hy
      subst hx; subst hy
      exact h
    | succ i =>
      simp only [List.getElem?_cons_succ] at hx hy
      exact ih.2 i x y hx hy
theorem Ren.fns {f : FuncId} {xs ys : List AVal} (h : Rens g xs ys) : Ren g (.fn f xs) (.fn f ys) := .fn f xs ys h.parts.1 h.parts.2
theorem Ren.rrefs {xs ys : List AVal} (h : Rens g xs ys) : Ren g (.rref xs) (.rref ys) := .rref xs ys h.parts.1 h.parts.2
end
section
variable {P : Program} {k : Nat} {st : St} {o : Oper}
/-- A function value with its captured variables. -/
theorem opok_makeFunc {f : FuncId} {caps : Array Operand} {cs : List AVal} (ho : o.op = .makeFunc (.func f) #[] caps) (hc : caps.toList.map st.aop = cs) : OpOk P k st o ⟨.fn f cs, [], [], []⟩ :=
  opok_quiet fun ψ prot obj w ρ _ hr _ => by
    subst hc
    refine ⟨.func (.func f) #[] (caps.map ρ), ?_, .fn f _ _ (by simp) fun i x v h1 h2 => ?_⟩
    · simp only [execOp, ho, Sem.run_bind, Sem.run_pure, Result.andThen_ok, Instr.makeFunc, Array.map_empty]
    · rw [List.getElem?_map] at h1
      rw [Array.getElem?_map, ← Array.getElem?_toList] at h2
      cases hq : caps.toList[i]? with
      | none => rw [hq] at h1; cases h1
      | some y =>
        rw [hq] at h1 h2
        simp only [Option.map_some, Option.some.injEq] at h1 h2
        subst h1; subst h2
        exact hr y (by simp only [ho, Op.operands]; simp; exact Array.mem_toList_iff.1 (List.mem_of_getElem? hq))
theorem opok_makeFunc1 {f : FuncId} {x : Operand} {v : AVal} (ho : o.op = .makeFunc (.func f) #[] #[x]) (hx : st.aop x = v) : OpOk P k st o ⟨.fn f [v], [], [], []⟩ :=
  opok_makeFunc ho (by simp [hx])
theorem lookK_push (es : List MapEntry) (kd : IntKind) (hk : keysK kd es) (x : Int) (v : Value) (c : Nat) (hx : lookK es x = none) : ∀ y, lookK (es ++ [⟨.int kd x, v, c⟩]) y = if y = x then some v else lookK es y := by
  induction es with
  | nil => intro y; simp [lookK]
  | cons e es ih =>
    intro y
    obtain ⟨z, hz⟩ := hk e List.mem_cons_self
    have hk' : keysK kd es := fun e he => hk e (List.mem_cons_of_mem _ he)
    simp only [lookK, hz] at hx
    by_cases hxz : x = z
    · rw [if_pos hxz] at hx; cases hx
    · rw [if_neg hxz] at hx
      have := ih hk' hx y
      simp only [List.cons_append, lookK, hz] at this ⊢
      by_cases hyz : y = z
      · have hyx : ¬ y = x := fun e => hxz (e ▸ hyz)
        rw [if_pos hyz, if_neg hyx, if_pos hyz]
      · rw [if_neg hyz, this, if_neg hyz]
theorem findNow_K (kd : IntKind) (x : Int) : ∀ (es : List MapEntry) (i : Nat), keysK kd es → ∃ r, Instr.findNow (.int kd) (.int kd x) es i = some r ∧ r.map (·.2) = lookK es x ∧ ∀ j v, r = some (j, v) → ∃ m, j = i + m ∧ m < es.length ∧ (∀ e, es[m]? = some e → e.key = .int kd x ∧ e.val = v) ∧ ∀ u y, lookK (es.modify m fun e => { e with key := .int kd x, val := u }) y = if y = x then some u else lookK es y
  | [], i, _ => ⟨none, rfl, rfl, fun j v h => by cases h⟩
  | e :: es, i, hk => by
    obtain ⟨z, hz⟩ := hk e List.mem_cons_self
    have hk' : keysK kd es := fun e he => hk e (List.mem_cons_of_mem _ he)
    by_cases hxz : x = z
    · subst hxz
      refine ⟨some (i, e.val), by simp [Instr.findNow, Instr.sameNow, hz], by simp [lookK, hz], fun j v h => ?_⟩
      injection h with h
      injection h with h1 h2
      subst h1; subst h2
      refine ⟨0, rfl, by simp, fun e' he => ?_, fun u y => ?_⟩
      · simp at he; subst he; exact ⟨hz, rfl⟩
      · simp only [List.modify_zero_cons, lookK, hz]
        by_cases hy : y = x
        · rw [if_pos hy, if_pos hy]
        · rw [if_neg hy, if_neg hy, if_neg hy]
    · obtain ⟨r, h1, h2, h3⟩ := findNow_K kd x es (i + 1) hk'
      have hb : (x == z) = false := by simpa using hxz
      refine ⟨r, by simp only [Instr.findNow, Instr.sameNow, hz, if_pos, hb]; exact h1, by simp [lookK, hz, hxz, h2], fun j v h => ?_⟩
      obtain ⟨m, m1, m2, m3, m4⟩ := h3 j v h
      refine ⟨m + 1, by omega, by simp only [List.length_cons]; omega, fun e' he => m3 e' (by simpa using he), fun u y => ?_⟩
      have := m4 u y
      simp only [List.modify_succ_cons, lookK, hz] at this ⊢
      by_cases hyz : y = z
      · have hyx : ¬ y = x := fun e => hxz (e ▸ hyz)
        rw [if_pos hyz, if_neg hyx, if_pos hyz]
      · rw [if_neg hyz, this, if_neg hyz]
theorem opok_makeMapV {t : TypeId} (kd : IntKind) (d : Nat) (ho : o.op = .makeMap t none) : OpOk P k st o ⟨.mp d k, [(d, some (k, .mapV kd []))], [d], [d]⟩ :=
  opok_new fun ψ prot w ρ hr => by
    refine ⟨.map (some w.heap.size), .map #[] 0, 0, ?_, fun ψ' hψ hpr => ⟨w.heap.size, #[], 0, rfl, (MapKept.heap_alloc w _).1, fun e he => by simp at he, fun x => trivial⟩, fun ψ' h => .mp d k _ _ h⟩
    simp only [execOp, ho, Option.map_none, run_makeMap, Sem.run_bind, Sem.run_pure, Result.andThen_ok]
theorem look_any {l : List (Int × AVal)} {es : List MapEntry} {i : Int} {z : Value} {ψ : Ghost} {prot : Nat → Prop} {w : World} (h : OptR (VRel ψ prot w) (l.lookup i) (lookK es i)) :
    VRel ψ prot w ((l.lookup i).getD (.val z)) ((lookK es i).getD z) ∧ (lookK es i).isSome = (l.lookup i).isSome := by
  cases h1 : l.lookup i <;> cases h2 : lookK es i <;> rw [h1, h2] at h
  · exact ⟨.val _, rfl⟩
  · exact h.elim
  · exact h.elim
  · exact ⟨h, rfl⟩
theorem opok_lookupVs {t kt et : TypeId} {kd : IntKind} {x y : Operand} {n kk : Nat} {l : List (Int × AVal)} {i : Int} {z : Value} (ho : o.op = .lookup t x y false) (hx : st.aop x = .mp n kk) (hy : st.aop y = .val (.int kd i)) (hn : st.obj n = some (kk, .mapV kd l)) (ht : P.underlying t = some (.map kt et)) (hk : P.underlying kt = some (.int kd)) (hz : (P.info? et).bind (·.zero) = some z) {v : AVal} (hv : (l.lookup i).getD (.val z) = v) :
    OpOk P k st o ⟨v, [], [n], []⟩ :=
  opok_quiet fun ψ prot obj w ρ hob hr r => by
    subst hv
    have e1 := hx ▸ hr x (by simp [ho, Op.operands])
    have e2 := (hy ▸ hr y (by simp [ho, Op.operands]) : VRel ψ prot w (.val (.int kd i)) (ρ y)).val_eq
    obtain ⟨b, cap, hv, hψ⟩ := e1.mp_inv
    obtain ⟨loc', g1, g2⟩ := r.live n kk _ ((hob n (by simp)).trans hn)
    rw [hψ] at g1; injection g1 with g1; subst g1
    obtain ⟨b', es, c, h0, h1, h2, h3⟩ := g2
    injection h0 with h0; subst h0
    obtain ⟨q, q1, q2, -⟩ := findNow_K kd i es.toList 0 h2
    have hz' : (zeroValue et).run P w = .ok z w := by
      cases hi : P.info? et with
      | none => rw [hi] at hz; cases hz
      | some inf =>
        rw [hi] at hz
        have hz0 : inf.zero = some z := hz
        simp [zeroValue, typeInfo, hi, hz0, Sem.run_bind, Sem.run_pure, Result.andThen_ok]
    have hg := MapKept.run_getObj_map (P := P) h1
    have hck : (Instr.checkKey es.isEmpty 10000 kt (.int kd i)).run P w = .ok () w := MapKept.run_checkKey hk (by simp [MapKept.IsKey]) es.isEmpty 9999
    have hfk := MapKept.run_findKey (w := w) hk q1
    refine ⟨(lookK es.toList i).getD z, ?_, (look_any (h3 i)).1⟩
    rw [← q2]
    cases q with
    | none => simp only [execOp, ho, hv, e2, Instr.lookup, Sem.run_bind, Sem.run_pure, run_underlying ht, Result.andThen_ok, hg, hck, hfk, hz', Option.map_none, Option.getD_none, Bool.false_eq_true, if_false]
    | some jv => simp only [execOp, ho, hv, e2, Instr.lookup, Sem.run_bind, Sem.run_pure, run_underlying ht, Result.andThen_ok, hg, hck, hfk, Option.map_some, Option.getD_some, Bool.false_eq_true, if_false]
theorem opok_lookupVo {t kt et : TypeId} {kd : IntKind} {x y : Operand} {n kk : Nat} {l : List (Int × AVal)} {i : Int} {z : Value} (ho : o.op = .lookup t x y true) (hx : st.aop x = .mp n kk) (hy : st.aop y = .val (.int kd i)) (hn : st.obj n = some (kk, .mapV kd l)) (ht : P.underlying t = some (.map kt et)) (hk : P.underlying kt = some (.int kd)) (hz : (P.info? et).bind (·.zero) = some z) {v : AVal} {b : Bool} (hv : (l.lookup i).getD (.val z) = v) (hb : (l.lookup i).isSome = b) :
    OpOk P k st o ⟨.tuple [v, .val (.bool b)], [], [n], []⟩ :=
  opok_quiet fun ψ prot obj w ρ hob hr r => by
    subst hv; subst hb
    have e1 := hx ▸ hr x (by simp [ho, Op.operands])
    have e2 := (hy ▸ hr y (by simp [ho, Op.operands]) : VRel ψ prot w (.val (.int kd i)) (ρ y)).val_eq
    obtain ⟨b, cap, hv, hψ⟩ := e1.mp_inv
    obtain ⟨loc', g1, g2⟩ := r.live n kk _ ((hob n (by simp)).trans hn)
    rw [hψ] at g1; injection g1 with g1; subst g1
    obtain ⟨b', es, c, h0, h1, h2, h3⟩ := g2
    injection h0 with h0; subst h0
    obtain ⟨q, q1, q2, -⟩ := findNow_K kd i es.toList 0 h2
    have hz' : (zeroValue et).run P w = .ok z w := by
      cases hi : P.info? et with
      | none => rw [hi] at hz; cases hz
      | some inf =>
        rw [hi] at hz
        have hz0 : inf.zero = some z := hz
        simp [zeroValue, typeInfo, hi, hz0, Sem.run_bind, Sem.run_pure, Result.andThen_ok]
    have hg := MapKept.run_getObj_map (P := P) h1
    have hck : (Instr.checkKey es.isEmpty 10000 kt (.int kd i)).run P w = .ok () w := MapKept.run_checkKey hk (by simp [MapKept.IsKey]) es.isEmpty 9999
    have hfk := MapKept.run_findKey (w := w) hk q1
    obtain ⟨k1, k2⟩ := look_any (z := z) (h3 i)
    refine ⟨.tuple #[(lookK es.toList i).getD z, .bool (lookK es.toList i).isSome], ?_, .tuple _ _ rfl fun j x u hx hu => ?_⟩
    · rw [← q2]
      cases q with
      | none => simp only [execOp, ho, hv, e2, Instr.lookup, Sem.run_bind, Sem.run_pure, run_underlying ht, Result.andThen_ok, hg, hck, hfk, hz', Option.map_none, Option.getD_none, Option.isSome_none, if_true]
      | some jv => simp only [execOp, ho, hv, e2, Instr.lookup, Sem.run_bind, Sem.run_pure, run_underlying ht, Result.andThen_ok, hg, hck, hfk, Option.map_some, Option.getD_some, Option.isSome_some, if_true]
    · match j, hx, hu with
      | 0, hx, hu => cases hx; cases hu; exact k1
      | 1, hx, hu => cases hx; cases hu; rw [k2]; exact .val _
theorem run_mapPut {t kt et : TypeId} {kd : IntKind} {b : Nat} {es : Array MapEntry} {c : Nat} {w : World} {i : Int} {v : Value} (ht : P.underlying t = some (.map kt et)) (hk : P.underlying kt = some (.int kd)) (h1 : w.heap[b]? = some (.map es c)) (h2 : keysK kd es.toList) :
    ∃ (es' : Array MapEntry) (c' : Nat), (Instr.mapUpdate t (.map (some b)) (.int kd i) v).run P w = .ok () { w with heap := w.heap.setIfInBounds b (.map es' c') } ∧ keysK kd es'.toList ∧ ∀ z, lookK es'.toList z = if z = i then some v else lookK es.toList z := by
  obtain ⟨q, q1, q2, q3⟩ := findNow_K kd i es.toList 0 h2
  have hg := MapKept.run_getObj_map (P := P) h1
  have hck : (Instr.checkKey false 10000 kt (.int kd i)).run P w = .ok () w := MapKept.run_checkKey hk (by simp [MapKept.IsKey]) false 9999
  have hfk := MapKept.run_findKey (w := w) hk q1
  cases q with
  | none =>
    refine ⟨es.push ⟨.int kd i, v, c⟩, c + 1, ?_, fun e he => ?_, fun z => ?_⟩
    · simp only [Instr.mapUpdate, Sem.run_bind, Sem.run_pure, run_underlying ht, Result.andThen_ok, hg, hck, hfk, MapKept.run_setObj_map _ h1]
    · rw [Array.toList_push] at he
      rcases List.mem_append.1 he with he | he
      · exact h2 e he
      · simp only [List.mem_singleton] at he
        subst he
        exact ⟨i, rfl⟩
    · rw [Array.toList_push, lookK_push _ kd h2 i v c (by rw [← q2]; rfl)]
  | some jv =>
    obtain ⟨j, u0⟩ := jv
    obtain ⟨m, m1, m2, m3, m4⟩ := q3 j u0 rfl
    have hj : j = m := by omega
    subst hj
    have hat : es[j]? = some es.toList[j] := by rw [← Array.getElem?_toList, List.getElem?_eq_getElem m2]
    have hkk := (m3 es.toList[j] (List.getElem?_eq_getElem m2)).1
    refine ⟨es.modify j fun e => { e with key := .int kd i, val := v }, c, ?_, fun e he => ?_, fun z => ?_⟩
    · have hst : (Instr.keyThatStays (((es[j]?).map (·.key)).getD (.int kd i)) (.int kd i)).run P w = .ok (.int kd i) w := by
        rw [hat, Option.map_some, Option.getD_some, hkk]
        exact MapKept.run_keyThatStays (d := .int kd) (by simp [MapKept.IsKey])
      simp only [Instr.mapUpdate, Sem.run_bind, Sem.run_pure, run_underlying ht, Result.andThen_ok, hg, hck, hfk, hst, MapKept.run_setObj_map _ h1]
    · rw [Array.toList_modify] at he
      obtain ⟨m', hm', rfl⟩ := List.mem_iff_getElem.1 he
      rw [List.getElem_modify]
      split
      · exact ⟨i, rfl⟩
      · exact h2 _ (List.getElem_mem _)
    · rw [Array.toList_modify, m4]
theorem opok_putV {t kt et : TypeId} {kd : IntKind} {x y u : Operand} {n kk : Nat} {l : List (Int × AVal)} {i : Int} {v : AVal} (ho : o.op = .mapUpdate t x y u ∨ o.op = .insert t x y u) (hx : st.aop x = .mp n kk) (hy : st.aop y = .val (.int kd i)) (hu : st.aop u = v) (hn : st.obj n = some (kk, .mapV kd l)) (ht : P.underlying t = some (.map kt et)) (hk : P.underlying kt = some (.int kd)) :
    OpOk P k st o ⟨.any, [(n, some (kk, .mapV kd ((i, v) :: l)))], [n], []⟩ := by
  refine ⟨fun m hm => by simpa [Writes.names] using hm, fun ψ prot obj w ρ hob hr r _ => ?_⟩
  have hr3 : ∀ z ∈ [x, y, u], VRel ψ prot w (st.aop z) (ρ z) := fun z hz => hr z (by rcases ho with ho | ho <;> simpa [ho, Op.operands] using hz)
  have e1 := hx ▸ hr3 x (by simp)
  have e2 := (hy ▸ hr3 y (by simp) : VRel ψ prot w (.val (.int kd i)) (ρ y)).val_eq
  have e3 := (hu ▸ hr3 u (by simp) : VRel ψ prot w v (ρ u))
  obtain ⟨b, cap, hv, hψ⟩ := e1.mp_inv
  have hnn := (hob n (by simp)).trans hn
  obtain ⟨loc', g1, g2⟩ := r.live n kk _ hnn
  rw [hψ] at g1; injection g1 with g1; subst g1
  obtain ⟨b', es, c, h0, h1, h2, h3⟩ := g2
  injection h0 with h0; subst h0
  obtain ⟨es', c', hrun0, k1, k2⟩ := run_mapPut (i := i) (v := ρ u) ht hk h1 h2
  have hrun : (execOp ρ o).run P w = .ok .skip { w with heap := w.heap.setIfInBounds b (.map es' c') } := by
    rcases ho with ho | ho <;> simp only [execOp, ho, hv, e2, Sem.run_bind, Sem.run_pure, Result.andThen_ok, hrun0]
  rw [hrun]
  have hs := MapKept.heap_set (o' := .map es' c') h1
  have hbn : ¬ prot b := fun hpb => (r.pr b hpb).2 n kk _ _ hnn hψ rfl
  have hkeep : ∀ a, prot a → prot a ∧ ({ w with heap := w.heap.setIfInBounds b (.map es' c') } : World).heap[a]? = w.heap[a]? := fun a ha => ⟨ha, hs.2 a fun e => hbn (e ▸ ha)⟩
  obtain ⟨j1, j2⟩ := evolve_store (w' := { w with heap := w.heap.setIfInBounds b (.map es' c') }) r n kk _ (.mapV kd ((i, v) :: l)) _ hnn hψ rfl rfl rfl (by simp) (fun c _ hc => hs.2 c fun e => hc (by rw [e]))
    ⟨b, es', c', rfl, hs.1, k1, fun z => by
      rw [k2 z, List.lookup_cons]
      by_cases hz : z = i
      · subst hz
        simp only [beq_self_eq_true, if_true]
        exact e3.mono (fun _ _ _ h => h) hkeep
      · have : (z == i) = false := by simpa using hz
        rw [this, if_neg hz]
        exact (h3 z).imp fun a u _ q => q.mono (fun _ _ _ h => h) hkeep⟩
  exact ⟨ψ, prot, j1, j2, .any _, fun m j hne => .inl hne⟩
variable {ops : Array Oper} {N : Nat} {draw : Bool} {K : St → Prop} {os : List Oper} {env : List (Nat × AVal)} {objs : Writes} {acc : List Tr} {d : Nat}
theorem runk_makeMapV {t : TypeId} (kd : IntKind) (hg : o.guard = none) (hd : o.dst = some d) (ho : o.op = .makeMap t none)
    (r : RunK P k ops N draw os ⟨(d, .mp d k) :: env, (d, some (k, .mapV kd [])) :: objs⟩ (⟨.mp d k, [(d, some (k, .mapV kd []))], [d], [d]⟩ :: acc) K) : RunK P k ops N draw (o :: os) ⟨env, objs⟩ acc K :=
  runk hg hd (opok_makeMapV kd d ho) r
theorem runk_putV {t kt et : TypeId} {kd : IntKind} {x y u : Operand} {n kk : Nat} {l : List (Int × AVal)} {i : Int} {v : AVal} (hg : o.guard = none) (hd : o.dst = none) (ho : o.op = .mapUpdate t x y u) (hx : (⟨env, objs⟩ : St).aop x = .mp n kk) (hy : (⟨env, objs⟩ : St).aop y = .val (.int kd i)) (hu : (⟨env, objs⟩ : St).aop u = v) (hn : (⟨env, objs⟩ : St).obj n = some (kk, .mapV kd l)) (ht : P.underlying t = some (.map kt et)) (hk : P.underlying kt = some (.int kd))
    (r : RunK P k ops N draw os ⟨env, (n, some (kk, .mapV kd ((i, v) :: l))) :: objs⟩ (⟨.any, [(n, some (kk, .mapV kd ((i, v) :: l)))], [n], []⟩ :: acc) K) : RunK P k ops N draw (o :: os) ⟨env, objs⟩ acc K :=
  runkN hg hd (opok_putV (.inl ho) hx hy hu hn ht hk) r
theorem runk_insV {t kt et : TypeId} {kd : IntKind} {x y u : Operand} {n kk : Nat} {l : List (Int × AVal)} {i : Int} {v : AVal} (hg : o.guard = none) (hd : o.dst = none) (ho : o.op = .insert t x y u) (hx : (⟨env, objs⟩ : St).aop x = .mp n kk) (hy : (⟨env, objs⟩ : St).aop y = .val (.int kd i)) (hu : (⟨env, objs⟩ : St).aop u = v) (hn : (⟨env, objs⟩ : St).obj n = some (kk, .mapV kd l)) (ht : P.underlying t = some (.map kt et)) (hk : P.underlying kt = some (.int kd))
    (r : RunK P k ops N draw os ⟨env, (n, some (kk, .mapV kd ((i, v) :: l))) :: objs⟩ (⟨.any, [(n, some (kk, .mapV kd ((i, v) :: l)))], [n], []⟩ :: acc) K) : RunK P k ops N draw (o :: os) ⟨env, objs⟩ acc K :=
  runkN hg hd (opok_putV (.inr ho) hx hy hu hn ht hk) r
end
/-- A map and a value are handed back. -/
theorem ends_map2 {P : Program} {fn : Func} {st : St} {objs' : Writes} {a b n k : Nat} {o o' : AObj} {x x' : AVal} (hr : fn.results = #[.tmp a, .tmp b]) (ha : st.get a = .mp n k) (hb : st.get b = x) (hobj : st.obj n = some (k, o)) (hout : (objs'.filter fun x => x.2.isSome) = [(1000, some (0, o'))]) (ho : o = o') (hx : x = x') (hp : o'.pure = true) (hpx : x'.pure = true)
    (hn : nodupB (objs'.map (·.1)) = true) {e : Exit} (he : e = .ret ∨ e = .normal) : Ends P fn (.tuple [.mp 1000 0, x']) objs' e st := by
  subst ho; subst hx
  exact ends [(1000, n, k, o)] (res_two hr ha hb) (.tuple (.cons (.mp _ _ _ _ List.mem_cons_self) (.cons (.pure _ hpx) .nil))) (fun x h => by simp at h; subst h; exact hobj) hout hn rfl (fun x h => by simp at h; subst h; exact hp) rfl he
end Go.Proofs.Ytpclmngkpkinoaa
