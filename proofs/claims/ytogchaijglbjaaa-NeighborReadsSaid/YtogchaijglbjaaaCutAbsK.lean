/-
  append of zeros that are counted (append(s, make([]T, n)...)). No program is named here.
-/
import Derived.Test.YtogchaijglbjaaaCutAbsG
namespace Go.Proofs.Ytogchaijglbjaaa
open Go.RowKit
theorem zeros_list (K : IntKind) (m : Nat) : (Builtin.zeroCells (Value.cells (.int K 0)) m).toList = List.replicate m (Value.int K 0) := by
  apply List.ext_getElem
  · simp [Builtin.zeroCells, Value.cells]
  · intro i h1 h2
    simp [Builtin.zeroCells, Value.cells, Nat.mod_one]
theorem run_append_make {P : Program} (w : World) (t u ty e : TypeId) (i : TypeInfo) (K : IntKind) (ht : P.underlying t = some (.slice e)) (hu : P.underlying u = some (.int .i64)) (hi : P.info? e = some i) (hz : i.zero = some (.int K 0)) (hsize : i.size = 1) (hby : i.bytes = 1)
    (g n cap : Nat) (xs : List Value) (hown : w.ownsRow 0 e 1 (.slice (some ⟨g, 0, none⟩) n cap) n xs) (m : Nat) (hm0 : 0 < m) (hN : n + m ≤ 1000000) :
    ∃ v' w', (Builtin.append_ #[t, u] ty #[.slice (some ⟨g, 0, none⟩) n cap, .int .i64 m]).run P w = .ok v' w' ∧ w'.ownsRow 0 e 1 v' (n + m) (xs ++ List.replicate m (.int K 0)) ∧ w.grownBy w' (some g) ∧ ∀ g', v'.ownBlock = some g' → some g = some g' ∨ w.heap.size ≤ g' := by
  have hsmall : n + m ≤ maxLen := by unfold maxLen; omega
  have hwm : IntKind.i64.wrap (m : Int) = (m : Int) := by rw [IntKind.wrap_i64]; omega
  have hlen : (xs ++ List.replicate m (Value.int K 0)).length = (n + m) * 1 := by rw [List.length_append, hown.1, List.length_replicate]; omega
  rcases hown.2 with ⟨q, -⟩ | ⟨g', cap', cur, q, hbg, hg, hnc, hcm, hcs, htake⟩
  · cases q
  injection q with q1 q2 q3
  simp only [Option.some.injEq, Addr.mk.injEq, and_true] at q1
  subst q1; subst q3
  have hneg : ¬ ((m : Int) < 0) := by omega
  have hbig : ¬ (281474976710656 < (m : Int)) := by omega
  have hm : ¬ m = 0 := by omega
  have hz2 : (Builtin.zeroCells #[Value.int K 0] m).toList = List.replicate m (Value.int K 0) := zeros_list K m
  have hz3 : Builtin.zeroCells #[Value.int K 0] m = Array.replicate m (Value.int K 0) := by apply Array.ext'; simp [hz2]
  by_cases hroom : n + m ≤ cap
  · have hst := run_storeCells_at P g (n * 1) e (List.replicate m (Value.int K 0)) 0 cur w hg (by simp; omega) (fun v hv => by obtain ⟨-, rfl⟩ := List.mem_replicate.1 hv; rfl)
    simp only [Nat.add_zero, Nat.mul_one] at hst
    refine ⟨.slice (some ⟨g, 0, none⟩) (n + m) cap, _, ?_, ⟨hlen, .inr ⟨g, cap, _, rfl, hbg, setRow_heap w g cur (cur.toList.take n ++ List.replicate m (Value.int K 0) ++ cur.toList.drop (n + (List.replicate m (Value.int K 0)).length)).toArray e _ hg, hroom, hcm, ?_, ?_⟩⟩, ⟨rfl, rfl, rfl, by simp, fun k _ hk => setRow_other w g k _ (fun e => hk (by rw [e]))⟩, fun g' h => .inl h⟩
    · simp [Builtin.append_, run_underlying ht, run_underlying hu, sizeOf, typeInfo, zeroValue, hi, hz, hsize, hby, asInt, asIntOf, hwm, hneg, hbig, hroom, hm, Addr.add_lit, go_sem]
      rw [hz2, hst]
      simp [List.append_assoc]
    · simp only [List.size_toArray, List.length_append, List.length_take, List.length_drop, Array.length_toList, List.length_replicate]
      omega
    · rw [← hlen]
      simp only [Nat.mul_one] at htake ⊢
      rw [htake]
      exact List.take_left
  · have holds : ∀ j u, xs[j]? = some u → w.cell? ((⟨g, 0, none⟩ : Addr).add j) = some u := hown.cells (g := g) rfl
    have hxl : xs.length = n * i.size := by rw [hsize]; exact hown.1
    have hfo := run_firstCells_some (P := P) w.drew i.size n ⟨g, 0, none⟩ n cap xs hxl (by simpa using holds)
    have h63' : ¬ (9223372036854775807 < ((n : Int) + (m : Int))) := by omega
    have h48 := @growslice_fits (n + m) cap i.bytes (by omega) (by rw [hby]; omega)
    have h48' : ¬ (281474976710656 < Builtin.nextslicecap (n + m) cap * i.bytes) := by omega
    have hge := grownCap_ge w (n + m) cap e
    have hcm2 : grownCap w (n + m) cap e ≤ maxLen := grownCap_le_maxLen w (n + m) cap e hsmall
    refine ⟨.slice (some ⟨w.heap.size, 0, none⟩) (n + m) (grownCap w (n + m) cap e), w.drew.alloc (.cells (xs.toArray ++ (List.replicate m (Value.int K 0)).toArray ++ Builtin.zeroCells #[Value.int K 0] (grownCap w (n + m) cap e - (n + m))) e), ?_, ⟨hlen, .inr ⟨w.heap.size, _, _, rfl, Nat.zero_le _, heap_alloc_new w.drew _, hge, hcm2, ?_, ?_⟩⟩, ⟨rfl, rfl, rfl, by simp, fun k hk _ => heap_alloc_old w.drew _ hk⟩, fun g' h => .inr (by simp [Value.ownBlock] at h; omega)⟩
    · rw [hsize] at hfo
      rw [hby, Nat.mul_one] at h48'
      simp [Builtin.firstCells, loadCells] at hfo
      simp [Builtin.append_, run_underlying ht, run_underlying hu, sizeOf, typeInfo, zeroValue, hi, hz, hsize, hby, asInt, asIntOf, hwm, hneg, hbig, hroom, hm, h63', h48', hfo, Question.forced, newRow, grownCap, go_sem]
      rw [hz3]
    · have hzs : (Builtin.zeroCells #[Value.int K 0] (grownCap w (n + m) cap e - (n + m))).size = grownCap w (n + m) cap e - (n + m) := by rw [size_zeroCells]; simp
      have := hown.1
      simp only [Array.size_append, List.size_toArray, hzs, List.length_replicate]
      omega
    · simp only [Array.toList_append, List.append_assoc]
      rw [← List.append_assoc, ← hlen]
      exact List.take_left
theorem opok_appMake {P : Program} {k : Nat} {st : St} {o : Oper} {t u e : TypeId} {s x : Operand} (d : Nat) {n kk len : Nat} {K : IntKind} {xs : List Int} {m : Nat} (ho : o.op = .call { callee := .builtin .append, args := #[s, x], argTypes := #[t, u] })
    (hs : st.aop s = .own n kk len) (hn : st.obj n = some (kk, .row e 1 (ints K xs))) (hx : st.aop x = .val (.int .i64 m)) (ht : P.underlying t = some (.slice e)) (hu : P.underlying u = some (.int .i64)) (hi : (P.info? e).map (fun i => (i.zero, i.size, i.bytes)) = some (some (.int K 0), 1, 1)) (hl : len = xs.length) (hl0 : 0 < xs.length) (hm0 : 0 < m) (hN : xs.length + m ≤ 1000000) :
    OpOk P k st o ⟨.own d k (xs ++ List.replicate m 0).length, [(d, some (k, .row e 1 (ints K (xs ++ List.replicate m 0)))), (n, none)], [d, n], [d]⟩ := by
  subst hl
  refine ⟨fun a ha => by simpa [Writes.names] using ha, fun ψ prot obj w ρ hob hr r hf => ?_⟩
  have e1 := hs ▸ hr s (by simp [ho, Op.operands, Call.operands])
  have e2 := (hx ▸ hr x (by simp [ho, Op.operands, Call.operands]) : VRel ψ prot w (.val (.int .i64 m)) (ρ x)).val_eq
  obtain ⟨loc, hv, hψ⟩ := e1.own_inv
  have hnn := (hob n (by simp)).trans hn
  obtain ⟨loc', g1, g2⟩ := r.live n kk _ hnn
  rw [hψ] at g1; injection g1 with g1; subst g1
  obtain ⟨vs, g3, g4⟩ := g2
  rw [flat_ints] at g4
  obtain rfl := ints_vals g4
  simp only [length_ints] at g3
  obtain ⟨b, hb⟩ : ∃ b, loc.block = some b := by
    rcases g3.2 with ⟨-, h⟩ | ⟨g, c, cur, h, _⟩
    · omega
    · cases hbb : loc.block with
      | none => rw [hbb] at h; cases h
      | some b => exact ⟨b, rfl⟩
  rw [hb] at hv g3
  simp only [Option.map_some] at hv g3
  obtain ⟨i, hi0, hz0, hs0, hb0⟩ := info_parts hi
  obtain ⟨v', w', hrun, f1, f2, f3⟩ := run_append_make (P := P) w t u o.type e i K ht hu hi0 hz0 hs0 hb0 b xs.length loc.cap _ g3 m hm0 hN
  have hexec : (execOp ρ o).run P w = .ok (.value v') w' := by
    unfold execOp
    simp only [ho, resolve, invoke, builtin, Sem.run_bind, Sem.run_pure, Result.andThen_ok, List.map_toArray, List.map_cons, List.map_nil, hv, e2, hrun]
  rw [hexec]
  obtain ⟨loc2, hloc⟩ : ∃ loc : Loc, v' = .slice (loc.block.map fun b => ⟨b, 0, none⟩) (xs.length + m) loc.cap := by
    rcases f1.2 with ⟨rfl, h0⟩ | ⟨g, cap, cur, rfl, _⟩
    · exact ⟨⟨none, 0⟩, by rw [h0]; rfl⟩
    · exact ⟨⟨some g, cap⟩, rfl⟩
  have hlb : ∀ b, loc2.block = some b → v'.ownBlock = some b := fun b hb => by rw [hloc, hb]; rfl
  have hun : ∀ c, c < w.heap.size → (∀ n' j ob l, n' ∈ [n] → obj n' = some (j, ob) → ψ n' j = some l → l.block ≠ some c) → w'.heap[c]? = w.heap[c]? := fun c hc hk => f2.block c hc fun e => hk n kk _ loc (by simp) hnn hψ (by rw [hb, ← e])
  have hkeep : ∀ c, prot c → prot c ∧ w'.heap[c]? = w.heap[c]? := fun c hc => ⟨hc, hun c (r.pr c hc).1 fun n j ob l _ q1 q2 => (r.pr c hc).2 n j ob l q1 q2⟩
  have hel : (ints K (xs ++ List.replicate m 0)).length = xs.length + m := by simp
  obtain ⟨ψ', k1, k2, k3, k4, k5⟩ := evolve_make (w' := w') r [n] d k loc2 (.row e 1 (ints K (xs ++ List.replicate m 0))) (hf d (by simp)) f2.os f2.tape f2.output f2.size hun (fun c hc => by
    rcases f3 c (hlb c hc) with h | h
    · injection h with h
      exact .inr ⟨n, by simp, kk, _, loc, hnn, hψ, by rw [hb, h]⟩
    · exact .inl h) (fun ψ' hψ' => ⟨(xs ++ List.replicate m 0).map (Value.int K), by rw [hel, ← hloc]; simpa using f1, by rw [flat_ints]; exact vrels_zeros K _⟩)
  refine ⟨ψ', prot, k1, k2, ?_, fun n j hne => (k5 n j hne).imp id fun ⟨q1, q2⟩ => ⟨q1, by simp [q2]⟩⟩
  have : (xs ++ List.replicate m (0 : Int)).length = xs.length + m := by simp
  rw [hloc, this]
  exact .own d k _ loc2 k3
theorem runk_appMake {P : Program} {k : Nat} {ops : Array Oper} {N : Nat} {draw : Bool} {C : St → Prop} {o : Oper} {os : List Oper} {env : List (Nat × AVal)} {objs : Writes} {acc : List Tr} {d : Nat} {t u e : TypeId} {s x : Operand} {n kk len : Nat} {K : IntKind} {xs : List Int} {m : Nat} (hg : o.guard = none) (hd : o.dst = some d) (ho : o.op = .call { callee := .builtin .append, args := #[s, x], argTypes := #[t, u] })
    (hs : (⟨env, objs⟩ : St).aop s = .own n kk len) (hn : (⟨env, objs⟩ : St).obj n = some (kk, .row e 1 (ints K xs))) (hx : (⟨env, objs⟩ : St).aop x = .val (.int .i64 m)) (ht : P.underlying t = some (.slice e)) (hu : P.underlying u = some (.int .i64)) (hi : (P.info? e).map (fun i => (i.zero, i.size, i.bytes)) = some (some (.int K 0), 1, 1)) (hl : len = xs.length) (hl0 : 0 < xs.length) (hm0 : 0 < m) (hN : xs.length + m ≤ 1000000)
    (r : RunK P k ops N draw os ⟨(d, .own d k (xs ++ List.replicate m 0).length) :: env, (d, some (k, .row e 1 (ints K (xs ++ List.replicate m 0)))) :: (n, none) :: objs⟩ (⟨.own d k (xs ++ List.replicate m 0).length, [(d, some (k, .row e 1 (ints K (xs ++ List.replicate m 0)))), (n, none)], [d, n], [d]⟩ :: acc) C) : RunK P k ops N draw (o :: os) ⟨env, objs⟩ acc C :=
  runk hg hd (opok_appMake d ho hs hn hx ht hu hi hl hl0 hm0 hN) r
theorem run_append_make0 {P : Program} (w : World) (t u ty e : TypeId) (i : TypeInfo) (ht : P.underlying t = some (.slice e)) (hu : P.underlying u = some (.int .i64)) (hi : P.info? e = some i)
    (base : Option Addr) (n cap : Nat) (hn : n ≤ cap) : (Builtin.append_ #[t, u] ty #[.slice base n cap, .int .i64 0]).run P w = .ok (.slice base n cap) w := by
  have hwm : IntKind.i64.wrap (0 : Int) = 0 := by rw [IntKind.wrap_i64]; rfl
  cases base with
  | none => simp [Builtin.append_, run_underlying ht, run_underlying hu, sizeOf, typeInfo, hi, asInt, asIntOf, hwm, hn, go_sem]
  | some a => simp [Builtin.append_, run_underlying ht, run_underlying hu, sizeOf, typeInfo, hi, asInt, asIntOf, hwm, hn, storeCells, go_sem]
theorem opok_appMake0 {P : Program} {k : Nat} {st : St} {o : Oper} {t u e : TypeId} {s x : Operand} (d : Nat) {n kk len : Nat} {K : IntKind} {xs : List Int} (ho : o.op = .call { callee := .builtin .append, args := #[s, x], argTypes := #[t, u] })
    (hs : st.aop s = .own n kk len) (hn : st.obj n = some (kk, .row e 1 (ints K xs))) (hx : st.aop x = .val (.int .i64 0)) (ht : P.underlying t = some (.slice e)) (hu : P.underlying u = some (.int .i64)) (hi : (P.info? e).isSome = true) (hl : len = xs.length) :
    OpOk P k st o ⟨.own d k len, [(d, some (k, .row e 1 (ints K xs))), (n, none)], [d, n], [d]⟩ := by
  subst hl
  refine ⟨fun a ha => by simpa [Writes.names] using ha, fun ψ prot obj w ρ hob hr r hf => ?_⟩
  have e1 := hs ▸ hr s (by simp [ho, Op.operands, Call.operands])
  have e2 := (hx ▸ hr x (by simp [ho, Op.operands, Call.operands]) : VRel ψ prot w (.val (.int .i64 0)) (ρ x)).val_eq
  obtain ⟨loc, hv, hψ⟩ := e1.own_inv
  have hnn := (hob n (by simp)).trans hn
  obtain ⟨loc', g1, g2⟩ := r.live n kk _ hnn
  rw [hψ] at g1; injection g1 with g1; subst g1
  obtain ⟨i, hi0⟩ := Option.isSome_iff_exists.1 hi
  have hcap : xs.length ≤ loc.cap := by
    obtain ⟨vs, g3, -⟩ := g2
    simp only [length_ints] at g3
    rcases g3.2 with ⟨h, h0⟩ | ⟨g, c, cur, h, _, _, hle, _⟩
    · omega
    · injection h with _ _ e3; omega
  have hexec : (execOp ρ o).run P w = .ok (.value (ρ s)) w := by
    unfold execOp
    simp only [ho, resolve, invoke, builtin, Sem.run_bind, Sem.run_pure, Result.andThen_ok, List.map_toArray, List.map_cons, List.map_nil, hv, e2, run_append_make0 w t u o.type e i ht hu hi0 _ _ _ hcap]
  rw [hexec]
  obtain ⟨ψ', k1, k2, k3, k4, k5⟩ := evolve_make (w' := w) r [n] d k loc (.row e 1 (ints K xs)) (hf d (by simp)) rfl rfl rfl (Nat.le_refl _) (fun _ _ _ => rfl) (fun c hc => .inr ⟨n, by simp, kk, _, loc, hnn, hψ, hc⟩) (fun ψ' hψ' => ORel.mono (fun a b l h => hψ' a b l h) (fun b hb => ⟨hb, rfl⟩) (fun _ _ => rfl) g2)
  refine ⟨ψ', prot, k1, k2, ?_, fun n j hne => (k5 n j hne).imp id fun ⟨q1, q2⟩ => ⟨q1, by simp [q2]⟩⟩
  rw [hv]
  exact .own d k _ loc k3
theorem runk_appMake0 {P : Program} {k : Nat} {ops : Array Oper} {N : Nat} {draw : Bool} {C : St → Prop} {o : Oper} {os : List Oper} {env : List (Nat × AVal)} {objs : Writes} {acc : List Tr} {d : Nat} {t u e : TypeId} {s x : Operand} {n kk len : Nat} {K : IntKind} {xs : List Int} (hg : o.guard = none) (hd : o.dst = some d) (ho : o.op = .call { callee := .builtin .append, args := #[s, x], argTypes := #[t, u] })
    (hs : (⟨env, objs⟩ : St).aop s = .own n kk len) (hn : (⟨env, objs⟩ : St).obj n = some (kk, .row e 1 (ints K xs))) (hx : (⟨env, objs⟩ : St).aop x = .val (.int .i64 0)) (ht : P.underlying t = some (.slice e)) (hu : P.underlying u = some (.int .i64)) (hi : (P.info? e).isSome = true) (hl : len = xs.length)
    (r : RunK P k ops N draw os ⟨(d, .own d k len) :: env, (d, some (k, .row e 1 (ints K xs))) :: (n, none) :: objs⟩ (⟨.own d k len, [(d, some (k, .row e 1 (ints K xs))), (n, none)], [d, n], [d]⟩ :: acc) C) : RunK P k ops N draw (o :: os) ⟨env, objs⟩ acc C :=
  runk hg hd (opok_appMake0 d ho hs hn hx ht hu hi hl) r
end Go.Proofs.Ytogchaijglbjaaa
