/-
  A row of the call's own that is taken from at its front and appended to at its end, by states. No program is named here.
-/
import Derived.Test.YtmbmodeiikhnkaaDoorAbsC
import Derived.Test.YtmbmodeiikhnkaaDoorAbsQ
namespace Go.Proofs.YtmbmodeiikhnkaaDoor
open Go.RowKit
section
variable {ψ : Ghost} {prot : Nat → Prop} {w : World}
theorem VRel.win_inv {n k len : Nat} {v : Value} (h : VRel ψ prot w (.win n k len) v) : ∃ b o cap, v = .slice (some ⟨b, o, none⟩) len cap ∧ cap < 9223372036854775808 ∧ ψ n k = some ⟨some b, o * 9223372036854775808 + cap⟩ := by
  cases h with
  | win n k len b o cap hc h => exact ⟨b, o, cap, rfl, hc, h⟩
theorem VRel.wptr_inv {n k i : Nat} {v : Value} (h : VRel ψ prot w (.wptr n k i) v) : ∃ b o cap, v = .pointer (some ⟨b, o + i, none⟩) ∧ cap < 9223372036854775808 ∧ ψ n k = some ⟨some b, o * 9223372036854775808 + cap⟩ := by
  cases h with
  | wptr n k i b o cap hc h => exact ⟨b, o, cap, rfl, hc, h⟩
theorem ORel.que_at {t : TypeId} {sz : Nat} {es : List AVal} {b o cap : Nat} (h : ORel ψ prot w ⟨some b, o * 9223372036854775808 + cap⟩ (.que t sz es)) (hc : cap < 9223372036854775808) :
    ∃ (cur : Array Value) (xs : List Value), cap ≤ maxLen ∧ w.heap[b]? = some (.cells cur t (0, 0)) ∧ es.length ≤ cap ∧ (cap = 0 ∨ o + cap * sz ≤ cur.size) ∧ xs.length = es.length * sz ∧ (∀ (i : Nat) (v : Value), xs[i]? = some v → cur[o + i]? = some v) ∧ VRels ψ prot w (es.flatMap AVal.flat) xs := by
  obtain ⟨b', o', cap', cur, xs, h0, h1, h2, h3, h4, h5, h6, h7⟩ := h
  injection h0 with e1 e2
  injection e1 with e1
  have hm : cap' < 9223372036854775808 := by unfold maxLen at h1; omega
  have e3 : o = o' := by omega
  have e4 : cap = cap' := by omega
  subst e1; subst e3; subst e4
  exact ⟨cur, xs, h1, h2, h3, h4, h5, h6, h7⟩
end
theorem run_append_roomAt {P : Program} (w : World) (t ty e : TypeId) (i : TypeInfo) (ht : P.underlying t = some (.slice e)) (hi : P.info? e = some i)
    (g o sLen sCap : Nat) (cur : Array Value) (hg : w.heap[g]? = some (.cells cur e (0, 0)))
    (a : Addr) (m c : Nat) (news : List Value) (hl : news.length = m * i.size) (hnews : ∀ j u, news[j]? = some u → w.cell? (a.add j) = some u) (h1 : ∀ u ∈ news, u.oneCell' = true)
    (hroom : sLen + m ≤ sCap) (hfit : o + sLen * i.size + news.length ≤ cur.size) :
    (Builtin.append_ #[t, t] ty #[.slice (some ⟨g, o, none⟩) sLen sCap, .slice (some a) m c]).run P w =
      .ok (.slice (some ⟨g, o, none⟩) (sLen + m) sCap) (w.setRow g (cur.toList.take (o + sLen * i.size) ++ news ++ cur.toList.drop (o + sLen * i.size + news.length)).toArray) := by
  have hf := run_firstCells_some (P := P) w i.size m a m c news hl hnews
  have hst := run_storeCells_at P g (o + sLen * i.size) e news 0 cur w hg (by simpa using hfit) h1
  simp only [Nat.add_zero] at hst
  simp [Builtin.append_, run_underlying ht, sizeOf, typeInfo, hi, Builtin.lenOf, hroom, hf, addr_add0, hst]
theorem run_append_que {P : Program} {w : World} {t ty e : TypeId} {z : Value} {sz bytes : Nat} (ht : P.underlying t = some (.slice e)) (hi : (P.info? e).map (fun i => (i.zero, i.size, i.bytes)) = some (some z, sz, bytes)) (hz : z.cells.size = sz) (hby : bytes ≤ 140)
    {b oo n cap m c : Nat} {cur : Array Value} {xs news : List Value} {a : Addr} (hb : w.heap[b]? = some (.cells cur e (0, 0))) (hn : n ≤ cap) (hcm : cap ≤ maxLen) (hc : cap = 0 ∨ oo + cap * sz ≤ cur.size) (hxl : xs.length = n * sz) (hx : ∀ (i : Nat) (v : Value), xs[i]? = some v → cur[oo + i]? = some v)
    (hl : news.length = m * sz) (hm : 0 < m) (hnews : ∀ j u, news[j]? = some u → w.cell? (a.add j) = some u) (h1 : ∀ u ∈ news, u.oneCell' = true) (hN : n + m ≤ 1000000000000) :
    ∃ (b' o' cap' : Nat) (cur' : Array Value) (w' : World), (Builtin.append_ #[t, t] ty #[.slice (some ⟨b, oo, none⟩) n cap, .slice (some a) m c]).run P w = .ok (.slice (some ⟨b', o', none⟩) (n + m) cap') w' ∧ cap' ≤ maxLen ∧ w'.heap[b']? = some (.cells cur' e (0, 0)) ∧ n + m ≤ cap' ∧
      (cap' = 0 ∨ o' + cap' * sz ≤ cur'.size) ∧ (∀ (i : Nat) (v : Value), (xs ++ news)[i]? = some v → cur'[o' + i]? = some v) ∧ w.grownBy w' (some b) ∧ (b' = b ∨ w.heap.size ≤ b') := by
  obtain ⟨i, hi0, hz0, hs0, hb0⟩ := info_parts hi
  subst hs0
  have hbytes : (n + m) * bytes ≤ 140737488355328 := by
    calc (n + m) * bytes ≤ 1000000000000 * 140 := Nat.mul_le_mul hN hby
      _ ≤ _ := by omega
  have h63 : n + m ≤ maxLen := by unfold maxLen; omega
  by_cases hroom : n + m ≤ cap
  · have hc' : oo + cap * i.size ≤ cur.size := by omega
    have hms : (n + m) * i.size ≤ cap * i.size := Nat.mul_le_mul_right _ hroom
    rw [Nat.add_mul] at hms
    have hfit : oo + n * i.size + news.length ≤ cur.size := by rw [hl]; omega
    have hr := run_append_roomAt (P := P) w t ty e i ht hi0 b oo n cap cur hb a m c news hl hnews h1 hroom hfit
    refine ⟨b, oo, cap, _, _, hr, hcm, setRow_heap w b cur _ e _ hb, hroom, .inr ?_, fun j v hj => ?_, ⟨rfl, rfl, rfl, by simp, fun k _ hk => setRow_other w b k _ (fun e => hk (by simp [e]))⟩, .inl rfl⟩
    · simp only [List.size_toArray, List.length_append, List.length_take, List.length_drop, Array.length_toList]
      omega
    · have hlt : (cur.toList.take (oo + n * i.size)).length = oo + n * i.size := by simp; omega
      simp only [List.getElem?_toArray]
      by_cases hj1 : j < n * i.size
      · rw [List.getElem?_append_left (by rw [hxl]; exact hj1)] at hj
        rw [List.append_assoc, List.getElem?_append_left (by rw [hlt]; omega), List.getElem?_take, if_pos (by omega), Array.getElem?_toList]
        exact hx j v hj
      · rw [List.getElem?_append_right (by rw [hxl]; omega), hxl] at hj
        have hj2 : j - n * i.size < news.length := (List.getElem?_eq_some_iff.1 hj).1
        rw [List.append_assoc, List.getElem?_append_right (by rw [hlt]; omega), hlt, List.getElem?_append_left (by omega), show oo + j - (oo + n * i.size) = j - n * i.size by omega]
        exact hj
  · have holds : ∀ j u, xs[j]? = some u → w.cell? ((⟨b, oo, none⟩ : Addr).add j) = some u := fun j u hj => by
      rw [addr_add0, cell_of_row w b (oo + j) cur e (0, 0) hb]
      exact hx j u hj
    have hr := run_append_grow (P := P) w t ty e i z ht hi0 hz0 ⟨b, oo, none⟩ n cap xs hxl holds a m c news hl hnews (by omega) (by unfold maxLen at h63; omega) (growslice_fits (by omega) (by rw [hb0]; exact hbytes))
    have hge := grownCap_ge w (n + m) cap e
    refine ⟨w.heap.size, 0, _, _, _, hr, grownCap_le_maxLen w (n + m) cap e h63, heap_alloc_new w.drew _, hge, .inr ?_, fun j v hj => ?_, ⟨rfl, rfl, rfl, by simp, fun k hk _ => Below.heap_alloc w.drew _ k hk⟩, .inr (Nat.le_refl _)⟩
    · simp only [Array.size_append, List.size_toArray, size_zeroCells, hz, hxl, hl, Nat.zero_add, ← Nat.add_mul]
      exact Nat.mul_le_mul_right _ (by omega)
    · have hj2 : j < (xs ++ news).length := (List.getElem?_eq_some_iff.1 hj).1
      have : (xs.toArray ++ news.toArray) = (xs ++ news).toArray := by simp
      rw [this, Nat.zero_add, Array.getElem?_append_left (by simpa using hj2), List.getElem?_toArray]
      exact hj
section
variable {P : Program} {k : Nat} {st : St} {o : Oper}
theorem opok_append_win {t e : TypeId} {s x : Operand} (d : Nat) {n kk len : Nat} {xv : AVal} {z : Value} {sz bytes : Nat} {tl : List Nat} {es1 es2 es : List AVal} (ho : o.op = .call { callee := .builtin .append, args := #[s, x], argTypes := #[t, t] })
    (hs : st.aop s = .win n kk len) (hn : st.obj n = some (kk, .que e sz es1)) (hle : len = es1.length) (hx : st.aop x = xv) (ht : P.underlying t = some (.slice e)) (hi : (P.info? e).map (fun i => (i.zero, i.size, i.bytes)) = some (some z, sz, bytes)) (hz : z.cells.size = sz) (hsz : 0 < sz) (hby : bytes ≤ 140)
    (hsrc : SrcIs st xv tl es2) (hw : widths sz es2 = true) (h1 : (es2.flatMap AVal.flat).all AVal.one = true) (h0 : 0 < es2.length) (hN : es1.length + es2.length ≤ 1000000000000) (hes : es1 ++ es2 = es) :
    OpOk P k st o ⟨.win d k es.length, [(d, some (k, .que e sz es)), (n, none)], d :: n :: tl, [d]⟩ := by
  subst hes
  subst hle
  refine ⟨fun m hm => ?_, fun ψ prot obj w ρ hob hr r hf => ?_⟩
  · simp only [Writes.names, List.map_cons, List.map_nil, List.mem_cons, List.not_mem_nil, or_false] at hm
    rcases hm with rfl | rfl <;> simp
  have e1 := hs ▸ hr s (by simp [ho, Op.operands, Call.operands])
  have e2 := hx ▸ hr x (by simp [ho, Op.operands, Call.operands])
  obtain ⟨b, oo, cap, hv, hc, hψ⟩ := e1.win_inv
  have hnn := (hob n (by simp)).trans hn
  obtain ⟨loc', g1, g2⟩ := r.live n kk _ hnn
  rw [hψ] at g1; injection g1 with g1; subst g1
  obtain ⟨cur, xs, q1, q2, q3, q4, q5, q6, q7⟩ := g2.que_at hc
  obtain ⟨a, c, news, hxv, h2, h3, h4⟩ := src_cells hsrc e2 (fun n hn => hob n (by simp [hn])) r
  have hlen : news.length = es2.length * sz := by rw [h2.1]; exact widths_flat hw
  obtain ⟨ad, rfl⟩ : ∃ ad, a = some ad := by
    have hp : 0 < news.length := by rw [hlen]; exact Nat.mul_pos h0 hsz
    obtain ⟨ad, h5, _⟩ := h3 0 news[0] (List.getElem?_eq_getElem hp)
    exact ⟨ad, h5⟩
  obtain ⟨b', o', cap', cur', w', hrun, p1, p2, p3, p4, p5, p6, p7⟩ := run_append_que (P := P) (ty := o.type) ht hi hz hby q2 q3 q1 q4 q5 q6 hlen h0 (fun j u hj => by
    obtain ⟨ad', e5, e6⟩ := h3 j u hj
    injection e5 with e5; subst e5; exact e6) (h2.one (List.all_eq_true.1 h1)) hN
  have hexec : (execOp ρ o).run P w = .ok (.value (.slice (some ⟨b', o', none⟩) (es1.length + es2.length) cap')) w' := by
    rw [← hv, ← hxv] at hrun
    unfold execOp
    simp only [ho, resolve, invoke, builtin, Sem.run_bind, Sem.run_pure, Result.andThen_ok, List.map_toArray, List.map_cons, List.map_nil, hrun]
  rw [hexec]
  have hun : ∀ b0, b0 < w.heap.size → (∀ m j ob l, m ∈ [n] → obj m = some (j, ob) → ψ m j = some l → l.block ≠ some b0) → w'.heap[b0]? = w.heap[b0]? := fun b0 hb0 hk => p6.block b0 hb0 fun e => hk n kk _ _ (by simp) hnn hψ e.symm
  have hkeep : ∀ b0, prot b0 → prot b0 ∧ w'.heap[b0]? = w.heap[b0]? := fun b0 hb0 => ⟨hb0, hun b0 (r.pr b0 hb0).1 fun m j ob l _ q1 q2 => (r.pr b0 hb0).2 m j ob l q1 q2⟩
  have hm63 : cap' < 9223372036854775808 := by unfold maxLen at p1; omega
  obtain ⟨ψ', k1, k2, k3, k4, k5⟩ := evolve_make (w' := w') r.toRH [n] d k ⟨some b', o' * 9223372036854775808 + cap'⟩ (.que e sz (es1 ++ es2)) (hf d (by simp)) p6.os p6.tape p6.output p6.size hun (fun b0 hb0 => by
    injection hb0 with hb0
    subst hb0
    rcases p7 with h | h
    · exact .inr ⟨n, by simp, kk, _, _, hnn, hψ, by rw [h]⟩
    · exact .inl h) (fun ψ' hψ' => ⟨b', o', cap', cur', xs ++ news, rfl, p1, p2, by rw [List.length_append]; exact p3, p4, by rw [List.length_append, List.length_append, q5, hlen, Nat.add_mul], p5, by
      rw [List.flatMap_append]
      exact (q7.append h2).mono hψ' hkeep⟩)
  refine ⟨ψ', prot, k1, k2, ?_, fun n j hne => (k5 n j hne).imp id fun ⟨q1, q2⟩ => ⟨q1, by simp [q2]⟩⟩
  rw [List.length_append]
  exact .win d k _ b' o' cap' hm63 k3
/-- An element of an array that nobody writes. -/
theorem opok_indexPR {t e : TypeId} {x ix : Operand} {cs : List AVal} {N sz : Nat} {kd : IntKind} {i : Int} (ho : o.op = .indexAddr t x ix) (hx : st.aop x = .rref cs) (hi : st.aop ix = .val (.int kd i)) (ht : P.underlying t = some (.array N e)) (hs : sizeIs P e sz) (h0 : 0 ≤ i) (h1 : i < N) : OpOk P k st o ⟨.rref (cs.drop (i.toNat * sz)), [], [], []⟩ :=
  opok_quiet fun ψ prot obj w ρ _ hr _ => by
    have e1 := hx ▸ hr x (by simp [ho, Op.operands])
    have e2 := (hi ▸ hr ix (by simp [ho, Op.operands]) : VRel ψ prot w (.val (.int kd i)) (ρ ix)).val_eq
    obtain ⟨vs, b, off, hpv, hp, h2, h3⟩ := e1.rref_inv
    have h4 := h2.drop (i.toNat * sz)
    refine ⟨.pointer (some ⟨b, off + i.toNat * sz, none⟩), ?_, .rref _ _ b _ hp h4.1 (fun j u hj => ?_) h4.2⟩
    · simp [execOp, ho, hpv, e2, Instr.indexAt, asIntOf, run_underlying ht, Instr.sureAddr, run_sizeIs hs, h0, h1, addr_add0, go_sem]
    · rw [List.getElem?_drop] at hj
      rw [Nat.add_assoc]; exact h3 _ u hj
theorem opok_len_win {x : Operand} {t : TypeId} {n kk len : Nat} {e : TypeId} (ho : o.op = .call { callee := .builtin .len, args := #[x], argTypes := #[t] }) (hx : st.aop x = .win n kk len) (ht : P.underlying t = some (.slice e)) : OpOk P k st o ⟨.val (.int .i64 len), [], [], []⟩ :=
  opok_quiet fun ψ prot obj w ρ _ hr _ => by
    have h1 := hx ▸ hr x (by simp [ho, Op.operands, Call.operands])
    obtain ⟨b, oo, cap, hv, _⟩ := h1.win_inv
    exact ⟨.int .i64 len, by simp [execOp, ho, resolve, invoke, builtin, hv, Builtin.len_, run_underlying ht, goInt, Result.andThen], .val _⟩
theorem opok_index_win {t e : TypeId} {x ix : Operand} {n kk len : Nat} {kd : IntKind} {i : Int} {sz : Nat} (ho : o.op = .indexAddr t x ix) (hx : st.aop x = .win n kk len) (hi : st.aop ix = .val (.int kd i)) (ht : P.underlying t = some (.slice e)) (hs : sizeIs P e sz)
    (h0 : 0 ≤ i) (h1 : i < len) : OpOk P k st o ⟨.wptr n kk (i.toNat * sz), [], [], []⟩ :=
  opok_quiet fun ψ prot obj w ρ _ hr _ => by
    have e1 := hx ▸ hr x (by simp [ho, Op.operands])
    have e2 := (hi ▸ hr ix (by simp [ho, Op.operands]) : VRel ψ prot w (.val (.int kd i)) (ρ ix)).val_eq
    obtain ⟨b, oo, cap, hv, hc, hψ⟩ := e1.win_inv
    exact ⟨.pointer (some ⟨b, oo + i.toNat * sz, none⟩), by simp only [execOp, ho, hv, e2, run_index w ht hs h0 h1, Sem.run_bind, Sem.run_pure, Result.andThen_ok], .wptr n kk _ b oo cap hc hψ⟩
theorem opok_load_wptr {t t' : TypeId} {p : Operand} {n kk i sz : Nat} {es : List AVal} {x : AVal} (ho : o.op = .load t p) (hp : st.aop p = .wptr n kk i) (hn : st.obj n = some (kk, .que t' sz es)) (ht : plainType P t = true) (hc : (es.flatMap AVal.flat)[i]? = some x) : OpOk P k st o ⟨x, [], [n], []⟩ :=
  opok_quiet fun ψ prot obj w ρ hob hr r => by
    have h1 := hp ▸ hr p (by simp [ho, Op.operands])
    obtain ⟨loc, h2, h3⟩ := r.live n kk _ ((hob n (by simp)).trans hn)
    obtain ⟨b, oo, cap, hpv, hcap, h⟩ := h1.wptr_inv
    rw [h2] at h; injection h with h; subst h
    obtain ⟨cur, xs, q1, q2, q3, q4, q5, q6, q7⟩ := h3.que_at hcap
    have hlt : i < xs.length := by rw [q7.1]; exact (List.getElem?_eq_some_iff.1 hc).1
    have hv : xs[i]? = some xs[i] := List.getElem?_eq_getElem hlt
    have hcell : w.cell? ⟨b, oo + i, none⟩ = some xs[i] := by rw [cell_of_row w b (oo + i) cur t' (0, 0) q2]; exact q6 i _ hv
    exact ⟨xs[i], by simp only [execOp, ho, hpv, Instr.loadAt, Instr.sureAddr, run_loadVar1 ht hcell, Sem.run_bind, Sem.run_pure, Result.andThen_ok], q7.2 i x _ hc hv⟩
theorem opok_assign_win {x : Operand} (d : Nat) {n kk len : Nat} {ob : AObj} (ho : o.op = .assign x) (hx : st.aop x = .win n kk len) (hn : st.obj n = some (kk, ob)) : OpOk P k st o ⟨.win d k len, [(d, some (k, ob)), (n, none)], [d, n], [d]⟩ := by
  refine ⟨fun m hm => by simpa [Writes.names] using hm, fun ψ prot obj w ρ hob hr r hf => ?_⟩
  have e1 := hx ▸ hr x (by simp [ho, Op.operands])
  obtain ⟨b, oo, cap, hv, hc, hψ⟩ := e1.win_inv
  have hnn := (hob n (by simp)).trans hn
  obtain ⟨loc', g1, g2⟩ := r.live n kk _ hnn
  rw [hψ] at g1; injection g1 with g1; subst g1
  have hexec : (execOp ρ o).run P w = .ok (.value (ρ x)) w := by simp [execOp, ho, pure]
  rw [hexec]
  obtain ⟨ψ', k1, k2, k3, k4, k5⟩ := evolve_make (w' := w) r.toRH [n] d k ⟨some b, oo * 9223372036854775808 + cap⟩ ob (hf d (by simp)) rfl rfl rfl (Nat.le_refl _) (fun _ _ _ => rfl) (fun b' hb => .inr ⟨n, by simp, kk, ob, _, hnn, hψ, hb⟩) (fun ψ' hψ' => g2.mono hψ' (fun b hb => ⟨hb, rfl⟩) (fun _ _ => rfl))
  refine ⟨ψ', prot, k1, k2, ?_, fun n j hne => (k5 n j hne).imp id fun ⟨q1, q2⟩ => ⟨q1, by simp [q2]⟩⟩
  rw [hv]
  exact .win d k len b oo cap hc k3
theorem opok_slice_win {t e : TypeId} {x y : Operand} (d : Nat) {n kk len lo : Nat} {kd : IntKind} {t' : TypeId} {sz : Nat} {es : List AVal} (ho : o.op = .slice t x (some y) none none) (hx : st.aop x = .win n kk len) (hn : st.obj n = some (kk, .que t' sz es)) (hy : st.aop y = .val (.int kd lo)) (ht : P.underlying t = some (.slice e)) (hs : sizeIs P e sz) (hl : len = es.length) (h : lo ≤ len) (hw : widths sz es = true) :
    OpOk P k st o ⟨.win d k (len - lo), [(d, some (k, .que t' sz (es.drop lo))), (n, none)], [d, n], [d]⟩ := by
  refine ⟨fun m hm => by simpa [Writes.names] using hm, fun ψ prot obj w ρ hob hr r hf => ?_⟩
  have e1 := hx ▸ hr x (by simp [ho, Op.operands])
  have e2 := (hy ▸ hr y (by simp [ho, Op.operands]) : VRel ψ prot w (.val (.int kd lo)) (ρ y)).val_eq
  obtain ⟨b, oo, cap, hv, hc, hψ⟩ := e1.win_inv
  have hnn := (hob n (by simp)).trans hn
  obtain ⟨loc', g1, g2⟩ := r.live n kk _ hnn
  rw [hψ] at g1; injection g1 with g1; subst g1
  obtain ⟨cur, xs, q1, q2, q3, q4, q5, q6, q7⟩ := g2.que_at hc
  have hrun := run_slice (P := P) (a := some ⟨b, oo, none⟩) (len := len) (cap := cap) (lo := lo) (hi := len) (lo' := some (.int kd lo)) (hi' := none) w ht hs (.inr ⟨kd, rfl⟩) (.inl ⟨rfl, rfl⟩) h (by omega)
  obtain ⟨o', ea, ho'⟩ : ∃ o', (if cap = lo then some (⟨b, oo, none⟩ : Addr) else (some (⟨b, oo, none⟩ : Addr)).map (·.add (lo * sz))) = some ⟨b, o', none⟩ ∧ ((cap = lo ∧ o' = oo) ∨ (cap ≠ lo ∧ o' = oo + lo * sz)) := by
    by_cases hcl : cap = lo
    · exact ⟨oo, by rw [if_pos hcl], .inl ⟨hcl, rfl⟩⟩
    · exact ⟨oo + lo * sz, by rw [if_neg hcl]; simp [addr_add0], .inr ⟨hcl, rfl⟩⟩
  rw [ea] at hrun
  have hexec : (execOp ρ o).run P w = .ok (.value (.slice (some ⟨b, o', none⟩) (len - lo) (cap - lo))) w := by simp only [execOp, ho, hv, e2, Option.map_none, Option.map_some, hrun, Sem.run_bind, Sem.run_pure, Result.andThen_ok]
  rw [hexec]
  obtain ⟨ψ', k1, k2, k3, k4, k5⟩ := evolve_make (w' := w) r.toRH [n] d k ⟨some b, o' * 9223372036854775808 + (cap - lo)⟩ (.que t' sz (es.drop lo)) (hf d (by simp)) rfl rfl rfl (Nat.le_refl _) (fun _ _ _ => rfl) (fun b' hb => .inr ⟨n, by simp, kk, _, _, hnn, hψ, by cases hb; rfl⟩) (fun ψ' hψ' => by
    refine ⟨b, o', cap - lo, cur, xs.drop (lo * sz), rfl, by omega, q2, by rw [List.length_drop]; omega, ?_, by rw [List.length_drop, List.length_drop, q5, Nat.sub_mul], fun i v hi => ?_, ?_⟩
    · rcases ho' with ⟨h1, h2⟩ | ⟨h1, h2⟩
      · exact .inl (by omega)
      · refine .inr ?_
        rcases q4 with h4 | h4
        · omega
        · have : lo * sz + (cap - lo) * sz = cap * sz := by rw [← Nat.add_mul]; congr 1; omega
          omega
    · rw [List.getElem?_drop] at hi
      have h6 := q6 _ v hi
      rcases ho' with ⟨h1, h2⟩ | ⟨h1, h2⟩
      · exfalso
        have h7 := (List.getElem?_eq_some_iff.1 hi).1
        have : es.length = lo := by omega
        rw [q5, this] at h7
        omega
      · rw [h2, show oo + lo * sz + i = oo + (lo * sz + i) by omega]; exact h6
    · rw [drop_flat (widths_spec hw)]
      exact ((q7.drop (lo * sz)).mono hψ' fun b hb => ⟨hb, rfl⟩))
  refine ⟨ψ', prot, k1, k2, ?_, fun n j hne => (k5 n j hne).imp id fun ⟨q1, q2⟩ => ⟨q1, by simp [q2]⟩⟩
  exact .win d k (len - lo) b o' (cap - lo) (by omega) k3
end
section
variable {P : Program} {k : Nat} {ops : Array Oper} {N : Nat} {draw : Bool} {K : St → Prop} {o : Oper} {os : List Oper} {env : List (Nat × AVal)} {objs : Writes} {acc : List Tr} {d : Nat}
theorem runk_assignWin {x : Operand} {n kk len : Nat} {ob : AObj} (hg : o.guard = none) (hd : o.dst = some d) (ho : o.op = .assign x) (hx : (⟨env, objs⟩ : St).aop x = .win n kk len) (hn : (⟨env, objs⟩ : St).obj n = some (kk, ob))
    (t : RunK P k ops N draw os ⟨(d, .win d k len) :: env, (d, some (k, ob)) :: (n, none) :: objs⟩ (⟨.win d k len, [(d, some (k, ob)), (n, none)], [d, n], [d]⟩ :: acc) K) : RunK P k ops N draw (o :: os) ⟨env, objs⟩ acc K :=
  runk hg hd (opok_assign_win d ho hx hn) t
theorem runk_sliceWin {t e : TypeId} {x y : Operand} {n kk len lo : Nat} {kd : IntKind} {t' : TypeId} {sz : Nat} {es : List AVal} (hg : o.guard = none) (hd : o.dst = some d) (ho : o.op = .slice t x (some y) none none) (hx : (⟨env, objs⟩ : St).aop x = .win n kk len) (hn : (⟨env, objs⟩ : St).obj n = some (kk, .que t' sz es)) (hy : (⟨env, objs⟩ : St).aop y = .val (.int kd lo)) (ht : P.underlying t = some (.slice e)) (hs : sizeIs P e sz) (hl : len = es.length) (h : lo ≤ len) (hw : widths sz es = true)
    (r : RunK P k ops N draw os ⟨(d, .win d k (len - lo)) :: env, (d, some (k, .que t' sz (es.drop lo))) :: (n, none) :: objs⟩ (⟨.win d k (len - lo), [(d, some (k, .que t' sz (es.drop lo))), (n, none)], [d, n], [d]⟩ :: acc) K) : RunK P k ops N draw (o :: os) ⟨env, objs⟩ acc K :=
  runk hg hd (opok_slice_win d ho hx hn hy ht hs hl h hw) r
theorem runk_appWin {t e : TypeId} {s x : Operand} {n kk len : Nat} {xv : AVal} {z : Value} {sz bytes : Nat} {tl : List Nat} {es1 es2 es : List AVal} (hg : o.guard = none) (hd : o.dst = some d) (ho : o.op = .call { callee := .builtin .append, args := #[s, x], argTypes := #[t, t] })
    (hs : (⟨env, objs⟩ : St).aop s = .win n kk len) (hn : (⟨env, objs⟩ : St).obj n = some (kk, .que e sz es1)) (hx : (⟨env, objs⟩ : St).aop x = xv) (ht : P.underlying t = some (.slice e)) (hsi : sizeIs P e sz) (hzz : (P.info? e).bind (·.zero) = some z) (hbb : (P.info? e).map (·.bytes) = some bytes) (hz : Nat.beq z.cells.size sz = true) (hsz : Nat.ble 1 sz = true) (hby : Nat.ble bytes 140 = true) (hle : len = es1.length)
    (hsrc : SrcIs ⟨env, objs⟩ xv tl es2) (hw : widths sz es2 = true) (h1 : (es2.flatMap AVal.flat).all AVal.one = true) (h0 : 0 < es2.length) (hN : es1.length + es2.length ≤ 1000000000000) (hes : es1 ++ es2 = es)
    (r : RunK P k ops N draw os ⟨(d, .win d k es.length) :: env, (d, some (k, .que e sz es)) :: (n, none) :: objs⟩ (⟨.win d k es.length, [(d, some (k, .que e sz es)), (n, none)], d :: n :: tl, [d]⟩ :: acc) K) : RunK P k ops N draw (o :: os) ⟨env, objs⟩ acc K := by
  cases hi : P.info? e with
  | none => rw [hi] at hzz; cases hzz
  | some i =>
    rw [hi] at hzz hbb
    have hs1 : i.size = sz := by simpa [sizeIs, hi] using hsi
    refine runk hg hd (opok_append_win (z := z) (sz := sz) (bytes := bytes) d ho hs hn hle hx ht ?_ (by simpa using hz) (Nat.le_of_ble_eq_true hsz) (by simpa using hby) hsrc hw h1 h0 hN hes) r
    rw [hi]
    simp only [Option.bind_some, Option.map_some, Option.some.injEq] at hzz hbb ⊢
    rw [hzz, hs1, hbb]
end
/-- From here on a row may be taken from at its front. -/
theorem awp_win {P : Program} {N : Nat} {ini : Ini} {Q : Exit → St → Prop} {env : List (Nat × AVal)} {objs : Writes} {c : Code} (q n kk d : Nat) {t : TypeId} {sz : Nat} {es : List AVal} (hq : (⟨env, objs⟩ : St).get q = .own n kk es.length) (hn : (⟨env, objs⟩ : St).obj n = some (kk, .row t sz es)) (hl : 0 < es.length)
    (h : ∀ k, Awp P N ini c Q ⟨(q, .win d k es.length) :: env, (d, some (k, .que t sz es)) :: (n, none) :: objs⟩) : Awp P N ini c Q ⟨env, objs⟩ := by
  rintro a w ⟨hd, hs, ψ, prot, h1, h2, ⟨K, hK⟩, h4⟩
  obtain ⟨loc, hlm, horm⟩ := h2.live n kk _ hn
  have hqv := h4 q
  rw [hq] at hqv
  obtain ⟨loc', hv, hψ⟩ := hqv.own_inv
  rw [hlm] at hψ; injection hψ with hψ; subst hψ
  obtain ⟨xs, g1, g2⟩ := horm
  rcases g1.2 with ⟨_, h0⟩ | ⟨b, cap, cur, e1, _, e2, e3, e4, e5, e6⟩
  · omega
  injection e1 with e1 e7 e8
  have hb : loc.block = some b := by
    cases hbb : loc.block with
    | none => rw [hbb] at e1; cases e1
    | some b' => rw [hbb] at e1; simp at e1; rw [e1]
  have hm63 : cap < 9223372036854775808 := by unfold maxLen at e4; omega
  obtain ⟨ψ', p1, p2, p3, p4, p5⟩ := evolve_make (w' := w) h2 [n] d K ⟨some b, 0 * 9223372036854775808 + cap⟩ (.que t sz es) (hK d K (Nat.le_refl _)) rfl rfl rfl (Nat.le_refl _) (fun _ _ _ => rfl) (fun b' hb' => .inr ⟨n, by simp, kk, _, loc, hn, hlm, by rw [hb]; exact hb'⟩) (fun ψ' hψ' => by
    refine ⟨b, 0, cap, cur, xs, rfl, e4, e2, e3, .inr (by rw [e5]; omega), g1.1, fun i v hi => ?_, g2.mono hψ' fun b hb => ⟨hb, rfl⟩⟩
    rw [← e6, List.getElem?_take] at hi
    split at hi
    · rw [Nat.zero_add, ← Array.getElem?_toList]; exact hi
    · cases hi)
  have eo : (⟨(q, .win d K es.length) :: env, (d, some (K, .que t sz es)) :: (n, none) :: objs⟩ : St).obj = updW (⟨env, objs⟩ : St).obj ((d, some (K, .que t sz es)) :: [n].map fun n => (n, none)) := by
    funext m
    simp only [St.obj, updW, List.lookup_cons, List.map_nil, List.map_cons, List.lookup_nil]
    cases m == d <;> cases m == n <;> rfl
  rw [← eo] at p1 p2
  refine h K a w ⟨hd, hs, ψ', prot, h1.trans p1, p2, ⟨K + 1, fun m k hk => ?_⟩, fun t' => ?_⟩
  · by_cases hx : ψ' m k = none
    · exact hx
    · rcases p5 m k hx with q | ⟨q, _⟩
      · exact absurd (hK m k (by omega)) q
      · omega
  · by_cases ht : t' = q
    · subst ht
      have : (⟨(t', .win d K es.length) :: env, (d, some (K, .que t sz es)) :: (n, none) :: objs⟩ : St).get t' = .win d K es.length := by simp [St.get]
      rw [this, hv, hb, e8]
      have := VRel.win (ψ := ψ') (prot := prot) (w := w) d K es.length b 0 cap hm63 p3
      exact this
    · have : (⟨(q, .win d K es.length) :: env, (d, some (K, .que t sz es)) :: (n, none) :: objs⟩ : St).get t' = (⟨env, objs⟩ : St).get t' := by
        have : (t' == q) = false := by simpa using ht
        simp [St.get, List.lookup_cons, this]
      rw [this]
      exact (h4 t').mono p4 fun b hb => ⟨hb, rfl⟩
end Go.Proofs.YtmbmodeiikhnkaaDoor
