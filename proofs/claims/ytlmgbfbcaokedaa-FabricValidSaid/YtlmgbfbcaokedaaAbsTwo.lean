/-
  A row appended to itself, whose old elements are appended once more, by states: the old slice may lie where the new one lies, or in a block of its own. No program is named here.
-/
import Derived.Test.YtlmgbfbcaokedaaAbsB
namespace Go.Proofs.Ytlmgbfbcaokedaa
open Go.RowKit
section
variable {P : Program}
theorem append_keeps {w w' : World} {t ty e : TypeId} {z v' : Value} {sz bytes : Nat} (ht : P.underlying t = some (.slice e)) (hi : (P.info? e).map (fun i => (i.zero, i.size, i.bytes)) = some (some z, sz, bytes)) (hby : bytes ≤ 140)
    {v : Value} {n : Nat} {xs : List Value} (hown : w.ownsRow 0 e sz v n xs) {ad : Addr} {m c : Nat} {news : List Value} (hl : news.length = m * sz) (hnews : ∀ j u, news[j]? = some u → w.cell? (ad.add j) = some u)
    (h1 : ∀ u ∈ news, u.oneCell' = true) (hN : n + m ≤ 1000000000000) (hr : (Builtin.append_ #[t, t] ty #[v, .slice (some ad) m c]).run P w = .ok v' w') :
    ∀ g, v.ownBlock = some g → v'.ownBlock = some g ∨ w'.heap[g]? = w.heap[g]? := by
  obtain ⟨i, hi0, hz0, hs0, hb0⟩ := info_parts hi
  have hbytes : (n + m) * bytes ≤ 140737488355328 := by
    calc (n + m) * bytes ≤ 1000000000000 * 140 := Nat.mul_le_mul hN hby
      _ ≤ _ := by omega
  intro g hg
  rcases hown.2 with ⟨rfl, rfl⟩ | ⟨g0, cap, cur, rfl, hbg, hg0, hnc, hcm, hcs, htake⟩
  · cases hg
  · by_cases hroom : n + m ≤ cap
    · have hfit : n * i.size + news.length ≤ cur.size := by rw [hs0, hl, hcs, ← Nat.add_mul]; exact Nat.mul_le_mul_right _ hroom
      have hr2 := run_append_room (P := P) w t ty e i ht hi0 g0 n cap cur hg0 ad m c news (by rw [hs0]; exact hl) hnews h1 hroom hfit
      rw [hr] at hr2
      injection hr2 with e1 e2
      subst e1
      exact .inl hg
    · have holds : ∀ j u, xs[j]? = some u → w.cell? ((⟨g0, 0, none⟩ : Addr).add j) = some u := hown.cells (g := g0) rfl
      have hr2 := run_append_grow (P := P) w t ty e i z ht hi0 hz0 ⟨g0, 0, none⟩ n cap xs (by rw [hs0]; exact hown.1) holds ad m c news (by rw [hs0]; exact hl) hnews (by omega) (by omega) (growslice_fits (by omega) (by rw [hb0]; exact hbytes))
      rw [hr] at hr2
      injection hr2 with e1 e2
      right
      have hlt : g < w.heap.size := by
        simp only [Value.ownBlock, Option.some.injEq] at hg
        subst hg
        exact (Array.getElem?_eq_some_iff.1 hg0).1
      rw [e2]
      exact heap_alloc_old w.drew _ hlt
end
section
variable {P : Program} {k : Nat} {st : St} {o : Oper}
theorem opok_appendSelf {t e : TypeId} {s x : Operand} (d : Nat) {n kk len : Nat} {z : Value} {sz bytes : Nat} {es : List AVal} (ho : o.op = .call { callee := .builtin .append, args := #[s, x], argTypes := #[t, t] })
    (hs : st.aop s = .own n kk len) (hx : st.aop x = .own n kk len) (ht : P.underlying t = some (.slice e)) (hi : (P.info? e).map (fun i => (i.zero, i.size, i.bytes)) = some (some z, sz, bytes)) (hz : z.cells.size = sz) (hsz : 0 < sz) (hby : bytes ≤ 140)
    (hn : st.obj n = some (kk, .row e sz es)) (hl : len = es.length) (h0 : 0 < len) (hw : widths sz es = true) (h1 : (es.flatMap AVal.flat).all AVal.one = true) (hN : es.length + es.length ≤ 1000000000000) :
    OpOk P k st o ⟨.own d k (es ++ es).length, [(d, some (k, .rowS e sz (es ++ es) n kk len)), (n, none)], [d, n], [d]⟩ := by
  refine ⟨fun m hm => by simpa [Writes.names] using hm, fun ψ prot obj w ρ hob hr r hf => ?_⟩
  have e1 := hs ▸ hr s (by simp [ho, Op.operands, Call.operands])
  have e2 := hx ▸ hr x (by simp [ho, Op.operands, Call.operands])
  obtain ⟨loc0, hv, hψ⟩ := e1.own_inv
  obtain ⟨loc0', hv2, hψ2⟩ := e2.own_inv
  rw [hψ] at hψ2; injection hψ2 with hψ2; subst hψ2
  have hnn := (hob n (by simp)).trans hn
  obtain ⟨loc', g1, g2⟩ := r.live n kk _ hnn
  rw [hψ] at g1; injection g1 with g1; subst g1
  obtain ⟨xs, f1, f2⟩ := g2
  have hlen : xs.length = es.length * sz := f1.1
  obtain ⟨b0, hb0⟩ : ∃ b0, loc0.block = some b0 := by
    cases hbb : loc0.block with
    | some b => exact ⟨b, rfl⟩
    | none =>
      rw [hbb] at f1
      rcases f1.2 with ⟨q, q0⟩ | ⟨g, c, cur, q, _⟩
      · omega
      · cases q
  have hva : ρ s = .slice (some ⟨b0, 0, none⟩) len loc0.cap := by rw [hv, hb0]; rfl
  have hvx : ρ x = .slice (some ⟨b0, 0, none⟩) len loc0.cap := by rw [hv2, hb0]; rfl
  rw [hb0] at f1
  have f1' : w.ownsRow 0 e sz (.slice (some ⟨b0, 0, none⟩) len loc0.cap) len xs := by rw [hl]; exact f1
  have hcells : ∀ j u, xs[j]? = some u → w.cell? ((⟨b0, 0, none⟩ : Addr).add j) = some u := f1'.cells (g := b0) rfl
  have h3 : ∀ j u, xs[j]? = some u → ∃ ad, some (⟨b0, 0, none⟩ : Addr) = some ad ∧ w.cell? (ad.add j) = some u := fun j u h => ⟨_, rfl, hcells j u h⟩
  obtain ⟨v', w', hrun, g1, g2, g3⟩ := run_append_src (P := P) (ty := o.type) (c := loc0.cap) ht hi hz hsz hby f1' (m := es.length) hlen h3 (fun h => by cases h) (f2.one (List.all_eq_true.1 h1)) (by omega)
  have hkeeps := append_keeps (P := P) (ty := o.type) ht hi hby f1' (m := es.length) hlen hcells (f2.one (List.all_eq_true.1 h1)) (by omega) hrun b0 rfl
  have hexec : (execOp ρ o).run P w = .ok (.value v') w' := by
    rw [← hl, ← hva] at hrun
    have hrun' : (Builtin.append_ #[t, t] o.type #[ρ s, ρ x]).run P w = .ok v' w' := by rw [hvx, ← hva]; exact hrun
    unfold execOp
    simp only [ho, resolve, invoke, builtin, Sem.run_bind, Sem.run_pure, Result.andThen_ok, List.map_toArray, List.map_cons, List.map_nil, hrun']
  rw [hexec]
  obtain ⟨loc, hloc, hlsome⟩ : ∃ loc : Loc, v' = .slice (loc.block.map fun b => ⟨b, 0, none⟩) (len + es.length) loc.cap ∧ v'.ownBlock = loc.block := by
    rcases g1.2 with ⟨rfl, h0⟩ | ⟨g, cap, cur, rfl, _⟩
    · omega
    · exact ⟨⟨some g, cap⟩, rfl, rfl⟩
  have hg1 : w'.ownsRow 0 e sz (.slice (loc.block.map fun b => ⟨b, 0, none⟩) (es.length + es.length) loc.cap) (es.length + es.length) (xs ++ xs) := by
    have := g1
    rw [hloc, hl] at this
    exact this
  have hun : ∀ b, b < w.heap.size → b ≠ b0 → w'.heap[b]? = w.heap[b]? := fun b hb hk => g2.block b hb fun e => hk (by simpa [Value.ownBlock] using e)
  have hkeep : ∀ b, prot b → prot b ∧ w'.heap[b]? = w.heap[b]? := fun b hb => ⟨hb, hun b (r.pr b hb).1 fun e => (r.pr b hb).2 n kk _ loc0 hnn hψ (by rw [hb0, e])⟩
  obtain ⟨ψ', k1, k2, k3, k4, k5⟩ := evolve_make (w' := w') r [n] d k loc (.row e sz (es ++ es)) (hf d (by simp)) g2.os g2.tape g2.output g2.size (fun b hb hk => hun b hb fun e => hk n kk _ loc0 (by simp) hnn hψ (by rw [hb0, e])) (fun b hb => by
    rcases g3 b (hlsome.trans hb) with h | h
    · exact .inr ⟨n, by simp, kk, _, loc0, hnn, hψ, by rw [hb0]; simpa [Value.ownBlock] using h⟩
    · exact .inl h) (fun ψ' hψ' => ⟨xs ++ xs, by rw [List.length_append]; exact hg1, by
      rw [List.flatMap_append]
      exact (f2.append f2).mono hψ' hkeep⟩)
  -- the old block, when it is another one, is protected from now on
  let prot' : Nat → Prop := fun b => prot b ∨ (b = b0 ∧ loc.block ≠ some b0)
  have hw1 : ∀ m, updW obj [(d, some (k, AObj.rowS e sz (es ++ es) n kk len)), (n, none)] m = if m = d then some (k, AObj.rowS e sz (es ++ es) n kk len) else updW obj ((d, some (k, .row e sz (es ++ es))) :: [n].map fun n => (n, none)) m := fun m => by
    simp only [updW, List.lookup_cons, List.map_cons, List.map_nil]
    by_cases hm : m = d
    · subst hm; simp
    · have : (m == d) = false := by simpa using hm
      rw [this, if_neg hm]
  have hd1 : updW obj ((d, some (k, AObj.row e sz (es ++ es))) :: [n].map fun n => (n, none)) d = some (k, .row e sz (es ++ es)) := by simp [updW]
  have hun2 : ∀ b, unowned ψ' (updW obj ((d, some (k, .row e sz (es ++ es))) :: [n].map fun n => (n, none))) w' b → unowned ψ' (updW obj [(d, some (k, .rowS e sz (es ++ es) n kk len)), (n, none)]) w' b := fun b hb => ⟨hb.1, fun m j ob l q1 q2 => by
    rw [hw1] at q1
    by_cases hm : m = d
    · rw [if_pos hm] at q1
      simp only [Option.some.injEq, Prod.mk.injEq] at q1
      obtain ⟨rfl, rfl⟩ := q1
      subst hm
      exact hb.2 m k _ l hd1 q2
    · rw [if_neg hm] at q1
      exact hb.2 m j ob l q1 q2⟩
  have hdn : n ≠ d ∨ n = d := by omega
  have hold : loc.block ≠ some b0 → unowned ψ' (updW obj ((d, some (k, .row e sz (es ++ es))) :: [n].map fun n => (n, none))) w' b0 := fun hne => ⟨Nat.lt_of_lt_of_le (f1'.lt b0 rfl).2 g2.size, fun m j ob l q1 q2 q3 => by
    by_cases hm : m = d
    · subst hm
      rw [hd1] at q1
      simp only [Option.some.injEq, Prod.mk.injEq] at q1
      obtain ⟨rfl, rfl⟩ := q1
      rw [k3] at q2; injection q2 with q2; subst q2
      exact hne q3
    · have e3 : (m == d) = false := by simpa using hm
      simp only [updW, List.lookup_cons, List.map_cons, List.map_nil, e3, List.lookup_nil] at q1
      by_cases hmn : m = n
      · subst hmn; simp at q1
      · have e4 : (m == n) = false := by simpa using hmn
        rw [e4] at q1
        obtain ⟨l', q4, q5⟩ := r.live m j ob q1
        rw [k4 _ _ _ q4] at q2; injection q2 with q2; subst q2
        exact r.inj m n j kk ob _ l' loc0 q1 hnn hmn q4 hψ b0 q3 hb0⟩
  have hk' : ∀ b, prot b → prot' b ∧ w'.heap[b]? = w'.heap[b]? := fun b hb => ⟨.inl hb, rfl⟩
  refine ⟨ψ', prot', ⟨k1.os, k1.tape, k1.output, k1.size, k1.gh, fun b hb => .inl hb, fun b hb => ⟨hun2 b (k1.un b hb).1, (k1.un b hb).2⟩, fun b hb => ?_⟩, ⟨fun m j ob q => ?_, fun m m' j j' ob ob' l l' q q' hne q1 q2 => ?_, fun b hb => ?_⟩, ?_, fun m j hne => (k5 m j hne).imp id fun ⟨q1, q2⟩ => ⟨q1, by simp [q2]⟩⟩
  · rcases hb with hb | ⟨rfl, _⟩
    · exact .inl hb
    · exact .inr fun hu => hu.2 n kk _ loc0 hnn hψ hb0
  · rw [hw1] at q
    by_cases hm : m = d
    · rw [if_pos hm] at q
      simp only [Option.some.injEq, Prod.mk.injEq] at q
      obtain ⟨rfl, rfl⟩ := q
      subst hm
      refine ⟨loc, k3, ⟨xs ++ xs, by rw [List.length_append]; exact hg1, by rw [List.flatMap_append]; exact (f2.append f2).mono k4 fun b hb => ⟨.inl hb, (hkeep b hb).2⟩⟩, loc0, b0, xs, k4 _ _ _ hψ, hb0, ?_, ?_, fun j u hj => ?_⟩
      · by_cases hlb : loc.block = some b0
        · exact .inr hlb
        · exact .inl (.inr ⟨rfl, hlb⟩)
      · rw [hl, List.take_left']
        · exact f2.mono k4 fun b hb => ⟨.inl hb, (hkeep b hb).2⟩
        · rfl
      · rcases hkeeps with hq | hq
        · have := g1.cells hq j u (by
            have hj2 : j < xs.length := (List.getElem?_eq_some_iff.1 hj).1
            rw [List.getElem?_append_left hj2]; exact hj)
          rwa [addr_add0, Nat.zero_add] at this
        · have := hcells j u hj
          rw [addr_add0, Nat.zero_add] at this
          exact (World.cell?_of_block hq).trans this
    · rw [if_neg hm] at q
      obtain ⟨l, q1, q2⟩ := k2.live m j ob q
      exact ⟨l, q1, q2.mono (fun _ _ _ h => h) hk' fun _ _ => rfl⟩
  · have tr : ∀ m j ob, updW obj [(d, some (k, AObj.rowS e sz (es ++ es) n kk len)), (n, none)] m = some (j, ob) → ∃ ob', updW obj ((d, some (k, .row e sz (es ++ es))) :: [n].map fun n => (n, none)) m = some (j, ob') := fun m j ob q => by
      rw [hw1] at q
      by_cases hm : m = d
      · rw [if_pos hm] at q
        simp only [Option.some.injEq, Prod.mk.injEq] at q
        obtain ⟨rfl, rfl⟩ := q
        subst hm
        exact ⟨_, hd1⟩
      · rw [if_neg hm] at q
        exact ⟨ob, q⟩
    obtain ⟨o1, p1⟩ := tr m j ob q
    obtain ⟨o2, p2⟩ := tr m' j' ob' q'
    exact k2.inj m m' j j' o1 o2 l l' p1 p2 hne q1 q2
  · rcases hb with hb | ⟨rfl, hne⟩
    · exact hun2 b (k2.pr b hb)
    · exact hun2 b (hold hne)
  · rw [hloc, List.length_append, hl]
    exact .own d k _ loc k3
theorem opok_appendAgain {t e : TypeId} {s x : Operand} (d : Nat) {n kk len n2 k2 len2 : Nat} {z : Value} {sz bytes : Nat} {es : List AVal} (ho : o.op = .call { callee := .builtin .append, args := #[s, x], argTypes := #[t, t] })
    (hs : st.aop s = .own n2 k2 len2) (hx : st.aop x = .own n kk len) (ht : P.underlying t = some (.slice e)) (hi : (P.info? e).map (fun i => (i.zero, i.size, i.bytes)) = some (some z, sz, bytes)) (hz : z.cells.size = sz) (hsz : 0 < sz) (hby : bytes ≤ 140)
    (hn : st.obj n2 = some (k2, .rowS e sz es n kk len)) (hl : len2 = es.length) (hle : len ≤ es.length) (hw : widths sz es = true) (h1 : (es.flatMap AVal.flat).all AVal.one = true) (hN : es.length + len ≤ 1000000000000) :
    OpOk P k st o ⟨.own d k (es ++ es.take len).length, [(d, some (k, .row e sz (es ++ es.take len))), (n2, none)], [d, n2], [d]⟩ := by
  refine ⟨fun m hm => by simpa [Writes.names] using hm, fun ψ prot obj w ρ hob hr r hf => ?_⟩
  have e1 := hs ▸ hr s (by simp [ho, Op.operands, Call.operands])
  have e2 := hx ▸ hr x (by simp [ho, Op.operands, Call.operands])
  obtain ⟨loc2, hv, hψ⟩ := e1.own_inv
  obtain ⟨loc0, hv2, hψ2⟩ := e2.own_inv
  have hnn := (hob n2 (by simp)).trans hn
  obtain ⟨loc', q1, q2⟩ := r.live n2 k2 _ hnn
  rw [hψ] at q1; injection q1 with q1; subst q1
  obtain ⟨⟨xs, f1, f2⟩, ln, b0, ys, p1, p2, p3, p4, p5⟩ := q2
  rw [hψ2] at p1; injection p1 with p1; subst p1
  have hwt : widths sz (es.take len) = true := by
    simp only [widths, List.all_eq_true] at hw ⊢
    exact fun y hy => hw y (List.mem_of_mem_take hy)
  have h1t : ((es.take len).flatMap AVal.flat).all AVal.one = true := by
    rw [List.all_eq_true] at h1 ⊢
    intro y hy
    obtain ⟨a, ha, hb⟩ := List.mem_flatMap.1 hy
    exact h1 y (List.mem_flatMap.2 ⟨a, List.mem_of_mem_take ha, hb⟩)
  have etl : (es.take len).length = len := by simp [Nat.min_eq_left hle]
  have hylen : ys.length = len * sz := by rw [p4.1, widths_flat hwt, etl]
  have hvx : ρ x = .slice (some ⟨b0, 0, none⟩) len loc0.cap := by rw [hv2, p2]; rfl
  have hvs : w.ownsRow 0 e sz (ρ s) es.length xs := by rw [hv, hl]; exact f1
  have h3 : ∀ j u, ys[j]? = some u → ∃ ad, some (⟨b0, 0, none⟩ : Addr) = some ad ∧ w.cell? (ad.add j) = some u := fun j u h => ⟨_, rfl, by rw [addr_add0, Nat.zero_add]; exact p5 j u h⟩
  obtain ⟨v', w', hrun, g1, g2, g3⟩ := run_append_src (P := P) (ty := o.type) (c := loc0.cap) ht hi hz hsz hby hvs (m := len) hylen h3 (fun h => by cases h) (p4.one (List.all_eq_true.1 h1t)) hN
  have hexec : (execOp ρ o).run P w = .ok (.value v') w' := by
    rw [← hvx] at hrun
    unfold execOp
    simp only [ho, resolve, invoke, builtin, Sem.run_bind, Sem.run_pure, Result.andThen_ok, List.map_toArray, List.map_cons, List.map_nil, hrun]
  rw [hexec]
  obtain ⟨loc, hloc⟩ : ∃ loc : Loc, v' = .slice (loc.block.map fun b => ⟨b, 0, none⟩) (es.length + len) loc.cap := by
    rcases g1.2 with ⟨rfl, h0⟩ | ⟨g, cap, cur, rfl, _⟩
    · exact ⟨⟨none, 0⟩, by rw [h0]; rfl⟩
    · exact ⟨⟨some g, cap⟩, rfl⟩
  have hlb : ∀ b, loc.block = some b → v'.ownBlock = some b := fun b hb => by rw [hloc, hb]; rfl
  have hob2 : ∀ g, (ρ s).ownBlock = some g → loc2.block = some g := fun g hg => by
    rw [hv] at hg
    cases hbb : loc2.block with
    | none => rw [hbb] at hg; cases hg
    | some b => rw [hbb] at hg; simpa [Value.ownBlock] using hg
  have hun : ∀ b, b < w.heap.size → (∀ m j ob l, m ∈ [n2] → obj m = some (j, ob) → ψ m j = some l → l.block ≠ some b) → w'.heap[b]? = w.heap[b]? := fun b hb hk => g2.block b hb fun e => hk n2 k2 _ loc2 (by simp) hnn hψ (hob2 b e.symm)
  have hkeep : ∀ b, prot b → prot b ∧ w'.heap[b]? = w.heap[b]? := fun b hb => ⟨hb, hun b (r.pr b hb).1 fun m j ob l _ q1 q2 => (r.pr b hb).2 m j ob l q1 q2⟩
  obtain ⟨ψ', k1, k2', k3, k4, k5⟩ := evolve_make (w' := w') r [n2] d k loc (.row e sz (es ++ es.take len)) (hf d (by simp)) g2.os g2.tape g2.output g2.size hun (fun b hb => by
    rcases g3 b (hlb b hb) with h | h
    · exact .inr ⟨n2, by simp, k2, _, loc2, hnn, hψ, hob2 b h⟩
    · exact .inl h) (fun ψ' hψ' => ⟨xs ++ ys, by rw [List.length_append, etl, ← hloc]; exact g1, by
      rw [List.flatMap_append]
      exact (f2.append p4).mono hψ' hkeep⟩)
  refine ⟨ψ', prot, k1, k2', ?_, fun n j hne => (k5 n j hne).imp id fun ⟨q1, q2⟩ => ⟨q1, by simp [q2]⟩⟩
  rw [hloc, List.length_append, etl]
  exact .own d k _ loc k3
end
section
variable {P : Program} {k : Nat} {ops : Array Oper} {N : Nat} {draw : Bool} {K : St → Prop} {os : List Oper} {o : Oper} {env : List (Nat × AVal)} {objs : Writes} {acc : List Tr} {d : Nat}
theorem runk_appSelf {t e : TypeId} {s x : Operand} {n kk len : Nat} {z : Value} {sz bytes : Nat} {es : List AVal} (hg : o.guard = none) (hd : o.dst = some d) (ho : o.op = .call { callee := .builtin .append, args := #[s, x], argTypes := #[t, t] })
    (hs : (⟨env, objs⟩ : St).aop s = .own n kk len) (hx : (⟨env, objs⟩ : St).aop x = .own n kk len) (ht : P.underlying t = some (.slice e)) (hi : (P.info? e).map (fun i => (i.zero, i.size, i.bytes)) = some (some z, sz, bytes)) (hz : z.cells.size = sz) (hsz : 0 < sz) (hby : bytes ≤ 140)
    (hn : (⟨env, objs⟩ : St).obj n = some (kk, .row e sz es)) (hl : len = es.length) (h0 : 0 < len) (hw : widths sz es = true) (h1 : (es.flatMap AVal.flat).all AVal.one = true) (hN : es.length + es.length ≤ 1000000000000)
    (r : RunK P k ops N draw os ⟨(d, .own d k (es ++ es).length) :: env, (d, some (k, .rowS e sz (es ++ es) n kk len)) :: (n, none) :: objs⟩ (⟨.own d k (es ++ es).length, [(d, some (k, .rowS e sz (es ++ es) n kk len)), (n, none)], [d, n], [d]⟩ :: acc) K) : RunK P k ops N draw (o :: os) ⟨env, objs⟩ acc K :=
  runk hg hd (opok_appendSelf d ho hs hx ht hi hz hsz hby hn hl h0 hw h1 hN) r
theorem runk_appAgain {t e : TypeId} {s x : Operand} {n kk len n2 k2 len2 : Nat} {z : Value} {sz bytes : Nat} {es : List AVal} (hg : o.guard = none) (hd : o.dst = some d) (ho : o.op = .call { callee := .builtin .append, args := #[s, x], argTypes := #[t, t] })
    (hs : (⟨env, objs⟩ : St).aop s = .own n2 k2 len2) (hx : (⟨env, objs⟩ : St).aop x = .own n kk len) (ht : P.underlying t = some (.slice e)) (hi : (P.info? e).map (fun i => (i.zero, i.size, i.bytes)) = some (some z, sz, bytes)) (hz : z.cells.size = sz) (hsz : 0 < sz) (hby : bytes ≤ 140)
    (hn : (⟨env, objs⟩ : St).obj n2 = some (k2, .rowS e sz es n kk len)) (hl : len2 = es.length) (hle : len ≤ es.length) (hw : widths sz es = true) (h1 : (es.flatMap AVal.flat).all AVal.one = true) (hN : es.length + len ≤ 1000000000000)
    (r : RunK P k ops N draw os ⟨(d, .own d k (es ++ es.take len).length) :: env, (d, some (k, .row e sz (es ++ es.take len))) :: (n2, none) :: objs⟩ (⟨.own d k (es ++ es.take len).length, [(d, some (k, .row e sz (es ++ es.take len))), (n2, none)], [d, n2], [d]⟩ :: acc) K) : RunK P k ops N draw (o :: os) ⟨env, objs⟩ acc K :=
  runk hg hd (opok_appendAgain d ho hs hx ht hi hz hsz hby hn hl hle hw h1 hN) r
end
end Go.Proofs.Ytlmgbfbcaokedaa
