/-
  append, literals of slices and structs, make, by states. No program is named here.
-/
import Derived.Test.YtojapodjlpffdaaAbsMem2
import Derived.Test.YtojapodjlpffdaaPush
import Derived.Great.BuildSlice
import Derived.Great.FillDense
namespace Go.Proofs.Ytojapodjlpffdaa
open Go.RowKit

section
variable {P : Program}
/-- append's result, and where it lies. -/
theorem run_append_src {w : World} {t ty e : TypeId} {z : Value} {sz bytes : Nat} (ht : P.underlying t = some (.slice e)) (hi : (P.info? e).map (fun i => (i.zero, i.size, i.bytes)) = some (some z, sz, bytes)) (hz : z.cells.size = sz) (hsz : 0 < sz) (hby : bytes ≤ 140)
    {v : Value} {n : Nat} {xs : List Value} (hown : w.ownsRow 0 e sz v n xs) {a : Option Addr} {m c : Nat} {news : List Value} (hl : news.length = m * sz) (hnews : ∀ j u, news[j]? = some u → ∃ ad, a = some ad ∧ w.cell? (ad.add j) = some u) (ha : a = none → m = 0 ∧ c = 0)
    (h1 : ∀ u ∈ news, u.oneCell' = true) (hN : n + m ≤ 1000000000000) :
    ∃ v' w', (Builtin.append_ #[t, t] ty #[v, .slice a m c]).run P w = .ok v' w' ∧ w'.ownsRow 0 e sz v' (n + m) (xs ++ news) ∧ w.grownBy w' v.ownBlock ∧ ∀ g, v'.ownBlock = some g → v.ownBlock = some g ∨ w.heap.size ≤ g := by
  obtain ⟨i, hi0, hz0, hs0, hb0⟩ := info_parts hi
  have hbytes : (n + m) * bytes ≤ 140737488355328 := by
    calc (n + m) * bytes ≤ 1000000000000 * 140 := Nat.mul_le_mul hN hby
      _ ≤ _ := by omega
  have h63 : n + m ≤ maxLen := by unfold maxLen; omega
  cases a with
  | none =>
    obtain ⟨rfl, rfl⟩ := ha rfl
    obtain rfl : news = [] := List.eq_nil_of_length_eq_zero (by simpa using hl)
    exact ⟨v, w, run_append_owned_none (P := P) (w := w) 0 t ty e i sz ht hi0 v n xs hown, by simpa using hown, ⟨rfl, rfl, rfl, Nat.le_refl _, fun _ _ _ => rfl⟩, fun g h => .inl h⟩
  | some ad =>
    have hnews' : ∀ j u, news[j]? = some u → w.cell? (ad.add j) = some u := fun j u h => by
      obtain ⟨ad', e1, e2⟩ := hnews j u h
      injection e1 with e1; subst e1; exact e2
    obtain ⟨v', w', hr, g1, g2, -⟩ := run_append_own (P := P) w 0 t ty e i z sz bytes ht hi0 hz0 hs0 hb0 hz hsz v n xs hown ad m c news hl hnews' h1 h63 hbytes (Nat.zero_le _)
    refine ⟨v', w', hr, g1, g2, fun g hg => ?_⟩
    rcases hown.2 with ⟨rfl, rfl⟩ | ⟨g0, cap, cur, rfl, hbg, hg0, hnc, hcm, hcs, htake⟩
    · have hx : xs = [] := List.eq_nil_of_length_eq_zero (by simpa using hown.1)
      subst hx
      obtain ⟨v2, w2, hr2, k1, -, -⟩ := run_append_own (P := P) w w.heap.size t ty e i z sz bytes ht hi0 hz0 hs0 hb0 hz hsz (.slice none 0 0) 0 [] (World.ownsRow_nil _ _ _ _) ad m c news hl hnews' h1 h63 hbytes (Nat.le_refl _)
      rw [hr] at hr2
      injection hr2 with e1 e2
      subst e1
      exact .inr (k1.lt g hg).1
    · by_cases hroom : n + m ≤ cap
      · have hfit : n * i.size + news.length ≤ cur.size := by rw [hs0, hl, hcs, ← Nat.add_mul]; exact Nat.mul_le_mul_right _ hroom
        have hr2 := run_append_room (P := P) w t ty e i ht hi0 g0 n cap cur hg0 ad m c news (by rw [hs0]; exact hl) hnews' h1 hroom hfit
        rw [hr] at hr2
        injection hr2 with e1 e2
        subst e1
        exact .inl hg
      · have holds : ∀ j u, xs[j]? = some u → w.cell? ((⟨g0, 0, none⟩ : Addr).add j) = some u := hown.cells (g := g0) rfl
        have hr2 := run_append_grow (P := P) w t ty e i z ht hi0 hz0 ⟨g0, 0, none⟩ n cap xs (by rw [hs0]; exact hown.1) holds ad m c news (by rw [hs0]; exact hl) hnews' (by omega) (by omega) (growslice_fits (by omega) (by rw [hb0]; exact hbytes))
        rw [hr] at hr2
        injection hr2 with e1 e2
        subst e1
        simp only [Value.ownBlock, Option.some.injEq] at hg
        exact .inr (by omega)
end

section
variable {P : Program} {k : Nat} {st : St} {o : Oper}
/-- The slice that is appended to: nil, or one of the call's own (it goes). -/
inductive BaseIs (st : St) (e : TypeId) (sz : Nat) : AVal → List Nat → List AVal → Prop where
  | nil : BaseIs st e sz (.val (.slice none 0 0)) [] []
  | own (n kk : Nat) (es : List AVal) (len : Nat) (hn : st.obj n = some (kk, .row e sz es)) (hl : len = es.length) : BaseIs st e sz (.own n kk len) [n] es
/-- The slice whose elements are appended. -/
inductive SrcIs (st : St) : AVal → List Nat → List AVal → Prop where
  | nil : SrcIs st (.val (.slice none 0 0)) [] []
  | ro (es : List AVal) : SrcIs st (.ro es) [] es
  | own (n kk : Nat) (t : TypeId) (sz : Nat) (es : List AVal) (len : Nat) (hn : st.obj n = some (kk, .row t sz es)) (hl : len = es.length) : SrcIs st (.own n kk len) [n] es
theorem loc_of_own {ψ : Ghost} {prot : Nat → Prop} {w : World} {loc : Loc} {t : TypeId} {sz : Nat} {es : List AVal} (h : ORel ψ prot w loc (.row t sz es)) : ∃ xs, VRels ψ prot w (es.flatMap AVal.flat) xs ∧ (∀ j u, xs[j]? = some u → ∃ ad : Addr, loc.block.map (fun b => (⟨b, 0, none⟩ : Addr)) = some ad ∧ w.cell? (ad.add j) = some u) ∧
    (loc.block = none → es.length = 0 ∧ loc.cap = 0) := by
  obtain ⟨xs, h1, h2⟩ := h
  refine ⟨xs, h2, fun j u hj => ?_, fun hb => ?_⟩
  · cases hb : loc.block with
    | none =>
      rw [hb] at h1
      rcases h1.2 with ⟨_, h⟩ | ⟨g, c, cur, h, _⟩
      · have := h1.1
        rw [h, Nat.zero_mul] at this
        rw [List.eq_nil_of_length_eq_zero this] at hj
        simp at hj
      · cases h
    | some b =>
      rw [hb] at h1
      exact ⟨⟨b, 0, none⟩, rfl, h1.cells (g := b) rfl j u hj⟩
  · rw [hb] at h1
    rcases h1.2 with ⟨h, h0⟩ | ⟨g, c, cur, h, _⟩
    · injection h with _ _ h3; exact ⟨h0, h3⟩
    · cases h
theorem opok_append {t e : TypeId} {s x : Operand} (d : Nat) {sv xv : AVal} {z : Value} {sz bytes : Nat} {kl tl : List Nat} {es1 es2 es : List AVal} (ho : o.op = .call { callee := .builtin .append, args := #[s, x], argTypes := #[t, t] })
    (hs : st.aop s = sv) (hx : st.aop x = xv) (ht : P.underlying t = some (.slice e)) (hi : (P.info? e).map (fun i => (i.zero, i.size, i.bytes)) = some (some z, sz, bytes)) (hz : z.cells.size = sz) (hsz : 0 < sz) (hby : bytes ≤ 140)
    (hb : BaseIs st e sz sv kl es1) (hsrc : SrcIs st xv tl es2) (hw : widths sz es2 = true) (h1 : (es2.flatMap AVal.flat).all AVal.one = true) (hN : es1.length + es2.length ≤ 1000000000000) (hes : es1 ++ es2 = es) :
    OpOk P k st o ⟨.own d k es.length, (d, some (k, .row e sz es)) :: kl.map (fun n => (n, none)), d :: (kl ++ tl), [d]⟩ := by
  subst hes
  refine ⟨fun n hn => ?_, fun ψ prot obj w ρ hob hr r hf => ?_⟩
  · simp only [Writes.names, List.map_cons, List.map_map, List.mem_cons, List.mem_map] at hn
    rcases hn with rfl | ⟨m, hm, rfl⟩
    · simp
    · simp [hm]
  have e1 := hs ▸ hr s (by simp [ho, Op.operands, Call.operands])
  have e2 := hx ▸ hr x (by simp [ho, Op.operands, Call.operands])
  -- the base
  obtain ⟨xs, f1, f2, f3⟩ : ∃ xs, w.ownsRow 0 e sz (ρ s) es1.length xs ∧ VRels ψ prot w (es1.flatMap AVal.flat) xs ∧ ∀ g, (ρ s).ownBlock = some g → ∃ n ∈ kl, ∃ j ob l, obj n = some (j, ob) ∧ ψ n j = some l ∧ l.block = some g := by
    cases hb with
    | nil =>
      rw [e1.val_eq]
      exact ⟨[], World.ownsRow_nil _ _ _ _, ⟨rfl, fun i x v h => by simp at h⟩, fun g h => by cases h⟩
    | own n kk _ len hn hl =>
      obtain ⟨loc, hv, hψ⟩ := e1.own_inv
      have hnn := (hob n (by simp)).trans hn
      obtain ⟨loc', g1, g2⟩ := r.live n kk _ hnn
      rw [hψ] at g1; injection g1 with g1; subst g1
      obtain ⟨xs, g3, g4⟩ := g2
      rw [hv, hl]
      refine ⟨xs, g3, g4, fun g hg => ⟨n, by simp, kk, _, loc, hnn, hψ, ?_⟩⟩
      cases hbb : loc.block with
      | none => rw [hbb] at hg; cases hg
      | some b => rw [hbb] at hg; simpa [Value.ownBlock] using hg
  -- the source
  obtain ⟨a, c, news, hxv, h2, h3, h4⟩ : ∃ a c news, ρ x = .slice a es2.length c ∧ VRels ψ prot w (es2.flatMap AVal.flat) news ∧ (∀ j u, news[j]? = some u → ∃ ad, a = some ad ∧ w.cell? (ad.add j) = some u) ∧ (a = none → es2.length = 0 ∧ c = 0) := by
    cases hsrc with
    | nil => exact ⟨none, 0, [], e2.val_eq, ⟨rfl, fun i x v h => by simp at h⟩, fun j u h => by simp at h, fun _ => ⟨rfl, rfl⟩⟩
    | ro es =>
      rcases e2.ro_inv with ⟨rfl, a0, c0, hv, hnil⟩ | ⟨vs, b, off, cap, hv, hp, h4, h5, _⟩
      · exact ⟨a0, c0, [], hv, ⟨rfl, fun i x v h => by simp at h⟩, fun j u h => by simp at h, fun h => ⟨rfl, hnil h⟩⟩
      · exact ⟨_, cap, vs, hv, h4, fun j u h => ⟨_, rfl, by rw [addr_add0]; exact h5 j u h⟩, fun h => by cases h⟩
    | own n kk t2 sz2 es len hn hl =>
      obtain ⟨loc, hv, hψ⟩ := e2.own_inv
      obtain ⟨loc', g1, g2⟩ := r.live n kk _ ((hob n (by simp)).trans hn)
      rw [hψ] at g1; injection g1 with g1; subst g1
      obtain ⟨ys, g3, g4, g5⟩ := loc_of_own g2
      subst hl
      exact ⟨_, loc.cap, ys, hv, g3, g4, fun h => g5 (by cases hbb : loc.block with | none => rfl | some b => rw [hbb] at h; cases h)⟩
  have hlen : news.length = es2.length * sz := by
    have : ∀ es : List AVal, widths sz es = true → (es.flatMap AVal.flat).length = es.length * sz := by
      intro es
      induction es with
      | nil => intro _; simp
      | cons e es ih =>
        intro hw
        have h0 := widths_spec hw e List.mem_cons_self
        have h1 : widths sz es = true := by simp only [widths, List.all_cons, Bool.and_eq_true] at hw; exact hw.2
        simp only [List.flatMap_cons, List.length_append, h0, ih h1, List.length_cons, Nat.add_mul]
        omega
    rw [h2.1, this es2 hw]
  obtain ⟨v', w', hrun, g1, g2, g3⟩ := run_append_src (P := P) (ty := o.type) ht hi hz hsz hby f1 hlen h3 h4 (h2.one (List.all_eq_true.1 h1)) hN
  have hexec : (execOp ρ o).run P w = .ok (.value v') w' := by
    rw [hxv.symm] at hrun
    unfold execOp
    simp only [ho, resolve, invoke, builtin, Sem.run_bind, Sem.run_pure, Result.andThen_ok, List.map_toArray, List.map_cons, List.map_nil, hrun]
  rw [hexec]
  -- where the new one lies
  obtain ⟨loc, hloc⟩ : ∃ loc : Loc, v' = .slice (loc.block.map fun b => ⟨b, 0, none⟩) (es1.length + es2.length) loc.cap := by
    rcases g1.2 with ⟨rfl, h0⟩ | ⟨g, cap, cur, rfl, _⟩
    · exact ⟨⟨none, 0⟩, by rw [h0]; rfl⟩
    · exact ⟨⟨some g, cap⟩, rfl⟩
  have hlb : ∀ b, loc.block = some b → v'.ownBlock = some b := fun b hb => by rw [hloc, hb]; rfl
  have hun : ∀ b, b < w.heap.size → (∀ n j ob l, n ∈ kl → obj n = some (j, ob) → ψ n j = some l → l.block ≠ some b) → w'.heap[b]? = w.heap[b]? := fun b hb hk => g2.block b hb fun e => by
    obtain ⟨n, hn, j, ob, l, q1, q2, q3⟩ := f3 b e.symm
    exact hk n j ob l hn q1 q2 q3
  have hkeep : ∀ b, prot b → prot b ∧ w'.heap[b]? = w.heap[b]? := fun b hb => ⟨hb, hun b (r.pr b hb).1 fun n j ob l _ q1 q2 => (r.pr b hb).2 n j ob l q1 q2⟩
  obtain ⟨ψ', k1, k2, k3, k4, k5⟩ := evolve_make (w' := w') r kl d k loc (.row e sz (es1 ++ es2)) (hf d (by simp)) g2.os g2.tape g2.output g2.size hun (fun b hb => by
    rcases g3 b (hlb b hb) with h | h
    · exact .inr (f3 b h)
    · exact .inl h) (fun ψ' hψ' => ⟨xs ++ news, by rw [List.length_append, ← hloc]; exact g1, by
      rw [List.flatMap_append]
      exact (f2.append h2).mono hψ' hkeep⟩)
  refine ⟨ψ', prot, k1, k2, ?_, fun n j hne => (k5 n j hne).imp id fun ⟨q1, q2⟩ => ⟨q1, by simp [q2]⟩⟩
  rw [hloc, List.length_append]
  exact .own d k _ loc k3

theorem opok_buildSlice {t e : TypeId} {len : Nat} {parts : Array (Nat × Operand)} (d : Nat) {z : Value} {sz bytes : Nat} {es : List AVal} (ho : o.op = .buildSlice t len parts) (ht : P.underlying t = some (.slice e)) (hi : (P.info? e).map (fun i => (i.zero, i.size, i.bytes)) = some (some z, sz, bytes))
    (hsz : 0 < sz) (h0 : 0 < len) (hlen : len * sz ≤ 16777216) (hp : parts.toList.map (·.1) = List.range len) (hes : parts.toList.map (fun x => st.aop x.2) = es) (hk : es.all AVal.known = true) (hw : widths sz es = true) : OpOk P k st o ⟨.own d k len, [(d, some (k, .row e sz es))], [d], [d]⟩ :=
  opok_new fun ψ prot w ρ hr => by
    obtain ⟨i, hi0, hz0, hs0, hb0⟩ := info_parts hi
    have hpl : parts.toList.length = len := by have := congrArg List.length hp; simpa using this
    have hel : es.length = len := by rw [← hes]; simpa using hpl
    have hin : ∀ x ∈ parts.toList, VRel ψ prot w (st.aop x.2) (ρ x.2) := fun x hx => hr x.2 (by simp only [ho, Op.operands]; simp; exact ⟨x.1, by simpa using hx⟩)
    let vs := parts.toList.map fun x => ρ x.2
    have hvs : ∀ (i : Nat) (x : AVal) (v : Value), es[i]? = some x → vs[i]? = some v → VRel ψ prot w x v ∧ x.known = true ∧ x.flat.length = sz := fun i x v h1 h2 => by
      have hx : x ∈ es := List.mem_of_getElem? h1
      refine ⟨?_, (List.all_eq_true.1 hk) x hx, widths_spec hw x hx⟩
      rw [← hes] at h1
      simp only [vs, List.getElem?_map] at h1 h2
      cases hq : parts.toList[i]? with
      | none => rw [hq] at h1; cases h1
      | some y =>
        rw [hq] at h1 h2
        simp only [Option.map_some, Option.some.injEq] at h1 h2
        subst h1; subst h2
        exact hin y (List.mem_of_getElem? hq)
    have hvl : vs.length = es.length := by simp [vs, ← hes]
    have hall : ∀ (es : List AVal) (vs : List Value), vs.length = es.length → (∀ (i : Nat) (x : AVal) (v : Value), es[i]? = some x → vs[i]? = some v → VRel ψ prot w x v ∧ x.known = true ∧ x.flat.length = sz) →
        VRels ψ prot w (es.flatMap AVal.flat) (vs.flatMap fun v => v.cells.toList) ∧ (∀ v ∈ vs, v.cells.size = sz) ∧ (vs.flatMap fun v => v.cells.toList).length = vs.length * sz := by
      intro es
      induction es with
      | nil => intro vs hl _; obtain rfl : vs = [] := List.eq_nil_of_length_eq_zero hl; exact ⟨⟨rfl, fun i x v h => by simp at h⟩, fun v h => (by cases h), by simp⟩
      | cons x es ih =>
        intro vs hl h
        cases vs with
        | nil => cases hl
        | cons v vs =>
          obtain ⟨q1, q2, q3⟩ := h 0 x v rfl rfl
          obtain ⟨i1, i2, i3⟩ := ih vs (by simpa using hl) fun i x v h1 h2 => h (i + 1) x v h1 h2
          have q4 := q1.flat q2
          have q5 : v.cells.size = sz := by have := q4.1; rw [q3] at this; simpa using this
          refine ⟨by simp only [List.flatMap_cons]; exact q4.append i1, fun u hu => ?_, ?_⟩
          · rcases List.mem_cons.1 hu with rfl | hu
            · exact q5
            · exact i2 u hu
          · simp only [List.flatMap_cons, List.length_append, i3, List.length_cons, Nat.add_mul, Array.length_toList, q5]; omega
    obtain ⟨c1, c2, c3⟩ := hall es vs hvl hvs
    have hparts : (parts.map fun (i, x) => (i, ρ x)).toList = (vs.zipIdx 0).map fun x => (x.2, x.1) := by
      apply List.ext_getElem?
      intro j
      simp only [Array.toList_map, List.getElem?_map, List.getElem?_zipIdx, vs]
      cases hq : parts.toList[j]? with
      | none => simp
      | some y =>
        have hj : j < len := by rw [← hpl]; exact (List.getElem?_eq_some_iff.1 hq).1
        have : (parts.toList.map (·.1))[j]? = some j := by rw [hp]; simp [hj]
        rw [List.getElem?_map, hq] at this
        simp only [Option.map_some, Option.some.injEq] at this
        simp [this]
    have hfill := Great.fill_whole hsz vs ((Array.range (len * i.size)).map (z.cells[· % z.cells.size]!)) c2 (by simp [hs0, hvl, hel])
    rw [hs0.symm] at hfill
    have hrun := run_buildSlice (P := P) w t e len (parts.map fun (i, x) => (i, ρ x)) _ i z ht hi0 hz0 (by rw [hs0]; omega) (by rw [hs0]; have := Nat.mul_pos h0 hsz; omega) (by rw [hparts]; exact hfill)
    refine ⟨.slice (some ⟨w.heap.size, 0, none⟩) len len, .cells (vs.flatMap fun v => v.cells.toList).toArray e (0, 0), len, by unfold execOp; simp only [ho, Sem.run_bind, hrun, Result.andThen_ok, Sem.run_pure], fun ψ' hψ hpr => ⟨vs.flatMap fun v => v.cells.toList, ?_, c1.mono hψ (keep_alloc _ hpr)⟩, fun ψ' h => .own d k len _ h⟩
    rw [hel]
    have := World.ownsRow_lit (base := 0) (size := sz) (e := e) w (vs.flatMap fun v => v.cells.toList).toArray len (Nat.zero_le _) (by unfold maxLen; have : len ≤ len * sz := Nat.le_mul_of_pos_right len hsz; omega) (by simp [c3, hvl, hel])
    simpa using this
/-- An object goes to the name of the variable that it is assigned to. -/
theorem opok_assignOwn {x : Operand} (d : Nat) {n kk len : Nat} {ob : AObj} (ho : o.op = .assign x) (hx : st.aop x = .own n kk len) (hn : st.obj n = some (kk, ob)) : OpOk P k st o ⟨.own d k len, [(d, some (k, ob)), (n, none)], [d, n], [d]⟩ := by
  refine ⟨fun m hm => by simpa [Writes.names] using hm, fun ψ prot obj w ρ hob hr r hf => ?_⟩
  have e1 := hx ▸ hr x (by simp [ho, Op.operands])
  obtain ⟨loc, hv, hψ⟩ := e1.own_inv
  have hnn := (hob n (by simp)).trans hn
  obtain ⟨loc', g1, g2⟩ := r.live n kk _ hnn
  rw [hψ] at g1; injection g1 with g1; subst g1
  have hexec : (execOp ρ o).run P w = .ok (.value (ρ x)) w := by simp [execOp, ho, pure]
  rw [hexec]
  obtain ⟨ψ', k1, k2, k3, k4, k5⟩ := evolve_make (w' := w) r [n] d k loc ob (hf d (by simp)) rfl rfl rfl (Nat.le_refl _) (fun _ _ _ => rfl) (fun b hb => .inr ⟨n, by simp, kk, ob, loc, hnn, hψ, hb⟩) (fun ψ' hψ' => g2.mono hψ' (fun b hb => ⟨hb, rfl⟩) (fun _ _ => rfl))
  refine ⟨ψ', prot, k1, k2, ?_, fun n j hne => (k5 n j hne).imp id fun ⟨q1, q2⟩ => ⟨q1, by simp [q2]⟩⟩
  rw [hv]
  exact .own d k len loc k3
end

/-- A row becomes a slice that nobody writes. -/
def St.frozen (st st' : St) (n kk : Nat) (es : List AVal) : Prop := (∀ t, st'.get t = .any ∨ st'.get t = st.get t ∨ (st.get t = .own n kk es.length ∧ st'.get t = .ro es)) ∧ st'.obj n = none ∧ ∀ m, m ≠ n → st'.obj m = none ∨ st'.obj m = st.obj m
theorem R.freeze {N : Nat} {ini : Ini} {st st' : St} {a : Act} {w : World} {n kk sz : Nat} {t : TypeId} {es : List AVal} (hn : st.obj n = some (kk, .row t sz es)) (hf : st.frozen st' n kk es) (r : R N ini st a w) : R N ini st' a w := by
  obtain ⟨hd, hs, ψ, prot, h1, h2, h3, h4⟩ := r
  obtain ⟨loc, hl, ho⟩ := h2.live n kk _ hn
  have live : ∀ m k o, st'.obj m = some (k, o) → m ≠ n ∧ st.obj m = some (k, o) := fun m k o h => by
    have hm : m ≠ n := fun e => by subst e; rw [hf.2.1] at h; cases h
    rcases hf.2.2 m hm with e | e
    · rw [e] at h; cases h
    · exact ⟨hm, by rwa [e] at h⟩
  let prot' : Nat → Prop := fun b => prot b ∨ loc.block = some b
  have hun : ∀ b, unowned ψ st.obj w b → unowned ψ st'.obj w b := fun b hb => ⟨hb.1, fun m k o l g1 g2 => hb.2 m k o l (live m k o g1).2 g2⟩
  have hpu : ∀ b, prot' b → unowned ψ st'.obj w b := fun b hb => by
    rcases hb with hb | hb
    · exact hun b (h2.pr b hb)
    · exact ⟨ho.inside b hb, fun m k o l g1 g2 g3 => h2.inj n m kk k _ o loc l hn (live m k o g1).2 (Ne.symm (live m k o g1).1) hl g2 b hb g3⟩
  have hmono : ∀ b, prot b → prot' b ∧ w.heap[b]? = w.heap[b]? := fun b hb => ⟨.inl hb, rfl⟩
  refine ⟨hd, hs, ψ, prot', ⟨h1.os, h1.tape, h1.output, h1.size, h1.gh, fun b hb => .inl (h1.pr b hb), fun b hb => ⟨hun b (h1.un b hb).1, (h1.un b hb).2⟩, fun b hb => ?_⟩, ⟨fun m k o g => ?_, fun m m' k k' o o' l l' g g' => h2.inj m m' k k' o o' l l' (live _ _ _ g).2 (live _ _ _ g').2, hpu⟩, h3, fun t' => ?_⟩
  · rcases hb with hb | hb
    · exact h1.new b hb
    · exact .inr fun hu => (h1.un b hu).1.2 n kk _ loc hn hl hb
  · obtain ⟨l, g1, g2⟩ := h2.live m k o (live m k o g).2
    exact ⟨l, g1, g2.mono (fun _ _ _ h => h) hmono fun _ _ => rfl⟩
  · rcases hf.1 t' with e | e | ⟨e1, e2⟩
    · rw [e]; exact .any _
    · rw [e]; exact (h4 t').mono (fun _ _ _ h => h) hmono
    · rw [e2]
      have := h4 t'
      rw [e1] at this
      obtain ⟨loc', hv, hψ⟩ := this.own_inv
      rw [hl] at hψ; injection hψ with hψ; subst hψ
      obtain ⟨xs, g3, g4, g5⟩ := loc_of_own ho
      rw [hv]
      cases hb : loc.block with
      | none =>
        obtain ⟨q1, q2⟩ := g5 hb
        obtain rfl : es = [] := List.eq_nil_of_length_eq_zero q1
        rw [q2]; exact .roNil _ _ fun _ => rfl
      | some b =>
        obtain ⟨ys, k1, k2⟩ := ho
        refine .ro es xs b 0 loc.cap ?_ (.inr hb) g3.1 (fun i v hi => ?_) fun i x v hx hi => (g3.2 i x v hx hi).mono (fun _ _ _ h => h) hmono
        · rw [hb] at k1
          rcases k1.2 with ⟨h, _⟩ | ⟨g, c, cur, h, _, _, hle, _⟩
          · cases h
          · injection h with _ _ e3; rw [e3]; exact hle
        · obtain ⟨ad, q1, q2⟩ := g4 i v hi
          rw [hb] at q1
          simp only [Option.map_some, Option.some.injEq] at q1
          subst q1
          rwa [addr_add0] at q2
end Go.Proofs.Ytojapodjlpffdaa
