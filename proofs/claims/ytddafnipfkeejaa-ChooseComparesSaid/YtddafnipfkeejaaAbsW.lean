/-
  append of elements that are large, by states. No program is named here.
-/
import Derived.Test.YtddafnipfkeejaaAbsN
namespace Go.Proofs.Ytddafnipfkeejaa
open Go.RowKit
section
variable {P : Program}
theorem run_append_srcW {w : World} {t ty e : TypeId} {z : Value} {sz bytes : Nat} (ht : P.underlying t = some (.slice e)) (hi : (P.info? e).map (fun i => (i.zero, i.size, i.bytes)) = some (some z, sz, bytes)) (hz : z.cells.size = sz) (hsz : 0 < sz) (hby : bytes ≤ 140000)
    {v : Value} {n : Nat} {xs : List Value} (hown : w.ownsRow 0 e sz v n xs) {a : Option Addr} {m c : Nat} {news : List Value} (hl : news.length = m * sz) (hnews : ∀ j u, news[j]? = some u → ∃ ad, a = some ad ∧ w.cell? (ad.add j) = some u) (ha : a = none → m = 0 ∧ c = 0)
    (h1 : ∀ u ∈ news, u.oneCell' = true) (hN : n + m ≤ 1000000000) :
    ∃ v' w', (Builtin.append_ #[t, t] ty #[v, .slice a m c]).run P w = .ok v' w' ∧ w'.ownsRow 0 e sz v' (n + m) (xs ++ news) ∧ w.grownBy w' v.ownBlock ∧ ∀ g, v'.ownBlock = some g → v.ownBlock = some g ∨ w.heap.size ≤ g := by
  obtain ⟨i, hi0, hz0, hs0, hb0⟩ := info_parts hi
  have hbytes : (n + m) * bytes ≤ 140737488355328 := by
    calc (n + m) * bytes ≤ 1000000000 * 140000 := Nat.mul_le_mul hN hby
      _ ≤ _ := by omega
  have h63 : n + m ≤ maxLen := by unfold maxLen; omega
  cases a with
  | none =>
    obtain ⟨rfl, rfl⟩ := ha rfl
    obtain rfl : news = [] := List.eq_nil_of_length_eq_zero (by simpa using hl)
    exact ⟨v, w, run_append_owned_none (P := P) (w := w) 0 t ty e i sz ht hi0 v n xs hown, by simpa using hown, ⟨rfl, rfl, rfl, Nat.le_refl _, fun _ _ _ => rfl⟩, fun g h => .inl h⟩
  | some ad =>
    have hnews' : ∀ j u, news[j]? = some u → w.cell? (ad.add j) = some u := fun j u h => by
      obtain ⟨ad', e1, e2⟩ := hnews j u h
      injection e1 with e1; subst e1; exact e2
    obtain ⟨v', w', hr, g1, g2, -⟩ := run_append_own (P := P) w 0 t ty e i z sz bytes ht hi0 hz0 hs0 hb0 hz hsz v n xs hown ad m c news hl hnews' h1 h63 hbytes (Nat.zero_le _)
    refine ⟨v', w', hr, g1, g2, fun g hg => ?_⟩
    rcases hown.2 with ⟨rfl, rfl⟩ | ⟨g0, cap, cur, rfl, hbg, hg0, hnc, hcm, hcs, htake⟩
    · have hx : xs = [] := List.eq_nil_of_length_eq_zero (by simpa using hown.1)
      subst hx
      obtain ⟨v2, w2, hr2, k1, -, -⟩ := run_append_own (P := P) w w.heap.size t ty e i z sz bytes ht hi0 hz0 hs0 hb0 hz hsz (.slice none 0 0) 0 [] (World.ownsRow_nil _ _ _ _) ad m c news hl hnews' h1 h63 hbytes (Nat.le_refl _)
      rw [hr] at hr2
      injection hr2 with e1 e2
      subst e1
      exact .inr (k1.lt g hg).1
    · by_cases hroom : n + m ≤ cap
      · have hfit : n * i.size + news.length ≤ cur.size := by rw [hs0, hl, hcs, ← Nat.add_mul]; exact Nat.mul_le_mul_right _ hroom
        have hr2 := run_append_room (P := P) w t ty e i ht hi0 g0 n cap cur hg0 ad m c news (by rw [hs0]; exact hl) hnews' h1 hroom hfit
        rw [hr] at hr2
        injection hr2 with e1 e2
        subst e1
        exact .inl hg
      · have holds : ∀ j u, xs[j]? = some u → w.cell? ((⟨g0, 0, none⟩ : Addr).add j) = some u := hown.cells (g := g0) rfl
        have hr2 := run_append_grow (P := P) w t ty e i z ht hi0 hz0 ⟨g0, 0, none⟩ n cap xs (by rw [hs0]; exact hown.1) holds ad m c news (by rw [hs0]; exact hl) hnews' (by omega) (by omega) (growslice_fits (by omega) (by rw [hb0]; exact hbytes))
        rw [hr] at hr2
        injection hr2 with e1 e2
        subst e1
        simp only [Value.ownBlock, Option.some.injEq] at hg
        exact .inr (by omega)
end
section
variable {P : Program} {k : Nat} {st : St} {o : Oper}
theorem opok_appendW {t e : TypeId} {s x : Operand} (d : Nat) {sv xv : AVal} {z : Value} {sz bytes : Nat} {kl tl : List Nat} {es1 es2 es : List AVal} (ho : o.op = .call { callee := .builtin .append, args := #[s, x], argTypes := #[t, t] })
    (hs : st.aop s = sv) (hx : st.aop x = xv) (ht : P.underlying t = some (.slice e)) (hi : (P.info? e).map (fun i => (i.zero, i.size, i.bytes)) = some (some z, sz, bytes)) (hz : z.cells.size = sz) (hsz : 0 < sz) (hby : bytes ≤ 140000)
    (hb : BaseIs st e sz sv kl es1) (hsrc : SrcIs st xv tl es2) (hw : widths sz es2 = true) (h1 : (es2.flatMap AVal.flat).all AVal.one = true) (hN : es1.length + es2.length ≤ 1000000000) (hes : es1 ++ es2 = es) :
    OpOk P k st o ⟨.own d k es.length, (d, some (k, .row e sz es)) :: kl.map (fun n => (n, none)), d :: (kl ++ tl), [d]⟩ := by
  subst hes
  refine ⟨fun n hn => ?_, fun ψ prot obj w ρ hob hr r hf => ?_⟩
  · simp only [Writes.names, List.map_cons, List.map_map, List.mem_cons, List.mem_map] at hn
    rcases hn with rfl | ⟨m, hm, rfl⟩
    · simp
    · simp [hm]
  have e1 := hs ▸ hr s (by simp [ho, Op.operands, Call.operands])
  have e2 := hx ▸ hr x (by simp [ho, Op.operands, Call.operands])
  -- the base
  obtain ⟨xs, f1, f2, f3⟩ : ∃ xs, w.ownsRow 0 e sz (ρ s) es1.length xs ∧ VRels ψ prot w (es1.flatMap AVal.flat) xs ∧ ∀ g, (ρ s).ownBlock = some g → ∃ n ∈ kl, ∃ j ob l, obj n = some (j, ob) ∧ ψ n j = some l ∧ l.block = some g := by
    cases hb with
    | nil =>
      rw [e1.val_eq]
      exact ⟨[], World.ownsRow_nil _ _ _ _, ⟨rfl, fun i x v h => by simp at h⟩, fun g h => by cases h⟩
    | own n kk _ len hn hl =>
      obtain ⟨loc, hv, hψ⟩ := e1.own_inv
      have hnn := (hob n (by simp)).trans hn
      obtain ⟨loc', g1, g2⟩ := r.live n kk _ hnn
      rw [hψ] at g1; injection g1 with g1; subst g1
      obtain ⟨xs, g3, g4⟩ := g2
      rw [hv, hl]
      refine ⟨xs, g3, g4, fun g hg => ⟨n, by simp, kk, _, loc, hnn, hψ, ?_⟩⟩
      cases hbb : loc.block with
      | none => rw [hbb] at hg; cases hg
      | some b => rw [hbb] at hg; simpa [Value.ownBlock] using hg
    | pre n kk es len hn hl hw =>
      obtain ⟨loc, hv, hψ⟩ := e1.own_inv
      have hnn := (hob n (by simp)).trans hn
      obtain ⟨loc', g1, g2⟩ := r.live n kk _ hnn
      rw [hψ] at g1; injection g1 with g1; subst g1
      obtain ⟨xs, g3, g4⟩ := g2
      rw [hv]
      obtain ⟨q1, q2⟩ := row_take g3 g4 hw hl
      have el : (es.take len).length = len := by simp [Nat.min_eq_left hl]
      rw [el]
      refine ⟨_, q1, q2, fun g hg => ⟨n, by simp, kk, _, loc, hnn, hψ, ?_⟩⟩
      cases hbb : loc.block with
      | none => rw [hbb] at hg; cases hg
      | some b => rw [hbb] at hg; simpa [Value.ownBlock] using hg
  -- the source
  obtain ⟨a, c, news, hxv, h2, h3, h4⟩ := src_cells hsrc e2 (fun n hn => hob n (by simp [hn])) r
  have hlen : news.length = es2.length * sz := by
    have : ∀ es : List AVal, widths sz es = true → (es.flatMap AVal.flat).length = es.length * sz := by
      intro es
      induction es with
      | nil => intro _; simp
      | cons e es ih =>
        intro hw
        have h0 := widths_spec hw e List.mem_cons_self
        have h1 : widths sz es = true := by simp only [widths, List.all_cons, Bool.and_eq_true] at hw; exact hw.2
        simp only [List.flatMap_cons, List.length_append, h0, ih h1, List.length_cons, Nat.add_mul]
        omega
    rw [h2.1, this es2 hw]
  obtain ⟨v', w', hrun, g1, g2, g3⟩ := run_append_srcW (P := P) (ty := o.type) ht hi hz hsz hby f1 hlen h3 h4 (h2.one (List.all_eq_true.1 h1)) hN
  have hexec : (execOp ρ o).run P w = .ok (.value v') w' := by
    rw [hxv.symm] at hrun
    unfold execOp
    simp only [ho, resolve, invoke, builtin, Sem.run_bind, Sem.run_pure, Result.andThen_ok, List.map_toArray, List.map_cons, List.map_nil, hrun]
  rw [hexec]
  -- where the new one lies
  obtain ⟨loc, hloc⟩ : ∃ loc : Loc, v' = .slice (loc.block.map fun b => ⟨b, 0, none⟩) (es1.length + es2.length) loc.cap := by
    rcases g1.2 with ⟨rfl, h0⟩ | ⟨g, cap, cur, rfl, _⟩
    · exact ⟨⟨none, 0⟩, by rw [h0]; rfl⟩
    · exact ⟨⟨some g, cap⟩, rfl⟩
  have hlb : ∀ b, loc.block = some b → v'.ownBlock = some b := fun b hb => by rw [hloc, hb]; rfl
  have hun : ∀ b, b < w.heap.size → (∀ n j ob l, n ∈ kl → obj n = some (j, ob) → ψ n j = some l → l.block ≠ some b) → w'.heap[b]? = w.heap[b]? := fun b hb hk => g2.block b hb fun e => by
    obtain ⟨n, hn, j, ob, l, q1, q2, q3⟩ := f3 b e.symm
    exact hk n j ob l hn q1 q2 q3
  have hkeep : ∀ b, prot b → prot b ∧ w'.heap[b]? = w.heap[b]? := fun b hb => ⟨hb, hun b (r.pr b hb).1 fun n j ob l _ q1 q2 => (r.pr b hb).2 n j ob l q1 q2⟩
  obtain ⟨ψ', k1, k2, k3, k4, k5⟩ := evolve_make (w' := w') r kl d k loc (.row e sz (es1 ++ es2)) (hf d (by simp)) g2.os g2.tape g2.output g2.size hun (fun b hb => by
    rcases g3 b (hlb b hb) with h | h
    · exact .inr (f3 b h)
    · exact .inl h) (fun ψ' hψ' => ⟨xs ++ news, by rw [List.length_append, ← hloc]; exact g1, by
      rw [List.flatMap_append]
      exact (f2.append h2).mono hψ' hkeep⟩)
  refine ⟨ψ', prot, k1, k2, ?_, fun n j hne => (k5 n j hne).imp id fun ⟨q1, q2⟩ => ⟨q1, by simp [q2]⟩⟩
  rw [hloc, List.length_append]
  exact .own d k _ loc k3

theorem opok_append_roW {t e : TypeId} {s x : Operand} {xv : AVal} {z : Value} {sz bytes : Nat} {tl : List Nat} {es2 es : List AVal} (ho : o.op = .call { callee := .builtin .append, args := #[s, x], argTypes := #[t, t] })
    (hs : st.aop s = .val (.slice none 0 0)) (hx : st.aop x = xv) (ht : P.underlying t = some (.slice e)) (hi : (P.info? e).map (fun i => (i.zero, i.size, i.bytes)) = some (some z, sz, bytes)) (hz : z.cells.size = sz) (hsz : 0 < sz) (hby : bytes ≤ 140000)
    (hsrc : SrcIs st xv tl es2) (hw : widths sz es2 = true) (h1 : (es2.flatMap AVal.flat).all AVal.one = true) (hp : AVal.pures es2 = true) (hN : es2.length ≤ 1000000000) (hes : es2 = es) :
    OpOk P k st o ⟨.ro es, [], tl, []⟩ := by
  subst hes
  refine ⟨fun n hn => by simp [Writes.names] at hn, fun ψ prot obj w ρ hob hr r hf => ?_⟩
  have e1 := hs ▸ hr s (by simp [ho, Op.operands, Call.operands])
  have e2 := hx ▸ hr x (by simp [ho, Op.operands, Call.operands])
  obtain ⟨a, c, news, hxv, h2, h3, h4⟩ := src_cells hsrc e2 (fun n hn => hob n hn) r
  have hlen : news.length = es2.length * sz := by rw [h2.1, widths_flat hw]
  obtain ⟨v', w', hrun, g1, g2, g3⟩ := run_append_srcW (P := P) (ty := o.type) ht hi hz hsz hby (World.ownsRow_nil w 0 e sz) hlen h3 h4 (h2.one (List.all_eq_true.1 h1)) (by omega)
  have hexec : (execOp ρ o).run P w = .ok (.value v') w' := by
    rw [hxv.symm, ← e1.val_eq] at hrun
    unfold execOp
    simp only [ho, resolve, invoke, builtin, Sem.run_bind, Sem.run_pure, Result.andThen_ok, List.map_toArray, List.map_cons, List.map_nil, hrun]
  rw [hexec]
  have hnew : ∀ b, v'.ownBlock = some b → w.heap.size ≤ b := fun b hb => (g3 b hb).elim (fun h => by cases h) id
  have hheap : ∀ b, b < w.heap.size → w'.heap[b]? = w.heap[b]? := fun b hb => g2.block b hb (by simp [Value.ownBlock])
  have hobj : updW obj ([] : Writes) = obj := by funext n; rfl
  have hkeep : ∀ b, prot b → (prot b ∨ v'.ownBlock = some b) ∧ w'.heap[b]? = w.heap[b]? := fun b hb => ⟨.inl hb, hheap b (r.pr b hb).1⟩
  have hlt : ∀ b, v'.ownBlock = some b → b < w'.heap.size := fun b hb => (g1.lt b hb).2
  refine ⟨ψ, fun b => prot b ∨ v'.ownBlock = some b, ?_, ?_, ?_, fun n j hne => .inl hne⟩
  · show Evolve ψ prot obj w ψ _ (updW obj ([] : Writes)) w'
    rw [hobj]
    exact ⟨g2.os, g2.tape, g2.output, g2.size, fun _ _ _ h => h, fun b hb => .inl hb, fun b hb => ⟨⟨Nat.lt_of_lt_of_le hb.1 g2.size, hb.2⟩, hheap b hb.1⟩, fun b hb => hb.elim .inl fun h => .inr fun hu => by have := hnew b h; have := hu.1; omega⟩
  · show RH ψ _ (updW obj ([] : Writes)) w'
    rw [hobj]
    refine ⟨fun n j ob h => ?_, r.inj, fun b hb => ?_⟩
    · obtain ⟨loc, q1, q2⟩ := r.live n j ob h
      exact ⟨loc, q1, q2.mono (fun _ _ _ h => h) hkeep fun b hb => hheap b (q2.inside b hb)⟩
    · rcases hb with hb | hb
      · exact ⟨Nat.lt_of_lt_of_le (r.pr b hb).1 g2.size, (r.pr b hb).2⟩
      · refine ⟨hlt b hb, fun n j ob loc q1 q2 q3 => ?_⟩
        obtain ⟨loc', q4, q5⟩ := r.live n j ob q1
        rw [q2] at q4; injection q4 with q4; subst q4
        have := q5.inside b q3
        have := hnew b hb
        omega
  · rcases g1.2 with ⟨q, h0⟩ | ⟨b, cp, cur, q, k1, k2, k3, k4, k5, k6⟩
    · rw [Nat.zero_add] at h0
      obtain rfl : es2 = [] := List.eq_nil_of_length_eq_zero h0
      rw [q]
      exact .roNil none 0 fun _ => rfl
    · rw [Nat.zero_add] at q k3
      rw [q]
      refine .ro es2 news b 0 cp k3 (.inr rfl) h2.1 (fun i v hv => ?_) (fun i y v q1 q2 => (h2.2 i y v q1 q2).mono (fun _ _ _ h => h) fun b hb => by
        have := hkeep b hb
        rw [q] at this
        exact this)
      have := g1.cells (g := b) (by rw [q]; rfl) i v (by simpa using hv)
      rw [addr_add0] at this
      exact this
theorem opok_appW {t e : TypeId} {s x : Operand} (d : Nat) {sv xv : AVal} {z : Value} {sz bytes : Nat} {kl tl : List Nat} {es1 es2 es : List AVal} (ho : o.op = .call { callee := .builtin .append, args := #[s, x], argTypes := #[t, t] })
    (hs : st.aop s = sv) (hx : st.aop x = xv) (ht : P.underlying t = some (.slice e)) (hi : (P.info? e).map (fun i => (i.zero, i.size, i.bytes)) = some (some z, sz, bytes)) (hz : Nat.beq z.cells.size sz = true) (hsz : Nat.ble 1 sz = true) (hby : Nat.ble bytes 140000 = true)
    (hb : BaseIs st e sz sv kl es1) (hsrc : SrcIs st xv tl es2) (hw : widths sz es2 = true) (h1 : (es2.flatMap AVal.flat).all AVal.one = true) (hN : es1.length + es2.length ≤ 1000000000) (hes : es1 ++ es2 = es) :
    OpOk P k st o ⟨.own d k es.length, (d, some (k, .row e sz es)) :: kl.map (fun n => (n, none)), d :: (kl ++ tl), [d]⟩ :=
  opok_appendW d ho hs hx ht hi (Nat.eq_of_beq_eq_true hz) (Nat.le_of_ble_eq_true hsz) (Nat.le_of_ble_eq_true hby) hb hsrc hw h1 hN hes
end
section
variable {P : Program} {k : Nat} {ops : Array Oper} {N : Nat} {draw : Bool} {K : St → Prop} {o : Oper} {os : List Oper} {env : List (Nat × AVal)} {objs : Writes} {acc : List Tr} {d : Nat}
theorem runk_appW {t e : TypeId} {s x : Operand} {sv xv : AVal} {z : Value} {sz bytes : Nat} {kl tl : List Nat} {es1 es2 es : List AVal} (hg : o.guard = none) (hd : o.dst = some d) (ho : o.op = .call { callee := .builtin .append, args := #[s, x], argTypes := #[t, t] })
    (hs : (⟨env, objs⟩ : St).aop s = sv) (hx : (⟨env, objs⟩ : St).aop x = xv) (ht : P.underlying t = some (.slice e)) (hsi : sizeIs P e sz) (hzz : (P.info? e).bind (·.zero) = some z) (hbb : (P.info? e).map (·.bytes) = some bytes) (hz : Nat.beq z.cells.size sz = true) (hsz : Nat.ble 1 sz = true) (hby : Nat.ble bytes 140000 = true)
    (hb : BaseIs ⟨env, objs⟩ e sz sv kl es1) (hsrc : SrcIs ⟨env, objs⟩ xv tl es2) (hw : widths sz es2 = true) (h1 : (es2.flatMap AVal.flat).all AVal.one = true) (hN : es1.length + es2.length ≤ 1000000000) (hes : es1 ++ es2 = es)
    (t : RunK P k ops N draw os ⟨(d, .own d k es.length) :: env, (d, some (k, .row e sz es)) :: (kl.map (fun n => (n, none)) ++ objs)⟩ (⟨.own d k es.length, (d, some (k, .row e sz es)) :: kl.map (fun n => (n, none)), d :: (kl ++ tl), [d]⟩ :: acc) K) : RunK P k ops N draw (o :: os) ⟨env, objs⟩ acc K := by
  cases hi : P.info? e with
  | none => rw [hi] at hzz; cases hzz
  | some i =>
    unfold sizeIs at hsi
    rw [hi] at hsi hzz hbb
    have hz' : i.zero = some z := hzz
    simp only [Option.map_some, Option.some.injEq] at hsi hbb
    exact runk hg hd (opok_appW (z := z) (bytes := bytes) d ho hs hx ht (by rw [hi]; simp [hsi, hz', hbb]) hz hsz hby hb hsrc hw h1 hN hes) t
end
theorem runk_appRW {P : Program} {k : Nat} {ops : Array Oper} {N : Nat} {draw : Bool} {K : St → Prop} {o : Oper} {os : List Oper} {env : List (Nat × AVal)} {objs : Writes} {acc : List Tr} {d : Nat} {t e : TypeId} {s x : Operand} {xv : AVal} {z : Value} {sz bytes : Nat} {tl : List Nat} {es2 es : List AVal} (hg : o.guard = none) (hd : o.dst = some d) (ho : o.op = .call { callee := .builtin .append, args := #[s, x], argTypes := #[t, t] })
    (hs : (⟨env, objs⟩ : St).aop s = .val (.slice none 0 0)) (hx : (⟨env, objs⟩ : St).aop x = xv) (ht : P.underlying t = some (.slice e)) (hsi : sizeIs P e sz) (hzz : (P.info? e).bind (·.zero) = some z) (hbb : (P.info? e).map (·.bytes) = some bytes) (hz : Nat.beq z.cells.size sz = true) (hsz : Nat.ble 1 sz = true) (hby : Nat.ble bytes 140000 = true)
    (hsrc : SrcIs ⟨env, objs⟩ xv tl es2) (hw : widths sz es2 = true) (h1 : (es2.flatMap AVal.flat).all AVal.one = true) (hp : AVal.pures es2 = true) (hN : es2.length ≤ 1000000000) (hes : es2 = es)
    (t : RunK P k ops N draw os ⟨(d, .ro es) :: env, objs⟩ (⟨.ro es, [], tl, []⟩ :: acc) K) : RunK P k ops N draw (o :: os) ⟨env, objs⟩ acc K := by
  cases hi : P.info? e with
  | none => rw [hi] at hzz; cases hzz
  | some i =>
    unfold sizeIs at hsi
    rw [hi] at hsi hzz hbb
    have hz' : i.zero = some z := hzz
    simp only [Option.map_some, Option.some.injEq] at hsi hbb
    exact runk0 hg hd (opok_append_roW (z := z) (bytes := bytes) ho hs hx ht (by rw [hi]; simp [hsi, hz', hbb]) (Nat.eq_of_beq_eq_true hz) (Nat.le_of_ble_eq_true hsz) (Nat.le_of_ble_eq_true hby) hsrc hw h1 hp hN hes) t
end Go.Proofs.Ytddafnipfkeejaa
