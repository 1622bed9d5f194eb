/-
  A row that is lent as the last argument; copy into a part of a row. No program is named here.
-/
import Derived.Test.YtboddbheljenhaaGreatDoorG03
import Derived.Laws.CopyRow
namespace Go.Proofs.YtboddbheljenhaaGreatDoor
open Go.RowKit
/-- A row that is lent as the last argument. -/
theorem spec_lendN {P : Program} {f : FuncId} {k : IntKind} {t : TypeId} {u : Value} {xs : List Int} {len : Nat} (pre : List AVal) (m : Nat) (hm : m = pre.length) (hlen : len = xs.length) (h : Spec P f (pre ++ [.ro (ints k xs)]) [] (.val u) []) : Spec P f (pre ++ [.own m 0 len]) [(m, some (0, .row t 1 (ints k xs)))] (.val u) [(m, some (0, .row t 1 (ints k xs)))] := by
  subst hm
  subst hlen
  intro ψ prot w cargs hgh hrh hsz hargs
  have hs1 : pre.length < cargs.size := by simp at hsz; omega
  obtain ⟨loc, hu, hψ⟩ := (hargs pre.length (.own pre.length 0 xs.length) cargs[pre.length] (by simp) (by simp [hs1])).own_inv
  obtain ⟨loc', h1, h2⟩ := hrh.live pre.length 0 (.row t 1 (ints k xs)) (by simp [updW, List.lookup])
  rw [hψ] at h1; injection h1 with h1; subst h1
  have hone : ∀ n j o, updW (fun _ => none) [(pre.length, some (0, AObj.row t 1 (ints k xs)))] n = some (j, o) → n = pre.length ∧ j = 0 ∧ o = .row t 1 (ints k xs) := fun n j o e => by
    by_cases h0 : n = pre.length
    · subst h0
      have e2 : some ((0 : Nat), AObj.row t 1 (ints k xs)) = some (j, o) := by simpa [updW, List.lookup] using e
      injection e2 with e2
      injection e2 with e3 e4
      exact ⟨rfl, e3.symm, e4.symm⟩
    · have : (n == pre.length) = false := by simpa using h0
      simp [updW, List.lookup, this] at e
  have hlive : updW (fun _ => none) [(pre.length, some (0, AObj.row t 1 (ints k xs)))] pre.length = some (0, .row t 1 (ints k xs)) := by simp [updW, List.lookup]
  have hown : ∀ b, loc.block = some b → ¬ unowned ψ (updW (fun _ => none) [(pre.length, some (0, .row t 1 (ints k xs)))]) w b := fun b hb hu => hu.2 pre.length 0 _ loc hlive hψ hb
  let prot2 : Nat → Prop := fun b => prot b ∨ loc.block = some b
  have hp2 : ∀ b, prot2 b → b < w.heap.size := fun b hb => hb.elim (fun h => (hrh.pr b h).1) (fun h => h2.inside b h)
  have h2' := h2
  obtain ⟨ys, g1, g2⟩ := h2
  have hro : VRel ψ prot2 w (.ro (ints k xs)) cargs[pre.length] := by
    rw [hu]
    have hl : (xs.map (Value.int k)) = ys := by
      rw [flat_ints] at g2
      apply List.ext_getElem
      · have := g2.1; simp at this; simpa using this.symm
      · intro i e1 e2
        have hi : i < xs.length := by simpa using e1
        have := (g2.2 i (.val (.int k xs[i])) ys[i] (by rw [ints_get]; simp [hi]) (List.getElem?_eq_getElem e2)).val_eq
        simp [this]
    subst hl
    have e := ro_fresh (ψ := ψ) (prot := prot) g1 (by simp)
    simp only [length_ints] at e
    refine e.mono (fun _ _ _ h => h) fun b hb => ⟨?_, rfl⟩
    rcases hb with hb | hb
    · exact .inl hb
    · cases hq : loc.block with
      | none => rw [hq] at hb; cases hb
      | some g =>
        rw [hq] at hb
        refine .inr ?_
        rw [hq]
        exact hb
  refine Calls.mono (h ψ prot2 w cargs hgh ⟨rh_nil hp2, hrh.vr.mono fun b hb => ⟨.inl hb, rfl⟩⟩ (by simpa using hsz) (fun i x u e1 e2 => ?_)) ?_
  · rcases Nat.lt_trichotomy i pre.length with hi | rfl | hi
    · have e3 : (pre ++ [AVal.own pre.length 0 xs.length])[i]? = some x := by rw [List.getElem?_append_left hi] at e1 ⊢; exact e1
      exact (hargs i x u e3 e2).mono (fun _ _ _ h => h) fun b hb => ⟨.inl hb, rfl⟩
    · have e3 : x = .ro (ints k xs) := by simpa using e1.symm
      subst e3
      rw [Array.getElem?_eq_getElem hs1] at e2
      injection e2 with e2
      subst e2; exact hro
    · rw [List.getElem?_eq_none (by simp; omega)] at e1; cases e1
  rintro e w' ⟨cv, ψ', prot', rfl, q1, q2, q3⟩
  have hcv := q3.val_eq
  subst hcv
  have hpb : ∀ b, prot b → loc.block ≠ some b := fun b hb hl => hown b hl (hrh.pr b hb)
  have hheap : ∀ b, b < w.heap.size → w'.heap[b]? = w.heap[b]? := fun b hb => (q1.un b (unowned_nil.2 hb)).2
  refine ⟨_, ψ', fun b => prot' b ∧ loc.block ≠ some b, rfl, ⟨q1.os, q1.tape, q1.output, q1.size, q1.gh, fun b hb => ⟨q1.pr b (.inl hb), hpb b hb⟩, fun b hb => ⟨⟨Nat.lt_of_lt_of_le hb.1 q1.size, fun n j o l e1 e2 e3 => ?_⟩, hheap b hb.1⟩, fun b hb => ?_⟩, ⟨fun n j o e1 => ?_, fun n n1 j j1 o o1 l l1 e1 e2 hne => ?_, fun b hb => ⟨(q2.pr b hb.1).1, fun n j o l e1 e2 e3 => ?_⟩⟩, .val _⟩
  · obtain ⟨rfl, rfl, rfl⟩ := hone n j o e1
    rw [q1.gh pre.length 0 loc hψ] at e2
    injection e2 with e2
    subst e2
    exact hb.2 pre.length 0 _ loc hlive hψ e3
  · rcases q1.new b hb.1 with h3 | h3
    · exact h3.elim .inl fun h3 => absurd h3 hb.2
    · exact .inr fun hu => h3 (unowned_nil.2 hu.1)
  · obtain ⟨rfl, rfl, rfl⟩ := hone n j o e1
    exact ⟨loc, q1.gh pre.length 0 loc hψ, ORel.mono q1.gh (fun b hb => ⟨⟨q1.pr b (.inl hb), hpb b hb⟩, hheap b (hrh.pr b hb).1⟩) (fun b hb => hheap b (h2'.inside b hb)) h2'⟩
  · obtain ⟨rfl, -, -⟩ := hone n j o e1
    obtain ⟨rfl, -, -⟩ := hone n1 j1 o1 e2
    exact absurd rfl hne
  · obtain ⟨rfl, rfl, rfl⟩ := hone n j o e1
    rw [q1.gh pre.length 0 loc hψ] at e2
    injection e2 with e2
    subst e2
    exact hb.2 e3
theorem ints_vals {ψ : Ghost} {prot : Nat → Prop} {w : World} {K : IntKind} {xs : List Int} {zs : List Value} (h : VRels ψ prot w (ints K xs) zs) : zs = xs.map (Value.int K) := by
  apply List.ext_getElem
  · have := h.1; simpa using this
  · intro i q1 q2
    have hi : i < xs.length := by simpa using q2
    have := (h.2 i (.val (.int K xs[i])) zs[i] (by rw [ints_get]; simp [hi]) (List.getElem?_eq_getElem q1)).val_eq
    simp [this]
theorem copied_take (K : IntKind) {xs ys : List Int} {cl : List Value} {off : Nat} (h : cl.take xs.length = xs.map (Value.int K)) (hl : off + ys.length ≤ xs.length) :
    (cl.take off ++ ys.map (Value.int K) ++ cl.drop (off + ys.length)).take (xs.take off ++ ys ++ xs.drop (off + ys.length)).length = (xs.take off ++ ys ++ xs.drop (off + ys.length)).map (Value.int K) := by
  have hxl : (xs.take off ++ ys ++ xs.drop (off + ys.length)).length = xs.length := by simp; omega
  have hcl := (List.take_append_drop xs.length cl).symm
  rw [h] at hcl
  generalize cl.drop xs.length = R at hcl
  subst hcl
  have e1 : (xs.map (Value.int K) ++ R).take off = (xs.map (Value.int K)).take off := List.take_append_of_le_length (by simp; omega)
  have e2 : (xs.map (Value.int K) ++ R).drop (off + ys.length) = (xs.map (Value.int K)).drop (off + ys.length) ++ R := List.drop_append_of_le_length (by simp; omega)
  rw [hxl, e1, e2, ← List.append_assoc, List.take_append_of_le_length (by simp; omega), List.take_of_length_le (by simp; omega)]
  simp [List.map_take, List.map_drop]
/-- copy into a part of a row. -/
theorem opok_copy {P : Program} {k : Nat} {st : St} {o : Oper} {t t2 e te : TypeId} {d s : Operand} {n kk off len : Nat} {K : IntKind} {xs ys : List Int} (ho : o.op = .call { callee := .builtin .copy, args := #[d, s], argTypes := #[t, t2] }) (hd : st.aop d = .sub n kk off len 1) (hs : st.aop s = .ro (ints K ys)) (hn : st.obj n = some (kk, .row e 1 (ints K xs)))
    (ht : P.underlying t = some (.slice te)) (hz : sizeIs P te 1) (h0 : 0 < ys.length) (h1 : ys.length ≤ len) (h2 : off + len ≤ xs.length) :
    OpOk P k st o ⟨.val (.int .i64 ys.length), [(n, some (kk, .row e 1 (ints K (xs.take off ++ ys ++ xs.drop (off + ys.length)))))], [n], []⟩ := by
  refine ⟨fun m hm => by simpa [Writes.names] using hm, fun ψ prot obj w ρ hob hr r _ => ?_⟩
  have e1 := hd ▸ hr d (by simp [ho, Op.operands, Call.operands])
  have e2 := hs ▸ hr s (by simp [ho, Op.operands, Call.operands])
  have hnn := (hob n (by simp)).trans hn
  obtain ⟨loc, h2', h3⟩ := r.live n kk _ hnn
  obtain ⟨b, cap, hdv, h⟩ := e1.sub_inv
  rw [h2'] at h; injection h with h; subst h
  obtain ⟨zs, g1, g2⟩ := h3
  rw [flat_ints] at g2
  obtain rfl := ints_vals g2
  simp only [length_ints, Option.map_some] at g1
  rcases g1.2 with ⟨q, _⟩ | ⟨g, c, cur, q, hb0, hg, hnc, hcm, hcs, htake⟩
  · cases q
  injection q with q1 q2 q3
  simp only [Option.some.injEq, Addr.mk.injEq, and_true] at q1
  subst q1; subst q3
  rcases e2.ro_inv with ⟨hnil, -⟩ | ⟨vs, b2, o2, cap2, hsv, hpr2, hvs, hcc, -⟩
  · have := congrArg List.length hnil; rw [length_ints] at this; simp only [List.length_nil] at this; omega
  rw [flat_ints] at hvs
  obtain rfl := ints_vals hvs
  have hlc : off + ys.length ≤ cur.size := by simp only [hcs]; omega
  have hco : ¬ cap = off := by omega
  rw [if_neg hco, Nat.mul_one] at hdv
  rw [length_ints] at hsv
  have hrun := run_copy_row (P := P) w t t2 o.type te b off len (cap - off) ⟨b2, o2, none⟩ ys.length cap2 cur e (ys.map (Value.int K)) ht hz hg (by rw [List.length_map]; exact (Nat.min_eq_left h1).symm) (fun j v hj => by rw [addr_add0]; exact hcc j v hj) (by simpa using hlc) (fun v hv => by obtain ⟨z, _, rfl⟩ := List.mem_map.1 hv; rfl)
  rw [List.length_map] at hrun
  generalize hW : w.setRow b (cur.toList.take off ++ ys.map (Value.int K) ++ cur.toList.drop (off + ys.length)).toArray = W at hrun
  have hr' : (execOp ρ o).run P w = .ok (.value (.int .i64 ys.length)) W := by
    simp [execOp, ho, resolve, invoke, builtin, hdv, hsv, hrun, goInt, Result.andThen]
  rw [hr']
  subst hW
  have hoth : ∀ c, c < w.heap.size → (some b : Option Nat) ≠ some c → (w.setRow b (cur.toList.take off ++ ys.map (Value.int K) ++ cur.toList.drop (off + ys.length)).toArray).heap[c]? = w.heap[c]? := fun c _ hc => setRow_other w b c _ (fun e => hc (by rw [e]))
  obtain ⟨k1, k2⟩ := evolve_store (w' := w.setRow b (cur.toList.take off ++ ys.map (Value.int K) ++ cur.toList.drop (off + ys.length)).toArray) r.toRH n kk _ (.row e 1 (ints K (xs.take off ++ ys ++ xs.drop (off + ys.length)))) _ hnn h2' rfl rfl rfl (by simp [World.setRow]) hoth
    ⟨(xs.take off ++ ys ++ xs.drop (off + ys.length)).map (Value.int K), ⟨by simp, .inr ⟨b, cap, (cur.toList.take off ++ ys.map (Value.int K) ++ cur.toList.drop (off + ys.length)).toArray, by simp, hb0, setRow_heap w b _ _ _ _ hg, by simp; omega, hcm, by simp at hcs ⊢; omega, by
      simp only [length_ints, Nat.mul_one] at htake ⊢
      exact copied_take K htake (by omega)⟩⟩, by rw [flat_ints]; exact vrels_zeros K _⟩
  exact ⟨ψ, prot, k1, k2, .val _, fun m j hne => .inl hne⟩
theorem runk_copy {P : Program} {k : Nat} {ops : Array Oper} {N : Nat} {draw : Bool} {C : St → Prop} {o : Oper} {os : List Oper} {env : List (Nat × AVal)} {objs : Writes} {acc : List Tr} {dd : Nat} {t t2 e te : TypeId} {d s : Operand} {n kk off len : Nat} {K : IntKind} {xs ys zs : List Int} (hg : o.guard = none) (hdd : o.dst = some dd) (ho : o.op = .call { callee := .builtin .copy, args := #[d, s], argTypes := #[t, t2] })
    (hd : (⟨env, objs⟩ : St).aop d = .sub n kk off len 1) (hs : (⟨env, objs⟩ : St).aop s = .ro (ints K ys)) (hn : (⟨env, objs⟩ : St).obj n = some (kk, .row e 1 (ints K xs))) (ht : P.underlying t = some (.slice te)) (hz : sizeIs P te 1) (h0 : 0 < ys.length) (h1 : ys.length ≤ len) (h2 : off + len ≤ xs.length) (hzs : xs.take off ++ ys ++ xs.drop (off + ys.length) = zs)
    (r : RunK P k ops N draw os ⟨(dd, .val (.int .i64 ys.length)) :: env, (n, some (kk, .row e 1 (ints K zs))) :: objs⟩ (⟨.val (.int .i64 ys.length), [(n, some (kk, .row e 1 (ints K zs)))], [n], []⟩ :: acc) C) : RunK P k ops N draw (o :: os) ⟨env, objs⟩ acc C := by
  subst hzs
  exact runk hg hdd (opok_copy ho hd hs hn ht hz h0 h1 h2) r
/-- An array's value. -/
theorem opok_buildA {P : Program} {k : Nat} {st : St} {o : Oper} {t e : TypeId} {n : Nat} {parts : Array (Nat × Operand)} {sz : Nat} {z : Value} {vs : List (Nat × AVal)} {out : List AVal} (ho : o.op = .build t parts) (hu : P.underlying t = some (.array n e)) (hs : sizeIs P e sz) (hz : (P.info? t).bind (·.zero) = some z)
    (hp : PartsOf st parts.toList vs) (hf : fillA (fun i => some (i * sz, sz)) (AVal.val z).flat vs = some out) : OpOk P k st o ⟨.agg out, [], [], []⟩ :=
  opok_quiet fun ψ prot obj w ρ _ hr _ => by
    have hvs := hp.spec
    cases hi : P.info? t with
    | none => rw [hi] at hz; cases hz
    | some i =>
      have hz' : i.zero = some z := by rw [hi] at hz; exact hz
      obtain ⟨cs', g1, g2⟩ := fill_rel (ψ := ψ) (prot := prot) (w := w) vs (parts.toList.map fun x => (x.1, ρ x.2)) _ out z.cells (by simp [← hvs]) (fun j p q h1 h2 => by
        rw [← hvs] at h1
        simp only [List.getElem?_map] at h1 h2
        cases hq : parts.toList[j]? with
        | none => rw [hq] at h1; cases h1
        | some y =>
          rw [hq] at h1 h2
          simp only [Option.map_some, Option.some.injEq] at h1 h2
          subst h1; subst h2
          exact ⟨rfl, hr y.2 (by simp only [ho, Op.operands]; simp; exact ⟨y.1, by simpa using List.mem_of_getElem? hq⟩)⟩) (VRel.flat (.val z) rfl) hf
      cases hj : P.info? e with
      | none => unfold sizeIs at hs; rw [hj] at hs; cases hs
      | some ie =>
        have hsz : ie.size = sz := by unfold sizeIs at hs; rw [hj] at hs; simpa using hs
        have hb : P.built t (parts.map fun (i, x) => (i, ρ x)).toList = some cs' := by
          simp only [Program.built, hi, hu, hz', hj, hsz, Array.toList_map]
          exact g1
        refine ⟨.agg cs', ?_, VRels.agg g2⟩
        simp only [execOp, ho, Sem.run_bind, Sem.run_pure]
        rw [run_build w t _ cs' hb]
        rfl
end Go.Proofs.YtboddbheljenhaaGreatDoor
