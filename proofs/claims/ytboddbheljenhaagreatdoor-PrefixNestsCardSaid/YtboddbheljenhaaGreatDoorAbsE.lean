/-
  Variables that nobody writes, arrays as slices and slices as arrays, by states. No program is named here.
-/
import Derived.Test.YtboddbheljenhaaGreatDoorAbsD
namespace Go.Proofs.YtboddbheljenhaaGreatDoor
open Go.RowKit
section
variable {P : Program} {k : Nat} {st : St} {o : Oper}
/-- Memory that is made and that nobody writes any more. -/
theorem opok_newro {v : AVal} (h : ∀ (ψ : Ghost) (prot : Nat → Prop) (w : World) (ρ : Operand → Value), (∀ x ∈ o.op.operands, VRel ψ prot w (st.aop x) (ρ x)) → (∀ b, prot b → b < w.heap.size) → ∃ cv ob', (execOp ρ o).run P w = .ok (.value cv) (w.alloc ob') ∧
      VRel ψ (fun b => prot b ∨ b = w.heap.size) (w.alloc ob') v cv) : OpOk P k st o ⟨v, [], [], []⟩ := by
  refine ⟨fun n hn => by simp [Writes.names] at hn, fun ψ prot obj w ρ _ hx r _ => ?_⟩
  obtain ⟨cv, ob', h1, h2⟩ := h ψ prot w ρ hx fun b hb => (r.pr b hb).1
  rw [h1]
  have hheap : ∀ b, b < w.heap.size → (w.alloc ob').heap[b]? = w.heap[b]? := fun b hb => Below.heap_alloc w ob' b hb
  have hsz : (w.alloc ob').heap.size = w.heap.size + 1 := by simp
  have hobj : updW obj ([] : Writes) = obj := by funext n; rfl
  have hkeep : ∀ b, prot b → (prot b ∨ b = w.heap.size) ∧ (w.alloc ob').heap[b]? = w.heap[b]? := fun b hb => ⟨.inl hb, hheap b (r.pr b hb).1⟩
  refine ⟨ψ, fun b => prot b ∨ b = w.heap.size, ?_, ?_, h2, fun n j hne => .inl hne⟩
  · show Evolve ψ prot obj w ψ _ (updW obj ([] : Writes)) (w.alloc ob')
    rw [hobj]
    exact ⟨rfl, rfl, rfl, by omega, fun _ _ _ h => h, fun b hb => .inl hb, fun b hb => ⟨⟨by have := hb.1; omega, hb.2⟩, hheap b hb.1⟩, fun b hb => hb.elim .inl fun h => .inr fun hu => by have := hu.1; omega⟩
  · show RH ψ _ (updW obj ([] : Writes)) (w.alloc ob')
    rw [hobj]
    refine ⟨fun n j ob h => ?_, r.inj, fun b hb => ?_⟩
    · obtain ⟨loc, q1, q2⟩ := r.live n j ob h
      exact ⟨loc, q1, q2.mono (fun _ _ _ h => h) hkeep fun b hb => hheap b (q2.inside b hb)⟩
    · rcases hb with hb | hb
      · exact ⟨by have := (r.pr b hb).1; omega, (r.pr b hb).2⟩
      · refine ⟨by omega, fun n j ob loc q1 q2 q3 => ?_⟩
        obtain ⟨loc', q4, q5⟩ := r.live n j ob q1
        rw [q2] at q4; injection q4 with q4; subst q4
        have := q5.inside b q3
        omega
theorem opok_box_ro {t : TypeId} {x : Operand} {v : AVal} {cs : List AVal} (ho : o.op = .box t x) (hx : st.aop x = v) (hk : v.known = true) (hcs : v.flat = cs) : OpOk P k st o ⟨.rref cs, [], [], []⟩ :=
  opok_newro fun ψ prot w ρ hr hlt => by
    have h1 := hx ▸ hr x (by simp [ho, Op.operands])
    have h2 := h1.flat hk
    rw [hcs] at h2
    have hnew := heap_alloc_new w (.cells (ρ x).cells t (0, 0))
    refine ⟨.pointer (some ⟨w.heap.size, 0, none⟩), .cells (ρ x).cells t (0, 0), by simp only [execOp, ho, Instr.box, newVar, newRow, Sem.run_bind, Sem.run_pure, Result.andThen_ok, run_newObj_], ?_⟩
    refine .rref cs (ρ x).cells.toList w.heap.size 0 (.inr rfl) h2.1 (fun i u hu => ?_) fun i y u e1 e2 => (h2.2 i y u e1 e2).mono (fun _ _ _ h => h) fun b hb => ⟨.inl hb, Below.heap_alloc w _ b (hlt b hb)⟩
    rw [Nat.zero_add, cell_of_row _ _ i (ρ x).cells t (0, 0) (by simpa using hnew)]
    simpa using hu
theorem opok_faR {s : TypeId} {p : Operand} {f m : Nat} {cs xs : List AVal} {fs : Array Field} {fd : Field} (ho : o.op = .fieldAddr s p f) (hp : st.aop p = .rref cs) (hu : P.underlying s = some (.struct fs)) (hf : fs[f]? = some fd) (hs : sizeIs P fd.type m) (hm : Nat.ble 1 m = true) (hx : (cs.drop fd.offset).take m = xs) :
    OpOk P k st o ⟨.rref xs, [], [], []⟩ := by
  subst hx
  exact opok_fieldAddrR ho hp hu hf hs (by have := Nat.le_of_ble_eq_true hm; omega)
theorem opok_loadRA2 {t : TypeId} {p : Operand} {cs : List AVal} {m : Nat} (ho : o.op = .load t p) (hp : st.aop p = .rref cs) (ht : aggType P t = true) (hs : sizeIs P t m) (hm : cs.length = m) : OpOk P k st o ⟨.agg cs, [], [], []⟩ := by
  subst hm
  exact opok_loadRA ho hp ht hs
/-- A slice as an array. -/
theorem opok_toArr {arr e : TypeId} {n : Nat} {x : Operand} {es cs : List AVal} (ho : o.op = .sliceToArrayPointer arr x) (hx : st.aop x = .ro es) (hu : P.underlying arr = some (.array n e)) (h0 : Nat.ble 1 n = true) (hn : n ≤ es.length) (hw : widths 1 es = true) (hcs : (es.take n).flatMap AVal.flat = cs) : OpOk P k st o ⟨.rref cs, [], [], []⟩ :=
  opok_quiet fun ψ prot obj w ρ _ hr _ => by
    have e1 := hx ▸ hr x (by simp [ho, Op.operands])
    have h1 := Nat.le_of_ble_eq_true h0
    rcases e1.ro_inv with ⟨rfl, _⟩ | ⟨vs, b, off, cap, hv, hp, h4, h5, hcp⟩
    · simp at hn; omega
    · refine ⟨.pointer (some ⟨b, off, none⟩), ?_, ?_⟩
      · have : ¬ es.length < n := by omega
        simp [execOp, ho, hv, Instr.arrayAt, run_underlying hu, this, go_sem]
      · have h6 := h4.take n
        rw [← hcs, take_flat (widths_spec hw), Nat.mul_one]
        refine .rref _ (vs.take n) b off hp h6.1 (fun i u hi => ?_) h6.2
        rw [List.getElem?_take] at hi
        split at hi
        · exact h5 i u hi
        · cases hi
/-- An array that nobody writes, as a slice. -/
theorem opok_arrRo {t e : TypeId} {n : Nat} {x : Operand} {cs : List AVal} (ho : o.op = .slice t x none none none) (hx : st.aop x = .rref cs) (hu : P.underlying t = some (.array n e)) (hs : sizeIs P e 1) (hn : cs.length = n) (hf : cs.flatMap AVal.flat = cs) : OpOk P k st o ⟨.ro cs, [], [], []⟩ :=
  opok_quiet fun ψ prot obj w ρ _ hr _ => by
    have e1 := hx ▸ hr x (by simp [ho, Op.operands])
    obtain ⟨vs, b, off, hpv, hpr, ⟨hl, hv⟩, hcc⟩ := e1.rref_inv
    subst hn
    refine ⟨.slice (some ⟨b, off, none⟩) cs.length cs.length, ?_, .ro cs vs b off cs.length (Nat.le_refl _) hpr (by rw [hf]; exact hl) hcc (by rw [hf]; exact hv)⟩
    have ea : (⟨b, off, none⟩ : Addr).add 0 = ⟨b, off, none⟩ := by rw [addr_add0]; rfl
    simp [execOp, ho, hpv, Instr.sliceAt, Instr.sliceBounds, Instr.sureAddr, run_underlying hu, run_sizeIs hs, ea, go_sem]
end
/-- A copy that is handed out as a row of the caller's own. -/
theorem spec_copy_own {P : Program} {f : FuncId} {k : IntKind} {t : TypeId} {xs : List Int}
    (h : ∀ (w : World) (A : Option Addr) (n c : Nat), xs.length = n → Lies w.heap.size A (xs.map (Value.int k)) w → Calls P f #[.slice A n c] w fun e w' => ∃ v, e = .returned v ∧ w'.ownsRow w.heap.size t 1 v n (xs.map (Value.int k)) ∧ Below w.heap.size w w') :
    Spec P f [.ro (ints k xs)] [] (.own 1000 0 xs.length) [(1000, some (0, .row t 1 (ints k xs)))] := by
  intro ψ prot w cargs hgh hrh hsz hargs
  have hk : ∀ b, prot b → b < w.heap.size := fun b hb => (hrh.pr b hb).1
  have hs1 : 0 < cargs.size := by simp at hsz; omega
  obtain ⟨A, n, c, hu, hn, -, -, hl⟩ := ro_lies hk (hargs 0 _ cargs[0] rfl (by simp [hs1]))
  obtain rfl : cargs = #[.slice A n c] := by
    apply Array.ext
    · simpa using hsz
    · intro i h1 h2
      have : i = 0 := by simp at h2; omega
      subst this; simpa using hu
  subst hn
  refine Calls.mono (h w A xs.length c rfl hl) ?_
  rintro e w' ⟨v, rfl, ho, hb⟩
  have hlt : ∀ b, v.ownBlock = some b → w.heap.size ≤ b ∧ b < w'.heap.size := fun b hb => ho.lt b hb
  obtain ⟨loc, hloc, ho'⟩ : ∃ loc : Loc, v = .slice (loc.block.map fun b => ⟨b, 0, none⟩) xs.length loc.cap ∧ w'.ownsRow 0 t 1 v xs.length (xs.map (Value.int k)) := by
    obtain ⟨q1, q2⟩ := ho
    rcases q2 with ⟨rfl, h0⟩ | ⟨g, cap, cur, rfl, h1, h2, h3, h4, h5, h6⟩
    · exact ⟨⟨none, 0⟩, by rw [h0]; rfl, q1, .inl ⟨rfl, h0⟩⟩
    · exact ⟨⟨some g, cap⟩, rfl, q1, .inr ⟨g, cap, cur, rfl, Nat.zero_le _, h2, h3, h4, h5, h6⟩⟩
  have hblk : ∀ b, loc.block = some b → w.heap.size ≤ b := fun b hb => (hlt b (by rw [hloc, hb]; rfl)).1
  have hnone : ∀ j, ψ 1000 j = none := fun j => by
    by_cases hx : ψ 1000 j = none
    · exact hx
    · have := (hgh 1000 j hx).2; omega
  let ψ' : Ghost := fun n j => if n = 1000 ∧ j = 0 then some loc else ψ n j
  have hψ' : ψ' 1000 0 = some loc := by simp [ψ']
  have hgrow : ∀ n j l, ψ n j = some l → ψ' n j = some l := fun n j l hl => by
    show (if n = 1000 ∧ j = 0 then some loc else ψ n j) = some l
    rw [if_neg (fun hh => by rw [hh.1, hnone] at hl; cases hl)]
    exact hl
  have hone : ∀ n j o, updW (fun _ => none) [(1000, some (0, AObj.row t 1 (ints k xs)))] n = some (j, o) → n = 1000 ∧ j = 0 ∧ o = .row t 1 (ints k xs) := fun n j o e => by
    by_cases h0 : n = 1000
    · subst h0
      have e2 : some ((0 : Nat), AObj.row t 1 (ints k xs)) = some (j, o) := e
      injection e2 with e2
      injection e2 with e3 e4
      exact ⟨rfl, e3.symm, e4.symm⟩
    · have : (n == 1000) = false := by simpa using h0
      simp [updW, List.lookup, this] at e
  have hp : ∀ b, prot b → prot b ∧ w'.heap[b]? = w.heap[b]? := fun b hb' => ⟨hb', hb.block b (hk b hb')⟩
  refine ⟨v, ψ', prot, rfl, ⟨hb.os, hb.tape, hb.output, hb.size, hgrow, fun _ h => h, fun b hb' => ⟨⟨Nat.lt_of_lt_of_le hb'.1 hb.size, fun n j o l e1 e2 e3 => ?_⟩, hb.block b hb'.1⟩, fun _ h => .inl h⟩, ⟨fun n j o e1 => ?_, fun n n1 j j1 o o1 l l1 e1 e2 hne => ?_, fun b hb' => ⟨Nat.lt_of_lt_of_le (hk b hb') hb.size, fun n j o l e1 e2 e3 => ?_⟩⟩, ?_⟩
  · obtain ⟨rfl, rfl, rfl⟩ := hone n j o e1
    rw [hψ'] at e2; injection e2 with e2; subst e2
    have := hblk b e3
    have := hb'.1
    omega
  · obtain ⟨rfl, rfl, rfl⟩ := hone n j o e1
    refine ⟨loc, hψ', xs.map (Value.int k), ?_, by rw [flat_ints]; exact vrels_zeros k xs⟩
    rw [length_ints, ← hloc]; exact ho'
  · obtain ⟨rfl, -, -⟩ := hone n j o e1
    obtain ⟨rfl, -, -⟩ := hone n1 j1 o1 e2
    exact absurd rfl hne
  · obtain ⟨rfl, rfl, rfl⟩ := hone n j o e1
    rw [hψ'] at e2; injection e2 with e2; subst e2
    have := hblk b e3
    have := hk b hb'
    omega
  · rw [hloc]
    exact .own 1000 0 xs.length loc hψ'
end Go.Proofs.YtboddbheljenhaaGreatDoor
