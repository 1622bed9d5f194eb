/-
  A row of bytes that was made out of a text: it may be written, and is made a text again. No program is named here.
-/
import Derived.Test.YtboddbheljenhaaGreatDoorStr2
namespace Go.Proofs.YtboddbheljenhaaGreatDoor
open Go.RowKit
section
variable {P : Program} {k : Nat} {st : St} {o : Oper}
theorem opok_newD {v : AVal} {d : Nat} {ob : AObj} (h : ∀ (ψ : Ghost) (prot : Nat → Prop) (w : World) (ρ : Operand → Value), (∀ x ∈ o.op.operands, VRel ψ prot w (st.aop x) (ρ x)) → ∃ cv ob' cap, (execOp ρ o).run P w = .ok (.value cv) (w.drew.alloc ob') ∧
      (∀ ψ' : Ghost, ORel ψ' prot (w.drew.alloc ob') ⟨some w.heap.size, cap⟩ ob) ∧ ∀ ψ' : Ghost, ψ' d k = some ⟨some w.heap.size, cap⟩ → VRel ψ' prot (w.drew.alloc ob') v cv) :
    OpOk P k st o ⟨v, [(d, some (k, ob))], [d], [d]⟩ := by
  refine ⟨fun n hn => by simpa [Writes.names] using hn, fun ψ prot obj w ρ _ hx r hf => ?_⟩
  obtain ⟨cv, ob', cap, h1, h2, h3⟩ := h ψ prot w ρ hx
  rw [h1]
  have hsz : (w.drew.alloc ob').heap.size = w.heap.size + 1 := by show (w.heap.push ob').size = _; simp
  obtain ⟨ψ', g1, g2, g3, g4, g5⟩ := evolve_make (w' := w.drew.alloc ob') r.toRH [] d k ⟨some w.heap.size, cap⟩ ob (hf d (by simp)) rfl rfl rfl (by omega) (fun b hb _ => Below.heap_alloc w.drew ob' b hb) (fun b hb => by injection hb with hb; exact .inl (by omega)) (fun ψ' _ => h2 ψ')
  exact ⟨ψ', prot, g1, g2, h3 ψ' g3, fun n j hne => (g5 n j hne).imp id fun ⟨e1, e2⟩ => ⟨e1, by simp [e2]⟩⟩
/-- The bytes of a text, as numbers. -/
def bints (l : List UInt8) : List Int := l.map fun b => (b.toNat : Int)
theorem opok_convF {s t e : TypeId} {x : Operand} {l : List UInt8} (d : Nat) (ho : o.op = .convert s t x) (hx : st.aop x = .val (bstr l)) (hs : P.underlying s = some .string) (ht : P.underlying t = some (.slice e)) (he : P.underlying e = some (.int .u8)) :
    OpOk P k st o ⟨.own d k l.length, [(d, some (k, .rowF (bints l)))], [d], [d]⟩ :=
  opok_newD fun ψ prot w ρ hr => by
    have e1 := (hx ▸ hr x (by simp [ho, Op.operands]) : VRel ψ prot w (.val (bstr l)) (ρ x)).val_eq
    have hrun := run_bytes_of_string w s t e ⟨l.toArray⟩ hs ht he
    have hcap : l.length ≤ grownCap w (⟨l.toArray⟩ : ByteArray).size 0 e := grownCap_ge w _ 0 e
    generalize grownCap w (⟨l.toArray⟩ : ByteArray).size 0 e = cap at hrun hcap
    refine ⟨.slice (some ⟨w.heap.size, 0, none⟩) l.length cap, .cells (bytesRow ⟨l.toArray⟩ cap) e ((bytesRow ⟨l.toArray⟩ cap).size, (bytesRow ⟨l.toArray⟩ cap).size + 1), cap, ?_, fun ψ' => ?_, fun ψ' h => .own d k l.length _ h⟩
    · have : (convert s t (bstr l)).run P w = _ := hrun
      simp only [execOp, ho, e1, Sem.run_bind, this, Result.andThen_ok, Sem.run_pure]
      rfl
    · have hh : (w.drew.alloc (.cells (bytesRow ⟨l.toArray⟩ cap) e ((bytesRow ⟨l.toArray⟩ cap).size, (bytesRow ⟨l.toArray⟩ cap).size + 1))).heap[w.heap.size]? = some (.cells (bytesRow ⟨l.toArray⟩ cap) e ((bytesRow ⟨l.toArray⟩ cap).size, (bytesRow ⟨l.toArray⟩ cap).size + 1)) := by
        show (w.heap.push _)[w.heap.size]? = _
        simp
      have hbs : (bints l).length ≤ (bytesRow ⟨l.toArray⟩ cap).size := by simp [bytesRow, bints]
      refine ⟨w.heap.size, _, e, _, rfl, hh, Nat.le_refl _, hbs, by simpa [bints] using hcap, fun i z hi => ?_⟩
      have hil : i < l.length := by have := (List.getElem?_eq_some_iff.1 hi).1; simpa [bints] using this
      have hz : z = (l[i].toNat : Int) := by
        unfold bints at hi
        rw [List.getElem?_map, List.getElem?_eq_getElem hil] at hi
        injection hi with hi; exact hi.symm
      unfold bytesRow
      rw [Array.getElem?_append_left (by simpa using hil), Array.getElem?_map, Array.getElem?_eq_getElem (by simpa using hil), hz]
      simp
theorem opok_indexF {t e : TypeId} {x ix : Operand} {n kk len : Nat} {zs : List Int} {kd : IntKind} {i : Int} (ho : o.op = .indexAddr t x ix) (hx : st.aop x = .own n kk len) (hn : st.obj n = some (kk, .rowF zs)) (hi : st.aop ix = .val (.int kd i)) (ht : P.underlying t = some (.slice e)) (hs : sizeIs P e 1)
    (h0 : 0 ≤ i) (h1 : i < len) : OpOk P k st o ⟨.ptr n kk i.toNat, [], [n], []⟩ :=
  opok_quiet fun ψ prot obj w ρ hob hr r => by
    have e1 := hx ▸ hr x (by simp [ho, Op.operands])
    have e2 := (hi ▸ hr ix (by simp [ho, Op.operands]) : VRel ψ prot w (.val (.int kd i)) (ρ ix)).val_eq
    obtain ⟨loc, hv, hψ⟩ := e1.own_inv
    obtain ⟨loc', g1, b, cur, t', fr, g2, -⟩ := r.live n kk _ ((hob n (by simp)).trans hn)
    rw [hψ] at g1; injection g1 with g1; subst g1
    rw [g2] at hv
    obtain ⟨bb, cc⟩ := loc
    simp only at g2
    subst g2
    refine ⟨.pointer (some ⟨b, i.toNat, none⟩), ?_, .ptr n kk _ b cc hψ⟩
    simp [execOp, ho, hv, e2, Instr.indexAt, asIntOf, run_underlying ht, run_sizeIs hs, h0, h1, addr_add0, go_sem]
theorem run_store1 {t : TypeId} (hs : sizeIs P t 1) (w : World) (b off : Nat) (kd : IntKind) (v : Int) {old : Value} (hc : w.cell? ⟨b, off, none⟩ = some old) (hf : w.frozen? ⟨b, off, none⟩ = false) : (storeVar t ⟨b, off, none⟩ (.int kd v)).run P w = .ok () (w.setCell ⟨b, off, none⟩ (.int kd v)) := by
  have h1 : (store (⟨b, off, none⟩ : Addr) (.int kd v)).run P w = .ok () (w.setCell ⟨b, off, none⟩ (.int kd v)) := by
    rw [run_store P w _ _ _ rfl]
    simp only [hc, hf, Bool.false_eq_true, if_false]
  have h2 : (storeCells (⟨b, off, none⟩ : Addr) [.int kd v]).run P w = .ok () (w.setCell ⟨b, off, none⟩ (.int kd v)) := by
    simp only [storeCells, addr_add0, Nat.add_zero, Sem.run_bind, h1, Result.andThen_ok, Sem.run_pure]
  simp only [storeVar, run_sizeIs hs, Sem.run_bind, Result.andThen_ok]
  exact h2
theorem opok_textF {s t e : TypeId} {x : Operand} {n kk len : Nat} {zs : List Int} (ho : o.op = .convert s t x) (hx : st.aop x = .own n kk len) (hn : st.obj n = some (kk, .rowF zs)) (hs : P.underlying s = some (.slice e)) (he : P.underlying e = some (.int .u8)) (ht : P.underlying t = some .string) (hl : zs.length = len) :
    OpOk P k st o ⟨.val (bstr (zs.map fun z => UInt8.ofNat z.toNat)), [], [n], []⟩ :=
  opok_quiet fun ψ prot obj w ρ hob hr r => by
    have e1 := hx ▸ hr x (by simp [ho, Op.operands])
    obtain ⟨loc, hv, hψ⟩ := e1.own_inv
    obtain ⟨loc', g1, b, cur, t', fr, g2, g3, -, g4, g5, g6⟩ := r.live n kk _ ((hob n (by simp)).trans hn)
    rw [hψ] at g1; injection g1 with g1; subst g1
    rw [g2] at hv
    have hb : b < w.heap.size := (Array.getElem?_eq_some_iff.1 g3).1
    have hlies : Lies w.heap.size (some ⟨b, 0, none⟩) (zs.map (Value.int .u8)) w := fun j hj => by
      have hjl : j < zs.length := by simpa using hj
      refine ⟨⟨b, 0, none⟩, .int .u8 zs[j], rfl, hb, by simp [hjl], ?_⟩
      rw [addr_add0]
      simp only [World.cell?, g3, Nat.zero_add]
      exact g6 j _ (List.getElem?_eq_getElem hjl)
    have := conv_bytes (P := P) (c := loc.cap) hs he ht hlies hl
    exact ⟨_, by simp only [execOp, ho, hv, Option.map_some, this, Sem.run_bind, Sem.run_pure, Result.andThen_ok]; rfl, .val _⟩
variable {ops : Array Oper} {N : Nat} {draw : Bool} {K : St → Prop} {os : List Oper} {env : List (Nat × AVal)} {objs : Writes} {acc : List Tr}
theorem runk_convF {d : Nat} {s t e : TypeId} {x : Operand} {l : List UInt8} (hg : o.guard = none) (hd : o.dst = some d) (ho : o.op = .convert s t x) (hx : (⟨env, objs⟩ : St).aop x = .val (bstr l)) (hs : P.underlying s = some .string) (ht : P.underlying t = some (.slice e)) (he : P.underlying e = some (.int .u8))
    (r : RunK P k ops N draw os ⟨(d, .own d k l.length) :: env, (d, some (k, .rowF (bints l))) :: objs⟩ (⟨.own d k l.length, [(d, some (k, .rowF (bints l)))], [d], [d]⟩ :: acc) K) : RunK P k ops N draw (o :: os) ⟨env, objs⟩ acc K :=
  runk hg hd (opok_convF d ho hx hs ht he) r
end
end Go.Proofs.YtboddbheljenhaaGreatDoor
