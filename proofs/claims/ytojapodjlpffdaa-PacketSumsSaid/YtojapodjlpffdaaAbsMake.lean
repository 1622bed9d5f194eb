/-
  A new slice of zeros, by states. No program is named here.
-/
import Derived.Test.YtojapodjlpffdaaAbsLib
import Derived.Laws.MakeOwn
namespace Go.Proofs.Ytojapodjlpffdaa
open Go.RowKit
section
variable {P : Program}
theorem made_zeros (K : IntKind) (n : Nat) : (madeCells (Value.cells (.int K 0)) n).toList = (List.replicate n (0 : Int)).map (Value.int K) := by
  apply List.ext_getElem
  · simp [size_madeCells]
  · intro i h1 h2
    simp [madeCells, Value.cells, Nat.mod_one]
theorem vrels_zeros {ψ : Ghost} {prot : Nat → Prop} {w : World} (K : IntKind) (xs : List Int) : VRels ψ prot w (ints K xs) (xs.map (Value.int K)) := by
  have := VRels.vals (ψ := ψ) (prot := prot) (w := w) (vs := xs.map (Value.int K))
  simpa [ints, Function.comp_def] using this
theorem opok_make {k : Nat} {st : St} {o : Oper} {t e : TypeId} {l c : Operand} (d : Nat) {K : IntKind} {m : Int} (ho : o.op = .makeSlice t l c) (hl : st.aop l = .val (.int .i64 m)) (hc : st.aop c = .val (.int .i64 m)) (ht : P.underlying t = some (.slice e))
    (hi : (P.info? e).map (fun i => (i.zero, i.size, i.bytes)) = some (some (.int K 0), 1, 1)) (h0 : 0 ≤ m) (h1 : m ≤ 16777216) :
    OpOk P k st o ⟨.own d k m.toNat, [(d, some (k, .row e 1 (ints K (List.replicate m.toNat 0))))], [d], [d]⟩ :=
  opok_new fun ψ prot w ρ hr => by
    obtain ⟨i, hi0, hz0, hs0, hb0⟩ := info_parts hi
    have e1 := (hl ▸ hr l (by simp [ho, Op.operands])).val_eq
    have e2 := (hc ▸ hr c (by simp [ho, Op.operands])).val_eq
    have hrun := run_make (P := P) w t e i (.int K 0) ht hi0 hz0 .i64 .i64 m m h0 (Int.le_refl _) (by rw [hb0]; omega) (by omega)
    rw [hs0, Nat.mul_one] at hrun
    refine ⟨.slice (some ⟨w.heap.size, 0, none⟩) m.toNat m.toNat, .cells (madeCells (Value.cells (.int K 0)) m.toNat) e (0, 0), m.toNat, by unfold execOp; simp only [ho, e1, e2, Sem.run_bind, hrun, Result.andThen_ok, Sem.run_pure], fun ψ' hψ hpr => ⟨(List.replicate m.toNat (0 : Int)).map (Value.int K), ?_, ?_⟩, fun ψ' h => .own d k _ _ h⟩
    · have := World.ownsRow_lit (base := 0) (size := 1) (e := e) w (madeCells (Value.cells (.int K 0)) m.toNat) m.toNat (Nat.zero_le _) (by unfold maxLen; omega) (by simp [size_madeCells])
      rw [made_zeros] at this
      simpa using this
    · rw [flat_ints]; exact vrels_zeros K _
variable {k : Nat} {ops : Array Oper} {N : Nat} {draw : Bool} {K : St → Prop} {o : Oper} {os : List Oper} {env : List (Nat × AVal)} {objs : Writes} {acc : List Tr} {d : Nat}
theorem runk_make {t e : TypeId} {l c : Operand} {J : IntKind} {m : Int} (hg : o.guard = none) (hd : o.dst = some d) (ho : o.op = .makeSlice t l c) (hl : (⟨env, objs⟩ : St).aop l = .val (.int .i64 m)) (hc : (⟨env, objs⟩ : St).aop c = .val (.int .i64 m)) (ht : P.underlying t = some (.slice e))
    (hs : sizeIs P e 1) (hz : (P.info? e).bind (·.zero) = some (.int J 0)) (hb : (P.info? e).map (·.bytes) = some 1) (h0 : 0 ≤ m) (h1 : m ≤ 16777216)
    (t : RunK P k ops N draw os ⟨(d, .own d k m.toNat) :: env, (d, some (k, .row e 1 (ints J (List.replicate m.toNat 0)))) :: objs⟩ (⟨.own d k m.toNat, [(d, some (k, .row e 1 (ints J (List.replicate m.toNat 0))))], [d], [d]⟩ :: acc) K) : RunK P k ops N draw (o :: os) ⟨env, objs⟩ acc K := by
  cases hi : P.info? e with
  | none => rw [hi] at hz; cases hz
  | some i =>
    unfold sizeIs at hs
    rw [hi] at hs hz hb
    have hz' : i.zero = some (.int J 0) := hz
    simp only [Option.map_some, Option.some.injEq] at hs hb
    exact runk hg hd (opok_make (K := J) d ho hl hc ht (by rw [hi]; simp [hs, hz', hb]) h0 h1) t
end
end Go.Proofs.Ytojapodjlpffdaa
