/-
  Rows that are made of zeros and that nobody writes. No program is named here.
-/
import Derived.Test.YtmfdlkodmhhpiaaDoorAbsE
namespace Go.Proofs.YtmfdlkodmhhpiaaDoor
open Go.RowKit
theorem opok_make_ro {P : Program} {k : Nat} {st : St} {o : Oper} {t e : TypeId} {l c : Operand} {K : IntKind} {m : Int} (ho : o.op = .makeSlice t l c) (hl : st.aop l = .val (.int .i64 m)) (hc : st.aop c = .val (.int .i64 m)) (ht : P.underlying t = some (.slice e))
    (hi : (P.info? e).map (fun i => (i.zero, i.size, i.bytes)) = some (some (.int K 0), 1, 1)) (h0 : 0 ≤ m) (h1 : m ≤ 16777216) :
    OpOk P k st o ⟨.ro (ints K (List.replicate m.toNat 0)), [], [], []⟩ :=
  opok_newro fun ψ prot w ρ hr hlt => by
    obtain ⟨i, hi0, hz0, hs0, hb0⟩ := info_parts hi
    have e1 := (hl ▸ hr l (by simp [ho, Op.operands])).val_eq
    have e2 := (hc ▸ hr c (by simp [ho, Op.operands])).val_eq
    have hrun := run_make (P := P) w t e i (.int K 0) ht hi0 hz0 .i64 .i64 m m h0 (Int.le_refl _) (by rw [hb0]; omega) (by omega)
    rw [hs0, Nat.mul_one] at hrun
    have ho1 := World.ownsRow_lit (base := 0) (size := 1) (e := e) w (madeCells (Value.cells (.int K 0)) m.toNat) m.toNat (Nat.zero_le _) (by unfold maxLen; omega) (by simp [size_madeCells])
    rw [made_zeros] at ho1
    refine ⟨.slice (some ⟨w.heap.size, 0, none⟩) m.toNat m.toNat, .cells (madeCells (Value.cells (.int K 0)) m.toNat) e (0, 0), by unfold execOp; simp only [ho, e1, e2, Sem.run_bind, hrun, Result.andThen_ok, Sem.run_pure], ?_⟩
    have el : (ints K (List.replicate m.toNat 0)).length = m.toNat := by simp
    have := ro_row (ψ := ψ) (prot := prot) (w := w.alloc (.cells (madeCells (Value.cells (.int K 0)) m.toNat) e (0, 0))) (t := e) (sz := 1) (cap := m.toNat) (bl := some w.heap.size) (es := ints K (List.replicate m.toNat 0)) (xs := (List.replicate m.toNat (0 : Int)).map (Value.int K)) (by rw [el]; exact ho1) (by rw [flat_ints]; exact vrels_zeros K _)
    rw [el] at this
    exact this.mono (fun _ _ _ h => h) fun b hb => ⟨hb.imp id fun h => by injection h with h; exact h.symm, rfl⟩
theorem runk_makeR {P : Program} {k : Nat} {ops : Array Oper} {N : Nat} {draw : Bool} {K : St → Prop} {o : Oper} {os : List Oper} {env : List (Nat × AVal)} {objs : Writes} {acc : List Tr} {d : Nat} {t e : TypeId} {l c : Operand} {J : IntKind} {m : Int} (hg : o.guard = none) (hd : o.dst = some d) (ho : o.op = .makeSlice t l c) (hl : (⟨env, objs⟩ : St).aop l = .val (.int .i64 m)) (hc : (⟨env, objs⟩ : St).aop c = .val (.int .i64 m)) (ht : P.underlying t = some (.slice e))
    (hs : sizeIs P e 1) (hz : (P.info? e).bind (·.zero) = some (.int J 0)) (hb : (P.info? e).map (·.bytes) = some 1) (h0 : 0 ≤ m) (h1 : m ≤ 16777216)
    (t : RunK P k ops N draw os ⟨(d, .ro (ints J (List.replicate m.toNat 0))) :: env, objs⟩ (⟨.ro (ints J (List.replicate m.toNat 0)), [], [], []⟩ :: acc) K) : RunK P k ops N draw (o :: os) ⟨env, objs⟩ acc K := by
  cases hi : P.info? e with
  | none => rw [hi] at hz; cases hz
  | some i =>
    unfold sizeIs at hs
    rw [hi] at hs hz hb
    have hz' : i.zero = some (.int J 0) := hz
    simp only [Option.map_some, Option.some.injEq] at hs hb
    exact runk0 hg hd (opok_make_ro (K := J) ho hl hc ht (by rw [hi]; simp [hs, hz', hb]) h0 h1) t
end Go.Proofs.YtmfdlkodmhhpiaaDoor
