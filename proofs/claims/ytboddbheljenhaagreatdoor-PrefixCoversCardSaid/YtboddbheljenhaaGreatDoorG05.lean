/-
  A box of the call's own that nobody writes any more, by states. No program is named here.
-/
import Derived.Test.YtboddbheljenhaaGreatDoorAbsN
namespace Go.Proofs.YtboddbheljenhaaGreatDoor
open Go.RowKit
inductive FrzB (n kk : Nat) (cs : List AVal) : AVal → AVal → Prop where
  | any (x : AVal) : FrzB n kk cs x .any
  | same (x : AVal) : FrzB n kk cs x x
  | ptr (off : Nat) : FrzB n kk cs (.ptr n kk off) (.rref (cs.drop off))
inductive EnvFrzB (n kk : Nat) (cs : List AVal) (st : St) : List (Nat × AVal) → Prop where
  | nil : EnvFrzB n kk cs st []
  | cons {t : Nat} {v v' : AVal} {env : List (Nat × AVal)} (h : st.get t = v) (f : FrzB n kk cs v v') (r : EnvFrzB n kk cs st env) : EnvFrzB n kk cs st ((t, v') :: env)
inductive ObjsFrzB (n : Nat) (st : St) : Writes → Prop where
  | nil : ObjsFrzB n st []
  | cons {m k : Nat} {o : AObj} {objs : Writes} (h : st.obj m = some (k, o)) (hm : (m != n) = true) (r : ObjsFrzB n st objs) : ObjsFrzB n st ((m, some (k, o)) :: objs)
theorem EnvFrzB.mem {n kk : Nat} {cs : List AVal} {st : St} {env : List (Nat × AVal)} (h : EnvFrzB n kk cs st env) : ∀ p ∈ env, FrzB n kk cs (st.get p.1) p.2 := by
  induction h with
  | nil => intro p hp; cases hp
  | cons h f _ ih =>
    intro p hp
    rcases List.mem_cons.1 hp with rfl | hp
    · rw [h]; exact f
    · exact ih p hp
theorem ObjsFrzB.mem {n : Nat} {st : St} {objs : Writes} (h : ObjsFrzB n st objs) : ∀ p ∈ objs, ∃ k o, p.2 = some (k, o) ∧ st.obj p.1 = some (k, o) ∧ p.1 ≠ n := by
  induction h with
  | nil => intro p hp; cases hp
  | cons h hm _ ih =>
    intro p hp
    rcases List.mem_cons.1 hp with rfl | hp
    · exact ⟨_, _, rfl, h, by simpa using hm⟩
    · exact ih p hp
end Go.Proofs.YtboddbheljenhaaGreatDoor
namespace Go.Proofs.YtboddbheljenhaaGreatDoor
open Go.RowKit
theorem opok_make8 {P : Program} {k : Nat} {st : St} {o : Oper} {t e : TypeId} {l c : Operand} (d : Nat) {K : IntKind} {m : Int} (ho : o.op = .makeSlice t l c) (hl : st.aop l = .val (.int .i64 m)) (hc : st.aop c = .val (.int .i64 m)) (ht : P.underlying t = some (.slice e))
    (hi : (P.info? e).map (fun i => (i.zero, i.size, i.bytes)) = some (some (.int K 0), 1, 8)) (h0 : 0 ≤ m) (h1 : m ≤ 16777216) :
    OpOk P k st o ⟨.own d k m.toNat, [(d, some (k, .row e 1 (ints K (List.replicate m.toNat 0))))], [d], [d]⟩ :=
  opok_new fun ψ prot w ρ hr => by
    obtain ⟨i, hi0, hz0, hs0, hb0⟩ := info_parts hi
    have e1 := (hl ▸ hr l (by simp [ho, Op.operands])).val_eq
    have e2 := (hc ▸ hr c (by simp [ho, Op.operands])).val_eq
    have hrun := run_make (P := P) w t e i (.int K 0) ht hi0 hz0 .i64 .i64 m m h0 (Int.le_refl _) (by rw [hb0]; omega) (by omega)
    rw [hs0, Nat.mul_one] at hrun
    refine ⟨.slice (some ⟨w.heap.size, 0, none⟩) m.toNat m.toNat, .cells (madeCells (Value.cells (.int K 0)) m.toNat) e (0, 0), m.toNat, by unfold execOp; simp only [ho, e1, e2, Sem.run_bind, hrun, Result.andThen_ok, Sem.run_pure], fun ψ' hψ hpr => ⟨(List.replicate m.toNat (0 : Int)).map (Value.int K), ?_, ?_⟩, fun ψ' h => .own d k _ _ h⟩
    · have := World.ownsRow_lit (base := 0) (size := 1) (e := e) w (madeCells (Value.cells (.int K 0)) m.toNat) m.toNat (Nat.zero_le _) (by unfold maxLen; omega) (by simp [size_madeCells])
      rw [made_zeros] at this
      simpa using this
    · rw [flat_ints]; exact vrels_zeros K _
theorem runk_make8 {P : Program} {k : Nat} {ops : Array Oper} {N : Nat} {draw : Bool} {K : St → Prop} {o : Oper} {os : List Oper} {env : List (Nat × AVal)} {objs : Writes} {acc : List Tr} {d : Nat} {t e : TypeId} {l c : Operand} {J : IntKind} {m : Int} (hg : o.guard = none) (hd : o.dst = some d) (ho : o.op = .makeSlice t l c) (hl : (⟨env, objs⟩ : St).aop l = .val (.int .i64 m)) (hc : (⟨env, objs⟩ : St).aop c = .val (.int .i64 m)) (ht : P.underlying t = some (.slice e))
    (hs : sizeIs P e 1) (hz : (P.info? e).bind (·.zero) = some (.int J 0)) (hb : (P.info? e).map (·.bytes) = some 8) (h0 : 0 ≤ m) (h1 : m ≤ 16777216)
    (t : RunK P k ops N draw os ⟨(d, .own d k m.toNat) :: env, (d, some (k, .row e 1 (ints J (List.replicate m.toNat 0)))) :: objs⟩ (⟨.own d k m.toNat, [(d, some (k, .row e 1 (ints J (List.replicate m.toNat 0))))], [d], [d]⟩ :: acc) K) : RunK P k ops N draw (o :: os) ⟨env, objs⟩ acc K := by
  cases hi : P.info? e with
  | none => rw [hi] at hz; cases hz
  | some i =>
    unfold sizeIs at hs
    rw [hi] at hs hz hb
    have hz' : i.zero = some (.int J 0) := hz
    simp only [Option.map_some, Option.some.injEq] at hs hb
    exact runk hg hd (opok_make8 (K := J) d ho hl hc ht (by rw [hi]; simp [hs, hz', hb]) h0 h1) t
section
variable {P : Program} {k : Nat} {st : St} {o : Oper}
theorem opok_lit0 {t e : TypeId} (d : Nat) {z : Value} {sz bytes : Nat} (ho : o.op = .buildSlice t 0 #[]) (ht : P.underlying t = some (.slice e)) (hi : (P.info? e).map (fun i => (i.zero, i.size, i.bytes)) = some (some z, sz, bytes)) : OpOk P k st o ⟨.own d k 0, [(d, some (k, .row e sz []))], [d], [d]⟩ :=
  opok_new fun ψ prot w ρ hr => by
    obtain ⟨i, hi0, hz0, hs0, hb0⟩ := info_parts hi
    have hrun : (Instr.buildSlice t 0 #[]).run P w = .ok (.slice (some ⟨w.heap.size, 0, none⟩) 0 0) (w.alloc (.cells #[] e)) := by
      simp [Instr.buildSlice, run_underlying ht, sizeOf, typeInfo, hi0, newRow, Instr.fill]
      congr 2
      apply Array.eq_empty_of_size_eq_zero
      simp
    refine ⟨.slice (some ⟨w.heap.size, 0, none⟩) 0 0, .cells #[] e (0, 0), 0, by unfold execOp; simp [ho, Sem.run_bind, hrun, Result.andThen_ok, Sem.run_pure], fun ψ' hψ hpr => ⟨[], ?_, ⟨rfl, fun i x v h => by simp at h⟩⟩, fun ψ' h => .own d k 0 _ h⟩
    have := World.ownsRow_lit (base := 0) (size := sz) (e := e) w #[] 0 (Nat.zero_le _) (by unfold maxLen; omega) (by simp)
    simpa using this
theorem opok_arrRoN {t e : TypeId} {n : Nat} {x y : Operand} {kd : IntKind} {hi : Nat} {cs : List AVal} (ho : o.op = .slice t x none (some y) none) (hx : st.aop x = .rref cs) (hy : st.aop y = .val (.int kd hi)) (hu : P.underlying t = some (.array n e)) (hs : sizeIs P e 1) (hn : cs.length = n) (hf : (cs.take hi).flatMap AVal.flat = cs.take hi) (hh : hi ≤ n) : OpOk P k st o ⟨.ro (cs.take hi), [], [], []⟩ :=
  opok_quiet fun ψ prot obj w ρ _ hr _ => by
    have e1 := hx ▸ hr x (by simp [ho, Op.operands])
    have e2 := (hy ▸ hr y (by simp [ho, Op.operands]) : VRel ψ prot w (.val (.int kd hi)) (ρ y)).val_eq
    obtain ⟨vs, b, off, hpv, hpr, ⟨hl, hv⟩, hcc⟩ := e1.rref_inv
    subst hn
    have hlt : (cs.take hi).length = hi := by rw [List.length_take]; omega
    refine ⟨.slice (some ⟨b, off, none⟩) (cs.take hi).length cs.length, ?_, .ro (cs.take hi) (vs.take hi) b off cs.length (by rw [hlt]; exact hh) hpr (by rw [hf, List.length_take, List.length_take, hl]) (fun i v h => ?_) (fun i x v h1 h2 => ?_)⟩
    · have ea : (⟨b, off, none⟩ : Addr).add 0 = ⟨b, off, none⟩ := by rw [addr_add0]; rfl
      rw [hlt]
      simp [execOp, ho, hpv, e2, Instr.sliceAt, Instr.sliceBounds, Instr.sureAddr, run_underlying hu, run_sizeIs hs, ea, go_sem, asIntOf, hh]
    · rw [List.getElem?_take] at h
      split at h
      · exact hcc i v h
      · cases h
    · rw [hf, List.getElem?_take] at h1
      rw [List.getElem?_take] at h2
      split at h1
      · rename_i hlt2
        rw [if_pos hlt2] at h2
        exact hv i x v h1 h2
      · cases h1
variable {ops : Array Oper} {N : Nat} {draw : Bool} {K : St → Prop} {os : List Oper} {env : List (Nat × AVal)} {objs : Writes} {acc : List Tr} {d : Nat}
theorem runk_lit0 {t e : TypeId} {z : Value} {sz : Nat} (hg : o.guard = none) (hd : o.dst = some d) (ho : o.op = .buildSlice t 0 #[]) (ht : P.underlying t = some (.slice e)) (hs : sizeIs P e sz) (hz : (P.info? e).bind (·.zero) = some z)
    (t : RunK P k ops N draw os ⟨(d, .own d k 0) :: env, (d, some (k, .row e sz [])) :: objs⟩ (⟨.own d k 0, [(d, some (k, .row e sz []))], [d], [d]⟩ :: acc) K) : RunK P k ops N draw (o :: os) ⟨env, objs⟩ acc K := by
  cases hi : P.info? e with
  | none => rw [hi] at hz; cases hz
  | some i =>
    unfold sizeIs at hs
    rw [hi] at hs hz
    have hz' : i.zero = some z := hz
    simp only [Option.map_some, Option.some.injEq] at hs
    exact runk hg hd (opok_lit0 (z := z) (bytes := i.bytes) d ho ht (by rw [hi]; simp [hs, hz'])) t
end
end Go.Proofs.YtboddbheljenhaaGreatDoor
