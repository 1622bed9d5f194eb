/-
  A whole array as a slice, to which is appended: there is nothing behind it, so what is made is new. By states. No program is named here.
-/
import Derived.Test.YtmbmodeiikhnkaaGreatDoorAbsB
import Derived.Test.YtmbmodeiikhnkaaGreatDoorG03
import Derived.Test.YtmbmodeiikhnkaaGreatDoorG04
import Derived.Laws.IdiomCopy
import Derived.Lib.ItoaMem
namespace Go.Proofs.YtmbmodeiikhnkaaGreatDoor
open Go.RowKit
section
variable {P : Program} {k : Nat} {st : St} {o : Oper}
end
section
variable {P : Program} {k : Nat} {ops : Array Oper} {N : Nat} {draw : Bool} {K : St → Prop} {os : List Oper} {o : Oper} {env : List (Nat × AVal)} {objs : Writes} {acc : List Tr} {d : Nat}
end
end Go.Proofs.YtmbmodeiikhnkaaGreatDoor
namespace Go.Proofs.YtmbmodeiikhnkaaGreatDoor
open Go.RowKit
section
variable {P : Program} {k : Nat} {st : St} {o : Oper}
theorem opok_allocR {t : TypeId} (d : Nat) {z : Value} {cs : List AVal} (ho : o.op = .alloc t) (hz : (P.info? t).bind (·.zero) = some z) (hcs : (AVal.val z).flat = cs) : OpOk P k st o ⟨.ptr d k 0, [(d, some (k, .arr t cs))], [d], [d]⟩ :=
  opok_new fun ψ prot w ρ hr => by
    cases hi : P.info? t with
    | none => rw [hi] at hz; cases hz
    | some i =>
      rw [hi] at hz
      have hz' : i.zero = some z := hz
      have h2 : VRels ψ prot w cs z.cells.toList := hcs ▸ VRel.flat (x := .val z) (.val z) rfl
      refine ⟨.pointer (some ⟨w.heap.size, 0, none⟩), .cells z.cells t (0, 0), cs.length, by simp only [execOp, ho, Instr.alloc, zeroValue, run_typeInfo_ hi, hz', newVar, newRow, Sem.run_bind, Sem.run_pure, Result.andThen_ok, run_newObj_], fun ψ' hψ hp => ⟨w.heap.size, z.cells.toList, rfl, ?_, ?_⟩, fun ψ' h => .ptr d k 0 _ _ h⟩
      · simpa using heap_alloc_new w (.cells z.cells t (0, 0))
      · exact h2.mono hψ (keep_alloc _ hp)
theorem opok_sliceK {t e t' : TypeId} {m n kk : Nat} {x : Operand} {cs : List AVal} (ho : o.op = .slice t x none none none) (hx : st.aop x = .ptr n kk 0) (hn : st.obj n = some (kk, .arr t' cs)) (hu : P.underlying t = some (.array m e)) (hs : sizeIs P e 1) (hl : cs.length = m) (h0 : 0 < m) :
    OpOk P k st o ⟨.sub n kk 0 cs.length 1, [], [n], []⟩ :=
  opok_quiet fun ψ prot obj w ρ hob hr r => by
    have e1 := hx ▸ hr x (by simp [ho, Op.operands])
    obtain ⟨b, cap, hpv, hψ⟩ := e1.ptr_inv
    obtain ⟨loc, h2, b', vs, h3, -, -⟩ := r.live n kk _ ((hob n (by simp)).trans hn)
    rw [h2] at hψ; injection hψ with hψ
    subst hψ
    injection h3 with h3 h4
    injection h3 with h3
    subst h3; subst h4; subst hl
    have ea : (⟨b, 0, none⟩ : Addr).add 0 = ⟨b, 0, none⟩ := by rw [addr_add0]
    have hne : ¬ cs.length = 0 := by omega
    refine ⟨_, ?_, .sub n kk 0 cs.length 1 b cs.length h2⟩
    simp [execOp, ho, hpv, Instr.sliceAt, Instr.sliceBounds, Instr.sureAddr, run_underlying hu, run_sizeIs hs, ea, go_sem, asIntOf]
/-- A local array, loaded whole. -/
theorem opok_loadArr {t bt : TypeId} {p : Operand} {n kk m : Nat} {cs : List AVal} (ho : o.op = .load t p) (hp : st.aop p = .ptr n kk 0) (hn : st.obj n = some (kk, .arr bt cs)) (ht : aggType P t = true) (hs : sizeIs P t m) (hl : cs.length = m) : OpOk P k st o ⟨.agg cs, [], [n], []⟩ :=
  opok_loadA ho hp hn ht hs (by simp only [AObj.cells, List.drop_zero, ← hl, List.take_length]) hl
variable {ops : Array Oper} {N : Nat} {draw : Bool} {C : St → Prop} {os : List Oper} {env : List (Nat × AVal)} {objs : Writes} {acc : List Tr}
theorem runk_allocR {d : Nat} {t : TypeId} {z : Value} {cs : List AVal} (hg : o.guard = none) (hd : o.dst = some d) (ho : o.op = .alloc t) (hz : (P.info? t).bind (·.zero) = some z) (hcs : (AVal.val z).flat = cs)
    (t : RunK P k ops N draw os ⟨(d, .ptr d k 0) :: env, (d, some (k, .arr t cs)) :: objs⟩ (⟨.ptr d k 0, [(d, some (k, .arr t cs))], [d], [d]⟩ :: acc) C) : RunK P k ops N draw (o :: os) ⟨env, objs⟩ acc C :=
  runk hg hd (opok_allocR d ho hz hcs) t
end
end Go.Proofs.YtmbmodeiikhnkaaGreatDoor
namespace Go.Proofs.YtmbmodeiikhnkaaGreatDoor
open Go.RowKit
section
variable {P : Program} {k : Nat} {st : St} {o : Oper}
theorem opok_sliceKL {t e t' : TypeId} {m n kk lo : Nat} {kd : IntKind} {x y : Operand} {cs : List AVal} (ho : o.op = .slice t x (some y) none none) (hx : st.aop x = .ptr n kk 0) (hy : st.aop y = .val (.int kd lo)) (hn : st.obj n = some (kk, .arr t' cs)) (hu : P.underlying t = some (.array m e)) (hs : sizeIs P e 1) (hl : cs.length = m) (hlo : lo ≤ m) :
    OpOk P k st o ⟨.sub n kk lo (m - lo) 1, [], [n], []⟩ :=
  opok_quiet fun ψ prot obj w ρ hob hr r => by
    have e1 := hx ▸ hr x (by simp [ho, Op.operands])
    have e2 := (hy ▸ hr y (by simp [ho, Op.operands]) : VRel ψ prot w (.val (.int kd lo)) (ρ y)).val_eq
    obtain ⟨b, cap, hpv, hψ⟩ := e1.ptr_inv
    obtain ⟨loc, h2, b', vs, h3, -, -⟩ := r.live n kk _ ((hob n (by simp)).trans hn)
    rw [h2] at hψ; injection hψ with hψ
    subst hψ
    injection h3 with h3 h4
    injection h3 with h3
    subst h3; subst h4; subst hl
    have hal : P.arrayLen t = cs.length := by simp [Program.arrayLen, hu]
    have hel : P.elem t = e := by simp [Program.elem, hu]
    have hrn := run_sliceAt_array_l (P := P) w t ⟨b, 0, none⟩ (by rw [hal, hel]; exact hu) kd (lo : Int) (by omega) (by rw [hal]; omega)
    rw [hal, hel, Int.toNat_natCast, run_sizeIs hs] at hrn
    have hne : (⟨b, 0, none⟩ : Addr).add (lo * 1) = ⟨b, lo * 1, none⟩ := by rw [Lib.add_plain, Nat.zero_add]
    have hsl : slicedAt ⟨b, 0, none⟩ lo cs.length cs.length 1 = .slice (some ⟨b, if cs.length = lo then 0 else lo * 1, none⟩) (cs.length - lo) (cs.length - lo) := by
      unfold slicedAt
      by_cases c : cs.length = lo
      · rw [if_pos c, if_pos c]
      · rw [if_neg c, if_neg c, hne]
    refine ⟨_, ?_, .sub n kk lo (cs.length - lo) 1 b cs.length h2⟩
    rw [← hsl]
    simp [execOp, ho, hpv, e2, hrn, Result.andThen]
theorem opok_copyKL {t t2 e te : TypeId} {d s : Operand} {n kk len off : Nat} {K : IntKind} {xs ys : List Int} (ho : o.op = .call { callee := .builtin .copy, args := #[d, s], argTypes := #[t, t2] }) (hd : st.aop d = .sub n kk off len 1) (hs : st.aop s = .ro (ints K ys)) (hn : st.obj n = some (kk, .arr e (ints K xs)))
    (ht : P.underlying t = some (.slice te)) (hz : sizeIs P te 1) (h0 : 0 < ys.length) (h1 : ys.length ≤ len) (h2 : off + len ≤ xs.length) :
    OpOk P k st o ⟨.val (.int .i64 ys.length), [(n, some (kk, .arr e (ints K (xs.take off ++ ys ++ xs.drop (off + ys.length)))))], [n], []⟩ := by
  refine ⟨fun m hm => by simpa [Writes.names] using hm, fun ψ prot obj w ρ hob hr r _ => ?_⟩
  have e1 := hd ▸ hr d (by simp [ho, Op.operands, Call.operands])
  have e2 := hs ▸ hr s (by simp [ho, Op.operands, Call.operands])
  have hnn := (hob n (by simp)).trans hn
  obtain ⟨loc, h2', b, vs0, h3, hg, hv0⟩ := r.live n kk _ hnn
  obtain ⟨b', cap, hdv, h⟩ := e1.sub_inv
  rw [h2', h3] at h; injection h with h
  injection h with h h'
  injection h with h
  subst h; subst h'
  obtain rfl := ints_vals hv0
  rcases e2.ro_inv with ⟨hnil, -⟩ | ⟨vs, b2, o2, cap2, hsv, hpr2, hvs, hcc, -⟩
  · have := congrArg List.length hnil; rw [length_ints] at this; simp only [List.length_nil] at this; omega
  rw [flat_ints] at hvs
  obtain rfl := ints_vals hvs
  rw [length_ints] at hdv hsv
  have hco : ¬ xs.length = off := by omega
  rw [if_neg hco, Nat.mul_one] at hdv
  have hlc : off + ys.length ≤ (xs.map (Value.int K)).toArray.size := by simp; omega
  have hrun := run_copy_row (P := P) w t t2 o.type te b off len (xs.length - off) ⟨b2, o2, none⟩ ys.length cap2 (xs.map (Value.int K)).toArray e (ys.map (Value.int K)) ht hz hg (by rw [List.length_map]; exact (Nat.min_eq_left h1).symm) (fun j v hj => by rw [addr_add0]; exact hcc j v hj) (by simpa using hlc) (fun v hv => by obtain ⟨z, _, rfl⟩ := List.mem_map.1 hv; rfl)
  rw [List.length_map] at hrun
  have hrow : ((xs.map (Value.int K)).toArray.toList.take off ++ ys.map (Value.int K) ++ (xs.map (Value.int K)).toArray.toList.drop (off + ys.length)) = (xs.take off ++ ys ++ xs.drop (off + ys.length)).map (Value.int K) := by simp [List.map_drop, List.map_take]
  rw [hrow] at hrun
  have hr' : (execOp ρ o).run P w = .ok (.value (.int .i64 ys.length)) (w.setRow b ((xs.take off ++ ys ++ xs.drop (off + ys.length)).map (Value.int K)).toArray) := by
    simp [execOp, ho, resolve, invoke, builtin, hdv, hsv, hrun, goInt, Result.andThen]
  rw [hr']
  have hoth : ∀ c, c < w.heap.size → (some b : Option Nat) ≠ some c → (w.setRow b ((xs.take off ++ ys ++ xs.drop (off + ys.length)).map (Value.int K)).toArray).heap[c]? = w.heap[c]? := fun c _ hc => setRow_other w b c _ (fun e => hc (by rw [e]))
  rw [h3] at h2'
  obtain ⟨k1, k2⟩ := evolve_store (w' := w.setRow b ((xs.take off ++ ys ++ xs.drop (off + ys.length)).map (Value.int K)).toArray) r.toRH n kk _ (.arr e (ints K (xs.take off ++ ys ++ xs.drop (off + ys.length)))) _ hnn h2' rfl rfl rfl (by simp [World.setRow]) hoth
    ⟨b, (xs.take off ++ ys ++ xs.drop (off + ys.length)).map (Value.int K), by simp; omega, setRow_heap w b _ _ _ _ hg, vrels_zeros K _⟩
  exact ⟨ψ, prot, k1, k2, .val _, fun m j hne => .inl hne⟩
/-- copy of nothing. -/
theorem opok_copyK0 {t t2 te : TypeId} {d s : Operand} {n kk len off : Nat} (ho : o.op = .call { callee := .builtin .copy, args := #[d, s], argTypes := #[t, t2] }) (hd : st.aop d = .sub n kk off len 1) (hs : st.aop s = .ro [])
    (ht : P.underlying t = some (.slice te)) (hz : sizeIs P te 1) : OpOk P k st o ⟨.val (.int .i64 0), [], [], []⟩ :=
  opok_quiet fun ψ prot obj w ρ hob hr r => by
    have e1 := hd ▸ hr d (by simp [ho, Op.operands, Call.operands])
    have e2 := hs ▸ hr s (by simp [ho, Op.operands, Call.operands])
    obtain ⟨b', cap, hdv, h⟩ := e1.sub_inv
    rw [Nat.mul_one] at hdv
    obtain ⟨a, c2, hsv⟩ : ∃ a c2, ρ s = .slice a 0 c2 := by
      rcases e2.ro_inv with ⟨-, hnil⟩ | ⟨vs, b2, o2, cap2, hsv, -⟩
      · obtain ⟨a, c, hc⟩ := hnil
        exact ⟨a, c, hc.1⟩
      · exact ⟨_, _, hsv⟩
    have hrun := run_copy_none (P := P) w t t2 o.type te (some ⟨b', if cap = off then 0 else off, none⟩) a len (cap - off) 0 c2 ht hz (Nat.zero_min _)
    refine ⟨.int .i64 0, ?_, .val _⟩
    simp [execOp, ho, resolve, invoke, builtin, hdv, hsv, hrun, goInt, Result.andThen]
theorem opok_copyKz {t t2 te : TypeId} {d s : Operand} {n kk len off : Nat} {K : IntKind} {ys : List Int} (ho : o.op = .call { callee := .builtin .copy, args := #[d, s], argTypes := #[t, t2] }) (hd : st.aop d = .sub n kk off len 1) (hs : st.aop s = .ro (ints K ys))
    (ht : P.underlying t = some (.slice te)) (hz : sizeIs P te 1) (h0 : ys.length = 0) : OpOk P k st o ⟨.val (.int .i64 0), [], [], []⟩ := by
  obtain rfl := List.length_eq_zero_iff.1 h0
  exact opok_copyK0 ho hd hs ht hz
variable {ops : Array Oper} {N : Nat} {draw : Bool} {C : St → Prop} {os : List Oper} {env : List (Nat × AVal)} {objs : Writes} {acc : List Tr}
theorem runk_copyKL {dd : Nat} {t t2 e te : TypeId} {d s : Operand} {n kk len off : Nat} {K : IntKind} {xs ys zs : List Int} (hg : o.guard = none) (hdd : o.dst = some dd) (ho : o.op = .call { callee := .builtin .copy, args := #[d, s], argTypes := #[t, t2] })
    (hd : (⟨env, objs⟩ : St).aop d = .sub n kk off len 1) (hs : (⟨env, objs⟩ : St).aop s = .ro (ints K ys)) (hn : (⟨env, objs⟩ : St).obj n = some (kk, .arr e (ints K xs))) (ht : P.underlying t = some (.slice te)) (hz : sizeIs P te 1) (h0 : 0 < ys.length) (h1 : ys.length ≤ len) (h2 : off + len ≤ xs.length) (hzs : xs.take off ++ ys ++ xs.drop (off + ys.length) = zs)
    (r : RunK P k ops N draw os ⟨(dd, .val (.int .i64 ys.length)) :: env, (n, some (kk, .arr e (ints K zs))) :: objs⟩ (⟨.val (.int .i64 ys.length), [(n, some (kk, .arr e (ints K zs)))], [n], []⟩ :: acc) C) : RunK P k ops N draw (o :: os) ⟨env, objs⟩ acc C := by
  subst hzs
  exact runk hg hdd (opok_copyKL ho hd hs hn ht hz h0 h1 h2) r
end
end Go.Proofs.YtmbmodeiikhnkaaGreatDoor
