/-
  Elements of arrays behind an address; an element of a text. No program is named here.
-/
import Derived.Test.YtmfdlkodmhhpiaaDoorAbsF
namespace Go.Proofs.YtmfdlkodmhhpiaaDoor
open Go.RowKit
section
variable {P : Program} {k : Nat} {st : St} {o : Oper}
theorem opok_indexP {t e : TypeId} {x ix : Operand} {n kk off N sz : Nat} {kd : IntKind} {i : Int} (ho : o.op = .indexAddr t x ix) (hx : st.aop x = .ptr n kk off) (hi : st.aop ix = .val (.int kd i)) (ht : P.underlying t = some (.array N e)) (hs : sizeIs P e sz) (h0 : 0 ≤ i) (h1 : i < N) : OpOk P k st o ⟨.ptr n kk (off + i.toNat * sz), [], [], []⟩ :=
  opok_quiet fun ψ prot obj w ρ _ hr _ => by
    have e1 := hx ▸ hr x (by simp [ho, Op.operands])
    have e2 := (hi ▸ hr ix (by simp [ho, Op.operands]) : VRel ψ prot w (.val (.int kd i)) (ρ ix)).val_eq
    obtain ⟨b, cap, hpv, h⟩ := e1.ptr_inv
    refine ⟨.pointer (some ⟨b, off + i.toNat * sz, none⟩), ?_, .ptr n kk _ b cap h⟩
    simp [execOp, ho, hpv, e2, Instr.indexAt, asIntOf, run_underlying ht, Instr.sureAddr, run_sizeIs hs, h0, h1, addr_add0, go_sem]
theorem opok_ixv {t : TypeId} {x ix : Operand} {u v cv : Value} (ho : o.op = .index t x ix) (hx : st.aop x = .val u) (hi : st.aop ix = .val v) (h : ∀ w, (Instr.index t u v).run P w = .ok cv w) : OpOk P k st o ⟨.val cv, [], [], []⟩ :=
  opok_quiet fun ψ prot obj w ρ _ hr _ => by
    have e1 := (hx ▸ hr x (by simp [ho, Op.operands]) : VRel ψ prot w (.val u) (ρ x)).val_eq
    have e2 := (hi ▸ hr ix (by simp [ho, Op.operands]) : VRel ψ prot w (.val v) (ρ ix)).val_eq
    refine ⟨cv, ?_, .val _⟩
    simp only [execOp, ho, e1, e2, Sem.run_bind, h w, Result.andThen_ok, Sem.run_pure]
theorem opok_lenS {x : Operand} {t : TypeId} {u : ByteArray} (ho : o.op = .call { callee := .builtin .len, args := #[x], argTypes := #[t] }) (hx : st.aop x = .val (.string u)) (ht : P.underlying t = some .string) : OpOk P k st o ⟨.val (.int .i64 u.size), [], [], []⟩ :=
  opok_quiet fun ψ prot obj w ρ _ hr _ => by
    have h1 := (hx ▸ hr x (by simp [ho, Op.operands, Call.operands]) : VRel ψ prot w (.val (.string u)) (ρ x)).val_eq
    exact ⟨.int .i64 u.size, by simp [execOp, ho, resolve, invoke, builtin, h1, Builtin.len_, run_underlying ht, goInt, Result.andThen], .val _⟩
theorem setCells_one {cs : List AVal} {off : Nat} {v : AVal} (h : off < cs.length) : setCells cs off [v] = cs.set off v := by
  rw [List.set_eq_take_append_cons_drop, if_pos h]
  simp [setCells]
variable {ops : Array Oper} {N : Nat} {draw : Bool} {K : St → Prop} {os : List Oper} {env : List (Nat × AVal)} {objs : Writes} {acc : List Tr}
theorem runk_storeI {t bt : TypeId} {p x : Operand} {n kk off : Nat} {cs cs' : List AVal} {u : Value} (hg : o.guard = none) (hd : o.dst = none) (ho : o.op = .store t p x) (hp : (⟨env, objs⟩ : St).aop p = .ptr n kk off) (hn : (⟨env, objs⟩ : St).obj n = some (kk, .box bt cs)) (hx : (⟨env, objs⟩ : St).aop x = .val u)
    (hfs : (AVal.val u).flat = [.val u]) (h1 : ([AVal.val u].all AVal.one) = true) (hs : sizeIs P t 1) (hf : off < cs.length) (hcs : cs.set off (.val u) = cs')
    (r : RunK P k ops N draw os ⟨env, (n, some (kk, .box bt cs')) :: objs⟩ (⟨.any, [(n, some (kk, .box bt cs'))], [n], []⟩ :: acc) K) : RunK P k ops N draw (o :: os) ⟨env, objs⟩ acc K :=
  runkN hg hd (opok_store ho hp hn hx rfl hfs h1 hs (by simp; omega) ((setCells_one hf).trans hcs)) r
end
end Go.Proofs.YtmfdlkodmhhpiaaDoor
