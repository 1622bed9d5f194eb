/-
  A slice that begins within an array that nobody writes; its bytes as a text. No program is named here.
-/
import Derived.Test.YtboddbheljenhaaDoorAbsZ
import Derived.Test.YtboddbheljenhaaDoorAbsMk
import Derived.Test.YtboddbheljenhaaDoorMkVals
namespace Go.Proofs.YtboddbheljenhaaDoor
open Go.RowKit
theorem strOf_bints (l : List UInt8) : Value.string (strOfNums (bints l)) = bstr l := by
  unfold strOfNums bstr bints
  simp only [List.map_map]
  have : (l.map ((fun n : Int => UInt8.ofNat n.toNat) ∘ fun b : UInt8 => (b.toNat : Int))) = l := by
    conv => rhs; rw [← List.map_id l]
    refine List.map_congr_left fun b _ => ?_
    simp
  rw [this]
section
variable {P : Program} {k : Nat} {st : St} {o : Oper}
theorem opok_arrRoF {t e : TypeId} {n : Nat} {x y : Operand} {kd : IntKind} {lo : Nat} {cs : List AVal} (ho : o.op = .slice t x (some y) none none) (hx : st.aop x = .rref cs) (hy : st.aop y = .val (.int kd lo)) (hu : P.underlying t = some (.array n e)) (hs : sizeIs P e 1) (hn : cs.length = n) (hf : (cs.drop lo).flatMap AVal.flat = cs.drop lo) (hh : lo < n) : OpOk P k st o ⟨.ro (cs.drop lo), [], [], []⟩ :=
  opok_quiet fun ψ prot obj w ρ _ hr _ => by
    have e1 := hx ▸ hr x (by simp [ho, Op.operands])
    have e2 := (hy ▸ hr y (by simp [ho, Op.operands]) : VRel ψ prot w (.val (.int kd lo)) (ρ y)).val_eq
    obtain ⟨vs, b, off, hpv, hpr, ⟨hl, hv⟩, hcc⟩ := e1.rref_inv
    subst hn
    have hlt : (cs.drop lo).length = cs.length - lo := by rw [List.length_drop]
    have hle := Nat.le_of_lt hh
    have hne : ¬ cs.length = lo := by omega
    refine ⟨.slice (some ⟨b, off + lo, none⟩) (cs.drop lo).length (cs.length - lo), ?_, .ro (cs.drop lo) (vs.drop lo) b (off + lo) (cs.length - lo) (by rw [hlt]; exact Nat.le_refl _) hpr (by rw [hf, List.length_drop, List.length_drop, hl]) (fun i v h => ?_) (fun i x v h1 h2 => ?_)⟩
    · have ea : (⟨b, off, none⟩ : Addr).add lo = ⟨b, off + lo, none⟩ := by simp [Addr.add]
      rw [hlt]
      simp [execOp, ho, hpv, e2, Instr.sliceAt, Instr.sliceBounds, Instr.sureAddr, run_underlying hu, run_sizeIs hs, ea, go_sem, asIntOf, hle, hne]
    · rw [List.getElem?_drop] at h
      have := hcc (lo + i) v h
      rw [Nat.add_assoc]; exact this
    · rw [hf, List.getElem?_drop] at h1
      rw [List.getElem?_drop] at h2
      exact hv _ x v h1 h2
theorem drop_ints (k : IntKind) (xs : List Int) (n : Nat) : (ints k xs).drop n = ints k (xs.drop n) := by simp [ints, List.map_drop]
theorem opok_arrRoI {t e : TypeId} {n : Nat} {x y : Operand} {kd ke : IntKind} {lo : Nat} {xs ys : List Int} (ho : o.op = .slice t x (some y) none none) (hx : st.aop x = .rref (ints ke xs)) (hy : st.aop y = .val (.int kd lo)) (hu : P.underlying t = some (.array n e)) (hs : sizeIs P e 1) (hn : xs.length = n) (hh : lo < n) (hys : xs.drop lo = ys) : OpOk P k st o ⟨.ro (ints ke ys), [], [], []⟩ := by
  have h := opok_arrRoF (k := k) ho hx hy hu hs (by rw [length_ints, hn]) (by rw [drop_ints, flat_ints]) hh
  rw [drop_ints, hys] at h
  exact h
end
end Go.Proofs.YtboddbheljenhaaDoor
namespace Go.Proofs.YtboddbheljenhaaDoor
open Go.RowKit
def eqQ (v : Bool) (hi lo : Int) (v' : Bool) (hi' lo' : Int) : Bool := v == v' && (hi == hi' && lo == lo')
def eqP (v : Bool) (hi lo n : Int) (v' : Bool) (hi' lo' n' : Int) : Bool := eqQ v hi lo v' hi' lo' && n == n'
section
variable {k : Nat} {st : St} {o : Oper}
theorem opok_eqQd {yt : TypeId} {x y : Operand} {v1 v2 : Bool} {h1 l1 h2 l2 : Int} (ho : o.op = .binOp .eql 27 x y yt) (hx : st.aop x = .agg [.val (.bool v1), .val (.int .u64 h1), .val (.int .u64 l1)]) (hy : st.aop y = .agg [.val (.bool v2), .val (.int .u64 h2), .val (.int .u64 l2)]) :
    OpOk Tryd.prog k st o ⟨.val (.bool (eqQ v1 h1 l1 v2 h2 l2)), [], [], []⟩ :=
  opok_binA ho hx (.cons (.cons (.cons .nil))) hy (.cons (.cons (.cons .nil))) fun w => by
    unfold eqQ
    go_simp
    by_cases c1 : v1 = v2 <;> by_cases c2 : h1 = h2 <;> by_cases c3 : l1 = l2 <;> simp_all
theorem opok_neQd {yt : TypeId} {x y : Operand} {v1 v2 : Bool} {h1 l1 h2 l2 : Int} (ho : o.op = .binOp .neq 27 x y yt) (hx : st.aop x = .agg [.val (.bool v1), .val (.int .u64 h1), .val (.int .u64 l1)]) (hy : st.aop y = .agg [.val (.bool v2), .val (.int .u64 h2), .val (.int .u64 l2)]) :
    OpOk Tryd.prog k st o ⟨.val (.bool (!eqQ v1 h1 l1 v2 h2 l2)), [], [], []⟩ :=
  opok_binA ho hx (.cons (.cons (.cons .nil))) hy (.cons (.cons (.cons .nil))) fun w => by
    unfold eqQ
    go_simp
    by_cases c1 : v1 = v2 <;> by_cases c2 : h1 = h2 <;> by_cases c3 : l1 = l2 <;> simp_all
theorem opok_eqPd {yt : TypeId} {x y : Operand} {v1 v2 : Bool} {h1 l1 h2 l2 n1 n2 : Int} (ho : o.op = .binOp .eql 29 x y yt) (hx : st.aop x = .agg [.val (.bool v1), .val (.int .u64 h1), .val (.int .u64 l1), .val (.int .i64 n1)]) (hy : st.aop y = .agg [.val (.bool v2), .val (.int .u64 h2), .val (.int .u64 l2), .val (.int .i64 n2)]) :
    OpOk Tryd.prog k st o ⟨.val (.bool (eqP v1 h1 l1 n1 v2 h2 l2 n2)), [], [], []⟩ :=
  opok_binA ho hx (.cons (.cons (.cons (.cons .nil)))) hy (.cons (.cons (.cons (.cons .nil)))) fun w => by
    unfold eqP eqQ
    go_simp
    by_cases c1 : v1 = v2 <;> by_cases c2 : h1 = h2 <;> by_cases c3 : l1 = l2 <;> by_cases c4 : n1 = n2 <;> simp_all
theorem opok_nePd {yt : TypeId} {x y : Operand} {v1 v2 : Bool} {h1 l1 h2 l2 n1 n2 : Int} (ho : o.op = .binOp .neq 29 x y yt) (hx : st.aop x = .agg [.val (.bool v1), .val (.int .u64 h1), .val (.int .u64 l1), .val (.int .i64 n1)]) (hy : st.aop y = .agg [.val (.bool v2), .val (.int .u64 h2), .val (.int .u64 l2), .val (.int .i64 n2)]) :
    OpOk Tryd.prog k st o ⟨.val (.bool (!eqP v1 h1 l1 n1 v2 h2 l2 n2)), [], [], []⟩ :=
  opok_binA ho hx (.cons (.cons (.cons (.cons .nil)))) hy (.cons (.cons (.cons (.cons .nil)))) fun w => by
    unfold eqP eqQ
    go_simp
    by_cases c1 : v1 = v2 <;> by_cases c2 : h1 = h2 <;> by_cases c3 : l1 = l2 <;> by_cases c4 : n1 = n2 <;> simp_all
end
end Go.Proofs.YtboddbheljenhaaDoor
namespace Go.Proofs.YtboddbheljenhaaDoor
open Go.RowKit
def okA' (v : Bool) (hi lo : Int) : Bool := v || (decide (hi = 0) && decide (lo ≤ 4294967295))
set_option maxHeartbeats 1000000 in
theorem avalid4_any (hi lo : Int) (w : World) : Calls Tryd.prog 28 #[.agg #[.bool false, .int .u64 hi, .int .u64 lo]] w fun e w' => e = .returned (.bool (decide (hi = 0) && decide (lo ≤ 4294967295))) ∧ Below w.heap.size w w' := by
  have e3 : decide (lo < 4294967296) = decide (lo ≤ 4294967295) := by rw [decide_eq_decide]; omega
  by_cases h1 : hi = 0
  · have e1 : decide (hi = 0) = true := by simpa using h1
    have e2 : (hi == 0) = true := by simpa using h1
    rw [e1]
    go_enter Tryd.func28, Tryd.ntmps28
    go_wp2
    go_ret
    refine ⟨?_, (by repeat (with_reducible first | exact Below.refl _ _ | assumption | refine Below.drew ?_ | refine below_drewN ?_ _ | refine Below.alloc ?_ (by simp) _ | refine Below.setCell ?_ (by first | (simp; done) | omega | (simp; omega)) _ | refine Below.alloc ?_ (by simp; omega) _))⟩
    first | rfl | (rw [← e3]; rfl)
  · have e1 : decide (hi = 0) = false := by simpa using h1
    have e2 : (hi == 0) = false := by simpa using h1
    rw [e1]
    go_enter Tryd.func28, Tryd.ntmps28
    go_wp2
    go_ret
    refine ⟨?_, (by repeat (with_reducible first | exact Below.refl _ _ | assumption | refine Below.drew ?_ | refine below_drewN ?_ _ | refine Below.alloc ?_ (by simp) _ | refine Below.setCell ?_ (by first | (simp; done) | omega | (simp; omega)) _ | refine Below.alloc ?_ (by simp; omega) _))⟩
    first | rfl | (rw [← e3]; rfl)
theorem avalid_v4 (hi lo : Int) : Spec Tryd.prog 28 [.agg [.val (.bool false), .val (.int .u64 hi), .val (.int .u64 lo)]] [] (.val (.bool (decide (hi = 0) && decide (lo ≤ 4294967295)))) [] :=
  (spec_of_calls (vs := #[.agg #[.bool false, .int .u64 hi, .int .u64 lo]]) fun w => avalid4_any hi lo w).of (.agg (vs := [.bool false, .int .u64 hi, .int .u64 lo]) .nil)
set_option maxHeartbeats 1000000 in
theorem avalid6_any (hi lo : Int) (w : World) : Calls Tryd.prog 28 #[.agg #[.bool true, .int .u64 hi, .int .u64 lo]] w fun e w' => e = .returned (.bool true) ∧ Below w.heap.size w w' := by
  go_enter Tryd.func28, Tryd.ntmps28
  go_wp2
  go_ret
  exact ⟨rfl, (by repeat (with_reducible first | exact Below.refl _ _ | assumption | refine Below.drew ?_ | refine below_drewN ?_ _ | refine Below.alloc ?_ (by simp) _ | refine Below.setCell ?_ (by first | (simp; done) | omega | (simp; omega)) _ | refine Below.alloc ?_ (by simp; omega) _))⟩
theorem avalid_v6 (hi lo : Int) : Spec Tryd.prog 28 [.agg [.val (.bool true), .val (.int .u64 hi), .val (.int .u64 lo)]] [] (.val (.bool true)) [] :=
  (spec_of_calls (vs := #[.agg #[.bool true, .int .u64 hi, .int .u64 lo]]) fun w => avalid6_any hi lo w).of (.agg (vs := [.bool true, .int .u64 hi, .int .u64 lo]) .nil)
theorem avalid_spec (v : Bool) (hi lo : Int) : Spec Tryd.prog 28 [.agg [.val (.bool v), .val (.int .u64 hi), .val (.int .u64 lo)]] [] (.val (.bool (okA' v hi lo))) [] := by
  cases v with
  | true => exact avalid_v6 hi lo
  | false => exact avalid_v4 hi lo
end Go.Proofs.YtboddbheljenhaaDoor
