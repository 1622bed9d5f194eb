/-
  Layer 1: the bytes of an address, and back (both the program's).
-/
import Derived.Test.YtmbmodeiikhnkaaDoorNum1
import Derived.Test.YtmbmodeiikhnkaaDoorBytes46
import Derived.Test.YtmbmodeiikhnkaaDoorBytes6
import Derived.Test.YtmbmodeiikhnkaaDoorStr2
import Derived.Test.YtmbmodeiikhnkaaDoorG07
import Derived.Test.YtmbmodeiikhnkaaDoorG08
import Derived.Test.YtmbmodeiikhnkaaDoorG06
namespace Go.Proofs.YtmbmodeiikhnkaaDoor
open Go.RowKit
theorem afrom_lend (B : List Int) (hB : Bytes B) {v : Bool} {hi lo : Int} (h : fromZ B = (v, hi, lo)) (he : fromE B = 0) (m : Nat) (hm : m = B.length) : Spec Tryd.prog 20 [.own 0 0 m] [(0, some (0, .row 5 1 (ints .u8 B)))] (.tuple [.agg [.val (.bool v), .val (.int .u64 hi), .val (.int .u64 lo)], .val (.int .i64 0)]) [(0, some (0, .row 5 1 (ints .u8 B)))] := by
  have rf := from_spec B hB
  rw [h, he] at rf
  dsimp only at rf
  subst hm
  rw [← length_ints .u8 B]
  refine spec_lendT (args := [.ro (ints .u8 B)]) (timeless_tuple fun x hx => ?_) rfl (fun i y hi => ?_) rf
  · simp only [List.mem_cons, List.not_mem_nil, or_false] at hx
    rcases hx with rfl | rfl
    · exact timeless_agg fun y hy => by
        simp only [List.mem_cons, List.not_mem_nil, or_false] at hy
        rcases hy with rfl | rfl | rfl <;> exact timeless_val _
    · exact timeless_val _
  · match i, hi with
    | 0, hi => cases hi; exact ⟨_, rfl, .one (.own _ rfl)⟩
theorem bytes_back {v : Bool} {hi lo : Int} (ao : AOk v hi lo) : ∃ B : List Int, B.length ≤ 16 ∧ Spec Tryd.prog 14 [.agg [.val (.bool v), .val (.int .u64 hi), .val (.int .u64 lo)]] [] (.own 1000 0 B.length) [(1000, some (0, .row 5 1 (ints .u8 B)))] ∧
    Spec Tryd.prog 20 [.own 0 0 B.length] [(0, some (0, .row 5 1 (ints .u8 B)))] (.tuple [.agg [.val (.bool v), .val (.int .u64 hi), .val (.int .u64 lo)], .val (.int .i64 0)]) [(0, some (0, .row 5 1 (ints .u8 B)))] := by
  obtain ⟨h0, h1, g0, g1, h4⟩ := ao
  cases v with
  | true =>
    have hl : (a16 hi lo).length = 16 := by simp [a16]
    refine ⟨a16 hi lo, by omega, by rw [hl]; exact abytes_v6 hi lo, afrom_lend _ ?_ ?_ ?_ _ rfl⟩
    · intro z hz
      simp only [a16, by8, List.mem_append, List.mem_map] at hz
      rcases hz with ⟨j, -, rfl⟩ | ⟨j, -, rfl⟩ <;> exact ⟨Int.emod_nonneg _ (by decide), Int.emod_lt_of_pos _ (by decide)⟩
    · unfold fromZ
      rw [if_neg (by omega), if_pos hl]
      have e1 : (a16 hi lo).take 8 = by8 hi 0 := by unfold a16; rw [List.take_append_of_le_length (by simp)]; exact List.take_of_length_le (by simp)
      have e2 : (a16 hi lo).drop 8 = by8 lo 0 := by unfold a16; exact List.drop_left' (by simp)
      rw [e1, e2, numZ_by8, numZ_by8, Int.emod_eq_of_lt h0 h1, Int.emod_eq_of_lt g0 g1]
    · unfold fromE
      rw [if_pos (.inr hl)]
  | false =>
    obtain ⟨hz, hl⟩ := h4 rfl
    subst hz
    have hl4 : (by4 lo 0).length = 4 := by simp [by4]
    refine ⟨by4 lo 0, by omega, by rw [hl4]; exact abytes_v4 lo (by omega), afrom_lend _ ?_ ?_ ?_ _ rfl⟩
    · intro z hz
      simp only [by4, List.mem_map] at hz
      obtain ⟨j, -, rfl⟩ := hz
      exact ⟨Int.emod_nonneg _ (by decide), Int.emod_lt_of_pos _ (by decide)⟩
    · unfold fromZ
      rw [if_pos hl4, numZ_by4, Int.emod_eq_of_lt g0 hl]
    · unfold fromE
      rw [if_pos (.inl hl4)]
end Go.Proofs.YtmbmodeiikhnkaaDoor
namespace Go.Proofs.YtmbmodeiikhnkaaDoor
open Go.RowKit
def eqQ (v : Bool) (hi lo : Int) (v' : Bool) (hi' lo' : Int) : Bool := v == v' && (hi == hi' && lo == lo')
section
variable {k : Nat} {st : St} {o : Oper}
theorem opok_eqQd {yt : TypeId} {x y : Operand} {v1 v2 : Bool} {h1 l1 h2 l2 : Int} (ho : o.op = .binOp .eql 24 x y yt) (hx : st.aop x = .agg [.val (.bool v1), .val (.int .u64 h1), .val (.int .u64 l1)]) (hy : st.aop y = .agg [.val (.bool v2), .val (.int .u64 h2), .val (.int .u64 l2)]) :
    OpOk Tryd.prog k st o ⟨.val (.bool (eqQ v1 h1 l1 v2 h2 l2)), [], [], []⟩ :=
  opok_binA ho hx (.cons (.cons (.cons .nil))) hy (.cons (.cons (.cons .nil))) fun w => by
    unfold eqQ
    go_simp
    by_cases c1 : v1 = v2 <;> by_cases c2 : h1 = h2 <;> by_cases c3 : l1 = l2 <;> simp_all
theorem opok_neQd {yt : TypeId} {x y : Operand} {v1 v2 : Bool} {h1 l1 h2 l2 : Int} (ho : o.op = .binOp .neq 24 x y yt) (hx : st.aop x = .agg [.val (.bool v1), .val (.int .u64 h1), .val (.int .u64 l1)]) (hy : st.aop y = .agg [.val (.bool v2), .val (.int .u64 h2), .val (.int .u64 l2)]) :
    OpOk Tryd.prog k st o ⟨.val (.bool (!eqQ v1 h1 l1 v2 h2 l2)), [], [], []⟩ :=
  opok_binA ho hx (.cons (.cons (.cons .nil))) hy (.cons (.cons (.cons .nil))) fun w => by
    unfold eqQ
    go_simp
    by_cases c1 : v1 = v2 <;> by_cases c2 : h1 = h2 <;> by_cases c3 : l1 = l2 <;> simp_all
theorem opok_eqQh {yt : TypeId} {x y : Operand} {v1 v2 : Bool} {h1 l1 h2 l2 : Int} {b : Bool} (ho : o.op = .binOp .eql 24 x y yt) (hx : st.aop x = .agg [.val (.bool v1), .val (.int .u64 h1), .val (.int .u64 l1)]) (hy : st.aop y = .agg [.val (.bool v2), .val (.int .u64 h2), .val (.int .u64 l2)]) (he : eqQ v1 h1 l1 v2 h2 l2 = b) :
    OpOk Tryd.prog k st o ⟨.val (.bool b), [], [], []⟩ := he ▸ opok_eqQd ho hx hy
theorem opok_neQh {yt : TypeId} {x y : Operand} {v1 v2 : Bool} {h1 l1 h2 l2 : Int} {b : Bool} (ho : o.op = .binOp .neq 24 x y yt) (hx : st.aop x = .agg [.val (.bool v1), .val (.int .u64 h1), .val (.int .u64 l1)]) (hy : st.aop y = .agg [.val (.bool v2), .val (.int .u64 h2), .val (.int .u64 l2)]) (he : (!eqQ v1 h1 l1 v2 h2 l2) = b) :
    OpOk Tryd.prog k st o ⟨.val (.bool b), [], [], []⟩ := he ▸ opok_neQd ho hx hy
end
theorem eqQ_self (v : Bool) (hi lo : Int) : eqQ v hi lo v hi lo = true := by with_unfolding_all simp [eqQ]
theorem neQ_self (v : Bool) (hi lo : Int) : (!eqQ v hi lo v hi lo) = false := by rw [eqQ_self]; rfl
end Go.Proofs.YtmbmodeiikhnkaaDoor
