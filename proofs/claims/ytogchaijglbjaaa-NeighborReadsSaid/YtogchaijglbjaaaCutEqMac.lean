/-
  '==' on arrays of bytes and on addresses: as the cells are.
-/
import Derived.Test.YtogchaijglbjaaaRows
import Derived.WalkKit
import Derived.ChangeKeysEq
import Derived.Laws.StructEq
namespace Go.Proofs.Ytogchaijglbjaaa
open Go.RowKit
theorem eq_ints_list {P : Program} {k : IntKind} {e : TypeId} (hu : P.underlying e = some (.int k)) (d : Nat) (w : World) (xs ys : List Int) : ∀ is : List Nat, (∀ i ∈ is, i < xs.length ∧ i < ys.length) →
    (Op.eqItems (d + 1) e 1 (xs.map (Value.int k)).toArray (ys.map (Value.int k)).toArray is).run P w = .ok (is.all fun i => xs.getD i 0 == ys.getD i 0) w
  | [], _ => by simp [Op.eqItems]
  | i :: is, h => by
    have ih := eq_ints_list hu d w xs ys is fun j hj => h j (List.mem_cons_of_mem _ hj)
    obtain ⟨h1, h2⟩ := h i List.mem_cons_self
    have hp : P.plainKey e = true := by simp [Program.plainKey, hu]
    have p1 := run_part_plain (P := P) w hp (xs := (xs.map (Value.int k)).toArray) (off := i * 1) (v := .int k (xs.getD i 0)) (by simp [h1])
    have p2 := run_part_plain (P := P) w hp (xs := (ys.map (Value.int k)).toArray) (off := i * 1) (v := .int k (ys.getD i 0)) (by simp [h2])
    simp only [Op.eqItems, Sem.run_bind, p1, p2, run_equalIn_int w d e k k _ _ hu, Result.andThen_ok, List.all_cons]
    cases hb : (xs.getD i 0 == ys.getD i 0)
    · simp
    · simpa using ih
theorem all_range (xs ys : List Int) (n : Nat) (hx : xs.length = n) (hy : ys.length = n) : ((List.range n).all fun i => xs.getD i 0 == ys.getD i 0) = (xs == ys) := by
  rw [Bool.eq_iff_iff]
  simp only [List.all_eq_true, List.mem_range, beq_iff_eq]
  constructor
  · intro h
    refine List.ext_getElem (by omega) fun i h1 h2 => ?_
    have := h i (by omega)
    simpa [h1, h2] using this
  · rintro rfl i _; rfl
theorem eq_array {P : Program} {k : IntKind} {t e : TypeId} {n : Nat} (ht : P.underlying t = some (.array n e)) (he : P.underlying e = some (.int k)) (hi : (P.info? e).isSome = true) (hc : P.cellsOf e = 1) (w : World) (xs ys : List Int) (hx : xs.length = n) (hy : ys.length = n) :
    (Op.equalIn 10000 t (.agg (xs.map (Value.int k)).toArray) (.agg (ys.map (Value.int k)).toArray)).run P w = .ok (xs == ys) w := by
  obtain ⟨i, hi⟩ := Option.isSome_iff_exists.1 hi
  rw [run_equalIn_array w 9999 _ _ ht hi, hc, eq_ints_list he 9998 w xs ys _ (by intro i hi; simp at hi; omega), all_range xs ys n hx hy]
theorem eq_mac (w : World) (a b c d e f a' b' c' d' e' f' : Int) : (Op.equalIn 10000 26 (.agg #[.int .u8 a, .int .u8 b, .int .u8 c, .int .u8 d, .int .u8 e, .int .u8 f]) (.agg #[.int .u8 a', .int .u8 b', .int .u8 c', .int .u8 d', .int .u8 e', .int .u8 f'])).run Try.prog w = .ok ([a, b, c, d, e, f] == [a', b', c', d', e', f']) w :=
  eq_array Try.underlying26 Try.underlying5 (by kernel_rfl) (by kernel_rfl) w [a, b, c, d, e, f] [a', b', c', d', e', f'] rfl rfl
end Go.Proofs.Ytogchaijglbjaaa
