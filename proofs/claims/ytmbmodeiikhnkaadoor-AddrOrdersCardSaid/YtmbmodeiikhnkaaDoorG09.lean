/-
  Layer 1: the mathematics of the order of addresses. No walk.
-/
import Derived.Test.YtmbmodeiikhnkaaDoorAd1b
import Derived.Test.YtmbmodeiikhnkaaDoorRef6a
namespace Go.Proofs.YtmbmodeiikhnkaaDoor
open Go.RowKit
def ltA (v : Bool) (hi lo : Int) (v' : Bool) (hi' lo' : Int) : Prop := v = false ∧ v' = true ∨ v = v' ∧ (hi < hi' ∨ hi = hi' ∧ lo < lo')
/-- One number that says where an address stands. -/
def keyA (v : Bool) (hi lo : Int) : Int := (if v = true then 340282366920938463463374607431768211456 else 0) + hi * 18446744073709551616 + lo
theorem cmpZ_cases (x y : Int) : cmpZ x y = -1 ∧ x < y ∨ cmpZ x y = 0 ∧ x = y ∨ cmpZ x y = 1 ∧ y < x := by
  unfold cmpZ
  by_cases h1 : x < y
  · exact .inl ⟨by simp [h1], h1⟩
  · by_cases h2 : y < x
    · exact .inr (.inr ⟨by simp [h1, h2], h2⟩)
    · exact .inr (.inl ⟨by simp [h1, h2], by omega⟩)
theorem cmpA_cases (v : Bool) (hi lo : Int) (v' : Bool) (hi' lo' : Int) :
    cmpA v hi lo v' hi' lo' = -1 ∧ ltA v hi lo v' hi' lo' ∨ cmpA v hi lo v' hi' lo' = 0 ∧ v = v' ∧ hi = hi' ∧ lo = lo' ∨ cmpA v hi lo v' hi' lo' = 1 ∧ ltA v' hi' lo' v hi lo := by
  unfold cmpA ltA orZ
  rcases cmpZ_cases hi hi' with ⟨e, h⟩ | ⟨e, h⟩ | ⟨e, h⟩ <;> rcases cmpZ_cases lo lo' with ⟨e', h'⟩ | ⟨e', h'⟩ | ⟨e', h'⟩ <;> rw [e, e'] <;> cases v <;> cases v' <;> simp <;> omega
/-- The next address is there and greater by one, or there is none. -/
theorem nextA_cases {v : Bool} {hi lo : Int} (h : AOk v hi lo) :
    nextA v hi lo = (false, 0, 0, false) ∧ (v = true ∧ hi = 18446744073709551615 ∧ lo = 18446744073709551615 ∨ v = false ∧ lo = 4294967295) ∨
    ∃ hi' lo', nextA v hi lo = (v, hi', lo', true) ∧ AOk v hi' lo' ∧ hi' * 18446744073709551616 + lo' = hi * 18446744073709551616 + lo + 1 := by
  obtain ⟨h0, h1, h2, h3, h4⟩ := h
  unfold nextA
  cases v with
  | true =>
    by_cases c1 : lo = 18446744073709551615
    · have e1 : IntKind.u64.wrap (lo + 1) = 0 := by rw [IntKind.wrap_u64]; omega
      by_cases c2 : hi = 18446744073709551615
      · have e2 : IntKind.u64.wrap (hi + 1) = 0 := by rw [IntKind.wrap_u64]; omega
        exact .inl ⟨by rw [e1, e2]; rfl, .inl ⟨rfl, c2, c1⟩⟩
      · have e2 : IntKind.u64.wrap (hi + 1) = hi + 1 := by rw [IntKind.wrap_u64]; omega
        have e3 : (hi + 1 == 0) = false := by simp; omega
        exact .inr ⟨hi + 1, 0, by rw [e1, e2, e3]; rfl, ⟨by omega, by omega, by omega, by omega, fun h => by cases h⟩, by omega⟩
    · have e1 : IntKind.u64.wrap (lo + 1) = lo + 1 := by rw [IntKind.wrap_u64]; omega
      have e3 : (lo + 1 == 0) = false := by simp; omega
      exact .inr ⟨hi, lo + 1, by rw [e1, e3]; rfl, ⟨by omega, by omega, by omega, by omega, fun h => by cases h⟩, by omega⟩
  | false =>
    obtain ⟨h5, h6⟩ := h4 rfl
    by_cases c1 : lo ≥ 4294967295
    · exact .inl ⟨by simp [c1], .inr ⟨rfl, by omega⟩⟩
    · refine .inr ⟨0, lo + 1, by simp [c1], ⟨by omega, by omega, by omega, by omega, fun _ => ⟨rfl, by omega⟩⟩, by omega⟩
theorem numZ_cons (a : Int) (xs : List Int) : numZ (a :: xs) = a * 256 ^ xs.length + numZ xs := by
  unfold numZ
  rw [List.foldl_cons, Int.zero_mul, Int.zero_add]
  exact numF_add xs a
theorem byte_toNat {a : Int} (h : 0 ≤ a ∧ a < 256) : (UInt8.ofNat a.toNat).toNat = a.toNat := by
  rw [UInt8.toNat_ofNat']; omega
theorem lexI (a b p x y : Int) (hx : 0 ≤ x ∧ x < p) (hy : 0 ≤ y ∧ y < p) : (decide (a < b) || decide (a = b) && decide (x < y)) = decide (a * p + x < b * p + y) := by
  rcases Int.lt_trichotomy a b with h | h | h
  · have h1 : (a + 1) * p ≤ b * p := Int.mul_le_mul_of_nonneg_right (by omega) (by omega)
    rw [Int.add_mul, Int.one_mul] at h1
    rw [decide_eq_true h, decide_eq_true (show a * p + x < b * p + y by omega), Bool.true_or]
  · subst h
    rw [decide_eq_false (show ¬ a < a by omega), decide_eq_true rfl, Bool.false_or, Bool.true_and, decide_eq_decide]
    omega
  · have h1 : (b + 1) * p ≤ a * p := Int.mul_le_mul_of_nonneg_right (by omega) (by omega)
    rw [Int.add_mul, Int.one_mul] at h1
    rw [decide_eq_false (show ¬ a < b by omega), decide_eq_false (show ¬ a = b by omega), decide_eq_false (show ¬ a * p + x < b * p + y by omega)]
    rfl
theorem bytesLess_num (xs : List Int) : ∀ ys : List Int, Bytes xs → Bytes ys → xs.length = ys.length → Op.bytesLess (xs.map fun n => UInt8.ofNat n.toNat) (ys.map fun n => UInt8.ofNat n.toNat) = decide (numZ xs < numZ ys) := by
  induction xs with
  | nil =>
    intro ys _ _ hl
    cases ys with
    | nil => rfl
    | cons b ys => simp at hl
  | cons a xs ih =>
    intro ys hx hy hl
    cases ys with
    | nil => simp at hl
    | cons b ys =>
      have hl' : xs.length = ys.length := by simpa using hl
      have hx' : Bytes xs := fun z hz => hx z (List.mem_cons_of_mem _ hz)
      have hy' : Bytes ys := fun z hz => hy z (List.mem_cons_of_mem _ hz)
      have ha := hx a List.mem_cons_self
      have hb := hy b List.mem_cons_self
      have b1 := numZ_bd xs hx'
      have b2 := numZ_bd ys hy'
      rw [numZ_cons, numZ_cons, List.map_cons, List.map_cons, Op.bytesLess, ih ys hx' hy' hl', ← hl']
      rw [← hl'] at b2
      generalize (256 : Int) ^ xs.length = p at *
      have e1 : (UInt8.ofNat a.toNat < UInt8.ofNat b.toNat) ↔ a < b := by rw [UInt8.lt_iff_toNat_lt, byte_toNat ha, byte_toNat hb]; omega
      have e2 : (UInt8.ofNat a.toNat == UInt8.ofNat b.toNat) = decide (a = b) := by
        rw [Bool.eq_iff_iff, beq_iff_eq, decide_eq_true_iff]
        constructor
        · intro h
          have := congrArg UInt8.toNat h
          rw [byte_toNat ha, byte_toNat hb] at this
          omega
        · rintro rfl; rfl
      rw [e2, decide_eq_decide.2 e1]
      exact lexI a b p _ _ b1 b2
theorem bytes_by8 (n : Int) (m : Nat) : Bytes (by8 n m) := fun z hz => by
  obtain ⟨j, _, rfl⟩ := List.mem_map.1 hz
  omega
theorem bytes_by4 (n : Int) (m : Nat) : Bytes (by4 n m) := fun z hz => by
  obtain ⟨j, _, rfl⟩ := List.mem_map.1 hz
  omega
theorem less_a16 {hi lo hi' lo' : Int} (h : AOk true hi lo) (h' : AOk true hi' lo') : Op.bytesLess ((a16 hi lo).map fun n => UInt8.ofNat n.toNat) ((a16 hi' lo').map fun n => UInt8.ofNat n.toNat) = decide (keyA true hi lo < keyA true hi' lo') := by
  obtain ⟨h0, h1, h2, h3, -⟩ := h
  obtain ⟨g0, g1, g2, g3, -⟩ := h'
  have hB : ∀ a b : Int, Bytes (a16 a b) := fun a b z hz => by
    rcases List.mem_append.1 hz with hz | hz
    · exact bytes_by8 _ _ z hz
    · exact bytes_by8 _ _ z hz
  have hN : ∀ a b : Int, 0 ≤ a → a < 18446744073709551616 → 0 ≤ b → b < 18446744073709551616 → numZ (a16 a b) = a * 18446744073709551616 + b := fun a b a0 a1 b0 b1 => by
    unfold a16
    rw [numZ_app, numZ_by8, numZ_by8, show (by8 b 0).length = 8 by simp [by8]]
    rw [Int.emod_eq_of_lt a0 a1, Int.emod_eq_of_lt b0 b1]
    rfl
  rw [bytesLess_num _ _ (hB _ _) (hB _ _) (by simp [a16, by8]), hN _ _ (by omega) (by omega) (by omega) (by omega), hN _ _ (by omega) (by omega) (by omega) (by omega), decide_eq_decide]
  unfold keyA
  simp
  omega
theorem less_by4 {hi lo hi' lo' : Int} (h : AOk false hi lo) (h' : AOk false hi' lo') : Op.bytesLess ((by4 lo 0).map fun n => UInt8.ofNat n.toNat) ((by4 lo' 0).map fun n => UInt8.ofNat n.toNat) = decide (keyA false hi lo < keyA false hi' lo') := by
  obtain ⟨h0, h1, h2, h3, h4⟩ := h
  obtain ⟨g0, g1, g2, g3, g4⟩ := h'
  have := h4 rfl
  have := g4 rfl
  rw [bytesLess_num _ _ (bytes_by4 _ _) (bytes_by4 _ _) (by simp [by4]), numZ_by4, numZ_by4, Int.emod_eq_of_lt (by omega) (by omega), Int.emod_eq_of_lt (by omega) (by omega), decide_eq_decide]
  unfold keyA
  simp
  omega
theorem ltA_key {v : Bool} {hi lo : Int} {v' : Bool} {hi' lo' : Int} (h : AOk v hi lo) (h' : AOk v' hi' lo') : ltA v hi lo v' hi' lo' ↔ keyA v hi lo < keyA v' hi' lo' := by
  obtain ⟨h0, h1, h2, h3, h4⟩ := h
  obtain ⟨g0, g1, g2, g3, g4⟩ := h'
  unfold ltA keyA
  cases v <;> cases v' <;> simp <;> omega
theorem eqA_key {v : Bool} {hi lo : Int} {v' : Bool} {hi' lo' : Int} (h : AOk v hi lo) (h' : AOk v' hi' lo') : (v = v' ∧ hi = hi' ∧ lo = lo') ↔ keyA v hi lo = keyA v' hi' lo' := by
  obtain ⟨h0, h1, h2, h3, h4⟩ := h
  obtain ⟨g0, g1, g2, g3, g4⟩ := h'
  unfold keyA
  cases v <;> cases v' <;> simp <;> omega
/-- The comparison by that number. -/
theorem cmpA_key {v : Bool} {hi lo : Int} {v' : Bool} {hi' lo' : Int} (h : AOk v hi lo) (h' : AOk v' hi' lo') :
    cmpA v hi lo v' hi' lo' = -1 ∧ keyA v hi lo < keyA v' hi' lo' ∨ cmpA v hi lo v' hi' lo' = 0 ∧ keyA v hi lo = keyA v' hi' lo' ∨ cmpA v hi lo v' hi' lo' = 1 ∧ keyA v' hi' lo' < keyA v hi lo := by
  rcases cmpA_cases v hi lo v' hi' lo' with ⟨e, g⟩ | ⟨e, g⟩ | ⟨e, g⟩
  · exact .inl ⟨e, (ltA_key h h').1 g⟩
  · exact .inr (.inl ⟨e, (eqA_key h h').1 g⟩)
  · exact .inr (.inr ⟨e, (ltA_key h' h).1 g⟩)
theorem keyA_four {hi lo : Int} (h : AOk false hi lo) : 0 ≤ keyA false hi lo ∧ keyA false hi lo ≤ 4294967295 := by
  obtain ⟨h0, h1, h2, h3, h4⟩ := h
  have := h4 rfl
  unfold keyA
  simp
  omega
theorem keyA_six {hi lo : Int} (h : AOk true hi lo) : 340282366920938463463374607431768211456 ≤ keyA true hi lo ∧ keyA true hi lo ≤ 680564733841876926926749214863536422911 := by
  obtain ⟨h0, h1, h2, h3, h4⟩ := h
  unfold keyA
  simp
  omega
end Go.Proofs.YtmbmodeiikhnkaaDoor
namespace Go.Proofs.YtmbmodeiikhnkaaDoor
open Go.RowKit
def eqA (v : Bool) (hi lo : Int) (v' : Bool) (hi' lo' : Int) : Bool := v == v' && (hi == hi' && lo == lo')
theorem eqA_dec {v : Bool} {hi lo : Int} {v' : Bool} {hi' lo' : Int} (h : AOk v hi lo) (h' : AOk v' hi' lo') : eqA v hi lo v' hi' lo' = decide (keyA v hi lo = keyA v' hi' lo') := by
  have g := eqA_key h h'
  rw [Bool.eq_iff_iff, decide_eq_true_iff, ← g]
  unfold eqA
  simp
section
variable {k : Nat} {st : St} {o : Oper}
theorem opok_eqAd {yt : TypeId} {x y : Operand} {v1 v2 : Bool} {h1 l1 h2 l2 : Int} (ho : o.op = .binOp .eql 24 x y yt) (hx : st.aop x = .agg [.val (.bool v1), .val (.int .u64 h1), .val (.int .u64 l1)]) (hy : st.aop y = .agg [.val (.bool v2), .val (.int .u64 h2), .val (.int .u64 l2)]) :
    OpOk Tryd.prog k st o ⟨.val (.bool (eqA v1 h1 l1 v2 h2 l2)), [], [], []⟩ :=
  opok_binA ho hx (.cons (.cons (.cons .nil))) hy (.cons (.cons (.cons .nil))) fun w => by
    unfold eqA
    go_simp
    by_cases c1 : v1 = v2 <;> by_cases c2 : h1 = h2 <;> by_cases c3 : l1 = l2 <;> simp_all
theorem opok_neAd {yt : TypeId} {x y : Operand} {v1 v2 : Bool} {h1 l1 h2 l2 : Int} (ho : o.op = .binOp .neq 24 x y yt) (hx : st.aop x = .agg [.val (.bool v1), .val (.int .u64 h1), .val (.int .u64 l1)]) (hy : st.aop y = .agg [.val (.bool v2), .val (.int .u64 h2), .val (.int .u64 l2)]) :
    OpOk Tryd.prog k st o ⟨.val (.bool (!eqA v1 h1 l1 v2 h2 l2)), [], [], []⟩ :=
  opok_binA ho hx (.cons (.cons (.cons .nil))) hy (.cons (.cons (.cons .nil))) fun w => by
    unfold eqA
    go_simp
    by_cases c1 : v1 = v2 <;> by_cases c2 : h1 = h2 <;> by_cases c3 : l1 = l2 <;> simp_all
end
end Go.Proofs.YtmbmodeiikhnkaaDoor
