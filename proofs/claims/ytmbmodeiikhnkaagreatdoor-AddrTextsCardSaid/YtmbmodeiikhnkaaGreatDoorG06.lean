/-
  math/bits.TrailingZeros of 16.
-/
import Derived.Test.YtmbmodeiikhnkaaGreatDoorG05
import Derived.Test.YtmbmodeiikhnkaaGreatDoorShelfSeven7
namespace Go.Proofs.YtmbmodeiikhnkaaGreatDoor
open Go.RowKit Go.Sort
theorem vars_bruijn {prot : Nat → Prop} {w : World} (h : VarsOk prot w) : w.cell? ⟨8, 15, none⟩ = some (.int .u8 4) := by
  obtain ⟨-, cs, t, fr, h2, h3⟩ := h (8, fun cs => cs[15]? = some (.int .u8 4)) (by simp [varWants])
  simp only [World.cell?, h2]
  exact h3
theorem tz64_16 : Spec Tryz.prog 100 [.val (.int .u64 16)] [] (.val (.int .i64 4)) [] :=
  spec_belowV (timeless_val _) fun ψ prot w cargs hV hk hsz hargs => by
    obtain rfl := one_arg hsz hargs
    refine (Any7.tz64_core (ρ := Tryz.lays7_27_ren) { Tryz.lays7_27 with } 16 4 15 w rfl (by decide +kernel) (by omega) (by omega) (vars_bruijn hV)).mono ?_
    rintro e w' ⟨rfl, rfl⟩
    exact ⟨_, rfl, .val _, Below.refl _ _⟩
set_option maxHeartbeats 4000000 in
set_option maxRecDepth 100000 in
theorem tz_16 : Spec Tryz.prog 86 [.val (.int .u64 16)] [] (.val (.int .i64 4)) [] := by
  have s := tz64_16
  refine spec_of_awp Tryz.func86 rfl (Nat.le_of_ble_eq_true rfl) fun ini => ?_
  simp only [Tryz.ntmps86]
  (repeat (first | refine awp_reg_seq rfl fun k => ?_ | refine awp_seq ?_ | refine awp_false rfl ?_ | refine awp_skip (?_ : Awp _ _ _ _ _ _) | (refine awp_ret ?_; (apply ends_pure ?_ ?_ ?_ ?_ ?_ (.inl rfl); rotate_left 1; (· (exact res_one rfl rfl)); (· rfl); (· rfl); (· rfl); (· rfl))) | (apply runk_pure rfl rfl rfl ?_ ?_ ?_ ?_ ?_ ?_ ?_ ?_; rotate_left 6; (· (conv => (lhs; whnf))); (· exact Tryz.func100); (· rfl); (· rfl); (· exact (s)); (· (repeat (first | exact Rens.nil | (refine Rens.cons ?_ ?_; (· ((refine Ren.pureR ?_ rfl; (rfl)))))))); (· rfl)) | (apply runk0 rfl rfl (opok_move rfl ?_) ?_; rotate_left 1; (· (conv => (lhs; whnf)))) | (apply runk0 rfl rfl (opok_assign rfl ?_) ?_; rotate_left 1; (· (conv => (lhs; whnf)))) | refine runk_end (by kernel_rfl) ?_))
set_option maxHeartbeats 4000000 in
set_option maxRecDepth 100000 in
theorem pow2_16 : Spec Tryz.prog 85 [.val (.int .i64 16)] [] (.val (.bool true)) [] := by
  refine spec_of_awp Tryz.func85 rfl (Nat.le_of_ble_eq_true rfl) fun ini => ?_
  simp only [Tryz.ntmps85]
  (repeat (first | refine awp_reg_seq rfl fun k => ?_ | (refine awp_ret ?_; (apply ends_pure ?_ ?_ ?_ ?_ ?_ (.inl rfl); rotate_left 1; (· (exact res_one rfl rfl)); (· rfl); (· rfl); (· rfl); (· rfl))) | (apply runk0 rfl rfl (opok_move rfl ?_) ?_; rotate_left 1; (· (conv => (lhs; whnf)))) | (apply runk0 rfl rfl (opok_assign rfl ?_) ?_; rotate_left 1; (· (conv => (lhs; whnf)))) | (apply runk0 rfl rfl (opok_bin rfl ?_ ?_ ?_) ?_; rotate_left 3; (· (conv => (lhs; whnf))); (· (conv => (lhs; whnf))); (· (intro w; go_simp; rfl))) | refine runk_end (by kernel_rfl) ?_))
end Go.Proofs.YtmbmodeiikhnkaaGreatDoor
namespace Go.Proofs.YtmbmodeiikhnkaaGreatDoor
open Go.RowKit Go.Sort
theorem vrel_three {ψ : Ghost} {prot : Nat → Prop} {w : World} {x y z : AVal} {u v t : Value} (h1 : VRel ψ prot w x u) (h2 : VRel ψ prot w y v) (h3 : VRel ψ prot w z t) : VRel ψ prot w (.tuple [x, y, z]) (.tuple #[u, v, t]) :=
  .tuple _ _ rfl fun i z q e1 e2 => by
    match i, e1, e2 with
    | 0, e1, e2 => cases e1; cases e2; exact h1
    | 1, e1, e2 => cases e1; cases e2; exact h2
    | 2, e1, e2 => cases e1; cases e2; exact h3
    | _ + 3, e1, e2 => cases e1
theorem timeless_three {x y z : AVal} (h1 : Timeless x) (h2 : Timeless y) (h3 : Timeless z) : Timeless (.tuple [x, y, z]) := timeless_tuple fun v hv => by
  simp only [List.mem_cons, List.not_mem_nil, or_false] at hv
  rcases hv with rfl | rfl | rfl
  · exact h1
  · exact h2
  · exact h3
theorem two_vals {ψ : Ghost} {prot : Nat → Prop} {w : World} {cargs : Array Value} {x u : Value} (hsz : cargs.size = [AVal.val x, AVal.val u].length) (h : ∀ (i : Nat) (y : AVal) (v : Value), [AVal.val x, AVal.val u][i]? = some y → cargs[i]? = some v → VRel ψ prot w y v) : cargs = #[x, u] := by
  obtain ⟨v, rfl, hv⟩ := two_args hsz h
  rw [hv.val_eq]
theorem three_vals {ψ : Ghost} {prot : Nat → Prop} {w : World} {cargs : Array Value} {x y z : Value} (hsz : cargs.size = [AVal.val x, AVal.val y, AVal.val z].length) (h : ∀ (i : Nat) (a : AVal) (v : Value), [AVal.val x, AVal.val y, AVal.val z][i]? = some a → cargs[i]? = some v → VRel ψ prot w a v) : cargs = #[x, y, z] := by
  have hs : cargs.size = 3 := hsz
  have h0 := (h 0 (.val x) cargs[0] rfl (by simp [hs])).val_eq
  have h1 := (h 1 (.val y) cargs[1] rfl (by simp [hs])).val_eq
  have h2 := (h 2 (.val z) cargs[2] rfl (by simp [hs])).val_eq
  apply Array.ext
  · simpa using hs
  · intro i q1 q2
    have : i = 0 ∨ i = 1 ∨ i = 2 := by simp at q2; omega
    rcases this with rfl | rfl | rfl
    · simpa using h0
    · simpa using h1
    · simpa using h2
/-- Whether a byte stands in a text. -/
def hasB (l : List UInt8) (c : UInt8) : Bool := decide (0 ≤ Lib.indexByte l c)
theorem contains_spec (l : List UInt8) (c : UInt8) : Spec Tryz.prog 32 [.val (bstr l), .val (bstr [c])] [] (.val (.bool (hasB l c))) [] :=
  spec_belowV (timeless_val _) fun ψ prot w cargs hV hk hsz hargs => by
    obtain rfl := two_vals hsz hargs
    refine (Tryz.strings_Contains_one ⟨l.toArray⟩ c w).mono ?_
    rintro e w' ⟨rfl, rfl⟩
    exact ⟨_, rfl, .val _, Below.refl _ _⟩
theorem cut_spec (l sep : List UInt8) (hl : l.length < 4294967281) : Spec Tryz.prog 56 [.val (bstr l), .val (bstr sep)] [] (.tuple [.val (bstr (Lib.cut l sep).1), .val (bstr (Lib.cut l sep).2.1), .val (.bool (Lib.cut l sep).2.2)]) [] :=
  spec_belowV (timeless_three (timeless_val _) (timeless_val _) (timeless_val _)) fun ψ prot w cargs hV hk hsz hargs => by
    obtain rfl := two_vals hsz hargs
    obtain ⟨m, hm⟩ := vars_maxlen hV
    refine (Tryz.strings_Cut ⟨l.toArray⟩ ⟨sep.toArray⟩ m w hl hm).mono ?_
    rintro e w' ⟨rfl, n, rfl⟩
    exact ⟨_, rfl, vrel_three (.val _) (.val _) (.val _), ⟨rfl, rfl, rfl, Nat.le_refl _, fun _ _ => rfl⟩⟩
/-- What strconv.ParseUint(l, 10, 8) answers. -/
def pu8V (l : List UInt8) (t : TypeId) : AVal := match Lib.parseUintB 8 l with
  | .ok v => .tuple [.val (.int .u64 v), .val .nilIface]
  | .syntax => .tuple [.val (.int .u64 0), .ifc t]
  | .range => .tuple [.val (.int .u64 255), .ifc t]
theorem pu8_spec (l : List UInt8) (hl : l.length ≤ 281474976710656) : Spec Tryz.prog 55 [.val (bstr l), .val (.int .i64 10), .val (.int .i64 8)] [] (pu8V l 137) [] := by
  have hsz : (⟨l.toArray⟩ : ByteArray).size = l.length := rfl
  unfold pu8V
  cases h : Lib.parseUintB 8 l with
  | ok v =>
    exact spec_belowV (timeless_two (timeless_val _) (timeless_val _)) fun ψ prot w cargs hV hk hs hargs => by
      obtain rfl := three_vals hs hargs
      refine (Tryz.strconv_ParseUint_10_at8_ok ⟨l.toArray⟩ (by rw [hsz]; omega) v h w).mono ?_
      rintro e w' ⟨rfl, hw⟩
      refine ⟨_, rfl, vrel_two (.val _) (.val _), ?_⟩
      rcases hw with rfl | rfl
      · exact Below.refl _ _
      · exact Lib.bytesWorld_below w _ _
  | «syntax» =>
    exact spec_belowV (timeless_two (timeless_val _) (timeless_ifc _)) fun ψ prot w cargs hV hk hs hargs => by
      obtain rfl := three_vals hs hargs
      obtain ⟨tp, p, hv⟩ := vars_syntax hV
      refine (Tryz.strconv_ParseUint_10_at8_syntax_var ⟨l.toArray⟩ (by rw [hsz]; exact hl) h tp p w hv).mono ?_
      rintro e w' ⟨N, rfl, -, -, hb⟩
      exact ⟨_, rfl, vrel_two (.val _) (.ifc _ _), hb⟩
  | range =>
    exact spec_belowV (timeless_two (timeless_val _) (timeless_ifc _)) fun ψ prot w cargs hV hk hs hargs => by
      obtain rfl := three_vals hs hargs
      obtain ⟨tp, p, hv⟩ := vars_range hV
      refine (Tryz.strconv_ParseUint_10_at8_range_var ⟨l.toArray⟩ (by rw [hsz]; exact hl) h tp p w hv).mono ?_
      rintro e w' ⟨N, rfl, -, -, hb⟩
      exact ⟨_, rfl, vrel_two (.val _) (.ifc _ _), hb⟩
theorem small_spec (i : Nat) (h : i < 100) : Spec Tryz.prog 65 [.val (.int .i64 i)] [] (.val (bstr (Lib.decDigits i))) [] :=
  spec_belowV (timeless_val _) fun ψ prot w cargs hV hk hsz hargs => by
    obtain rfl := one_arg hsz hargs
    refine (Tryz.internal_strconv_small i h w).mono ?_
    rintro e w' ⟨rfl, rfl⟩
    exact ⟨_, rfl, .val _, Below.refl _ _⟩
end Go.Proofs.YtmbmodeiikhnkaaGreatDoor
namespace Go.Proofs.YtmbmodeiikhnkaaGreatDoor
open Go.RowKit
/-- A digit below 16, in small letters. -/
def hexDig (d : Nat) : UInt8 := if d < 10 then UInt8.ofNat (48 + d) else UInt8.ofNat (87 + d)
def hexL (u : Nat) : List UInt8 := if h : u < 16 then [hexDig u] else hexL (u / 16) ++ [hexDig (u % 16)]
termination_by u
decreasing_by omega
theorem hexL_small {u : Nat} (h : u < 16) : hexL u = [hexDig u] := by rw [hexL, dif_pos h]
theorem hexL_big {u : Nat} (h : ¬ u < 16) : hexL u = hexL (u / 16) ++ [hexDig (u % 16)] := by rw [hexL, dif_neg h]
theorem hexDig_toNat {d : Nat} (h : d < 16) : (hexDig d).toNat = if d < 10 then 48 + d else 87 + d := by
  unfold hexDig
  split
  · simp; omega
  · simp; omega
/-- What a byte is worth as a digit, in letters of either case. -/
def hexV (c : UInt8) : Option Nat :=
  if 48 ≤ c.toNat ∧ c.toNat ≤ 57 then some (c.toNat - 48)
  else if 97 ≤ c.toNat ∧ c.toNat ≤ 102 then some (c.toNat - 87)
  else if 65 ≤ c.toNat ∧ c.toNat ≤ 70 then some (c.toNat - 55)
  else none
theorem hexV_lt {c : UInt8} {d : Nat} (h : hexV c = some d) : d < 16 := by
  unfold hexV at h
  split at h
  · injection h with h; omega
  · split at h
    · injection h with h; omega
    · split at h
      · injection h with h; omega
      · cases h
theorem hexV_dig {d : Nat} (h : d < 16) : hexV (hexDig d) = some d := by
  have e := hexDig_toNat h
  unfold hexV
  by_cases h1 : d < 10
  · rw [if_pos h1] at e
    rw [if_pos (by omega), e]
    congr 1; omega
  · rw [if_neg h1] at e
    rw [if_neg (by omega), if_pos (by omega), e]
    congr 1; omega
/-- What digits spell behind a number; none if a byte is no digit. -/
def hexN : Nat → List UInt8 → Option Nat
  | acc, [] => some acc
  | acc, c :: r => match hexV c with
    | some d => hexN (acc * 16 + d) r
    | none => none
theorem hexN_append : ∀ (a b : List UInt8) (acc : Nat), hexN acc (a ++ b) = (hexN acc a).bind fun n => hexN n b
  | [], b, acc => rfl
  | c :: a, b, acc => by
    simp only [List.cons_append, hexN]
    cases hexV c with
    | none => rfl
    | some d => exact hexN_append a b _
theorem hexN_hexL (u : Nat) : hexN 0 (hexL u) = some u := by
  induction u using Nat.strongRecOn with
  | ind u ih =>
    by_cases h : u < 16
    · rw [hexL_small h]
      simp only [hexN, hexV_dig h]
      congr 1; omega
    · rw [hexL_big h, hexN_append, ih (u / 16) (by omega)]
      simp only [Option.bind_some, hexN, hexV_dig (show u % 16 < 16 by omega)]
      congr 1; omega
theorem hexN_lt : ∀ (l : List UInt8) (acc n : Nat), hexN acc l = some n → n < (acc + 1) * 16 ^ l.length
  | [], acc, n, h => by
    simp only [hexN] at h
    injection h with h
    simp; omega
  | c :: r, acc, n, h => by
    simp only [hexN] at h
    cases hc : hexV c with
    | none => rw [hc] at h; cases h
    | some d =>
      rw [hc] at h
      have h1 := hexV_lt hc
      have h2 := hexN_lt r _ n h
      refine Nat.lt_of_lt_of_le h2 ?_
      rw [List.length_cons, Nat.pow_succ]
      have h3 : acc * 16 + d + 1 ≤ (acc + 1) * 16 := by omega
      calc (acc * 16 + d + 1) * 16 ^ r.length ≤ ((acc + 1) * 16) * 16 ^ r.length := Nat.mul_le_mul_right _ h3
        _ = (acc + 1) * (16 ^ r.length * 16) := by rw [Nat.mul_assoc, Nat.mul_comm 16]
theorem hexL_len (k : Nat) : ∀ u, u < 16 ^ (k + 1) → (hexL u).length ≤ k + 1 := by
  induction k with
  | zero => intro u hu; rw [hexL_small (by simpa using hu)]; simp
  | succ k ih =>
    intro u hu
    by_cases h : u < 16
    · rw [hexL_small h]; simp
    · have := ih (u / 16) (by rw [Nat.pow_succ] at hu; omega)
      rw [hexL_big h, List.length_append, List.length_singleton]
      omega
theorem hexL_ne (u : Nat) : hexL u ≠ [] := by
  by_cases h : u < 16
  · rw [hexL_small h]; simp
  · rw [hexL_big h]; simp
theorem hexL_bytes (u : Nat) : ∀ x ∈ hexL u, ∃ d, d < 16 ∧ x = hexDig d := by
  induction u using Nat.strongRecOn with
  | ind u ih =>
    intro x hx
    by_cases h : u < 16
    · rw [hexL_small h] at hx
      simp only [List.mem_singleton] at hx
      exact ⟨u, h, hx⟩
    · rw [hexL_big h, List.mem_append] at hx
      rcases hx with hx | hx
      · exact ih (u / 16) (by omega) x hx
      · simp only [List.mem_singleton] at hx
        exact ⟨u % 16, by omega, hx⟩
end Go.Proofs.YtmbmodeiikhnkaaGreatDoor
