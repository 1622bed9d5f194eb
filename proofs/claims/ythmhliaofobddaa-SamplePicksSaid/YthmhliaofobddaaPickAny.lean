/-
  Layer 37: Pick of the program and of the reference, for all numbers.
-/
import Derived.Test.YthmhliaofobddaaRatio
namespace Go.Proofs.Ythmhliaofobddaa
open Go.RowKit

def bad (n r f : Int) : Prop := n < 0 ∨ 1073741824 < n ∨ r < 1 ∨ 1048576 < r ∨ f < 0 ∨ r - 1 < f ∨ 1000 < cnt n r f
instance (n r f : Int) : Decidable (bad n r f) := by unfold bad; exact inferInstance
def errOf (n r f : Int) : Int := if bad n r f then 1 else 0
def listOf (n r f : Int) : List Int := if bad n r f then [] else picks n r f

def PickPost (w : World) (n r f : Int) (e : Ending) (w' : World) : Prop :=
  ∃ v, e = .returned (.tuple #[v, .int .i64 (errOf n r f)]) ∧ w'.ownsRow w.heap.size 3 1 v (listOf n r f).length ((listOf n r f).map (Value.int .i64)) ∧ Below w.heap.size w w'
theorem post_bad {w w' : World} {n r f : Int} (h : bad n r f) (hb : Below w.heap.size w w') : PickPost w n r f (.returned (.tuple #[.slice none 0 0, .int .i64 1])) w' := by
  refine ⟨.slice none 0 0, ?_, ?_, hb⟩
  · unfold errOf; rw [if_pos h]
  · unfold listOf; rw [if_pos h]; exact World.ownsRow_nil _ _ _ _
theorem post_good {w w' : World} {n r f : Int} {v : Value} (h : ¬ bad n r f) (ho : w'.ownsRow w.heap.size 3 1 v (cnt n r f) ((picks n r f).map (Value.int .i64))) (hb : Below w.heap.size w w') : PickPost w n r f (.returned (.tuple #[v, .int .i64 0])) w' := by
  refine ⟨v, ?_, ?_, hb⟩
  · unfold errOf; rw [if_neg h]
  · unfold listOf; rw [if_neg h, picks_len]; exact ho

set_option maxHeartbeats 1000000 in
theorem pick_any (n r f : Int) (w : World) (hn : n ≤ 9223372036854775807) (hr : -9223372036854775808 ≤ r) (hr' : r ≤ 9223372036854775807) :
    Calls Try.prog 6 #[.int .i64 n, .int .i64 r, .int .i64 f] w (PickPost w n r f) := by
  by_cases hb : bad n r f
  rotate_left
  · have hb' := hb
    unfold bad at hb'
    refine (pick_ok n r f w (by omega) (by omega) (by omega) (by omega) (by omega) (by omega) (by omega)).mono ?_
    rintro e w' ⟨v, rfl, ho, hbel⟩
    exact post_good hb ho hbel
  have hfin : ∀ w', Below w.heap.size w w' → PickPost w n r f (.returned (.tuple #[.slice none 0 0, .int .i64 1])) w' := fun w' => post_bad hb
  have HF := Lib.hid hfin; clear hfin
  have hb' := hb
  unfold bad at hb'
  clear hb
  by_cases h1 : n < 0 ∨ 1073741824 < n
  · go_enter Try.func6, Try.ntmps6
    go_wp2_with fail
    refine (within_no _ _ _ _ h1).mono ?_
    rintro e w1 ⟨rfl, rfl⟩
    clear hb' h1
    go_wp2
    go_ret2
    exact HF.out _ (Below.refl _ _)
  by_cases h2 : r < 1 ∨ 1048576 < r
  · have h3 : 0 ≤ n := by omega
    have h4 : n ≤ 1073741824 := by omega
    clear hb' h1
    go_enter Try.func6, Try.ntmps6
    go_wp2_with fail
    refine (within_yes _ _ _ _ h3 h4).mono ?_
    rintro e w1 ⟨rfl, rfl⟩
    go_wp2_with fail
    refine (within_no _ _ _ _ h2).mono ?_
    rintro e w1 ⟨rfl, rfl⟩
    clear h2
    go_wp2
    go_ret2
    exact HF.out _ (Below.refl _ _)
  have h3 : 0 ≤ n := by omega
  have h4 : n ≤ 1073741824 := by omega
  have h5 : 1 ≤ r := by omega
  have h6 : r ≤ 1048576 := by omega
  clear h1 h2
  by_cases h7 : f < 0 ∨ r - 1 < f
  · clear hb'
    go_enter Try.func6, Try.ntmps6
    go_wp2_with fail
    refine (within_yes _ _ _ _ h3 h4).mono ?_
    rintro e w1 ⟨rfl, rfl⟩
    go_wp2_with fail
    refine (within_yes _ _ _ _ h5 h6).mono ?_
    rintro e w1 ⟨rfl, rfl⟩
    go_wp2_with fail
    refine (within_no _ _ _ _ h7).mono ?_
    rintro e w1 ⟨rfl, rfl⟩
    clear h7
    go_wp2
    go_ret2
    exact HF.out _ (Below.refl _ _)
  have h8 : 0 ≤ f := by omega
  have h9 : f ≤ r - 1 := by omega
  have hc : 1000 < cnt n r f := by omega
  have hfn : f < n := by
    have := hc
    unfold cnt at this
    by_cases h : f < n
    · exact h
    · rw [if_neg h] at this; omega
  have hq : 1000 ≤ (n - 1 - f) / r := by
    have := hc
    unfold cnt at this
    rw [if_pos hfn] at this
    omega
  clear hb' h7 hc
  go_enter Try.func6, Try.ntmps6
  go_wp2_with fail
  refine (within_yes _ _ _ _ h3 h4).mono ?_
  rintro e w1 ⟨rfl, rfl⟩
  go_wp2_with fail
  refine (within_yes _ _ _ _ h5 h6).mono ?_
  rintro e w1 ⟨rfl, rfl⟩
  go_wp2_with fail
  refine (within_yes _ _ _ _ h8 h9).mono ?_
  rintro e w1 ⟨rfl, rfl⟩
  go_wp2
  go_ret2
  exact HF.out _ (Below.refl _ _)

set_option maxHeartbeats 2000000 in
theorem ref_any (n r f : Int) (w : World) :
    Calls Try.prog 8 #[.int .i64 n, .int .i64 r, .int .i64 f] w (PickPost w n r f) := by
  have hbad : bad n r f → ∀ w', Below w.heap.size w w' → PickPost w n r f (.returned (.tuple #[.slice none 0 0, .int .i64 1])) w' := fun h w' => post_bad h
  have hgood : ¬ bad n r f → ∀ v w', w'.ownsRow w.heap.size 3 1 v (cnt n r f) ((picks n r f).map (Value.int .i64)) → Below w.heap.size w w' → PickPost w n r f (.returned (.tuple #[v, .int .i64 0])) w' := fun h v w' => post_good h
  unfold bad at hbad hgood
  have HB := Lib.hid hbad; clear hbad
  have HG := Lib.hid hgood; clear hgood
  by_cases h1 : n < 0
  · have hh := HB.out (by omega)
    clear HB HG
    have HH := Lib.hid hh; clear hh
    go_enter Try.func8, Try.ntmps8
    go_wp2
    go_ret2
    exact HH.out _ (Below.refl _ _)
  have h1' : 0 ≤ n := by omega
  clear h1
  by_cases h2 : 1073741824 < n
  · have hh := HB.out (by omega)
    clear HB HG
    have HH := Lib.hid hh; clear hh
    go_enter Try.func8, Try.ntmps8
    go_wp2
    go_ret2
    exact HH.out _ (Below.refl _ _)
  have h2' : n ≤ 1073741824 := by omega
  clear h2
  by_cases h3 : r < 1
  · have hh := HB.out (by omega)
    clear HB HG
    have HH := Lib.hid hh; clear hh
    go_enter Try.func8, Try.ntmps8
    go_wp2
    go_ret2
    exact HH.out _ (Below.refl _ _)
  have h3' : 1 ≤ r := by omega
  clear h3
  by_cases h4 : 1048576 < r
  · have hh := HB.out (by omega)
    clear HB HG
    have HH := Lib.hid hh; clear hh
    go_enter Try.func8, Try.ntmps8
    go_wp2
    go_ret2
    exact HH.out _ (Below.refl _ _)
  have h4' : r ≤ 1048576 := by omega
  clear h4
  by_cases h5 : f < 0
  · have hh := HB.out (by omega)
    clear HB HG
    have HH := Lib.hid hh; clear hh
    go_enter Try.func8, Try.ntmps8
    go_wp2
    go_ret2
    exact HH.out _ (Below.refl _ _)
  have h5' : 0 ≤ f := by omega
  clear h5
  by_cases h6 : r ≤ f
  · have hh := HB.out (by omega)
    clear HB HG
    have HH := Lib.hid hh; clear hh
    go_enter Try.func8, Try.ntmps8
    go_wp2
    go_ret2
    exact HH.out _ (Below.refl _ _)
  have h6' : f < r := by omega
  clear h6
  have hiff := Lib.hid (fun k => cnt_iff n r f k (by omega))
  go_enter Try.func8, Try.ntmps8
  go_wp2_with fail
  go_loopw [8, 9] (fun v i wr => ∃ (k : Nat) (x : Int), k ≤ cnt n r f ∧ k ≤ 1000 ∧ Hid (x = f + (k : Int) * r) ∧ 0 ≤ x ∧ x < n + r ∧ i = .int .i64 x ∧ wr.ownsRow w.heap.size 3 1 v k (((picks n r f).take k).map (Value.int .i64)) ∧ Below w.heap.size w wr)
    (fun _ i _ => (n + r - intOf i).toNat)
  case atStart => exact ⟨0, f, Nat.zero_le _, Nat.zero_le _, Lib.hid (by simp), by omega, by omega, rfl, World.ownsRow_nil _ _ _ _, Below.refl _ _⟩
  case round =>
    obtain ⟨k, x, hk, hk1, hx, hx0, hx1, rfl, hown, hbel⟩ := hrel
    obtain ⟨A, c, rfl, hcc, hcm, -, -⟩ := own_open hown
    unfold maxLen at hcm
    by_cases hlt : x < n
    · have hkc : k < cnt n r f := (hiff.out k).1 (by have := hx.out; omega)
      by_cases hfull : k = 1000
      · have hh := HB.out (by omega)
        clear HB HG hiff
        have HH := Lib.hid hh; clear hh
        have ht : ((k : Int) == 1000) = true := by rw [beq_iff_eq]; omega
        clear hfull
        go_wp2
        go_ret2
        exact HH.out _ hbel
      · have ht : ((k : Int) == 1000) = false := by rw [beq_eq_false_iff_ne]; omega
        have hk2 : k + 1 ≤ 1000 := by omega
        clear hfull
        have hmore := Lib.hid (picks_take n r f k hkc)
        go_wp2_with (at_builtin; refine push_one rfl _ _ 23 rfl w.heap.size 3 (.int .i64 0) 8 Try.underlying23 Try.info3 rfl _ k _ rfl hown (.int .i64 x) rfl rfl ?c1 ?c2 ?c3 ?_)
        case c1 => unfold maxLen; omega
        case c2 => omega
        case c3 => exact hbel.size
        intro v' w1 hown' hgrow
        have hb' := push_below hbel hown hgrow (Nat.le_refl _) hbel.size
        clear hgrow hown hbel
        have hown2 : w1.ownsRow w.heap.size 3 1 v' (k + 1) (((picks n r f).take (k + 1)).map (Value.int .i64)) := by
          rw [hmore.out, List.map_append]
          have e := hx.out
          rw [← e]; simpa using hown'
        clear hown' hmore
        go_wp2
        go_roundw
        case rel => exact ⟨k + 1, x + r, by omega, hk2, Lib.hid (by have := hx.out; rw [show ((k + 1 : Nat) : Int) = (k : Int) + 1 by omega, Int.add_mul]; omega), by omega, by omega, rfl, hown2, hb'⟩
        case measure => simp [intOf]; omega
    · have hkc : cnt n r f = k := by
        have h := (hiff.out k)
        have e := hx.out
        rw [← e] at h
        omega
      rw [List.take_of_length_le (by rw [picks_len]; omega)] at hown
      obtain rfl : k = cnt n r f := hkc.symm
      have hh := HG.out (by omega)
      clear HB HG hiff
      have HH := Lib.hid hh; clear hh
      clear hkc
      go_wp2
      go_ret2
      exact HH.out _ _ hown hbel
end Go.Proofs.Ythmhliaofobddaa
