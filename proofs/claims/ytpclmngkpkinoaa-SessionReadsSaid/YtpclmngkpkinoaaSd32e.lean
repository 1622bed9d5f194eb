/-
  Layer 32: what is read of an open message that was written.
-/
import Derived.Test.YtpclmngkpkinoaaSd32d
namespace Go.Proofs.Ytpclmngkpkinoaa
open Go.RowKit
theorem numZ_be4 (a : Int) (h0 : 0 ≤ a) (h1 : a ≤ 4294967295) : numZ (be4 a) = a := by
  simp only [be4, numZ, List.foldl_cons, List.foldl_nil]; omega
theorem numZ_be2 (a : Int) (h0 : 0 ≤ a) (h1 : a ≤ 65535) : numZ (be2 a) = a := by
  simp only [be2, numZ, List.foldl_cons, List.foldl_nil]; omega
theorem and4095 (g : Int) (ag : Bool) (h0 : 0 ≤ g) (h1 : g ≤ 4095) : bits .and .i64 (g + if ag then 32768 else 0) 4095 = g := by
  have key : ∀ p q : Fin 64, bits .and .i64 (64 * (p.val : Int) + (q.val : Int)) 4095 = 64 * (p.val : Int) + (q.val : Int) ∧ bits .and .i64 (64 * (p.val : Int) + (q.val : Int) + 32768) 4095 = 64 * (p.val : Int) + (q.val : Int) := by decide +kernel
  obtain ⟨n, rfl⟩ := Int.eq_ofNat_of_zero_le h0
  obtain ⟨k1, k2⟩ := key ⟨n / 64, by omega⟩ ⟨n % 64, by omega⟩
  have e : 64 * ((n / 64 : Nat) : Int) + ((n % 64 : Nat) : Int) = (n : Int) := by omega
  dsimp only at k1 k2
  rw [e] at k1 k2
  cases ag
  · simpa using k1
  · simpa using k2
theorem and128 (g : Int) (ag : Bool) (h0 : 0 ≤ g) (h1 : g ≤ 4095) : (bits .and .u8 ((g + if ag then 32768 else 0) / 256 % 256) 128 != 0) = ag := by
  have key : ∀ m : Fin 16, bits .and .u8 (m.val : Int) 128 = 0 ∧ bits .and .u8 ((m.val : Int) + 128) 128 = 128 := by decide +kernel
  obtain ⟨q, hq⟩ : ∃ q : Nat, g / 256 = q := ⟨(g / 256).toNat, by omega⟩
  obtain ⟨k1, k2⟩ := key ⟨q, by omega⟩
  cases ag
  · have : (g + if false then 32768 else 0) / 256 % 256 = q := by simp; omega
    rw [this, k1]; rfl
  · have : (g + if true then 32768 else 0) / 256 % 256 = (q : Int) + 128 := by simp; omega
    rw [this, k2]; rfl
theorem sizO9 : sizO 9 = 1 := by decide
theorem sizO64 : sizO 64 = 2 := by decide
theorem sizO65 : sizO 65 = 4 := by decide
/-- The entries that are found in an open message. -/
def entO (r g : Int) (ag : Bool) (a : Int) : List (Int × List Int) := [(65, be4 a)] ++ (if (g != 0 || ag) then [(64, be2 (g + if ag then 32768 else 0))] else []) ++ (if r = -1 then [] else [(9, [r])])
theorem pcs_nil (T : List (Int × List Int) → Int → List Int → Bool × List (Int × List Int)) (n : Nat) (m : List (Int × List Int)) : pcs T n [] m = (true, m) := by
  cases n <;> rfl
theorem pcs_cons (T : List (Int × List Int) → Int → List Int → Bool × List (Int × List Int)) (n k : Nat) (x y : Int) (l r : List Int) (m : List (Int × List Int)) (hy : y = l.length) : pcs T (n + 1) (x :: y :: (l ++ r)) m = bif (T m x l).1 then pcs T n r (T m x l).2 else (false, (T m x l).2) := by
  subst hy
  have e1 : (x :: (l.length : Int) :: (l ++ r)).getD 1 0 = (l.length : Int) := rfl
  have e2 : (x :: (l.length : Int) :: (l ++ r)).getD 0 0 = x := rfl
  have e3 : List.take l.length (List.drop 2 (x :: (l.length : Int) :: (l ++ r))) = l := by simp
  have e4 : List.drop (2 + l.length) (x :: (l.length : Int) :: (l ++ r)) = r := by
    rw [show 2 + l.length = l.length + 1 + 1 by omega]
    simp
  rw [pcs, if_neg (by simp), if_neg (by simp; omega), if_neg (by rw [e1]; simp; omega), e1, e2, Int.toNat_natCast, e3, e4]
theorem capO_pcs (r g : Int) (ag : Bool) (a : Int) (n : Nat) (hn : 3 ≤ n) : pcs tk1 n (capO r g ag a) [] = (true, entO r g ag a) := by
  obtain ⟨n, rfl⟩ : ∃ k, n = k + 1 + 1 + 1 := ⟨n - 3, by omega⟩
  have s9 := sizO9
  have s64 := sizO64
  have s65 := sizO65
  have h65 : ∀ (n : Nat) (m : List (Int × List Int)), m.lookup 65 = none → pcs tk1 (n + 1) ([65, 4] ++ be4 a) m = (true, (65, be4 a) :: m) := fun n m hm => by
    have := pcs_cons tk1 n 0 65 4 (be4 a) [] m rfl
    rw [List.append_nil] at this
    show pcs tk1 (n + 1) (65 :: 4 :: be4 a) m = _
    rw [this]
    have t : tk1 m 65 (be4 a) = (true, (65, be4 a) :: m) := by
      unfold tk1
      rw [s65, if_neg (by decide), hm]; rfl
    rw [t, cond_true, pcs_nil]
  have hG : ∀ (n : Nat) (m : List (Int × List Int)), m.lookup 65 = none → m.lookup 64 = none → pcs tk1 (n + 1 + 1) (capG g ag ++ ([65, 4] ++ be4 a)) m = (true, [(65, be4 a)] ++ (if (g != 0 || ag) then [(64, be2 (g + if ag then 32768 else 0))] else []) ++ m) := fun n m h1 h2 => by
    unfold capG
    split
    · have := pcs_cons tk1 (n + 1) 0 64 2 (be2 (g + if ag then 32768 else 0)) ([65, 4] ++ be4 a) m rfl
      show pcs tk1 (n + 1 + 1) (64 :: 2 :: (be2 (g + if ag then 32768 else 0) ++ ([65, 4] ++ be4 a))) m = _
      rw [this]
      have t : tk1 m 64 (be2 (g + if ag then 32768 else 0)) = (true, (64, be2 (g + if ag then 32768 else 0)) :: m) := by
        unfold tk1
        rw [s64, if_neg (by decide), h2]; rfl
      rw [t, cond_true, h65 _ _ (by rw [List.lookup_cons]; exact h1)]
      rfl
    · rw [List.nil_append, h65 _ _ h1]; rfl
  unfold capO capA entO
  split
  · rw [List.nil_append, hG _ _ rfl rfl]
  · have := pcs_cons tk1 (n + 1 + 1) 0 9 1 [r] (capG g ag ++ ([65, 4] ++ be4 a)) [] rfl
    show pcs tk1 (n + 1 + 1 + 1) (9 :: 1 :: ([r] ++ (capG g ag ++ ([65, 4] ++ be4 a)))) [] = _
    rw [this]
    have t : tk1 [] 9 [r] = (true, [(9, [r])]) := by
      unfold tk1
      rw [s9, if_neg (by decide)]; rfl
    rw [t, cond_true, hG _ _ rfl rfl]
theorem capO_len (r g : Int) (ag : Bool) (a : Int) : 6 ≤ (capO r g ag a).length ∧ (capO r g ag a).length ≤ 13 := by
  unfold capO capA capG
  split <;> split <;> simp [be2, be4]
theorem caps_enc (r g : Int) (ag : Bool) (a : Int) : caps ([((capO r g ag a).length : Int) + 2, 2, ((capO r g ag a).length : Int)] ++ capO r g ag a) = (true, entO r g ag a) := by
  have hc := fun n hn => capO_pcs r g ag a n hn
  have hl := capO_len r g ag a
  generalize capO r g ag a = C at *
  unfold caps
  have e : List.drop 1 ([(C.length : Int) + 2, 2, (C.length : Int)] ++ C) = 2 :: (C.length : Int) :: (C ++ []) := by simp
  rw [e]
  have := pcs_cons tk2 (C.length + 1) 0 2 (C.length : Int) C [] [] rfl
  rw [show (2 :: (C.length : Int) :: (C ++ [])).length = C.length + 1 + 1 by simp, this]
  have t : tk2 [] 2 C = (true, entO r g ag a) := by
    unfold tk2
    rw [if_pos rfl]
    exact hc _ (by omega)
  rw [t, cond_true, pcs_nil]
theorem dec_enc {a i h r g : Int} {ag : Bool} (hv : validO a i h r g = true) : dcO (encO a i h r g ag) = (⟨a, i, h, r, g, ag⟩, 0) := by
  obtain ⟨⟨a0, a1⟩, ⟨i0, i1⟩, ⟨h0, h1⟩, ⟨r0, r1⟩, ⟨g0, g1⟩⟩ := valid_bounds hv
  have hl := capO_len r g ag a
  have hc := caps_enc r g ag a
  unfold dcO
  have e0 : encO a i h r g ag = 4 :: (be2 (shO a) ++ (be2 h ++ (be4 i ++ ([((capO r g ag a).length : Int) + 2, 2, ((capO r g ag a).length : Int)] ++ capO r g ag a)))) := by simp [encO]
  have d9 : (encO a i h r g ag).drop 9 = [((capO r g ag a).length : Int) + 2, 2, ((capO r g ag a).length : Int)] ++ capO r g ag a := by rw [e0]; simp [be2, be4]
  have n1 : ((encO a i h r g ag).drop 1).take (3 - 1) = be2 (shO a) := by rw [e0]; simp [be2]
  have n2 : ((encO a i h r g ag).drop 3).take (5 - 3) = be2 h := by rw [e0]; simp [be2]
  have n3 : ((encO a i h r g ag).drop 5).take (9 - 5) = be4 i := by rw [e0]; simp [be2, be4]
  have ll : (encO a i h r g ag).length = 12 + (capO r g ag a).length := by rw [e0]; simp [be2, be4]; omega
  have s0 : 0 ≤ shO a ∧ shO a ≤ 65535 := by unfold shO; split <;> omega
  rw [if_neg (by omega), if_neg (by rw [e0]; simp), d9, if_neg (by simp; omega), hc, n1, n2, n3, numZ_be2 _ s0.1 s0.2, numZ_be2 _ h0 h1, numZ_be4 _ (by omega) i1]
  rw [cond_true]
  show dcM (shO a) h i (entO r g ag a) = _
  have q65 : (entO r g ag a).lookup 65 = some (be4 a) := rfl
  have q64 : (entO r g ag a).lookup 64 = if (g != 0 || ag) then some (be2 (g + if ag then 32768 else 0)) else none := by
    unfold entO
    generalize be2 (g + if ag then 32768 else 0) = X
    split <;> split <;> rfl
  have q9 : (entO r g ag a).lookup 9 = if r = -1 then none else some [r] := by
    unfold entO
    generalize be2 (g + if ag then 32768 else 0) = X
    split <;> split <;> rfl
  have e65 : (shO a != a && ((shO a != 23456) || decide (a ≤ 65535))) = false := by
    unfold shO
    by_cases h6 : a > 65535
    · rw [if_pos h6]
      have : decide (a ≤ 65535) = false := decide_eq_false (by omega)
      rw [this]; simp
    · rw [if_neg h6]; simp
  unfold dcM
  rw [q65, q64, q9]
  dsimp only
  rw [numZ_be4 a (by omega) a1, e65, cond_false]
  have ng := numZ_be2 (g + if ag then 32768 else 0) (by split <;> omega) (by split <;> omega)
  have n4 := and4095 g ag g0 g1
  have n8 := and128 g ag g0 g1
  have nb : (be2 (g + if ag then 32768 else 0)).getD 0 0 = (g + if ag then 32768 else 0) / 256 % 256 := rfl
  rw [← nb] at n8
  rw [← ng] at n4
  clear nb ng
  generalize be2 (g + if ag then 32768 else 0) = X at *
  have nr : numZ [r] = r := by simp [numZ]
  cases q : (g != 0 || ag) with
  | false =>
    simp only [Bool.or_eq_false_iff, bne_eq_false_iff_eq] at q
    obtain ⟨rfl, rfl⟩ := q
    by_cases hr : r = -1
    · subst hr
      show (bif validO a i h (-1) 0 then (_ : OpenV × Int) else _) = _
      rw [hv, cond_true]; rfl
    · rw [if_neg hr]
      show (bif validO a i h (numZ [r]) 0 then (⟨⟨a, i, h, numZ [r], 0, false⟩, 0⟩ : OpenV × Int) else _) = _
      rw [nr, hv, cond_true]
  | true =>
    by_cases hr : r = -1
    · subst hr
      show (bif validO a i h (-1) (bits .and .i64 (numZ X) 4095) then (⟨⟨a, i, h, -1, bits .and .i64 (numZ X) 4095, bits .and .u8 (X.getD 0 0) 128 != 0⟩, 0⟩ : OpenV × Int) else _) = _
      rw [n4, n8, hv, cond_true]
    · rw [if_neg hr]
      show (bif validO a i h (numZ [r]) (bits .and .i64 (numZ X) 4095) then (⟨⟨a, i, h, numZ [r], bits .and .i64 (numZ X) 4095, bits .and .u8 (X.getD 0 0) 128 != 0⟩, 0⟩ : OpenV × Int) else _) = _
      rw [n4, n8, nr, hv, cond_true]
end Go.Proofs.Ytpclmngkpkinoaa
