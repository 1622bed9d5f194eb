/-
  Layer 32: the reference's Decode answers as ours.
-/
import Derived.Test.YtpclmngkpkinoaaSr32b
namespace Go.Proofs.Ytpclmngkpkinoaa
open Go.RowKit
/-- Pieces one after the other. -/
def foldT (T : List (Int × List Int) → Int → List Int → Bool × List (Int × List Int)) : List (Int × List Int) → List (Int × List Int) → Bool × List (Int × List Int)
  | [], m => (true, m)
  | x :: r, m => bif (T m x.1 x.2).1 then foldT T r (T m x.1 x.2).2 else (false, (T m x.1 x.2).2)
/-- Taking pieces one by one is parting first. -/
theorem pcs_prt (T : List (Int × List Int) → Int → List Int → Bool × List (Int × List Int)) : ∀ (n : Nat) (bs : List Int) (m : List (Int × List Int)),
    (∀ L, prt n bs = some L → pcs T n bs m = foldT T L m) ∧ (prt n bs = none → (pcs T n bs m).1 = false)
  | 0, bs, m => ⟨fun L h => (by injection h with h; subst h; rfl), fun h => (by cases h)⟩
  | n + 1, bs, m => by
    rw [pcs, prt]
    by_cases h0 : bs.length = 0
    · rw [if_pos h0, if_pos h0]
      exact ⟨fun L h => (by injection h with h; subst h; rfl), fun h => (by cases h)⟩
    rw [if_neg h0, if_neg h0]
    by_cases h1 : (bs.length : Int) < 2
    · rw [if_pos h1, if_pos h1]
      exact ⟨fun L h => (by cases h), fun _ => rfl⟩
    rw [if_neg h1, if_neg h1]
    by_cases h2 : (bs.length : Int) < 2 + bs.getD 1 0
    · rw [if_pos h2, if_pos h2]
      exact ⟨fun L h => (by cases h), fun _ => rfl⟩
    rw [if_neg h2, if_neg h2]
    generalize bs.getD 0 0 = k
    generalize (bs.getD 1 0).toNat = Y
    have ih := fun m' => pcs_prt T n (bs.drop (2 + Y)) m'
    cases q : prt n (bs.drop (2 + Y)) with
    | none =>
      refine ⟨fun L h => (by cases h), fun _ => ?_⟩
      cases (T m k ((bs.drop 2).take Y)).1 with
      | false => rfl
      | true => exact (ih _).2 q
    | some K =>
      refine ⟨fun L h => ?_, fun h => by cases h⟩
      injection h with h
      subst h
      show _ = (bif (T m k ((bs.drop 2).take Y)).1 then _ else _)
      cases (T m k ((bs.drop 2).take Y)).1 with
      | false => rfl
      | true => exact (ih _).1 K q
def roleOf (m : List (Int × List Int)) : Int := match m.lookup 9 with | some l => valZ l | none => -1
/-- Both have read the same. -/
def Same (sh : Int) (m : List (Int × List Int)) (s : RS) : Prop :=
  (∀ c, s.m.contains c = (m.lookup c).isSome) ∧ s.role = (match m.lookup 9 with | some l => valZ l | none => -1) ∧ s.g = (match m.lookup 64 with | some l => bits .and .i64 (valZ l) 4095 | none => 0) ∧ s.ag = (match m.lookup 64 with | some l => valZ l / 32768 == 1 | none => false) ∧ s.asn = (match m.lookup 65 with | some l => valZ l | none => sh)
theorem same_upd {sh : Int} {m : List (Int × List Int)} {s : RS} (h : Same sh m s) (c : Int) (l : List Int) (hc : c = 9 ∨ c = 64 ∨ c = 65) : Same sh ((c, l) :: m) (s.upd c l) := by
  obtain ⟨h1, h2, h3, h4, h5⟩ := h
  have hm : (s.upd c l).m = c :: s.m := by
    unfold RS.upd
    rcases hc with rfl | rfl | rfl <;> rfl
  refine ⟨fun d => ?_, ?_, ?_, ?_, ?_⟩
  · rw [hm, List.contains_cons, List.lookup_cons, h1 d]
    cases d == c <;> rfl
  all_goals (rcases hc with rfl | rfl | rfl <;> simp only [RS.upd, List.lookup_cons] <;> first | exact h2 | exact h3 | exact h4 | exact h5 | rfl)
theorem rin_fold {sh : Int} : ∀ (L : List (Int × List Int)) (m : List (Int × List Int)) (s : RS), Same sh m s → (foldT tk1 L m).1 = (rin L s).1 ∧ ((rin L s).1 = true → Same sh (foldT tk1 L m).2 (rin L s).2)
  | [], m, s, h => ⟨rfl, fun _ => h⟩
  | (c, l) :: r, m, s, h => by
    rw [foldT, rin]
    dsimp only
    unfold tk1
    by_cases z : sizO c = 0
    · rw [if_pos z, if_pos z]
      exact rin_fold r m s h
    · rw [if_neg z, if_neg z]
      dsimp only
      rw [← h.1 c, Bool.and_comm]
      cases (((l.length : Int) == sizO c) && !s.m.contains c) with
      | false => exact ⟨rfl, fun h => by cases h⟩
      | true =>
        rw [cond_true, cond_true]
        exact rin_fold r _ _ (same_upd h c l (siz_cases z))
theorem rout_fold {sh : Int} : ∀ (L : List (Int × List Int)) (m : List (Int × List Int)) (s : RS), Same sh m s → (foldT tk2 L m).1 = (rout L s).1 ∧ ((rout L s).1 = true → Same sh (foldT tk2 L m).2 (rout L s).2)
  | [], m, s, h => ⟨rfl, fun _ => h⟩
  | (k, l) :: r, m, s, h => by
    rw [foldT, rout]
    dsimp only
    unfold tk2
    obtain ⟨p1, p2⟩ := pcs_prt tk1 l.length l m
    by_cases h2 : k = 2
    · rw [if_pos h2]
      have e2 : (k == 2) = true := by simpa using h2
      cases q : prt l.length l with
      | none =>
        dsimp only
        rw [p2 q]
        exact ⟨rfl, fun h => by cases h⟩
      | some M =>
        dsimp only
        rw [p1 M q, e2, cond_true]
        obtain ⟨r1, r2⟩ := rin_fold M m s h
        rw [r1]
        cases q1 : (rin M s).1 with
        | false => exact ⟨rfl, fun h => by cases h⟩
        | true =>
          rw [cond_true, cond_true]
          exact rout_fold r _ _ (r2 q1)
    · rw [if_neg h2]
      have e2 : (k == 2) = false := by simpa using h2
      cases q : prt l.length l with
      | none => exact ⟨rfl, fun h => by cases h⟩
      | some M =>
        dsimp only
        rw [e2]
        exact ⟨rfl, fun h => by cases h⟩
theorem and128_byte (x : Int) (h0 : 0 ≤ x) (h1 : x < 256) (y : Int) (y0 : 0 ≤ y) (y1 : y < 256) : (bits .and .u8 x 128 != 0) = ((x * 256 + y) / 32768 == 1) := by
  have key : ∀ m : Fin 256, (bits .and .u8 (m.val : Int) 128 != 0) = decide (128 ≤ (m.val : Int)) := by decide +kernel
  obtain ⟨n, rfl⟩ := Int.eq_ofNat_of_zero_le h0
  have := key ⟨n, by omega⟩
  dsimp only at this
  rw [this]
  by_cases h : 128 ≤ (n : Int)
  · rw [decide_eq_true h, eq_comm, beq_iff_eq]; omega
  · rw [decide_eq_false h, eq_comm, beq_eq_false_iff_ne]; omega
theorem same_dcM {sh hd id : Int} {M : List (Int × List Int)} {s : RS} (hM : okM M) (h : Same sh M s) :
    dcM sh hd id M = (bif s.m.contains 65 && (sh != s.asn && ((sh != 23456) || decide (s.asn ≤ 65535))) then (zOpen, 5) else bif validO s.asn id hd s.role s.g then (⟨s.asn, id, hd, s.role, s.g, s.ag⟩, 0) else (zOpen, 1)) := by
  obtain ⟨h1, h2, h3, h4, h5⟩ := h
  have v65 : ∀ l, M.lookup 65 = some l → valZ l = numZ l := fun l hl => valZ_num (hM _ _ hl).2 (by have := (hM _ _ hl).1; simp [sizO] at this; omega)
  have v9 : ∀ l, M.lookup 9 = some l → valZ l = numZ l := fun l hl => valZ_num (hM _ _ hl).2 (by have := (hM _ _ hl).1; simp [sizO] at this; omega)
  have v64 : ∀ l, M.lookup 64 = some l → valZ l = numZ l ∧ (bits .and .u8 (l.getD 0 0) 128 != 0) = (valZ l / 32768 == 1) := fun l hl => by
    have e := valZ_num (hM _ _ hl).2 (by have := (hM _ _ hl).1; simp [sizO] at this; omega)
    refine ⟨e, ?_⟩
    have h2 : l.length = 2 := by have := (hM _ _ hl).1; simp [sizO] at this; omega
    have hb := (hM _ _ hl).2
    rw [e]
    match l, h2, hb with
    | [x, y], _, hb =>
      have b1 := hb x (by simp)
      have b2 := hb y (by simp)
      have : numZ [x, y] = x * 256 + y := by simp [numZ]
      rw [this]
      exact and128_byte x b1.1 b1.2 y b2.1 b2.2
  cases q65 : M.lookup 65 with
  | none =>
    cases q9 : M.lookup 9 with
    | none =>
      cases q64 : M.lookup 64 with
      | none =>
        have h5' : s.asn = sh := by rw [q65] at h5; exact h5
        have h2' : s.role = -1 := by rw [q9] at h2; exact h2
        have h3' : s.g = 0 := by rw [q64] at h3; exact h3
        have h4' : s.ag = false := by rw [q64] at h4; exact h4
        rw [h1 65, h5', h2', h3', h4', q65]
        unfold dcM
        rw [q65, q9, q64]
        rfl
      | some l64 =>
        have h5' : s.asn = sh := by rw [q65] at h5; exact h5
        have h2' : s.role = -1 := by rw [q9] at h2; exact h2
        have h3' : s.g = bits .and .i64 (numZ l64) 4095 := by rw [q64] at h3; exact h3.trans (congrArg (fun z => bits .and .i64 z 4095) (v64 _ q64).1)
        have h4' : s.ag = (bits .and .u8 (l64.getD 0 0) 128 != 0) := by rw [q64] at h4; exact h4.trans (v64 _ q64).2.symm
        rw [h1 65, h5', h2', h3', h4', q65]
        unfold dcM
        rw [q65, q9, q64]
        rfl
    | some l9 =>
      cases q64 : M.lookup 64 with
      | none =>
        have h5' : s.asn = sh := by rw [q65] at h5; exact h5
        have h2' : s.role = numZ l9 := by rw [q9] at h2; exact h2.trans (v9 _ q9)
        have h3' : s.g = 0 := by rw [q64] at h3; exact h3
        have h4' : s.ag = false := by rw [q64] at h4; exact h4
        rw [h1 65, h5', h2', h3', h4', q65]
        unfold dcM
        rw [q65, q9, q64]
        rfl
      | some l64 =>
        have h5' : s.asn = sh := by rw [q65] at h5; exact h5
        have h2' : s.role = numZ l9 := by rw [q9] at h2; exact h2.trans (v9 _ q9)
        have h3' : s.g = bits .and .i64 (numZ l64) 4095 := by rw [q64] at h3; exact h3.trans (congrArg (fun z => bits .and .i64 z 4095) (v64 _ q64).1)
        have h4' : s.ag = (bits .and .u8 (l64.getD 0 0) 128 != 0) := by rw [q64] at h4; exact h4.trans (v64 _ q64).2.symm
        rw [h1 65, h5', h2', h3', h4', q65]
        unfold dcM
        rw [q65, q9, q64]
        rfl
  | some l65 =>
    cases q9 : M.lookup 9 with
    | none =>
      cases q64 : M.lookup 64 with
      | none =>
        have h5' : s.asn = numZ l65 := by rw [q65] at h5; exact h5.trans (v65 _ q65)
        have h2' : s.role = -1 := by rw [q9] at h2; exact h2
        have h3' : s.g = 0 := by rw [q64] at h3; exact h3
        have h4' : s.ag = false := by rw [q64] at h4; exact h4
        rw [h1 65, h5', h2', h3', h4', q65]
        unfold dcM
        rw [q65, q9, q64]
        rfl
      | some l64 =>
        have h5' : s.asn = numZ l65 := by rw [q65] at h5; exact h5.trans (v65 _ q65)
        have h2' : s.role = -1 := by rw [q9] at h2; exact h2
        have h3' : s.g = bits .and .i64 (numZ l64) 4095 := by rw [q64] at h3; exact h3.trans (congrArg (fun z => bits .and .i64 z 4095) (v64 _ q64).1)
        have h4' : s.ag = (bits .and .u8 (l64.getD 0 0) 128 != 0) := by rw [q64] at h4; exact h4.trans (v64 _ q64).2.symm
        rw [h1 65, h5', h2', h3', h4', q65]
        unfold dcM
        rw [q65, q9, q64]
        rfl
    | some l9 =>
      cases q64 : M.lookup 64 with
      | none =>
        have h5' : s.asn = numZ l65 := by rw [q65] at h5; exact h5.trans (v65 _ q65)
        have h2' : s.role = numZ l9 := by rw [q9] at h2; exact h2.trans (v9 _ q9)
        have h3' : s.g = 0 := by rw [q64] at h3; exact h3
        have h4' : s.ag = false := by rw [q64] at h4; exact h4
        rw [h1 65, h5', h2', h3', h4', q65]
        unfold dcM
        rw [q65, q9, q64]
        rfl
      | some l64 =>
        have h5' : s.asn = numZ l65 := by rw [q65] at h5; exact h5.trans (v65 _ q65)
        have h2' : s.role = numZ l9 := by rw [q9] at h2; exact h2.trans (v9 _ q9)
        have h3' : s.g = bits .and .i64 (numZ l64) 4095 := by rw [q64] at h3; exact h3.trans (congrArg (fun z => bits .and .i64 z 4095) (v64 _ q64).1)
        have h4' : s.ag = (bits .and .u8 (l64.getD 0 0) 128 != 0) := by rw [q64] at h4; exact h4.trans (v64 _ q64).2.symm
        rw [h1 65, h5', h2', h3', h4', q65]
        unfold dcM
        rw [q65, q9, q64]
        rfl
end Go.Proofs.Ytpclmngkpkinoaa
