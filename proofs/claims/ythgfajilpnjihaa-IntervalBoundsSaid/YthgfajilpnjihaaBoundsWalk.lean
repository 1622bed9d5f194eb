/-
  IntervalBounds (layer 39): the walk. The program's bounds and covers are the reference's, whatever the numbers are. No condition on the arguments.
-/
import Derived.Test.YthgfajilpnjihaaCover
import Derived.Test.YthgfajilpnjihaaRefCover
import Derived.Test.YthgfajilpnjihaaUse
import Derived.Deep.RegionHeld3
import Derived.Deep.DeepCutAuto
namespace Go.Proofs.Ythgfajilpnjihaa
open Go.RowKit

theorem run_min2 (P : Program) (a b : Int) (w : World) : (Builtin.min_ #[3, 3] 3 #[.int .i64 a, .int .i64 b]).run P w = .ok (.int .i64 (min a b)) w := by
  simp [Builtin.min_, Builtin.min2]
  split <;> omega

theorem call_below {P : Program} {f : FuncId} {args : Array Value} {W : World} {v : Value} (h : Calls P f args W fun e w' => e = .returned v ∧ w' = W) : Calls P f args W fun e w' => e = .returned v ∧ Below W.heap.size W w' :=
  h.mono fun _ _ ⟨he, hn⟩ => ⟨he, by subst hn; exact Below.refl _ _⟩

theorem laid_rows {w ws : World} {g g0 g1 g2 : Nat} {x0 y0 z0 u0 x1 y1 z1 u1 x2 y2 z2 u2 : Int} (hb : Below w.heap.size w ws)
    (hg : Box g 28 #[.slice (some ⟨g0, 0, none⟩) 4 4, .slice (some ⟨g1, 0, none⟩) 4 4, .slice (some ⟨g2, 0, none⟩) 4 4] ws)
    (h0 : Box g0 3 #[.int .i64 x0, .int .i64 y0, .int .i64 z0, .int .i64 u0] ws)
    (h1 : Box g1 3 #[.int .i64 x1, .int .i64 y1, .int .i64 z1, .int .i64 u1] ws)
    (h2 : Box g2 3 #[.int .i64 x2, .int .i64 y2, .int .i64 z2, .int .i64 u2] ws) :
    ∃ g', Value.slice (some ⟨g, 0, none⟩) 3 3 = Value.slice (some ⟨g', 0, none⟩) 3 3 ∧ Value.int .i64 3 = Value.int .i64 3 ∧ Value.int .i64 0 = Value.int .i64 0 ∧ Below w.heap.size w ws.drew ∧ g' < ws.drew.heap.size ∧
      ∀ i : Nat, i < 3 → ∃ (gk : Nat) (x y z u : Int), ws.drew.cell? ⟨g', i, none⟩ = some (.slice (some ⟨gk, 0, none⟩) 4 4) ∧ Box gk 3 #[.int .i64 x, .int .i64 y, .int .i64 z, .int .i64 u] ws.drew := by
  refine ⟨g, rfl, rfl, rfl, hb.drew, hg.inside, fun i hi => ?_⟩
  have hc := hg.at_ i
  match i, hi with
  | 0, _ => exact ⟨_, _, _, _, _, hc, h0⟩
  | 1, _ => exact ⟨_, _, _, _, _, hc, h1⟩
  | 2, _ => exact ⟨_, _, _, _, _, hc, h2⟩

set_option maxHeartbeats 100000000 in
set_option maxRecDepth 100000 in
theorem boundsof_any (n k m t alpha : Int) (w : World) : Calls Try.prog 4 #[.int .i64 n, .int .i64 k, .int .i64 m, .int .i64 t, .int .i64 alpha] w fun e w' => e = .returned (.bool true) ∧ Below w.heap.size w w' := by
  go_enter Try.func4, Try.ntmps4
  go_wp2_with fail
  refine (mod_any _ _ _ (by omega) (by omega)).mono ?_
  rintro e w1 ⟨rfl, rfl⟩
  have p0 := Int.emod_nonneg n (show (17 : Int) ≠ 0 by omega)
  have p1 := Int.emod_lt_of_pos n (show (0 : Int) < 17 by omega)
  generalize n % 17 = p at p0 p1
  have hp : p ≤ 60 := by omega
  go_upto_if 32 with fail
  refine (mod_any _ _ _ (by omega) (by omega)).mono ?_
  rintro e w1 ⟨rfl, rfl⟩
  generalize t % 40 = z
  go_upto_if 32 with fail
  go_cut [11] (fun v wx => ∃ P : Int, 0 ≤ P ∧ P ≤ 60 ∧ v = .int .i64 P ∧ wx = w)
  case first =>
    by_cases hz : z = 0
    · go_wp2_with fail
      refine (mod_any _ _ _ (by omega) (by omega)).mono ?_
      rintro e w1 ⟨rfl, rfl⟩
      have q0 := Int.emod_nonneg n (show (61 : Int) ≠ 0 by omega)
      have q1 := Int.emod_lt_of_pos n (show (0 : Int) < 61 by omega)
      generalize n % 61 = q at q0 q1
      go_wp2
      go_meet
      exact ⟨q, q0, by omega, rfl, rfl⟩
    · go_wp2
      go_meet
      exact ⟨p, p0, hp, rfl, rfl⟩
  case rest =>
    obtain ⟨P, P0, P1, rfl, rfl⟩ := hcut
    clear p0 p1 hp
    obtain ⟨w, rfl⟩ : ∃ x : World, x = wc := ⟨_, rfl⟩
    go_wp2_with fail
    refine (mod_any _ _ _ (by omega) (by omega)).mono ?_
    rintro e w1 ⟨rfl, rfl⟩
    have s0 := Int.emod_nonneg k (show (P + 1 : Int) ≠ 0 by omega)
    have s1 := Int.emod_lt_of_pos k (show 0 < (P + 1 : Int) by omega)
    generalize k % (P + 1 : Int) = s at s0 s1
    have m1 : ∀ W, Calls Try.prog 6 #[.int .i64 t, .int .i64 (s + 1)] W (fun e w'' => e = .returned (.int .i64 (t % (s + 1 : Int))) ∧ w'' = W) := fun W => (mod_any _ _ W (by omega) (by omega)).mono (by rintro e w' ⟨rfl, rfl⟩; exact ⟨rfl, rfl⟩)
    have m10 := Int.emod_nonneg t (show (s + 1 : Int) ≠ 0 by omega)
    have m11 := Int.emod_lt_of_pos t (show 0 < (s + 1 : Int) by omega)
    generalize t % (s + 1 : Int) = c at m1 m10 m11
    have m2 : ∀ W, Calls Try.prog 6 #[.int .i64 alpha, .int .i64 (999)] W (fun e w'' => e = .returned (.int .i64 (alpha % (999 : Int))) ∧ w'' = W) := fun W => (mod_any _ _ W (by omega) (by omega)).mono (by rintro e w' ⟨rfl, rfl⟩; exact ⟨rfl, rfl⟩)
    have m20 := Int.emod_nonneg alpha (show (999 : Int) ≠ 0 by omega)
    have m21 := Int.emod_lt_of_pos alpha (show 0 < (999 : Int) by omega)
    generalize alpha % (999 : Int) = a at m2 m20 m21
    have m3 : ∀ W, Calls Try.prog 6 #[.int .i64 t, .int .i64 (s + 4)] W (fun e w'' => e = .returned (.int .i64 (t % (s + 4 : Int))) ∧ w'' = W) := fun W => (mod_any _ _ W (by omega) (by omega)).mono (by rintro e w' ⟨rfl, rfl⟩; exact ⟨rfl, rfl⟩)
    have m30 := Int.emod_nonneg t (show (s + 4 : Int) ≠ 0 by omega)
    have m31 := Int.emod_lt_of_pos t (show 0 < (s + 4 : Int) by omega)
    generalize t % (s + 4 : Int) = d at m3 m30 m31
    have m4 : ∀ W, Calls Try.prog 6 #[.int .i64 alpha, .int .i64 (6)] W (fun e w'' => e = .returned (.int .i64 (alpha % (6 : Int))) ∧ w'' = W) := fun W => (mod_any _ _ W (by omega) (by omega)).mono (by rintro e w' ⟨rfl, rfl⟩; exact ⟨rfl, rfl⟩)
    have m40 := Int.emod_nonneg alpha (show (6 : Int) ≠ 0 by omega)
    have m41 := Int.emod_lt_of_pos alpha (show 0 < (6 : Int) by omega)
    generalize alpha % (6 : Int) = b at m4 m40 m41
    have m5 : ∀ W, Calls Try.prog 6 #[.int .i64 n, .int .i64 (20)] W (fun e w'' => e = .returned (.int .i64 (n % (20 : Int))) ∧ w'' = W) := fun W => (mod_any _ _ W (by omega) (by omega)).mono (by rintro e w' ⟨rfl, rfl⟩; exact ⟨rfl, rfl⟩)
    have m50 := Int.emod_nonneg n (show (20 : Int) ≠ 0 by omega)
    have m51 := Int.emod_lt_of_pos n (show 0 < (20 : Int) by omega)
    generalize n % (20 : Int) = f at m5 m50 m51
    have m6 : ∀ W, Calls Try.prog 6 #[.int .i64 k, .int .i64 (20)] W (fun e w'' => e = .returned (.int .i64 (k % (20 : Int))) ∧ w'' = W) := fun W => (mod_any _ _ W (by omega) (by omega)).mono (by rintro e w' ⟨rfl, rfl⟩; exact ⟨rfl, rfl⟩)
    have m60 := Int.emod_nonneg k (show (20 : Int) ≠ 0 by omega)
    have m61 := Int.emod_lt_of_pos k (show 0 < (20 : Int) by omega)
    generalize k % (20 : Int) = g at m6 m60 m61
    have m7 : ∀ W, Calls Try.prog 6 #[.int .i64 t, .int .i64 (20)] W (fun e w'' => e = .returned (.int .i64 (t % (20 : Int))) ∧ w'' = W) := fun W => (mod_any _ _ W (by omega) (by omega)).mono (by rintro e w' ⟨rfl, rfl⟩; exact ⟨rfl, rfl⟩)
    have m70 := Int.emod_nonneg t (show (20 : Int) ≠ 0 by omega)
    have m71 := Int.emod_lt_of_pos t (show 0 < (20 : Int) by omega)
    generalize t % (20 : Int) = h at m7 m70 m71
    have m8 : ∀ W, Calls Try.prog 6 #[.int .i64 alpha, .int .i64 (1003)] W (fun e w'' => e = .returned (.int .i64 (alpha % (1003 : Int))) ∧ w'' = W) := fun W => (mod_any _ _ W (by omega) (by omega)).mono (by rintro e w' ⟨rfl, rfl⟩; exact ⟨rfl, rfl⟩)
    have m80 := Int.emod_nonneg alpha (show (1003 : Int) ≠ 0 by omega)
    have m81 := Int.emod_lt_of_pos alpha (show 0 < (1003 : Int) by omega)
    generalize alpha % (1003 : Int) = r at m8 m80 m81
    have z1 : IntKind.i64.wrap (s + 1) = s + 1 := IntWalk.i64_in _ (by omega)
    have z2 : IntKind.i64.wrap (1 + a) = 1 + a := IntWalk.i64_in _ (by omega)
    have z3 : IntKind.i64.wrap (s + 4) = s + 4 := IntWalk.i64_in _ (by omega)
    have z4 : IntKind.i64.wrap (d - 2) = d - 2 := IntWalk.i64_in _ (by omega)
    have z5 : IntKind.i64.wrap (f - 2) = f - 2 := IntWalk.i64_in _ (by omega)
    have z6 : IntKind.i64.wrap (g - 2) = g - 2 := IntWalk.i64_in _ (by omega)
    have z7 : IntKind.i64.wrap (h - 2) = h - 2 := IntWalk.i64_in _ (by omega)
    have z8 : IntKind.i64.wrap (r - 1) = r - 1 := IntWalk.i64_in _ (by omega)
    obtain ⟨b, rfl⟩ := Int.eq_ofNat_of_zero_le m40
    obtain ⟨lv, hlv⟩ : ∃ lv : Int, (#[.int .i64 1, .int .i64 10, .int .i64 50, .int .i64 100, .int .i64 500, .int .i64 999] : Array Value)[b]? = some (.int .i64 lv) := by
      rcases (show b = 0 ∨ b = 1 ∨ b = 2 ∨ b = 3 ∨ b = 4 ∨ b = 5 by omega) with rfl | rfl | rfl | rfl | rfl | rfl <;> exact ⟨_, rfl⟩
    go_upto_region 5 with fail
    go_cut [75, 76, 77] (fun v75 v76 v77 wx => ∃ g, v75 = .slice (some ⟨g, 0, none⟩) 3 3 ∧ v76 = .int .i64 3 ∧ v77 = .int .i64 0 ∧ Below w.heap.size w wx ∧ g < wx.heap.size ∧ ∀ i : Nat, i < 3 → ∃ (gk : Nat) (x y z u : Int), wx.cell? ⟨g, i, none⟩ = some (.slice (some ⟨gk, 0, none⟩) 4 4) ∧ Box gk 3 #[.int .i64 x, .int .i64 y, .int .i64 z, .int .i64 u] wx)
    case first =>
      have M1 := Lib.hid (fun W => call_below (m1 W)); clear m1
      have M2 := Lib.hid (fun W => call_below (m2 W)); clear m2
      have M3 := Lib.hid (fun W => call_below (m3 W)); clear m3
      have M4 := Lib.hid (fun W => call_below (m4 W)); clear m4
      have M5 := Lib.hid (fun W => call_below (m5 W)); clear m5
      have M6 := Lib.hid (fun W => call_below (m6 W)); clear m6
      have M7 := Lib.hid (fun W => call_below (m7 W)); clear m7
      have M8 := Lib.hid (fun W => call_below (m8 W)); clear m8
      clear m10 m11 m20 m21 m30 m31 m40 m50 m51 m60 m61 m70 m71 m80 m81 s0 s1 P0 P1
      have m42 : (b : Int) < 6 := m41
      refine wp_region_tail 39 (fun _ => False) (fun _ => True) (Stays (fun _ => False)) [isV (.int .i64 P), isV (.int .i64 s), isV (.int .i64 t), isV (.int .i64 s), isV (.int .i64 (s + 1)), isV (.int .i64 c), isV (.int .i64 alpha), isV (.int .i64 a), isV (.int .i64 (1 + a)), isLit (fun _ => False) (w.heap.size) 3 #[.int .i64 P, .int .i64 s, .int .i64 c, .int .i64 (1 + a)] 4, isV (.int .i64 P), isV (.int .i64 s), isV (.int .i64 t), isV (.int .i64 s), isV (.int .i64 (s + 4)), isV (.int .i64 d), isV (.int .i64 (d - 2)), isLit (fun _ => False) (w.heap.size) 3 #[.int .i64 1, .int .i64 10, .int .i64 50, .int .i64 100, .int .i64 500, .int .i64 999] 6, isV (.int .i64 alpha), isV (.int .i64 (b : Int)), .fact (fun _ v W => ∃ g : Nat, v = .pointer (some ⟨g, b, none⟩) ∧ g < W.heap.size ∧ W.cell? ⟨g, b, none⟩ = some (.int .i64 lv)), isV (.int .i64 lv), isLit (fun _ => False) (w.heap.size) 3 #[.int .i64 P, .int .i64 s, .int .i64 (d - 2), .int .i64 lv] 4, isV (.int .i64 n), isV (.int .i64 f), isV (.int .i64 (f - 2)), isV (.int .i64 k), isV (.int .i64 g), isV (.int .i64 (g - 2)), isV (.int .i64 t), isV (.int .i64 h), isV (.int .i64 (h - 2)), isV (.int .i64 alpha), isV (.int .i64 r), isV (.int .i64 (r - 1)), isLit (fun _ => False) (w.heap.size) 3 #[.int .i64 (f - 2), .int .i64 (g - 2), .int .i64 (h - 2), .int .i64 (r - 1)] 4, .fact (fun _ v W => ∃ q q0 q1 q2 : Nat, v = .slice (some ⟨q, 0, none⟩) 3 3 ∧ Box q 28 #[.slice (some ⟨q0, 0, none⟩) 4 4, .slice (some ⟨q1, 0, none⟩) 4 4, .slice (some ⟨q2, 0, none⟩) 4 4] W ∧ Box q0 3 #[.int .i64 P, .int .i64 s, .int .i64 c, .int .i64 (1 + a)] W ∧ Box q1 3 #[.int .i64 P, .int .i64 s, .int .i64 (d - 2), .int .i64 lv] W ∧ Box q2 3 #[.int .i64 (f - 2), .int .i64 (g - 2), .int .i64 (h - 2), .int .i64 (r - 1)] W), isV (.int .i64 3), isV (.int .i64 0)] (by kernel_rfl) (by kernel_rfl) (by kernel_rfl) (by kernel_rfl) trivial (fun _ h => False.elim h) (fun _ _ _ h => h) ?spr1 ?enr1
      case spr1 =>
        -- 0: Op.move t11
        refine specs_cons (cst _ rfl fun env ρ W hW hI hF hS => ?_) ?_
        · have e11 := hS.at 11 (by kernel_rfl) (slot_base (by kernel_rfl))
          go_simp
          try with_reducible rfl
        -- 1: Op.move t12
        refine specs_cons (cst _ rfl fun env ρ W hW hI hF hS => ?_) ?_
        · have e12 := hS.at 12 (by kernel_rfl) (slot_base (by kernel_rfl))
          go_simp
          try with_reducible rfl
        -- 2: Op.move t3
        refine specs_cons (cst _ rfl fun env ρ W hW hI hF hS => ?_) ?_
        · have e3 := hS.at 3 (by kernel_rfl) (slot_base (by kernel_rfl))
          go_simp
          try with_reducible rfl
        -- 3: Op.move t12
        refine specs_cons (cst _ rfl fun env ρ W hW hI hF hS => ?_) ?_
        · have e12 := hS.at 12 (by kernel_rfl) (slot_base (by kernel_rfl))
          go_simp
          try with_reducible rfl
        -- 4: Op.binOp BinOp.add 3 t42 (const (1:i64)) 3
        refine specs_cons (cst _ rfl fun env ρ W hW hI hF hS => ?_) ?_
        · have hc := stays_cells hW; have cc := hS.const; have e42 := (hS.at 42 (by kernel_rfl) (v := env 3) (by kernel_rfl)).trans (hF 3 (by kernel_rfl))
          go_simp
          try with_reducible rfl
        -- 5: Op.call { value (Operand.func 6), args := #[t41, t43], argTypes := #[3
        refine specs_cons (call_cst _ rfl (fun _ _ _ h => h) (f := ?ff5r1) (args := ?aa5r1) fun env ρ W hW hI hF hS => ⟨?ru5r1, ?ca5r1⟩) ?nx5r1
        case ru5r1 =>
          have hc := stays_cells hW; have cf := hS.func; have e41 := (hS.at 41 (by kernel_rfl) (v := env 2) (by kernel_rfl)).trans (hF 2 (by kernel_rfl)); have e43 := (hS.at 43 (by kernel_rfl) (v := env 4) (by kernel_rfl)).trans (hF 4 (by kernel_rfl))
          go_simp
          constructor <;> rfl
        case ca5r1 => exact M1.out _
        -- 6: Op.move t4
        refine specs_cons (cst _ rfl fun env ρ W hW hI hF hS => ?_) ?_
        · have e4 := hS.at 4 (by kernel_rfl) (slot_base (by kernel_rfl))
          go_simp
          try with_reducible rfl
        -- 7: Op.call { value (Operand.func 6), args := #[t45, const (999:i64)], arg
        refine specs_cons (call_cst _ rfl (fun _ _ _ h => h) (f := ?ff7r1) (args := ?aa7r1) fun env ρ W hW hI hF hS => ⟨?ru7r1, ?ca7r1⟩) ?nx7r1
        case ru7r1 =>
          have hc := stays_cells hW; have cf := hS.func; have cc := hS.const; have e45 := (hS.at 45 (by kernel_rfl) (v := env 6) (by kernel_rfl)).trans (hF 6 (by kernel_rfl))
          go_simp
          constructor <;> rfl
        case ca7r1 => exact M2.out _
        -- 8: Op.binOp BinOp.add 3 (const (1:i64)) t46 3
        refine specs_cons (cst _ rfl fun env ρ W hW hI hF hS => ?_) ?_
        · have hc := stays_cells hW; have cc := hS.const; have e46 := (hS.at 46 (by kernel_rfl) (v := env 7) (by kernel_rfl)).trans (hF 7 (by kernel_rfl))
          go_simp
          try with_reducible rfl
        -- 9: Op.buildSlice 28 4 #[(0, t39), (1, t40), (2, t44), (3, t47)]
        refine specs_cons (lit_made (Nat.le_refl _) _ _ _ rfl (fun _ h => False.elim h) (fun _ _ _ h => h) fun env ρ W hW hI hF hS => ?_) ?_
        · have e39 := (hS.at 39 (by kernel_rfl) (v := env 0) (by kernel_rfl)).trans (hF 0 (by kernel_rfl)); have e40 := (hS.at 40 (by kernel_rfl) (v := env 1) (by kernel_rfl)).trans (hF 1 (by kernel_rfl)); have e44 := (hS.at 44 (by kernel_rfl) (v := env 5) (by kernel_rfl)).trans (hF 5 (by kernel_rfl)); have e47 := (hS.at 47 (by kernel_rfl) (v := env 8) (by kernel_rfl)).trans (hF 8 (by kernel_rfl))
          go_simp
          try with_reducible rfl
        -- 10: Op.move t11
        refine specs_cons (cst _ rfl fun env ρ W hW hI hF hS => ?_) ?_
        · have e11 := hS.at 11 (by kernel_rfl) (slot_base (by kernel_rfl))
          go_simp
          try with_reducible rfl
        -- 11: Op.move t12
        refine specs_cons (cst _ rfl fun env ρ W hW hI hF hS => ?_) ?_
        · have e12 := hS.at 12 (by kernel_rfl) (slot_base (by kernel_rfl))
          go_simp
          try with_reducible rfl
        -- 12: Op.move t3
        refine specs_cons (cst _ rfl fun env ρ W hW hI hF hS => ?_) ?_
        · have e3 := hS.at 3 (by kernel_rfl) (slot_base (by kernel_rfl))
          go_simp
          try with_reducible rfl
        -- 13: Op.move t12
        refine specs_cons (cst _ rfl fun env ρ W hW hI hF hS => ?_) ?_
        · have e12 := hS.at 12 (by kernel_rfl) (slot_base (by kernel_rfl))
          go_simp
          try with_reducible rfl
        -- 14: Op.binOp BinOp.add 3 t52 (const (4:i64)) 3
        refine specs_cons (cst _ rfl fun env ρ W hW hI hF hS => ?_) ?_
        · have hc := stays_cells hW; have cc := hS.const; have e52 := (hS.at 52 (by kernel_rfl) (v := env 13) (by kernel_rfl)).trans (hF 13 (by kernel_rfl))
          go_simp
          try with_reducible rfl
        -- 15: Op.call { value (Operand.func 6), args := #[t51, t53], argTypes := #[3
        refine specs_cons (call_cst _ rfl (fun _ _ _ h => h) (f := ?ff15r1) (args := ?aa15r1) fun env ρ W hW hI hF hS => ⟨?ru15r1, ?ca15r1⟩) ?nx15r1
        case ru15r1 =>
          have hc := stays_cells hW; have cf := hS.func; have e51 := (hS.at 51 (by kernel_rfl) (v := env 12) (by kernel_rfl)).trans (hF 12 (by kernel_rfl)); have e53 := (hS.at 53 (by kernel_rfl) (v := env 14) (by kernel_rfl)).trans (hF 14 (by kernel_rfl))
          go_simp
          constructor <;> rfl
        case ca15r1 => exact M3.out _
        -- 16: Op.binOp BinOp.sub 3 t54 (const (2:i64)) 3
        refine specs_cons (cst _ rfl fun env ρ W hW hI hF hS => ?_) ?_
        · have hc := stays_cells hW; have cc := hS.const; have e54 := (hS.at 54 (by kernel_rfl) (v := env 15) (by kernel_rfl)).trans (hF 15 (by kernel_rfl))
          go_simp
          try with_reducible rfl
        -- 17: Op.buildSlice 28 6 #[(0, const (1:i64)), (1, const (10:i64)), (2, cons
        refine specs_cons (lit_made (Nat.le_refl _) _ _ _ rfl (fun _ h => False.elim h) (fun _ _ _ h => h) fun env ρ W hW hI hF hS => ?_) ?_
        · have cc := hS.const
          go_simp
          try with_reducible rfl
        -- 18: Op.move t4
        refine specs_cons (cst _ rfl fun env ρ W hW hI hF hS => ?_) ?_
        · have e4 := hS.at 4 (by kernel_rfl) (slot_base (by kernel_rfl))
          go_simp
          try with_reducible rfl
        -- 19: Op.call { value (Operand.func 6), args := #[t57, const (6:i64)], argTy
        refine specs_cons (call_cst _ rfl (fun _ _ _ h => h) (f := ?ff19r1) (args := ?aa19r1) fun env ρ W hW hI hF hS => ⟨?ru19r1, ?ca19r1⟩) ?nx19r1
        case ru19r1 =>
          have hc := stays_cells hW; have cf := hS.func; have cc := hS.const; have e57 := (hS.at 57 (by kernel_rfl) (v := env 18) (by kernel_rfl)).trans (hF 18 (by kernel_rfl))
          go_simp
          constructor <;> rfl
        case ca19r1 => exact M4.out _
        -- 20: Op.indexAddr 28 t56 t58
        refine specs_cons (val_fact _ rfl (fun _ _ _ _ _ h => h) (fun _ _ _ _ hs ⟨g, h1, h2, h3⟩ => ⟨g, h1, Nat.lt_of_lt_of_le h2 hs.size, (hs.cell (p := ⟨g, b, none⟩) h2 id).trans h3⟩) fun env ρ W hW hI hF hS => ?_) ?_
        · have hc := stays_cells hW; have e56 := hS.at 56 (by kernel_rfl) (v := env 17) (by kernel_rfl); obtain ⟨g17, k17, ⟨l17, n17⟩, b17⟩ := hF 17 (by kernel_rfl); have e58 := (hS.at 58 (by kernel_rfl) (v := env 19) (by kernel_rfl)).trans (hF 19 (by kernel_rfl))
          refine ⟨.pointer (some ⟨g17, b, none⟩), by go_simp, ?_⟩
          exact ⟨g17, rfl, b17.inside, (b17.at_ b).trans hlv⟩
        -- 21: Op.load 3 t59
        refine specs_cons (cst _ rfl fun env ρ W hW hI hF hS => ?_) ?_
        · have hc := stays_cells hW; have e59 := hS.at 59 (by kernel_rfl) (v := env 20) (by kernel_rfl); obtain ⟨g20, q20, l20, c20⟩ := hF 20 (by kernel_rfl)
          go_simp
          try with_reducible rfl
        -- 22: Op.buildSlice 28 4 #[(0, t49), (1, t50), (2, t55), (3, t60)]
        refine specs_cons (lit_made (Nat.le_refl _) _ _ _ rfl (fun _ h => False.elim h) (fun _ _ _ h => h) fun env ρ W hW hI hF hS => ?_) ?_
        · have e49 := (hS.at 49 (by kernel_rfl) (v := env 10) (by kernel_rfl)).trans (hF 10 (by kernel_rfl)); have e50 := (hS.at 50 (by kernel_rfl) (v := env 11) (by kernel_rfl)).trans (hF 11 (by kernel_rfl)); have e55 := (hS.at 55 (by kernel_rfl) (v := env 16) (by kernel_rfl)).trans (hF 16 (by kernel_rfl)); have e60 := (hS.at 60 (by kernel_rfl) (v := env 21) (by kernel_rfl)).trans (hF 21 (by kernel_rfl))
          go_simp
          try with_reducible rfl
        -- 23: Op.move t0
        refine specs_cons (cst _ rfl fun env ρ W hW hI hF hS => ?_) ?_
        · have e0 := hS.at 0 (by kernel_rfl) (slot_base (by kernel_rfl))
          go_simp
          try with_reducible rfl
        -- 24: Op.call { value (Operand.func 6), args := #[t62, const (20:i64)], argT
        refine specs_cons (call_cst _ rfl (fun _ _ _ h => h) (f := ?ff24r1) (args := ?aa24r1) fun env ρ W hW hI hF hS => ⟨?ru24r1, ?ca24r1⟩) ?nx24r1
        case ru24r1 =>
          have hc := stays_cells hW; have cf := hS.func; have cc := hS.const; have e62 := (hS.at 62 (by kernel_rfl) (v := env 23) (by kernel_rfl)).trans (hF 23 (by kernel_rfl))
          go_simp
          constructor <;> rfl
        case ca24r1 => exact M5.out _
        -- 25: Op.binOp BinOp.sub 3 t63 (const (2:i64)) 3
        refine specs_cons (cst _ rfl fun env ρ W hW hI hF hS => ?_) ?_
        · have hc := stays_cells hW; have cc := hS.const; have e63 := (hS.at 63 (by kernel_rfl) (v := env 24) (by kernel_rfl)).trans (hF 24 (by kernel_rfl))
          go_simp
          try with_reducible rfl
        -- 26: Op.move t1
        refine specs_cons (cst _ rfl fun env ρ W hW hI hF hS => ?_) ?_
        · have e1 := hS.at 1 (by kernel_rfl) (slot_base (by kernel_rfl))
          go_simp
          try with_reducible rfl
        -- 27: Op.call { value (Operand.func 6), args := #[t65, const (20:i64)], argT
        refine specs_cons (call_cst _ rfl (fun _ _ _ h => h) (f := ?ff27r1) (args := ?aa27r1) fun env ρ W hW hI hF hS => ⟨?ru27r1, ?ca27r1⟩) ?nx27r1
        case ru27r1 =>
          have hc := stays_cells hW; have cf := hS.func; have cc := hS.const; have e65 := (hS.at 65 (by kernel_rfl) (v := env 26) (by kernel_rfl)).trans (hF 26 (by kernel_rfl))
          go_simp
          constructor <;> rfl
        case ca27r1 => exact M6.out _
        -- 28: Op.binOp BinOp.sub 3 t66 (const (2:i64)) 3
        refine specs_cons (cst _ rfl fun env ρ W hW hI hF hS => ?_) ?_
        · have hc := stays_cells hW; have cc := hS.const; have e66 := (hS.at 66 (by kernel_rfl) (v := env 27) (by kernel_rfl)).trans (hF 27 (by kernel_rfl))
          go_simp
          try with_reducible rfl
        -- 29: Op.move t3
        refine specs_cons (cst _ rfl fun env ρ W hW hI hF hS => ?_) ?_
        · have e3 := hS.at 3 (by kernel_rfl) (slot_base (by kernel_rfl))
          go_simp
          try with_reducible rfl
        -- 30: Op.call { value (Operand.func 6), args := #[t68, const (20:i64)], argT
        refine specs_cons (call_cst _ rfl (fun _ _ _ h => h) (f := ?ff30r1) (args := ?aa30r1) fun env ρ W hW hI hF hS => ⟨?ru30r1, ?ca30r1⟩) ?nx30r1
        case ru30r1 =>
          have hc := stays_cells hW; have cf := hS.func; have cc := hS.const; have e68 := (hS.at 68 (by kernel_rfl) (v := env 29) (by kernel_rfl)).trans (hF 29 (by kernel_rfl))
          go_simp
          constructor <;> rfl
        case ca30r1 => exact M7.out _
        -- 31: Op.binOp BinOp.sub 3 t69 (const (2:i64)) 3
        refine specs_cons (cst _ rfl fun env ρ W hW hI hF hS => ?_) ?_
        · have hc := stays_cells hW; have cc := hS.const; have e69 := (hS.at 69 (by kernel_rfl) (v := env 30) (by kernel_rfl)).trans (hF 30 (by kernel_rfl))
          go_simp
          try with_reducible rfl
        -- 32: Op.move t4
        refine specs_cons (cst _ rfl fun env ρ W hW hI hF hS => ?_) ?_
        · have e4 := hS.at 4 (by kernel_rfl) (slot_base (by kernel_rfl))
          go_simp
          try with_reducible rfl
        -- 33: Op.call { value (Operand.func 6), args := #[t71, const (1003:i64)], ar
        refine specs_cons (call_cst _ rfl (fun _ _ _ h => h) (f := ?ff33r1) (args := ?aa33r1) fun env ρ W hW hI hF hS => ⟨?ru33r1, ?ca33r1⟩) ?nx33r1
        case ru33r1 =>
          have hc := stays_cells hW; have cf := hS.func; have cc := hS.const; have e71 := (hS.at 71 (by kernel_rfl) (v := env 32) (by kernel_rfl)).trans (hF 32 (by kernel_rfl))
          go_simp
          constructor <;> rfl
        case ca33r1 => exact M8.out _
        -- 34: Op.binOp BinOp.sub 3 t72 (const (1:i64)) 3
        refine specs_cons (cst _ rfl fun env ρ W hW hI hF hS => ?_) ?_
        · have hc := stays_cells hW; have cc := hS.const; have e72 := (hS.at 72 (by kernel_rfl) (v := env 33) (by kernel_rfl)).trans (hF 33 (by kernel_rfl))
          go_simp
          try with_reducible rfl
        -- 35: Op.buildSlice 28 4 #[(0, t64), (1, t67), (2, t70), (3, t73)]
        refine specs_cons (lit_made (Nat.le_refl _) _ _ _ rfl (fun _ h => False.elim h) (fun _ _ _ h => h) fun env ρ W hW hI hF hS => ?_) ?_
        · have e64 := (hS.at 64 (by kernel_rfl) (v := env 25) (by kernel_rfl)).trans (hF 25 (by kernel_rfl)); have e67 := (hS.at 67 (by kernel_rfl) (v := env 28) (by kernel_rfl)).trans (hF 28 (by kernel_rfl)); have e70 := (hS.at 70 (by kernel_rfl) (v := env 31) (by kernel_rfl)).trans (hF 31 (by kernel_rfl)); have e73 := (hS.at 73 (by kernel_rfl) (v := env 34) (by kernel_rfl)).trans (hF 34 (by kernel_rfl))
          go_simp
          try with_reducible rfl
        -- 36: Op.buildSlice 29 3 #[(0, t48), (1, t61), (2, t74)]
        refine specs_cons (mk_fact _ rfl (fun _ _ _ _ _ h => h) (fun _ _ _ _ hs ⟨q, q0, q1, q2, h1, h2, h3, h4, h5⟩ => ⟨q, q0, q1, q2, h1, box_stays h2 hs id, box_stays h3 hs id, box_stays h4 hs id, box_stays h5 hs id⟩) fun env ρ W hW hI hF hS => ?_) ?_
        · have e48 := hS.at 48 (by kernel_rfl) (v := env 9) (by kernel_rfl); obtain ⟨g9, k9, ⟨l9, n9⟩, b9⟩ := hF 9 (by kernel_rfl); have e61 := hS.at 61 (by kernel_rfl) (v := env 22) (by kernel_rfl); obtain ⟨g22, k22, ⟨l22, n22⟩, b22⟩ := hF 22 (by kernel_rfl); have e74 := hS.at 74 (by kernel_rfl) (v := env 35) (by kernel_rfl); obtain ⟨g35, k35, ⟨l35, n35⟩, b35⟩ := hF 35 (by kernel_rfl)
          refine ⟨_, _, by (go_simp; constructor <;> rfl), ?_⟩
          exact ⟨Stays.alloc _ _ _, trivial, W.heap.size, g9, g22, g35, rfl, Box.made _ _ _, b9.past _, b22.past _, b35.past _⟩
        -- 37: Op.call { builtin len, args := #[t75], argTypes := #[29] }
        refine specs_cons (cst _ rfl fun env ρ W hW hI hF hS => ?_) ?_
        · have hc := stays_cells hW; have e75 := hS.at 75 (by kernel_rfl) (v := env 36) (by kernel_rfl); obtain ⟨G36, G0, G1, G2, q36, B36, B360, B361, B362⟩ := hF 36 (by kernel_rfl)
          go_simp
          try with_reducible rfl
        -- 38: Op.move (const (0:i64))
        refine specs_cons (cst _ rfl fun env ρ W hW hI hF hS => ?_) ?_
        · have cc := hS.const
          go_simp
          try with_reducible rfl
        exact specs_nil
      case enr1 =>
        intro env W K
        have f0 : env 0 = _ := K.facts 0 (by decide) rfl
        have f1 : env 1 = _ := K.facts 1 (by decide) rfl
        have f2 : env 2 = _ := K.facts 2 (by decide) rfl
        have f3 : env 3 = _ := K.facts 3 (by decide) rfl
        have f4 : env 4 = _ := K.facts 4 (by decide) rfl
        have f5 : env 5 = _ := K.facts 5 (by decide) rfl
        have f6 : env 6 = _ := K.facts 6 (by decide) rfl
        have f7 : env 7 = _ := K.facts 7 (by decide) rfl
        have f8 : env 8 = _ := K.facts 8 (by decide) rfl
        obtain ⟨g9, k9, ⟨l9, x9⟩, b9⟩ := K.facts 9 (by decide) rfl
        have f10 : env 10 = _ := K.facts 10 (by decide) rfl
        have f11 : env 11 = _ := K.facts 11 (by decide) rfl
        have f12 : env 12 = _ := K.facts 12 (by decide) rfl
        have f13 : env 13 = _ := K.facts 13 (by decide) rfl
        have f14 : env 14 = _ := K.facts 14 (by decide) rfl
        have f15 : env 15 = _ := K.facts 15 (by decide) rfl
        have f16 : env 16 = _ := K.facts 16 (by decide) rfl
        obtain ⟨g17, k17, ⟨l17, x17⟩, b17⟩ := K.facts 17 (by decide) rfl
        have f18 : env 18 = _ := K.facts 18 (by decide) rfl
        have f19 : env 19 = _ := K.facts 19 (by decide) rfl
        obtain ⟨g20, q20, l20, c20⟩ := K.facts 20 (by decide) rfl
        have f21 : env 21 = _ := K.facts 21 (by decide) rfl
        obtain ⟨g22, k22, ⟨l22, x22⟩, b22⟩ := K.facts 22 (by decide) rfl
        have f23 : env 23 = _ := K.facts 23 (by decide) rfl
        have f24 : env 24 = _ := K.facts 24 (by decide) rfl
        have f25 : env 25 = _ := K.facts 25 (by decide) rfl
        have f26 : env 26 = _ := K.facts 26 (by decide) rfl
        have f27 : env 27 = _ := K.facts 27 (by decide) rfl
        have f28 : env 28 = _ := K.facts 28 (by decide) rfl
        have f29 : env 29 = _ := K.facts 29 (by decide) rfl
        have f30 : env 30 = _ := K.facts 30 (by decide) rfl
        have f31 : env 31 = _ := K.facts 31 (by decide) rfl
        have f32 : env 32 = _ := K.facts 32 (by decide) rfl
        have f33 : env 33 = _ := K.facts 33 (by decide) rfl
        have f34 : env 34 = _ := K.facts 34 (by decide) rfl
        obtain ⟨g35, k35, ⟨l35, x35⟩, b35⟩ := K.facts 35 (by decide) rfl
        obtain ⟨G36, G0, G1, G2, q36, B36, B360, B361, B362⟩ := K.facts 36 (by decide) rfl
        have f37 : env 37 = _ := K.facts 37 (by decide) rfl
        have f38 : env 38 = _ := K.facts 38 (by decide) rfl
        have hgrow := K.stays.of_drew.below
        clear K
        simp only [List.take_succ_cons, List.take_nil, List.drop_nil, List.drop_succ_cons, putAll, Nat.reduceAdd, wpList]
        simp only [Act.put, List.setIfInBounds_toArray, List.set_cons_succ, List.set_cons_zero, f0, f1, f2, f3, f4, f5, f6, f7, f8, k9, f10, f11, f12, f13, f14, f15, f16, k17, f18, f19, f21, k22, f23, f24, f25, f26, f27, f28, f29, f30, f31, f32, f33, f34, k35, q36, f37, f38]
        clear f0 f1 f2 f3 f4 f5 f6 f7 f8 f10 f11 f12 f13 f14 f15 f16 f18 f19 f21 f23 f24 f25 f26 f27 f28 f29 f30 f31 f32 f33 f34 f37 f38
        have hg36 := B36.inside
        go_wp2
        go_meet
        refine ⟨G36, rfl, rfl, rfl, hgrow, hg36, fun i hi => ?_⟩
        have hc := B36.at_ i
        match i, hi with
        | 0, _ => exact ⟨_, _, _, _, _, hc, B360⟩
        | 1, _ => exact ⟨_, _, _, _, _, hc, B361⟩
        | 2, _ => exact ⟨_, _, _, _, _, hc, B362⟩
    case rest =>
      obtain ⟨ws, rfl⟩ : ∃ x : World, x = wc := ⟨_, rfl⟩
      obtain ⟨g9, rfl, rfl, rfl, hbelS, hlt3, hrows⟩ := hcut
      have HR := Lib.hid hrows; clear hrows
      clear m1 m2 m3 m4 m5 m6 m7 m8 z1 z2 z3 z4 z5 z6 z7 z8 hlv m10 m11 m20 m21 m30 m31 m40 m41 m50 m51 m60 m61 m70 m71 m80 m81
      go_wp2_with fail
      go_loopw [77] (fun i wr => ∃ j : Nat, j ≤ 3 ∧ i = .int .i64 j ∧ Below ws.heap.size ws wr) (fun i _ => 3 - (intOf i).toNat)
      case atStart => exact ⟨0, by omega, rfl, Below.refl _ _⟩
      case round =>
        obtain ⟨j, hj, rfl, hbel⟩ := hrel
        by_cases hlt : j < 3
        · obtain ⟨gk, x, y, z', u, hc, hB⟩ := HR.out j hlt
          have hc' : wr.cell? ⟨g9, j, none⟩ = some (.slice (some ⟨gk, 0, none⟩) 4 4) := (hbel.cell (p := ⟨g9, j, none⟩) hlt3).trans hc
          have hBr := hB.under hbel hB.inside
          have k0 : wr.cell? ⟨gk, 0, none⟩ = some (.int .i64 x) := hBr.at_ 0
          have k1 : wr.cell? ⟨gk, 1, none⟩ = some (.int .i64 y) := hBr.at_ 1
          have k2 : wr.cell? ⟨gk, 2, none⟩ = some (.int .i64 z') := hBr.at_ 2
          have k3 : wr.cell? ⟨gk, 3, none⟩ = some (.int .i64 u) := hBr.at_ 3
          have hgk := hBr.inside
          clear hc
          go_upto_region 8 with fail
          go_cut [15, 16, 17] (fun v v2 e wx => v = .int .i64 (bL x y z' u) ∧ v2 = .int .i64 (bH x y z' u) ∧ e = .int .i64 (bE x y z' u) ∧ Below wr.heap.size wr wx)
          case first =>
            go_region_held3 (fun w' => w'.cell? ⟨gk, 0, none⟩ = some (.int .i64 x) ∧ w'.cell? ⟨gk, 1, none⟩ = some (.int .i64 y) ∧ w'.cell? ⟨gk, 2, none⟩ = some (.int .i64 z') ∧ w'.cell? ⟨gk, 3, none⟩ = some (.int .i64 u))
              (first | go_keep | (go_split_ands; refine ⟨?_, ?_, ?_, ?_⟩ <;> (rw [hb1.cell (by simpa using hgk)]; assumption)))
              ((go_at_call 9; refine (bounds_all x y z' u _).mono ?_; rintro e w1 ⟨rfl, hb1⟩))
            go_wp2_with fail
            go_meet
            exact ⟨rfl, rfl, rfl, (Below.refl _ _).drew.trans hb1⟩
          case rest =>
            obtain ⟨w_0, rfl⟩ : ∃ x : World, x = wc := ⟨_, rfl⟩
            obtain ⟨rfl, rfl, rfl, hbc⟩ := hcut
            replace hBr := hBr.under hbc hgk
            replace hbel := hbel.trans (hbc.mono hbel.size)
            replace hgk := hBr.inside
            clear hbc k0 k1 k2 k3 hc'
            have k0 : w_0.cell? ⟨gk, 0, none⟩ = some (.int .i64 x) := hBr.at_ 0
            have k1 : w_0.cell? ⟨gk, 1, none⟩ = some (.int .i64 y) := hBr.at_ 1
            have k2 : w_0.cell? ⟨gk, 2, none⟩ = some (.int .i64 z') := hBr.at_ 2
            have k3 : w_0.cell? ⟨gk, 3, none⟩ = some (.int .i64 u) := hBr.at_ 3
            go_upto_region 9 with fail
            go_cut [18, 19, 20] (fun v v2 e wx => v = .int .i64 (bL x y z' u) ∧ v2 = .int .i64 (bH x y z' u) ∧ e = .int .i64 (bE x y z' u) ∧ Below w_0.heap.size w_0 wx)
            case first =>
              go_region_held3 (fun w' => w'.cell? ⟨gk, 0, none⟩ = some (.int .i64 x) ∧ w'.cell? ⟨gk, 1, none⟩ = some (.int .i64 y) ∧ w'.cell? ⟨gk, 2, none⟩ = some (.int .i64 z') ∧ w'.cell? ⟨gk, 3, none⟩ = some (.int .i64 u))
                (first | go_keep | (go_split_ands; refine ⟨?_, ?_, ?_, ?_⟩ <;> (rw [hb1.cell (by simpa using hgk)]; assumption)))
                ((go_at_call 10; refine (rbounds_all x y z' u _).mono ?_; rintro e w1 ⟨rfl, hb1⟩))
              go_wp2_with fail
              go_meet
              exact ⟨rfl, rfl, rfl, (Below.refl _ _).drew.trans hb1⟩
            case rest =>
              obtain ⟨w_1, rfl⟩ : ∃ x : World, x = wc := ⟨_, rfl⟩
              obtain ⟨rfl, rfl, rfl, hbc⟩ := hcut
              replace hbel := hbel.trans (hbc.mono hbel.size)
              clear hbc k0 k1 k2 k3
              go_wp2
              go_roundw
              case rel => exact ⟨j + 1, by omega, by go_num, hbel⟩
              case measure => simp [intOf]; omega
        · obtain ⟨q, hq⟩ : ∃ q : Nat, min P 16 = q := ⟨(min P 16).toNat, by omega⟩
          obtain ⟨sn, hsn⟩ : ∃ sn : Nat, min s (q : Int) = sn := ⟨(min s q).toNat, by omega⟩
          have q1 : q ≤ 16 := by omega
          have q2 : sn ≤ q := by omega
          have hmin1 := fun W => run_min2 Try.prog P 16 W
          rw [hq] at hmin1
          have hmin2 := fun W => run_min2 Try.prog s q W
          rw [hsn] at hmin2
          have hb0 := hbelS.trans (hbel.mono hbelS.size)
          clear hq hsn hbel hlt3 HR
          go_wp2_with fail
          refine (mod_any _ _ _ (by omega) (by omega)).mono ?_
          rintro e w1 ⟨rfl, rfl⟩
          have y0 := Int.emod_nonneg m (show ((q : Int) + 1) ≠ 0 by omega)
          have y1 := Int.emod_lt_of_pos m (show 0 < (q : Int) + 1 by omega)
          generalize hy : m % ((q : Int) + 1) = y at y0 y1
          obtain ⟨y, rfl⟩ := Int.eq_ofNat_of_zero_le y0
          have HY := Lib.hid hy; clear hy
          go_wp2_with fail
          refine (mod_any _ _ _ (by omega) (by omega)).mono ?_
          rintro e w1 ⟨rfl, rfl⟩
          have c0 := Int.emod_nonneg alpha (show (999 : Int) ≠ 0 by omega)
          have c1 := Int.emod_lt_of_pos alpha (show (0 : Int) < 999 by omega)
          generalize hal : alpha % 999 = al at c0 c1
          obtain ⟨al, rfl⟩ := Int.eq_ofNat_of_zero_le c0
          have HAL := Lib.hid hal; clear hal
          have ha1 : (1 + (al : Int)) = (al : Int) + 1 := by omega
          go_wp2_with fail
          refine (cover_ok q sn y (al + 1) _ (by omega) (by omega) (by omega) (by omega) (by omega)).mono ?_
          rintro e w1 ⟨rfl, hb1⟩
          have hb2 := hb0.trans (hb1.mono hb0.size)
          clear hb0 hb1
          go_wp2_with fail
          refine (mod_any _ _ _ (by omega) (by omega)).mono ?_
          rintro e w3 ⟨rfl, rfl⟩
          rw [HY.out]
          go_wp2_with fail
          refine (mod_any _ _ _ (by omega) (by omega)).mono ?_
          rintro e w3 ⟨rfl, rfl⟩
          rw [HAL.out]
          go_wp2_with fail
          refine (rcover_ok q sn y (al + 1) _ (by omega) (by omega) (by omega) (by omega) (by omega)).mono ?_
          rintro e w4 ⟨rfl, hb4⟩
          have hb5 := hb2.trans (hb4.mono hb2.size)
          clear hb2 hb4
          go_wp2_with fail
          refine (awake_any _).mono ?_
          rintro e w7 ⟨rfl, hb7⟩
          go_wp2
          go_ret
          exact ⟨rfl, hb5.trans (hb7.mono hb5.size)⟩
end Go.Proofs.Ythgfajilpnjihaa
