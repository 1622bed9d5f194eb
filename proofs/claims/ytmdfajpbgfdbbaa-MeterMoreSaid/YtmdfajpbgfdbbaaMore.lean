/-
  MeterMore (layer 12): the walk. With a greater level, rate or burst at least as much is granted in all. No condition on the arguments.
-/
import Derived.Test.YtmdfajpbgfdbbaaBounds
import Derived.Deep.CutBlock
namespace Go.Proofs.Ytmdfajpbgfdbbaa
open Go.RowKit

theorem more_le (R B L R2 B2 L2 : Int) (ns : List Int) (hR : 0 ≤ R) (h0 : 0 ≤ L) (h1 : L ≤ B) (h2 : L2 ≤ B2) (e1 : R ≤ R2) (e2 : B ≤ B2) (e3 : L ≤ L2) (k : Nat) (hk : k ≤ ns.length) :
    span (gr R B L ns) 0 k ≤ span (gr R2 B2 L2 ns) 0 k ∧ span (gr R B L ns) 0 k + lvl R B L (ns.take k) ≤ span (gr R2 B2 L2 ns) 0 k + lvl R2 B2 L2 (ns.take k) := by
  induction k with
  | zero => rw [span_self, span_self]; simp [lvl]; omega
  | succ k ih =>
    obtain ⟨i1, i2⟩ := ih (by omega)
    obtain ⟨a1, a2⟩ := gr_at R B ns L k (by omega)
    obtain ⟨b1, b2⟩ := gr_at R2 B2 ns L2 k (by omega)
    have a3 := lvl_bd R B hR (ns.take k) L h0 h1
    have b3 := lvl_bd R2 B2 (by omega) (ns.take k) L2 (by omega) h2
    rw [span_next _ _ _ (Nat.zero_le _) (by rw [gr_len]; omega), span_next _ _ _ (Nat.zero_le _) (by rw [gr_len]; omega), a1, a2, b1, b2]
    generalize lvl R B L (ns.take k) = l1 at *
    generalize lvl R2 B2 L2 (ns.take k) = l2 at *
    generalize ns.getD k 0 = x at *
    unfold step g
    omega

set_option maxHeartbeats 4000000 in
set_option maxRecDepth 100000 in
theorem more_any (A : Option Addr) (n c : Nat) (zs : List Int) (a1 a2 a3 a4 : Int) (w : World) (hz : Ints .i64 w A n c zs) : Calls Try.prog 4 #[.slice A n c, .int .i64 a1, .int .i64 a2, .int .i64 a3, .int .i64 a4] w fun e w' => e = .returned (.bool true) ∧ Below w.heap.size w w' := by
  obtain ⟨hlen, hcap, hmax, hlies, -⟩ := hz
  unfold maxLen at hmax
  by_cases hbig : 120 < n
  · go_enter Try.func4, Try.ntmps4
    go_wp2_with fail
    refine (awake_any _).mono ?_
    rintro e w1 ⟨rfl, hb⟩
    go_wp2
    go_ret
    exact ⟨rfl, hb⟩
  have hn : n ≤ 120 := by omega
  clear hbig
  go_enter Try.func4, Try.ntmps4
  go_wp2_with fail
  refine (mod_any _ _ _ (by omega) (by omega)).mono ?_
  rintro e w1 ⟨rfl, rfl⟩
  have hb0 := Int.emod_nonneg a2 (show (20 : Int) ≠ 0 by omega)
  have hb1 := Int.emod_lt_of_pos a2 (show (0 : Int) < 20 by omega)
  generalize a2 % 20 = B at hb0 hb1
  go_wp2_with fail
  refine (mod_any _ _ _ (by omega) (by omega)).mono ?_
  rintro e w1 ⟨rfl, rfl⟩
  have hr0 := Int.emod_nonneg a1 (show B + 1 ≠ 0 by omega)
  have hr1 := Int.emod_lt_of_pos a1 (show 0 < B + 1 by omega)
  generalize a1 % (B + 1) = R at hr0 hr1
  go_wp2_with fail
  refine (mod_any _ _ _ (by omega) (by omega)).mono ?_
  rintro e w1 ⟨rfl, rfl⟩
  have hl0 := Int.emod_nonneg a4 (show B + 1 ≠ 0 by omega)
  have hl1 := Int.emod_lt_of_pos a4 (show 0 < B + 1 by omega)
  generalize a4 % (B + 1) = L at hl0 hl1
  go_wp2_with fail
  refine (mod_any _ _ _ (by omega) (by omega)).mono ?_
  rintro e w1 ⟨rfl, rfl⟩
  have hm0 := Int.emod_nonneg a3 (show (3 : Int) ≠ 0 by omega)
  have hm1 := Int.emod_lt_of_pos a3 (show (0 : Int) < 3 by omega)
  generalize a3 % 3 = m at hm0 hm1
  go_upto_block 0 with fail
  go_cut [47] (fun _ wx => ∃ L2 R2 B2 : Int, 0 ≤ L2 ∧ 0 ≤ R2 ∧ L2 ≤ B2 ∧ R2 ≤ B2 ∧ B2 ≤ 30 ∧ L ≤ L2 ∧ R ≤ R2 ∧ B ≤ B2 ∧ wx = (w.alloc (.cells #[.int .i64 L, .int .i64 R, .int .i64 B] 26)).alloc (.cells #[.int .i64 L2, .int .i64 R2, .int .i64 B2] 26))
  case first =>
    have hcases : m = 0 ∨ m = 1 ∨ m = 2 := by omega
    rcases hcases with rfl | rfl | rfl
    · go_wp2
      go_meet
      exact ⟨B, R, B, by omega, by omega, by omega, by omega, by omega, by omega, by omega, by omega, rfl⟩
    · go_wp2
      go_meet
      exact ⟨L, B, B, by omega, by omega, by omega, by omega, by omega, by omega, by omega, by omega, rfl⟩
    · go_wp2
      go_meet
      exact ⟨L, R, B + 5, by omega, by omega, by omega, by omega, by omega, by omega, by omega, by omega, rfl⟩
  case rest =>
    obtain ⟨L2, R2, B2, q1, q2, q3, q4, q5, q6, q7, q8, rfl⟩ := hcut
    generalize hws : (w.alloc (.cells #[.int .i64 L, .int .i64 R, .int .i64 B] 26)).alloc (.cells #[.int .i64 L2, .int .i64 R2, .int .i64 B2] 26) = ws
    have hbelS : Below w.heap.size w ws := by rw [← hws]; exact ((Below.refl _ _).alloc (Nat.le_refl _) _).alloc (by simp) _
    have hbx1 : Box w.heap.size 26 #[.int .i64 L, .int .i64 R, .int .i64 B] ws := by rw [← hws]; exact (Box.made _ _ _).past _
    have hbx2 : Box (w.heap.size + 1) 26 #[.int .i64 L2, .int .i64 R2, .int .i64 B2] ws := by rw [← hws]; exact Box.madeAt (by simp)
    have hsS : ws.heap.size = w.heap.size + 2 := by rw [← hws]; simp
    have HsS := Lib.hid hsS; clear hsS hws
    go_wp2_with fail
    go_loopw [13, 57] (fun v i wr => ∃ k : Nat, k ≤ n ∧ i = .int .i64 k ∧ wr.ownsRow (w.heap.size + 2) 3 1 v k ((cut (zs.take k)).map (Value.int .i64)) ∧ Below ws.heap.size ws wr) (fun _ i _ => n - (intOf i).toNat)
    case atStart => exact ⟨0, Nat.zero_le _, rfl, World.ownsRow_nil _ _ _ _, Below.refl _ _⟩
    case round =>
      obtain ⟨k, hk, rfl, hown, hbel⟩ := hrel
      have hsz := hbel.size
      by_cases hlt : k < n
      · obtain ⟨a, rfl, ha, hc⟩ := hlies.int (k := k) (by omega)
        have hcx : wr.cell? (a.add k) = some (.int .i64 (zs.getD k 0)) := ((hbelS.trans (hbel.mono hbelS.size)).cell (by rw [block_add]; exact ha)).trans hc
        have hmore := Lib.hid (cut_more zs k (by omega))
        clear hc
        generalize zs.getD k 0 = x at hcx hmore
        go_wp2_with fail
        refine (mod_any _ _ _ (by omega) (by omega)).mono ?_
        rintro e w1 ⟨rfl, rfl⟩
        go_wp2_with (at_builtin; refine push_one rfl _ _ 22 rfl (w.heap.size + 2) 3 (.int .i64 0) 8 Try.underlying22 Try.info3 rfl _ k _ rfl hown (.int .i64 (x % 30)) rfl rfl ?c1 ?c2 ?c3 ?_)
        case c1 => unfold maxLen; omega
        case c2 => omega
        case c3 => have := HsS.out; omega
        intro v' w1 hown' hgrow
        have hb' := push_below hbel hown hgrow (by have := HsS.out; omega) hbel.size
        clear hgrow hown hbel
        rw [← hmore.out] at hown'
        clear hmore hcx
        go_wp2
        go_roundw
        case rel => exact ⟨k + 1, by omega, by go_num, hown', hb'⟩
        case measure => simp [intOf]; omega
      · obtain rfl : n = k := by omega
        rw [List.take_of_length_le (by omega)] at hown
        clear hlt hk hlies
        have hc0 := cut_nonneg zs
        have hcl := cut_len zs
        rw [hlen] at hcl
        clear hlen
        generalize cut zs = ns at hown hc0 hcl
        obtain ⟨A1, c1, rfl, h1c, h1m, -, hl1⟩ := own_open hown
        unfold maxLen at h1m
        have hx1 := hbx1.under hbel hbx1.inside
        have hx2 := hbx2.under hbel hbx2.inside
        have e0 := hx1.at_ 0
        have e1 := hx1.at_ 1
        have e2 := hx1.at_ 2
        go_wp2_with fail
        refine (run_any _ _ _ _ _ _ ns _ (by omega) (by omega) (by omega) (by omega) (by omega) (by omega) hcl hl1).mono ?_
        rintro e w2 ⟨v2, rfl, hown2, hb2⟩
        have hy2 := hx2.under hb2 hx2.inside
        have hgl := hy2.inside
        clear e0 e1 e2
        have e0 := hy2.at_ 0
        have e1 := hy2.at_ 1
        have e2 := hy2.at_ 2
        obtain ⟨A2, c2, rfl, h2c, h2m, hl2, hlies2⟩ := own_open hown2
        unfold maxLen at h2m
        have hs2 := hb2.size
        have hlies1 := hl1.below hb2
        have hbel2 := (hbelS.trans (hbel.mono hbelS.size)).trans (hb2.mono (by have := hbelS.size; omega))
        have hs3 := hbel2.size
        clear hown2 hb2 hown hl2 hbel hx1 hx2 hbx1 hbx2 hy2 hl1
        go_wp2_with fail
        have k1 := (hlies1.more hs2).alloc (Nat.le_refl _) (.cells #[.int .i64 (lvl R B L ns), .int .i64 R, .int .i64 B] 26)
        refine (run_any _ _ _ _ _ _ ns _ (by omega) (by omega) (by omega) (by omega) (by omega) (by omega) hcl (k1.more (by simp))).mono ?_
        rintro e w3 ⟨v3, rfl, hown3, hb3⟩
        obtain ⟨A3, c3, rfl, h3c, h3m, hl3, hlies3⟩ := own_open hown3
        unfold maxLen at h3m
        have hs4 := hb3.size
        simp at hs4
        have k2 := ((hlies2.alloc (Nat.le_refl _) (.cells #[.int .i64 (lvl R B L ns), .int .i64 R, .int .i64 B] 26)).more (by simp)).below hb3
        have hbel3 := (hbel2.alloc (by omega) (.cells #[.int .i64 (lvl R B L ns), .int .i64 R, .int .i64 B] 26)).trans (hb3.mono (by simp; omega))
        clear hown3 hb3 hl3 hlies2 hlies1 k1 hbel2 e0 e1 e2
        have hGl : (gr R B L ns).length = n := by rw [gr_len]; exact hcl
        have hHl : (gr R2 B2 L2 ns).length = n := by rw [gr_len]; exact hcl
        have hfacts : ∀ k, k < n → 0 ≤ span (gr R B L ns) 0 k ∧ 0 ≤ (gr R B L ns).getD k 0 ∧ span (gr R B L ns) 0 (k + 1) = span (gr R B L ns) 0 k + (gr R B L ns).getD k 0 ∧ span (gr R2 B2 L2 ns) 0 (k + 1) = span (gr R2 B2 L2 ns) 0 k + (gr R2 B2 L2 ns).getD k 0 ∧
            span (gr R B L ns) 0 (k + 1) ≤ span (gr R2 B2 L2 ns) 0 (k + 1) ∧ span (gr R2 B2 L2 ns) 0 (k + 1) ≤ 10000 ∧ 0 ≤ span (gr R2 B2 L2 ns) 0 k ∧ 0 ≤ (gr R2 B2 L2 ns).getD k 0 := by
          intro k hk
          have t1 := span_next (gr R B L ns) 0 k (Nat.zero_le _) (by omega)
          have t2 := span_next (gr R2 B2 L2 ns) 0 k (Nat.zero_le _) (by omega)
          have t3 := (more_le R B L R2 B2 L2 ns (by omega) (by omega) (by omega) (by omega) (by omega) (by omega) (by omega) (k + 1) (by omega)).1
          have t4 := gr_bd R B ns L (by omega) (by omega) (by omega) hc0 k (by omega)
          have t5 := gr_bd R2 B2 ns L2 (by omega) (by omega) (by omega) hc0 k (by omega)
          have t6 := span_le R2 B2 ns L2 (by omega) (by omega) (by omega) 0 (k + 1) (by omega) (by omega)
          have t7 := lvl_bd R2 B2 (by omega) (ns.take (k + 1)) L2 (by omega) (by omega)
          have t8 : (((k + 1 : Nat) : Int) - (0 : Nat)) * R2 ≤ 120 * 30 := Int.mul_le_mul (by omega) (by omega) (by omega) (by omega)
          exact ⟨span_nonneg R B ns L (by omega) (by omega) (by omega) hc0 0 k (by omega) (by omega), t4.1, t1, t2, t3, by omega, span_nonneg R2 B2 ns L2 (by omega) (by omega) (by omega) hc0 0 k (by omega) (by omega), t5.1⟩
        have HF := Lib.hid hfacts; clear hfacts
        have s1 := Lib.hid (span_self (gr R B L ns) 0)
        have s2 := Lib.hid (span_self (gr R2 B2 L2 ns) 0)
        have HGl := Lib.hid hGl; clear hGl
        have HHl := Lib.hid hHl; clear hHl
        have hcl' := Lib.hid hcl; clear hcl
        generalize gr R B L ns = G at k2 HF s1 HGl
        generalize gr R2 B2 L2 ns = G2 at hlies3 HF s2 HHl
        go_wp2_with fail
        go_loopw [20, 21, 93] (fun p q i wr => ∃ j nq : Nat, j ≤ n ∧ i = .int .i64 j ∧ p = .int .i64 (span G 0 j) ∧ q = .int .i64 (span G2 0 j) ∧ wr = (w3.alloc (.cells #[.int .i64 (lvl R2 B2 L2 ns), .int .i64 R2, .int .i64 B2] 26)).drewN nq) (fun _ _ i _ => n - (intOf i).toNat)
        case atStart => exact ⟨0, 0, Nat.zero_le _, rfl, by rw [s1.out], by rw [s2.out], rfl⟩
        case round =>
          obtain ⟨j, nq, hj, rfl, rfl, rfl, rfl⟩ := hrel
          by_cases hjn : j < n
          · obtain ⟨x2, rfl, hx2, hc2⟩ := (k2.alloc (by simp; omega) (.cells #[.int .i64 (lvl R2 B2 L2 ns), .int .i64 R2, .int .i64 B2] 26)).int (k := j) (by rw [HGl.out]; exact hjn)
            obtain ⟨x3, rfl, hx3, hc3⟩ := (hlies3.alloc (Nat.le_refl _) (.cells #[.int .i64 (lvl R2 B2 L2 ns), .int .i64 R2, .int .i64 B2] 26)).int (k := j) (by rw [HHl.out]; exact hjn)
            obtain ⟨f1, f2, f3, f4, f5, f6, f7, f8⟩ := HF.out j hjn
            generalize hp1 : span G 0 (j + 1) = p1 at f3 f5
            generalize hq1 : span G2 0 (j + 1) = q1 at f4 f5 f6
            have P1 := Lib.hid hp1; clear hp1
            have Q1 := Lib.hid hq1; clear hq1
            generalize span G 0 j = p0 at f1 f3
            generalize span G2 0 j = q0 at f7 f4
            generalize G.getD j 0 = x at f2 f3 hc2
            generalize G2.getD j 0 = y at f8 f4 hc3
            have g1 : p0 + x ≤ 10000 := by omega
            have g2 : q0 + y ≤ 10000 := by omega
            have g3 : 0 ≤ p0 + x := by omega
            have g4 : 0 ≤ q0 + y := by omega
            have g5 : decide (q0 + y < p0 + x) = false := by simp; omega
            have F3 := Lib.hid f3; clear f3
            have F4 := Lib.hid f4; clear f4
            go_wp2_with fail
            go_quiet (fail)
            go_wp2
            go_roundw
            case rel => exact ⟨j + 1, _, by omega, by go_num, by rw [P1.out, F3.out], by rw [Q1.out, F4.out], rfl⟩
            case measure => simp [intOf]; omega
          · go_wp2_with fail
            refine (awake_any _).mono ?_
            rintro e w4 ⟨rfl, hb4⟩
            go_wp2
            go_ret
            exact ⟨rfl, (below_drewN (hbel3.alloc hbel3.size _) _).trans (hb4.mono (by have := hbel3.size; simp; omega))⟩
end Go.Proofs.Ytmdfajpbgfdbbaa
