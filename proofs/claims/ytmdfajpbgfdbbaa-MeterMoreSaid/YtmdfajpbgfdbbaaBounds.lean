/-
  MeterBounds (layer 12): the walk. In any consecutive ticks at most the burst and the rate of all ticks but one are granted. No condition on the arguments.
-/
import Derived.Test.YtmdfajpbgfdbbaaMeter
import Derived.Test.YtmdfajpbgfdbbaaOpen
import Derived.Deep.QuietTactic
import Derived.BigQuiet
namespace Go.Proofs.Ytmdfajpbgfdbbaa
open Go.RowKit

/-- The sum of what is granted in the ticks from i to k - 1. -/
def span (G : List Int) (i k : Nat) : Int := ((G.take k).drop i).sum
theorem span_self (G : List Int) (i : Nat) : span G i i = 0 := by
  unfold span
  rw [List.drop_of_length_le (by simp; omega)]; rfl
theorem span_next (G : List Int) (i k : Nat) (hi : i ≤ k) (hk : k < G.length) : span G i (k + 1) = span G i k + G.getD k 0 := by
  unfold span
  rw [take_more G k hk, List.drop_append_of_le_length (by simp; omega)]
  simp
theorem gr_append (R B : Int) (b : List Int) : ∀ (a : List Int) (L : Int), gr R B L (a ++ b) = gr R B L a ++ gr R B (lvl R B L a) b
  | [], _ => rfl
  | x :: a, L => by
    show g x L :: gr R B (step R B L x) (a ++ b) = _
    rw [gr_append R B b a]; rfl
theorem gr_at (R B : Int) : ∀ (ns : List Int) (L : Int) (k : Nat), k < ns.length → (gr R B L ns).getD k 0 = g (ns.getD k 0) (lvl R B L (ns.take k)) ∧ lvl R B L (ns.take (k + 1)) = step R B (lvl R B L (ns.take k)) (ns.getD k 0) := by
  intro ns L k hk
  refine ⟨?_, by rw [take_more ns k hk, lvl_snoc]⟩
  have h1 := gr_snoc R B (ns.take k) (ns.getD k 0) L
  have h2 := gr_append R B (ns.drop (k + 1)) (ns.take (k + 1)) L
  rw [List.take_append_drop, take_more ns k hk, h1] at h2
  have hl : (gr R B L (ns.take k)).length = k := by rw [gr_len]; simp; omega
  rw [h2, List.append_assoc, List.getD_eq_getElem?_getD, List.getElem?_append_right (by omega)]
  simp [hl]
theorem gr_bd (R B : Int) (ns : List Int) (L : Int) (hR : 0 ≤ R) (h0 : 0 ≤ L) (h1 : L ≤ B) (hns : ∀ z ∈ ns, 0 ≤ z) (k : Nat) (hk : k < ns.length) : 0 ≤ (gr R B L ns).getD k 0 ∧ (gr R B L ns).getD k 0 ≤ ns.getD k 0 := by
  rw [(gr_at R B ns L k hk).1]
  have h2 := lvl_bd R B hR (ns.take k) L h0 h1
  have h3 : 0 ≤ ns.getD k 0 := by
    rw [List.getD_eq_getElem?_getD, List.getElem?_eq_getElem hk]
    exact hns _ (List.getElem_mem hk)
  unfold g; omega
/-- What is granted from tick i on, with what is left in tick k, is at most the burst and the rate of the ticks between. -/
theorem span_le (R B : Int) (ns : List Int) (L : Int) (hR : 0 ≤ R) (h0 : 0 ≤ L) (h1 : L ≤ B) (i k : Nat) (hi : i ≤ k) (hk : k ≤ ns.length) :
    span (gr R B L ns) i k + lvl R B L (ns.take k) ≤ B + ((k : Int) - i) * R ∧ 0 ≤ ((k : Int) - i) * R := by
  obtain ⟨d, rfl⟩ := Nat.exists_eq_add_of_le hi
  clear hi
  induction d with
  | zero =>
    have := lvl_bd R B hR (ns.take i) L h0 h1
    rw [Nat.add_zero, span_self]; simp; omega
  | succ d ih =>
    have hik : i ≤ i + d := by omega
    rw [← Nat.add_assoc] at hk ⊢
    generalize i + d = k at *
    have h2 := lvl_bd R B hR (ns.take k) L h0 h1
    obtain ⟨e1, e2⟩ := gr_at R B ns L k (by omega)
    obtain ⟨i1, i2⟩ := ih (by omega)
    rw [span_next _ _ _ hik (by rw [gr_len]; omega), e1, e2]
    have e3 : (((k + 1 : Nat) : Int) - i) * R = ((k : Int) - i) * R + R := by
      rw [show (((k + 1 : Nat) : Int) - i) = ((k : Int) - i) + 1 by omega, Int.add_mul]; omega
    rw [e3]
    generalize ((k : Int) - i) * R = m at i1 i2
    have h3 := g_bd (ns.getD k 0) (lvl R B L (ns.take k)) h2.1
    unfold step
    generalize g (ns.getD k 0) (lvl R B L (ns.take k)) = gg at h3
    omega
theorem span_nonneg (R B : Int) (ns : List Int) (L : Int) (hR : 0 ≤ R) (h0 : 0 ≤ L) (h1 : L ≤ B) (hns : ∀ z ∈ ns, 0 ≤ z) (i k : Nat) (hi : i ≤ k) (hk : k ≤ ns.length) : 0 ≤ span (gr R B L ns) i k := by
  obtain ⟨d, rfl⟩ := Nat.exists_eq_add_of_le hi
  clear hi
  induction d with
  | zero => rw [Nat.add_zero, span_self]; omega
  | succ d ih =>
    have hik : i ≤ i + d := by omega
    rw [← Nat.add_assoc] at hk ⊢
    generalize i + d = k at *
    rw [span_next _ _ _ hik (by rw [gr_len]; omega)]
    have := gr_bd R B ns L hR h0 h1 hns k (by omega)
    have := ih (by omega)
    omega

def cut (zs : List Int) : List Int := zs.map (· % 30)
theorem cut_len (zs : List Int) : (cut zs).length = zs.length := by simp [cut]
theorem cut_nonneg (zs : List Int) : ∀ z ∈ cut zs, 0 ≤ z := by
  intro z hz
  simp [cut] at hz
  obtain ⟨a, -, rfl⟩ := hz
  exact Int.emod_nonneg _ (by omega)
theorem cut_lt (zs : List Int) : ∀ z ∈ cut zs, z < 30 := by
  intro z hz
  simp [cut] at hz
  obtain ⟨a, -, rfl⟩ := hz
  exact Int.emod_lt_of_pos _ (by omega)
theorem cut_more (zs : List Int) (k : Nat) (hk : k < zs.length) : (cut (zs.take (k + 1))).map (Value.int .i64) = (cut (zs.take k)).map (Value.int .i64) ++ [.int .i64 (zs.getD k 0 % 30)] := by
  rw [take_more zs k hk]; simp [cut]

set_option maxHeartbeats 4000000 in
theorem bounds_any (A : Option Addr) (n c : Nat) (zs : List Int) (a1 a2 : Int) (w : World) (hz : Ints .i64 w A n c zs) : Calls Try.prog 3 #[.slice A n c, .int .i64 a1, .int .i64 a2] w fun e w' => e = .returned (.bool true) ∧ Below w.heap.size w w' := by
  obtain ⟨hlen, hcap, hmax, hlies, -⟩ := hz
  unfold maxLen at hmax
  by_cases hbig : 120 < n
  · go_enter Try.func3, Try.ntmps3
    go_wp2_with fail
    refine (awake_any _).mono ?_
    rintro e w1 ⟨rfl, hb⟩
    go_wp2
    go_ret
    exact ⟨rfl, hb⟩
  have hn : n ≤ 120 := by omega
  clear hbig
  go_enter Try.func3, Try.ntmps3
  go_wp2_with fail
  refine (mod_any _ _ _ (by omega) (by omega)).mono ?_
  rintro e w1 ⟨rfl, rfl⟩
  have hb0 := Int.emod_nonneg a2 (show (20 : Int) ≠ 0 by omega)
  have hb1 := Int.emod_lt_of_pos a2 (show (0 : Int) < 20 by omega)
  generalize a2 % 20 = B at hb0 hb1
  go_wp2_with fail
  refine (mod_any _ _ _ (by omega) (by omega)).mono ?_
  rintro e w1 ⟨rfl, rfl⟩
  have hr0 := Int.emod_nonneg a1 (show B + 1 ≠ 0 by omega)
  have hr1 := Int.emod_lt_of_pos a1 (show 0 < B + 1 by omega)
  generalize a1 % (B + 1) = R at hr0 hr1
  go_wp2_with fail
  go_loopw [7, 27] (fun v i wr => ∃ k : Nat, k ≤ n ∧ i = .int .i64 k ∧ wr.ownsRow w.heap.size 3 1 v k ((cut (zs.take k)).map (Value.int .i64)) ∧ Below w.heap.size w wr) (fun _ i _ => n - (intOf i).toNat)
  case atStart => exact ⟨0, Nat.zero_le _, rfl, World.ownsRow_nil _ _ _ _, Below.refl _ _⟩
  case round =>
    obtain ⟨k, hk, rfl, hown, hbel⟩ := hrel
    by_cases hlt : k < n
    · obtain ⟨a, rfl, ha, hc⟩ := hlies.int (k := k) (by omega)
      have hcx : wr.cell? (a.add k) = some (.int .i64 (zs.getD k 0)) := (hbel.cell (by rw [block_add]; exact ha)).trans hc
      have hmore := Lib.hid (cut_more zs k (by omega))
      clear hc
      generalize zs.getD k 0 = x at hcx hmore
      go_wp2_with fail
      refine (mod_any _ _ _ (by omega) (by omega)).mono ?_
      rintro e w1 ⟨rfl, rfl⟩
      go_wp2_with (at_builtin; refine push_one rfl _ _ 22 rfl w.heap.size 3 (.int .i64 0) 8 Try.underlying22 Try.info3 rfl _ k _ rfl hown (.int .i64 (x % 30)) rfl rfl ?c1 ?c2 ?c3 ?_)
      case c1 => unfold maxLen; omega
      case c2 => omega
      case c3 => exact hbel.size
      intro v' w1 hown' hgrow
      have hb' := push_below hbel hown hgrow (Nat.le_refl _) hbel.size
      clear hgrow hown hbel
      rw [← hmore.out] at hown'
      clear hmore hcx
      go_wp2
      go_roundw
      case rel => exact ⟨k + 1, by omega, by go_num, hown', hb'⟩
      case measure => simp [intOf]; omega
    · obtain rfl : n = k := by omega
      rw [List.take_of_length_le (by omega)] at hown
      clear hlt hk hlies
      have hc0 := cut_nonneg zs
      have hc1 := cut_lt zs
      have hcl := cut_len zs
      rw [hlen] at hcl
      clear hlen
      generalize cut zs = ns at hown hc0 hc1 hcl
      obtain ⟨A1, c1, rfl, h1c, h1m, -, hl1⟩ := own_open hown
      unfold maxLen at h1m
      go_wp2_with fail
      refine (new_any _ _ _).mono ?_
      rintro e w1 ⟨rfl, hb1'⟩
      have hown1 := own_under hown hb1' (Nat.le_refl _)
      have hl1' := hl1.below hb1'
      have hbel1 := hbel.trans (hb1'.mono hbel.size)
      have hs1 := hb1'.size
      clear hbel hown hl1 hb1'
      go_wp2_with fail
      refine (run_any _ _ _ _ _ _ ns _ (by omega) (by omega) (by omega) (by omega) (by omega) (by omega) hcl (hl1'.more (by have := hbel1.size; omega))).mono ?_
      rintro e w2 ⟨v2, rfl, hown2, hb2⟩
      obtain ⟨A2, c2, rfl, h2c, h2m, hl2, hlies2⟩ := own_open hown2
      unfold maxLen at h2m
      have hlies1 := (hl1'.more hs1).below hb2
      have hlw := lvl_bd R B (by omega) ns B (by omega) (by omega)
      have hbel2 := hbel1.trans (hb2.mono hbel1.size)
      have hfacts : ∀ i k, i ≤ k → k < n → 0 ≤ (gr R B B ns).getD k 0 ∧ (gr R B B ns).getD k 0 ≤ ns.getD k 0 ∧ 0 ≤ span (gr R B B ns) i k ∧ span (gr R B B ns) i (k + 1) = span (gr R B B ns) i k + (gr R B B ns).getD k 0 ∧ 
        span (gr R B B ns) i (k + 1) ≤ B + ((k : Int) - i) * R ∧ 0 ≤ ((k : Int) - i) * R ∧ ((k : Int) - i) * R ≤ 120 * 20 := by
        intro i k hi hk
        have e1 := gr_bd R B ns B (by omega) (by omega) (by omega) hc0 k (by omega)
        have e2 := span_next (gr R B B ns) i k hi (by rw [gr_len]; omega)
        have e3 := span_le R B ns B (by omega) (by omega) (by omega) i k hi (by omega)
        have e4 := (gr_at R B ns B k (by omega)).1
        have e5 := lvl_bd R B (by omega) (ns.take k) B (by omega) (by omega)
        have e6 := g_bd (ns.getD k 0) (lvl R B B (ns.take k)) e5.1
        refine ⟨e1.1, e1.2, span_nonneg R B ns B (by omega) (by omega) (by omega) hc0 i k hi (by omega), e2, by rw [e2, e4]; omega, e3.2, ?_⟩
        exact Int.mul_le_mul (by omega) (by omega) (by omega) (by omega)
      have hsp := fun i => span_self (gr R B B ns) i
      have HF := Lib.hid hfacts; clear hfacts
      have HS := Lib.hid hsp; clear hsp
      have hGl : (gr R B B ns).length = n := by rw [gr_len]; exact hcl
      have HGl := Lib.hid hGl; clear hGl
      have hcl' := Lib.hid hcl; clear hcl
      have hs2' := hb2.size
      have hs3 := hbel2.size
      clear hown2 hb2 hown1 hl1' hl2
      generalize gr R B B ns = G at hlies2 HF HS HGl
      generalize lvl R B B ns = lv at hlw
      obtain ⟨hlw0, hlw1⟩ := hlw
      go_wp2_with fail
      refine (valid_any _ _ _ _ (by omega) (by omega) (by omega) (by omega) (by omega)).mono ?_
      rintro e w3 ⟨rfl, hb3⟩
      have hs2 := hb3.size
      have hr2 := hlies2.alloc (Nat.le_refl _) (.cells #[.int .i64 lv, .int .i64 R, .int .i64 B] 26)
      have hr1' := hlies1.alloc (by omega) (.cells #[.int .i64 lv, .int .i64 R, .int .i64 B] 26)
      have hl2 := (hr2.more (by simp)).below hb3
      have hl1 := (hr1'.more (by simp; omega)).below hb3
      have hbel3 := (hbel2.alloc (by omega) (.cells #[.int .i64 lv, .int .i64 R, .int .i64 B] 26)).trans (hb3.mono (by simp; omega))
      clear hr2 hr1' hb3 hlies2 hlies1 hbel1 hbel2
      go_wp2_with fail
      go_loopw [57] (fun i wr => ∃ j nq : Nat, j ≤ n ∧ i = .int .i64 j ∧ wr = w3.drewN nq) (fun i _ => n - (intOf i).toNat)
      case atStart => exact ⟨0, 0, Nat.zero_le _, rfl, rfl⟩
      case round =>
        obtain ⟨i, nq, hi, rfl, rfl⟩ := hrel
        by_cases hlt : i < n
        · go_wp2_with fail
          go_loopw [13, 14] (fun s kk wr => ∃ j nr : Nat, i ≤ j ∧ j ≤ n ∧ kk = .int .i64 j ∧ s = .int .i64 (span G i j) ∧ wr = w3.drewN nr) (fun _ kk _ => n - (intOf kk).toNat)
          case atStart => exact ⟨i, nq, Nat.le_refl _, hi, rfl, by rw [HS.out i], rfl⟩
          case round =>
            obtain ⟨j, nr, hij, hj, rfl, rfl, rfl⟩ := hrel
            by_cases hjn : j < n
            · obtain ⟨x2, rfl, hx2, hc2⟩ := hl2.int (k := j) (by rw [HGl.out]; exact hjn)
              obtain ⟨x1, rfl, hx1, hc1'⟩ := hl1.int (k := j) (by rw [hcl'.out]; exact hjn)
              obtain ⟨f1, f2, f3, f4, f5, f6, f7⟩ := HF.out i j hij hjn
              have F4 := Lib.hid f4; clear f4
              generalize G.getD j 0 = x at f1 f2 F4 hc2
              generalize ns.getD j 0 = y at f2 hc1'
              generalize span G i j = s0 at f3 F4
              generalize hs1 : span G i (j + 1) = s1 at f5 F4
              have HS1 := Lib.hid hs1; clear hs1
              have g1 : 0 ≤ s0 + x := by omega
              have g2 : s0 + x ≤ 100000 := by have := F4.out; omega
              have g3 : decide (x < 0) = false := by simp; omega
              have g4 : decide (y < x) = false := by simp; omega
              have g5 : decide (B + ((j : Int) - i) * R < s0 + x) = false := by have := F4.out; simp; omega
              have f6' : 0 ≤ B + ((j : Int) - i) * R := by omega
              have f7' : B + ((j : Int) - i) * R ≤ 100000 := by omega
              go_wp2_with fail
              go_quiet (fail)
              go_wp2
              go_roundw
              case rel => exact ⟨j + 1, _, by omega, by omega, by go_num, by rw [HS1.out, F4.out], rfl⟩
              case measure => simp [intOf]; omega
            · go_wp2
              go_roundw
              case rel => exact ⟨i + 1, _, by omega, by go_num, rfl⟩
              case measure => simp [intOf]; omega
        · go_wp2_with fail
          refine (awake_any _).mono ?_
          rintro e w4 ⟨rfl, hb4⟩
          go_wp2
          go_ret
          exact ⟨rfl, (below_drewN hbel3 _).trans (hb4.mono hbel3.size)⟩
end Go.Proofs.Ytmdfajpbgfdbbaa
