/-
  The contract of packet.Sum.
-/
import Derived.Test.YtogchaijglbjaaaRows
import Derived.Test.YtogchaijglbjaaaCutOpen
import Derived.Test.YtogchaijglbjaaaCutSumMath
import Derived.Deep.QuietTactic
import Derived.BigQuiet
import Derived.Laws.BitsLemmas
namespace Go.Proofs.Ytogchaijglbjaaa
open Go.RowKit
theorem u64_in (n : Int) (h0 : 0 ≤ n) (h1 : n < 18446744073709551616) : IntKind.u64.wrap n = n := by
  simp only [IntKind.wrap, IntKind.bits, IntKind.signed]
  simp; omega
theorem or_low (x y : Int) (hx : 0 ≤ x) (hx1 : x < 256) (hy : 0 ≤ y) (hy1 : y < 256) : bits .or .u64 (x * 256) y = x * 256 + y :=
  bits_join .u64 63 (by decide) (fun n h0 h1 => u64_in n h0 (by omega)) 8 (x * 256) y (by omega) (by omega) (by omega) hy (by omega) (by omega)
theorem and_low (x : Int) (hx : 0 ≤ x) (hx1 : x < 4294967296) : bits .and .u64 x 65535 = x % 65536 :=
  bits_mask .u64 63 (by decide) (fun n h0 h1 => u64_in n h0 (by omega)) 16 (by omega) x hx (by omega)
set_option maxHeartbeats 1000000 in
theorem sum_any (A : Option Addr) (n c : Nat) (zs : List Int) (w : World) (hn : zs.length = n) (hb : Bytes zs) (h1 : n ≤ 10000) (hl : Lies w.heap.size A (zs.map (Value.int .u8)) w) :
    Calls Try.prog 46 #[.slice A n c] w fun e w' => e = .returned (.int .u16 (sumOf zs)) ∧ ∃ k, w' = w.drewN k := by
  have hwb := fun k => words_bd (zs.take k) (bytes_take hb k)
  have HWB := Lib.hid hwb; clear hwb
  go_enter Try.func46, Try.ntmps46
  go_wp2_with fail
  go_loopw [3, 4] (fun s i wr => ∃ j q : Nat, 2 * j ≤ n ∧ i = .int .i64 (2 * (j : Int)) ∧ s = .int .u64 (words (zs.take (2 * j))) ∧ wr = w.drewN q) (fun _ i _ => n - (intOf i).toNat)
  case atStart => exact ⟨0, 0, by omega, rfl, rfl, rfl⟩
  case round =>
    obtain ⟨j, q, hj, rfl, rfl, rfl⟩ := hrel
    by_cases hlt : 2 * j + 1 < n
    · obtain ⟨a, rfl, ha, hc⟩ := hl.int (k := 2 * j) (by omega)
      obtain ⟨a', ha', -, hc'⟩ := hl.int (k := 2 * j + 1) (by omega)
      obtain rfl : a = a' := by injection ha'
      clear ha'
      have hw := HWB.out (2 * j)
      have hl2 : (zs.take (2 * j)).length ≤ 10000 := by simp; omega
      have hw2 := Lib.hid (words_two zs j (by omega))
      have hx := bytes_at hb (2 * j)
      have hy := bytes_at hb (2 * j + 1)
      have hs1 : 0 ≤ words (zs.take (2 * j)) := hw.1
      have hs2 : words (zs.take (2 * j)) ≤ 655350000 := by omega
      clear hw hl2
      generalize words (zs.take (2 * j)) = s at hs1 hs2 hw2
      generalize zs.getD (2 * j) 0 = x at hc hx hw2
      generalize zs.getD (2 * j + 1) 0 = y at hc' hy hw2
      obtain ⟨hx0, hx1⟩ := hx
      obtain ⟨hy0, hy1⟩ := hy
      have hc2 : w.cell? ⟨a.block, a.off + (2 * j + 1), none⟩ = some (.int .u8 y) := by simpa [Addr.add] using hc'
      have ho := or_low x y hx0 hx1 hy0 hy1
      have hlt' : 2 * (j : Int) + 1 < n := by omega
      go_wp2_with fail
      have t1 : (2 * (j : Int)).toNat = 2 * j := by omega
      have t2 : (2 * (j : Int) + 1).toNat = 2 * j + 1 := by omega
      have t3 : IntKind.i64.wrap (2 * (j : Int) + 1) = 2 * (j : Int) + 1 := IntWalk.i64_in _ (by omega)
      have t4 : 0 ≤ 2 * (j : Int) + 1 := by omega
      have t5 : 0 ≤ 2 * (j : Int) := by omega
      have t6 : IntKind.u64.wrap x = x := u64_in _ hx0 (by omega)
      have t7 : IntKind.u64.wrap y = y := u64_in _ hy0 (by omega)
      have t8 : IntKind.u64.wrap (x * 256) = x * 256 := u64_in _ (by omega) (by omega)
      have t9 : IntKind.u64.wrap (s + (x * 256 + y)) = s + (x * 256 + y) := u64_in _ (by omega) (by omega)
      have t10 : 2 * (j : Int) < n := by omega
      go_quiet (fail)
      clear t1 t2 t3 t4 t5 t6 t7 t8 t9 ho
      go_wp2
      go_roundw
      case rel => exact ⟨j + 1, _, by omega, congrArg (Value.int .i64) (by omega), by rw [show 2 * (j + 1) = 2 * j + 2 by omega, hw2.out], rfl⟩
      case measure => simp [intOf]; omega
    · have hw := words_bd zs hb
      have hs1 := hw.1
      have hs2 : words zs ≤ 655350000 := by omega
      clear hw
      have hlt' : ¬ 2 * (j : Int) + 1 < n := by omega
      have t3 : IntKind.i64.wrap (2 * (j : Int) + 1) = 2 * (j : Int) + 1 := IntWalk.i64_in _ (by omega)
      rcases (show 2 * j = n ∨ 2 * j + 1 = n by omega) with e | e
      · rw [List.take_of_length_le (by omega)]
        have t4 : ((n : Int) % 2 == 1) = false := by rw [beq_eq_false_iff_ne]; omega
        clear e
        go_wp2_with fail
        go_loopw [3] (fun s wr => ∃ (t : Int) (q : Nat), 0 ≤ t ∧ t ≤ 1000000000 ∧ fold t = fold (words zs) ∧ s = .int .u64 t ∧ wr = w.drewN q) (fun s _ => (intOf s).toNat)
        case atStart => exact ⟨_, q, hs1, by omega, rfl, rfl, rfl⟩
        case round =>
          obtain ⟨t, q', ht0, ht1, ht2, rfl, rfl⟩ := hrel
          have HT := Lib.hid ht2; clear ht2
          by_cases hbig : 65535 < t
          · have g1 := and_low t ht0 (by omega)
            have g3 : IntKind.u64.wrap (t / 65536 + t % 65536) = t / 65536 + t % 65536 := u64_in _ (by omega) (by omega)
            have g4 := Lib.hid (fold_step t hbig)
            go_wp2
            go_roundw
            case rel => exact ⟨t / 65536 + t % 65536, _, by omega, by omega, by rw [g4.out, HT.out], rfl, rfl⟩
            case measure => simp [intOf]; omega
          · have g1 : IntKind.u64.wrap (65535 - t) = 65535 - t := u64_in _ (by omega) (by omega)
            have g2 := Lib.hid (fold_done t ht0 (by omega))
            go_wp2
            go_ret
            refine ⟨?_, q', rfl⟩
            show Ending.returned (.int .u16 _) = _
            unfold sumOf
            rw [← HT.out, g2.out]
      · obtain ⟨a, rfl, ha, hc⟩ := hl.int (k := 2 * j) (by omega)
        have hw2 := words_one zs j (by omega)
        have hx := bytes_at hb (2 * j)
        have hs3 := (HWB.out (2 * j)).1
        generalize words (zs.take (2 * j)) = s0 at hw2 hs3
        generalize zs.getD (2 * j) 0 = x at hc hx hw2
        obtain ⟨hx0, hx1⟩ := hx
        have t4 : ((n : Int) % 2 == 1) = true := by rw [beq_iff_eq]; omega
        have t6 : IntKind.u64.wrap x = x := u64_in _ hx0 (by omega)
        have t8 : IntKind.u64.wrap (x * 256) = x * 256 := u64_in _ (by omega) (by omega)
        have t9 : IntKind.u64.wrap (s0 + x * 256) = s0 + x * 256 := u64_in _ (by omega) (by omega)
        have t11 : ((n : Int) - 1).toNat = 2 * j := by omega
        have t12 : 0 ≤ (n : Int) - 1 := by omega
        have t13 : 1 ≤ (n : Int) := by omega
        have hw3 := Lib.hid hw2
        have hw4 := hw2.symm
        clear hw2 e
        go_wp2_with fail
        go_loopw [3] (fun s wr => ∃ (t : Int) (q : Nat), 0 ≤ t ∧ t ≤ 1000000000 ∧ fold t = fold (words zs) ∧ s = .int .u64 t ∧ wr = w.drewN q) (fun s _ => (intOf s).toNat)
        case atStart => exact ⟨_, q, hs1, by omega, rfl, rfl, rfl⟩
        case round =>
          obtain ⟨t, q', ht0, ht1, ht2, rfl, rfl⟩ := hrel
          have HT := Lib.hid ht2; clear ht2
          by_cases hbig : 65535 < t
          · have g1 := and_low t ht0 (by omega)
            have g3 : IntKind.u64.wrap (t / 65536 + t % 65536) = t / 65536 + t % 65536 := u64_in _ (by omega) (by omega)
            have g4 := Lib.hid (fold_step t hbig)
            go_wp2
            go_roundw
            case rel => exact ⟨t / 65536 + t % 65536, _, by omega, by omega, by rw [g4.out, HT.out], rfl, rfl⟩
            case measure => simp [intOf]; omega
          · have g1 : IntKind.u64.wrap (65535 - t) = 65535 - t := u64_in _ (by omega) (by omega)
            have g2 := Lib.hid (fold_done t ht0 (by omega))
            go_wp2
            go_ret
            refine ⟨?_, q', rfl⟩
            show Ending.returned (.int .u16 _) = _
            unfold sumOf
            rw [← HT.out, g2.out]
end Go.Proofs.Ytogchaijglbjaaa
