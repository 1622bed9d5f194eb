/-
  Layer 4 (ether): a frame out of bytes.
-/
import Derived.Test.YtklolalgbcgdiaaFrameReg
import Derived.BigQuiet
import Derived.Laws.Cover3
namespace Go.Proofs.Ytklolalgbcgdiaa
open Go.RowKit

theorem or_word : ∀ a b : Int, 0 ≤ a → a < 256 → 0 ≤ b → b < 256 → bits .or .i64 (a * 256) b = a * 256 + b := by
  intro a b h1 h2 h3 h4
  obtain ⟨a, rfl⟩ := Int.eq_ofNat_of_zero_le h1
  obtain ⟨b, rfl⟩ := Int.eq_ofNat_of_zero_le h3
  have e1 : (BitVec.ofInt 64 ((a : Int) * 256)).toNat = a * 256 := by
    rw [show ((a : Int) * 256) = ((a * 256 : Nat) : Int) by omega, BitVec.ofInt_natCast, BitVec.toNat_ofNat]; exact Nat.mod_eq_of_lt (by omega)
  have e2 : (BitVec.ofInt 64 (b : Int)).toNat = b := by
    rw [BitVec.ofInt_natCast, BitVec.toNat_ofNat]; exact Nat.mod_eq_of_lt (by omega)
  show IntKind.i64.wrap ((BitVec.ofInt 64 ((a : Int) * 256) ||| BitVec.ofInt 64 (b : Int)).toNat : Int) = _
  rw [BitVec.toNat_or, e1, e2, nat_join 8 (a * 256) b (by omega) (by omega), IntWalk.i64_in _ (by omega)]
  omega

set_option maxHeartbeats 400000 in
theorem word_any (p : Addr) (n c : Nat) (x y : Int) (w : World) (hn : 2 ≤ n) (hnb : n ≤ 9223372036854775807) (h0 : w.cell? p = some (.int .u8 x)) (h1 : w.cell? ⟨p.block, p.off + 1, none⟩ = some (.int .u8 y)) (hx : 0 ≤ x ∧ x < 256) (hy : 0 ≤ y ∧ y < 256) :
    Calls Try.prog 40 #[.slice (some p) n c] w fun e w' => e = .returned (.int .i64 (x * 256 + y)) ∧ ∃ m, w' = w.drewN m := by
  have hor := or_word x y hx.1 hx.2 hy.1 hy.2
  obtain ⟨hx0, hx1⟩ := hx
  obtain ⟨hy0, hy1⟩ := hy
  have q1 : (0 : Int) < n := by omega
  have q2 : (1 : Int) < n := by omega
  go_enter Try.func40, Try.ntmps40
  go_wp2_with fail
  go_quiet (fail)
  go_wp2
  go_ret
  exact ⟨rfl, _, rfl⟩

def wordAt (bs : List Int) (o : Nat) : Int := bs.getD o 0 * 256 + bs.getD (o + 1) 0
def decEnd (bs : List Int) (o : Nat) : Int := if typeOk (wordAt bs o) = false then 5 else if 1500 < bs.length - o - 2 then 3 else 0
def decVlan (bs : List Int) : Int := if wordAt bs 12 = 33024 then wordAt bs 14 % 4096 else 0
def decOff (bs : List Int) : Nat := if wordAt bs 12 = 33024 then 16 else 12
def decErr (bs : List Int) : Int :=
  if bs.length < 14 then 4 else if wordAt bs 12 = 33024 then (if bs.length < 18 then 4 else if decVlan bs = 0 ∨ 4094 < decVlan bs then 5 else decEnd bs 16) else decEnd bs 12
def zeroFrame : Value := .agg #[.int .u8 0, .int .u8 0, .int .u8 0, .int .u8 0, .int .u8 0, .int .u8 0, .int .u8 0, .int .u8 0, .int .u8 0, .int .u8 0, .int .u8 0, .int .u8 0, .int .i64 0, .int .i64 0, .slice none 0 0]
/-- What Decode gives. -/
def DecPost (bs : List Int) (w : World) (e : Ending) (w' : World) : Prop :=
  Below w.heap.size w w' ∧ ((decErr bs ≠ 0 ∧ e = .returned (.tuple #[.agg #[.int .u8 0, .int .u8 0, .int .u8 0, .int .u8 0, .int .u8 0, .int .u8 0, .int .u8 0, .int .u8 0, .int .u8 0, .int .u8 0, .int .u8 0, .int .u8 0, .int .i64 0, .int .i64 0, .slice none 0 0], .int .i64 (decErr bs)])) ∨
    (decErr bs = 0 ∧ ∃ s, e = .returned (.tuple #[.agg #[.int .u8 (bs.getD 0 0), .int .u8 (bs.getD 1 0), .int .u8 (bs.getD 2 0), .int .u8 (bs.getD 3 0), .int .u8 (bs.getD 4 0), .int .u8 (bs.getD 5 0), .int .u8 (bs.getD 6 0), .int .u8 (bs.getD 7 0), .int .u8 (bs.getD 8 0), .int .u8 (bs.getD 9 0), .int .u8 (bs.getD 10 0), .int .u8 (bs.getD 11 0), .int .i64 (decVlan bs), .int .i64 (wordAt bs (decOff bs)), s], .int .i64 0]) ∧
      w'.ownsRow w.heap.size 5 1 s (bs.drop (decOff bs + 2)).length ((bs.drop (decOff bs + 2)).map (Value.int .u8))))
theorem dec_bad {bs : List Int} {w w' : World} (k : Int) (hk : decErr bs = k) (h0 : k ≠ 0) (hb : Below w.heap.size w w') : DecPost bs w (.returned (.tuple #[.agg #[.int .u8 0, .int .u8 0, .int .u8 0, .int .u8 0, .int .u8 0, .int .u8 0, .int .u8 0, .int .u8 0, .int .u8 0, .int .u8 0, .int .u8 0, .int .u8 0, .int .i64 0, .int .i64 0, .slice none 0 0], .int .i64 k])) w' := ⟨hb, .inl ⟨by rw [hk]; exact h0, by rw [hk]⟩⟩

theorem byte_at {bs : List Int} (hz : ∀ z ∈ bs, 0 ≤ z ∧ z < 256) (i : Nat) : 0 ≤ bs.getD i 0 ∧ bs.getD i 0 < 256 := by
  rw [List.getD_eq_getElem?_getD]
  rcases Nat.lt_or_ge i bs.length with h | h
  · rw [List.getElem?_eq_getElem h]; exact hz _ (List.getElem_mem h)
  · rw [List.getElem?_eq_none h]; simp

theorem box_aside {g k : Nat} {t : TypeId} {cs : Array Value} {W W' : World} (h : OnlyBlock g W W') (hk : k ≠ g) (hb : Box k t cs W) : Box k t cs W' := by
  show W'.heap[k]? = _
  rw [h.block k hk]; exact hb
theorem word_bounds {bs : List Int} (hz : ∀ z ∈ bs, 0 ≤ z ∧ z < 256) (o : Nat) : 0 ≤ wordAt bs o ∧ wordAt bs o < 65536 := by
  have h1 := byte_at hz o
  have h2 := byte_at hz (o + 1)
  unfold wordAt; omega
theorem and_low : ∀ x : Int, 0 ≤ x → x < 65536 → bits .and .i64 x 4095 = x % 4096 := by
  intro x h1 h2
  obtain ⟨x, rfl⟩ := Int.eq_ofNat_of_zero_le h1
  have e1 : (BitVec.ofInt 64 (x : Int)).toNat = x := by
    rw [BitVec.ofInt_natCast, BitVec.toNat_ofNat]; exact Nat.mod_eq_of_lt (by omega)
  show IntKind.i64.wrap ((BitVec.ofInt 64 (x : Int) &&& BitVec.ofInt 64 (4095 : Int)).toNat : Int) = _
  rw [BitVec.toNat_and, e1, show (BitVec.ofInt 64 (4095 : Int)).toNat = 2 ^ 12 - 1 by decide, Nat.and_two_pow_sub_one_eq_mod, IntWalk.i64_in _ (by omega)]
  omega
theorem lies_tail {B off b : Nat} {bs : List Int} {W : World} (i : Nat) (hB : b < B) (h : ∀ k, i ≤ k → k < bs.length → W.cell? ⟨b, off + k, none⟩ = some (.int .u8 (bs.getD k 0))) : Lies B (some ⟨b, off + i, none⟩) ((bs.drop i).map (Value.int .u8)) W := fun k hk => by
  have hk' : i + k < bs.length := by simp at hk; omega
  refine ⟨_, .int .u8 (bs.getD (i + k) 0), rfl, hB, ?_, ?_⟩
  · simp [List.getD_eq_getElem?_getD, List.getElem?_drop, List.getElem?_eq_getElem hk']
  · rw [← h (i + k) (by omega) hk']
    congr 1
    unfold Addr.add
    split
    · simp_all
    · simp [Nat.add_assoc]
theorem dec_good {bs : List Int} {w w' : World} {vl : Int} {o : Nat} {s : Value} (ho : o = decOff bs) (hv : vl = decVlan bs) (h0 : decErr bs = 0) (hb : Below w.heap.size w w') (hs : w'.ownsRow w.heap.size 5 1 s (bs.drop (o + 2)).length ((bs.drop (o + 2)).map (Value.int .u8))) :
    DecPost bs w (.returned (.tuple #[.agg #[.int .u8 (bs.getD 0 0), .int .u8 (bs.getD 1 0), .int .u8 (bs.getD 2 0), .int .u8 (bs.getD 3 0), .int .u8 (bs.getD 4 0), .int .u8 (bs.getD 5 0), .int .u8 (bs.getD 6 0), .int .u8 (bs.getD 7 0), .int .u8 (bs.getD 8 0), .int .u8 (bs.getD 9 0), .int .u8 (bs.getD 10 0), .int .u8 (bs.getD 11 0), .int .i64 vl, .int .i64 (wordAt bs o), s], .int .i64 0])) w' := by
  subst ho hv
  exact ⟨hb, .inr ⟨h0, s, rfl, hs⟩⟩

set_option maxHeartbeats 4000000 in
theorem decode_bad (a : Addr) (n c : Nat) (bs : List Int) (w : World) (hl : bs.length = n) (hz : ∀ z ∈ bs, 0 ≤ z ∧ z < 256) (hnb : n ≤ 1000000) (hnc : n ≤ c) (hcm : c ≤ 9223372036854775807) (hlies : Lies w.heap.size (some a) (bs.map (Value.int .u8)) w) (hn : 14 ≤ n) (htag : wordAt bs 12 = 33024) (hbad : n < 18 ∨ wordAt bs 14 % 4096 = 0 ∨ 4094 < wordAt bs 14 % 4096) :
    Calls Try.prog 30 #[.slice (some a) n c] w (DecPost bs w) := by
  replace htag := Lib.hid htag
  obtain ⟨a0, ha0, ha, -⟩ := hlies.int (k := 0) (by omega)
  injection ha0 with ha0
  subst ha0
  have cells : ∀ i, i < n → w.cell? (a.add i) = some (.int .u8 (bs.getD i 0)) := fun i hi => by
    obtain ⟨a', h1, _, h2⟩ := hlies.int (k := i) (by omega)
    injection h1 with h1
    rw [h1]; exact h2
  have cellp : ∀ i, 0 < i → i < n → w.cell? ⟨a.block, a.off + i, none⟩ = some (.int .u8 (bs.getD i 0)) := fun i h0 hi => by
    have h := cells i hi
    rwa [show a.add i = ⟨a.block, a.off + i, none⟩ by simp [Addr.add, show i ≠ 0 by omega]] at h
  have x0 : w.cell? a = some (.int .u8 (bs.getD 0 0)) := cells 0 (by omega)
  have x1 : w.cell? ⟨a.block, a.off + 1, none⟩ = some (.int .u8 (bs.getD 1 0)) := cellp 1 (by omega) (by omega)
  have x2 : w.cell? ⟨a.block, a.off + 2, none⟩ = some (.int .u8 (bs.getD 2 0)) := cellp 2 (by omega) (by omega)
  have x3 : w.cell? ⟨a.block, a.off + 3, none⟩ = some (.int .u8 (bs.getD 3 0)) := cellp 3 (by omega) (by omega)
  have x4 : w.cell? ⟨a.block, a.off + 4, none⟩ = some (.int .u8 (bs.getD 4 0)) := cellp 4 (by omega) (by omega)
  have x5 : w.cell? ⟨a.block, a.off + 5, none⟩ = some (.int .u8 (bs.getD 5 0)) := cellp 5 (by omega) (by omega)
  have x6 : w.cell? ⟨a.block, a.off + 6, none⟩ = some (.int .u8 (bs.getD 6 0)) := cellp 6 (by omega) (by omega)
  have x7 : w.cell? ⟨a.block, a.off + 7, none⟩ = some (.int .u8 (bs.getD 7 0)) := cellp 7 (by omega) (by omega)
  have x8 : w.cell? ⟨a.block, a.off + 8, none⟩ = some (.int .u8 (bs.getD 8 0)) := cellp 8 (by omega) (by omega)
  have x9 : w.cell? ⟨a.block, a.off + 9, none⟩ = some (.int .u8 (bs.getD 9 0)) := cellp 9 (by omega) (by omega)
  have x10 : w.cell? ⟨a.block, a.off + 10, none⟩ = some (.int .u8 (bs.getD 10 0)) := cellp 10 (by omega) (by omega)
  have x11 : w.cell? ⟨a.block, a.off + 11, none⟩ = some (.int .u8 (bs.getD 11 0)) := cellp 11 (by omega) (by omega)
  have y0 := fun o => (World.cell?_alloc_lt w o a ha).trans x0
  have q6 : (6 : Int) ≤ c := by omega
  have q12 : (12 : Int) ≤ c := by omega
  have n6 : ¬ c = 6 := by omega
  have hat : ∀ w A, (Instr.arrayAt 23 (.slice A 6 c)).run Try.prog w = .ok (.pointer A) w := fun w A => run_arrayAt w 23 _ 6 A 6 c Try.underlying23 (Nat.le_refl _)
  have hat2 : ∀ w A, (Instr.arrayAt 23 (.slice A 6 (c - 6))).run Try.prog w = .ok (.pointer A) w := fun w A => run_arrayAt w 23 _ 6 A 6 (c - 6) Try.underlying23 (Nat.le_refl _)
  go_enter Try.func30, Try.ntmps30
  go_upto_region 3 with fail
  go_cut [4] (fun p wx => ∃ g, p = .pointer (some ⟨g, 0, none⟩) ∧ w.heap.size < g ∧ Box g 42 #[.int .u8 (bs.getD 0 0), .int .u8 (bs.getD 1 0), .int .u8 (bs.getD 2 0), .int .u8 (bs.getD 3 0), .int .u8 (bs.getD 4 0), .int .u8 (bs.getD 5 0), .int .u8 (bs.getD 6 0), .int .u8 (bs.getD 7 0), .int .u8 (bs.getD 8 0), .int .u8 (bs.getD 9 0), .int .u8 (bs.getD 10 0), .int .u8 (bs.getD 11 0), .int .i64 0, .int .i64 0, .slice none 0 0] wx ∧ Box w.heap.size 42 #[.int .u8 0, .int .u8 0, .int .u8 0, .int .u8 0, .int .u8 0, .int .u8 0, .int .u8 0, .int .u8 0, .int .u8 0, .int .u8 0, .int .u8 0, .int .u8 0, .int .i64 0, .int .i64 0, .slice none 0 0] wx ∧ Below w.heap.size w wx)
  case first =>
    refine wp_region_tail 10 (fun _ => False) (fun _ => True) (Stays (fun _ => False)) [isV ?v0r1, isV ?v1r1, isV ?v2r1, isV ?v3r1, isV ?v4r1, isV ?v5r1, isV ?v6r1, isV ?v7r1, isV ?v8r1, isBox (fun _ => False) (w.heap.size + 1) 42 #[.int .u8 0, .int .u8 0, .int .u8 0, .int .u8 0, .int .u8 0, .int .u8 0, .int .u8 0, .int .u8 0, .int .u8 0, .int .u8 0, .int .u8 0, .int .u8 0, .int .i64 0, .int .i64 0, .slice none 0 0]] (by kernel_rfl) (by kernel_rfl) (by kernel_rfl) (by kernel_rfl) trivial (fun _ h => False.elim h) (fun _ _ _ h => h) ?spr1 ?enr1
    case spr1 =>
      -- 0: Op.move t0
      refine specs_cons (cst _ rfl fun env ρ W hW hI hF hS => ?_) ?_
      · have e0 := hS.at 0 (by kernel_rfl) (slot_base (by kernel_rfl))
        go_simp
        try with_reducible rfl
      -- 1: Op.slice 33 t10 none (some (const (6:i64))) none
      refine specs_cons (cst _ rfl fun env ρ W hW hI hF hS => ?_) ?_
      · have hc := stays_cells hW; have hca := (hW.cell (p := a) (by simp; omega) id).trans (y0 _); have cc := hS.const; have e10 := (hS.at 10 (by kernel_rfl) (v := env 0) (by kernel_rfl)).trans (hF 0 (by kernel_rfl))
        go_simp
        try with_reducible rfl
      -- 2: Op.sliceToArrayPointer 23 t11
      refine specs_cons (cst _ rfl fun env ρ W hW hI hF hS => ?_) ?_
      · have hc := stays_cells hW; have hca := (hW.cell (p := a) (by simp; omega) id).trans (y0 _); have e11 := (hS.at 11 (by kernel_rfl) (v := env 1) (by kernel_rfl)).trans (hF 1 (by kernel_rfl))
        go_simp
        try with_reducible rfl
      -- 3: Op.load 23 t12
      refine specs_cons (cst _ rfl fun env ρ W hW hI hF hS => ?_) ?_
      · have hc := stays_cells hW; have hca := (hW.cell (p := a) (by simp; omega) id).trans (y0 _); have e12 := (hS.at 12 (by kernel_rfl) (v := env 2) (by kernel_rfl)).trans (hF 2 (by kernel_rfl))
        go_simp
        try with_reducible rfl
      -- 4: Op.move t0
      refine specs_cons (cst _ rfl fun env ρ W hW hI hF hS => ?_) ?_
      · have e0 := hS.at 0 (by kernel_rfl) (slot_base (by kernel_rfl))
        go_simp
        try with_reducible rfl
      -- 5: Op.slice 33 t14 (some (const (6:i64))) (some (const (12:i64))) none
      refine specs_cons (cst _ rfl fun env ρ W hW hI hF hS => ?_) ?_
      · have hc := stays_cells hW; have hca := (hW.cell (p := a) (by simp; omega) id).trans (y0 _); have cc := hS.const; have e14 := (hS.at 14 (by kernel_rfl) (v := env 4) (by kernel_rfl)).trans (hF 4 (by kernel_rfl))
        go_simp
        try with_reducible rfl
      -- 6: Op.sliceToArrayPointer 23 t15
      refine specs_cons (cst _ rfl fun env ρ W hW hI hF hS => ?_) ?_
      · have hc := stays_cells hW; have hca := (hW.cell (p := a) (by simp; omega) id).trans (y0 _); have e15 := (hS.at 15 (by kernel_rfl) (v := env 5) (by kernel_rfl)).trans (hF 5 (by kernel_rfl))
        go_simp
        try with_reducible rfl
      -- 7: Op.load 23 t16
      refine specs_cons (cst _ rfl fun env ρ W hW hI hF hS => ?_) ?_
      · have hc := stays_cells hW; have hca := (hW.cell (p := a) (by simp; omega) id).trans (y0 _); have e16 := (hS.at 16 (by kernel_rfl) (v := env 6) (by kernel_rfl)).trans (hF 6 (by kernel_rfl))
        go_simp
        try with_reducible rfl
      -- 8: Op.build 42 #[(0, t13), (1, t17)]
      refine specs_cons (cst _ rfl fun env ρ W hW hI hF hS => ?_) ?_
      · have e13 := (hS.at 13 (by kernel_rfl) (v := env 3) (by kernel_rfl)).trans (hF 3 (by kernel_rfl)); have e17 := (hS.at 17 (by kernel_rfl) (v := env 7) (by kernel_rfl)).trans (hF 7 (by kernel_rfl))
        go_simp
        try with_reducible rfl
      -- 9: Op.alloc 42
      refine specs_cons (lit_box (by simp) _ _ rfl (fun _ h => False.elim h) (fun _ _ _ h => h) fun env ρ W hW hI hF hS => ?_) ?_
      · 
        go_simp
        try with_reducible rfl
      exact specs_nil
    case enr1 =>
      intro env W K
      have f0 : env 0 = _ := K.facts 0 (by decide) rfl
      have f1 : env 1 = _ := K.facts 1 (by decide) rfl
      have f2 : env 2 = _ := K.facts 2 (by decide) rfl
      have f3 : env 3 = _ := K.facts 3 (by decide) rfl
      have f4 : env 4 = _ := K.facts 4 (by decide) rfl
      have f5 : env 5 = _ := K.facts 5 (by decide) rfl
      have f6 : env 6 = _ := K.facts 6 (by decide) rfl
      have f7 : env 7 = _ := K.facts 7 (by decide) rfl
      have f8 : env 8 = _ := K.facts 8 (by decide) rfl
      obtain ⟨g9, k9, ⟨l9, x9⟩, b9⟩ := K.facts 9 (by decide) rfl
      have hgrow := K.stays.of_drew.below
      clear K
      simp only [List.take_succ_cons, List.take_zero, List.drop_zero, List.drop_succ_cons, putAll, Nat.reduceAdd]
      simp only [Act.put, List.setIfInBounds_toArray, List.set_cons_succ, List.set_cons_zero, f0, f1, f2, f3, f4, f5, f6, f7, f8, k9]
      clear f0 f1 f2 f3 f4 f5 f6 f7 f8
      have b9_0 := b9.at_ 0; have b9_1 := b9.at_ 1; have b9_2 := b9.at_ 2; have b9_3 := b9.at_ 3; have b9_4 := b9.at_ 4; have b9_5 := b9.at_ 5; have b9_6 := b9.at_ 6; have b9_7 := b9.at_ 7; have b9_8 := b9.at_ 8; have b9_9 := b9.at_ 9; have b9_10 := b9.at_ 10; have b9_11 := b9.at_ 11; have b9_12 := b9.at_ 12; have b9_13 := b9.at_ 13; have b9_14 := b9.at_ 14
      have b9o0 := b9.open_ 0; have b9o1 := b9.open_ 1; have b9o2 := b9.open_ 2; have b9o3 := b9.open_ 3; have b9o4 := b9.open_ 4; have b9o5 := b9.open_ 5; have b9o6 := b9.open_ 6; have b9o7 := b9.open_ 7; have b9o8 := b9.open_ 8; have b9o9 := b9.open_ 9; have b9o10 := b9.open_ 10; have b9o11 := b9.open_ 11; have b9o12 := b9.open_ 12; have b9o13 := b9.open_ 13; have b9o14 := b9.open_ 14
      have hsz9 := hgrow.size
      simp at hsz9
      go_wp2
      go_meet
      have hzz := (Box.made w 42 #[.int .u8 0, .int .u8 0, .int .u8 0, .int .u8 0, .int .u8 0, .int .u8 0, .int .u8 0, .int .u8 0, .int .u8 0, .int .u8 0, .int .u8 0, .int .u8 0, .int .i64 0, .int .i64 0, .slice none 0 0]).under hgrow (by simp)
      have hne : w.heap.size ≠ g9 := by omega
      refine ⟨g9, rfl, by omega, box_fill b9 rfl, ?_, ?_⟩
      · exact box_aside (g := g9) (W := W) ((((((((((((((((OnlyBlock.refl _ _).setCell (by rfl) _).setCell (by rfl) _).setCell (by rfl) _).setCell (by rfl) _).setCell (by rfl) _).setCell (by rfl) _).setCell (by rfl) _).setCell (by rfl) _).setCell (by rfl) _).setCell (by rfl) _).setCell (by rfl) _).setCell (by rfl) _).setCell (by rfl) _).setCell (by rfl) _).setCell (by rfl) _) hne hzz
      · exact (OnlyBlock.stays (g := g9) (X := fun _ => False) ((((((((((((((((OnlyBlock.refl _ _).setCell (by rfl) _).setCell (by rfl) _).setCell (by rfl) _).setCell (by rfl) _).setCell (by rfl) _).setCell (by rfl) _).setCell (by rfl) _).setCell (by rfl) _).setCell (by rfl) _).setCell (by rfl) _).setCell (by rfl) _).setCell (by rfl) _).setCell (by rfl) _).setCell (by rfl) _).setCell (by rfl) _) (Stays.of_below (((Below.refl w.heap.size w).alloc (Nat.le_refl _) _).trans (hgrow.mono (by simp)))) (by omega)).below
  case rest =>
    obtain ⟨g, rfl, hg, hb, hzb, hbel⟩ := hcut
    have low : ∀ i, 0 < i → i < n → ∀ W', Below w.heap.size w W' → W'.cell? ⟨a.block, a.off + i, none⟩ = some (.int .u8 (bs.getD i 0)) := fun i h0 hi W' h => (h.cell (p := ⟨a.block, a.off + i, none⟩) ha).trans (cellp i h0 hi)
    have n12 : ¬ c = 12 := by omega
    have hwb := Lib.hid (word_bounds hz)
    clear x0 x1 x2 x3 x4 x5 x6 x7 x8 x9 x10 x11 y0 n6 q6 hat hat2 cells
    go_wp2_with fail
    refine (word_any ⟨a.block, a.off + 12, none⟩ (n - 12) (c - 12) _ _ _ (by omega) (by omega) (low 12 (by omega) (by omega) _ hbel) (low 13 (by omega) (by omega) _ hbel) (byte_at hz 12) (byte_at hz 13)).mono ?_
    rw [show bs.getD 12 0 * 256 + bs.getD 13 0 = wordAt bs 12 from rfl]
    rintro e w1 ⟨rfl, m1, rfl⟩
    replace htag := htag.out
    have heq : (wordAt bs 12 == 33024) = true := by simpa using htag
    by_cases h18 : n < 18
    · have herr : decErr bs = 4 := by unfold decErr; rw [if_neg (by omega), if_pos htag, if_pos (by omega)]
      go_upto_region 7 with fail
      refine zero_region (k := .int .i64 4) (hzb.drawnN _) rfl (by decide) (by simp) fun W' z ho' => ?_
      simp only [Act.put, List.setIfInBounds_toArray, List.set_cons_succ, List.set_cons_zero]
      have z_0 := z.at_ 0; have z_1 := z.at_ 1; have z_2 := z.at_ 2; have z_3 := z.at_ 3; have z_4 := z.at_ 4; have z_5 := z.at_ 5; have z_6 := z.at_ 6; have z_7 := z.at_ 7; have z_8 := z.at_ 8; have z_9 := z.at_ 9; have z_10 := z.at_ 10; have z_11 := z.at_ 11; have z_12 := z.at_ 12; have z_13 := z.at_ 13; have z_14 := z.at_ 14
      go_wp2
      exact bodyPost_ret (v := .tuple #[.agg #[.int .u8 0, .int .u8 0, .int .u8 0, .int .u8 0, .int .u8 0, .int .u8 0, .int .u8 0, .int .u8 0, .int .u8 0, .int .u8 0, .int .u8 0, .int .u8 0, .int .i64 0, .int .i64 0, .slice none 0 0], .int .i64 4]) (by simp [results, Try.results30, go_sem, z_0, z_1, z_2, z_3, z_4, z_5, z_6, z_7, z_8, z_9, z_10, z_11, z_12, z_13, z_14]) rfl (dec_bad 4 herr (by decide) (only_below (below_drewN hbel _) ho' (Nat.le_refl _)))
    · have hn18 : ¬ n < 18 := h18
      have hVb := hwb.out 14
      have hand := and_low (wordAt bs 14) hVb.1 hVb.2
      have hV : decVlan bs = wordAt bs 14 % 4096 := by unfold decVlan; rw [if_pos htag]
      have hl1 : 0 ≤ wordAt bs 14 % 4096 ∧ wordAt bs 14 % 4096 ≤ 4095 := by omega
      generalize wordAt bs 14 % 4096 = vl at hand hV hl1 hbad
      have q2 : (2 : Int) ≤ (c - 12 : Nat) := by omega
      have n2 : ¬ c - 12 = 2 := by omega
      have q12 := hb.at_ 12
      have q12o := hb.open_ 12
      go_wp2_with fail
      refine (word_any _ _ _ (bs.getD 14 0) (bs.getD 15 0) _ (by omega) (by omega) (low 14 (by omega) (by omega) _ (by repeat (with_reducible first | exact Below.refl _ _ | assumption | refine Below.drew ?_ | refine below_drewN ?_ _ | refine Below.alloc ?_ (by simp) _ | refine Below.setCell ?_ (by first | (simp; done) | omega | (simp; omega)) _ | refine Below.alloc ?_ (by simp; omega) _))) (low 15 (by omega) (by omega) _ (by repeat (with_reducible first | exact Below.refl _ _ | assumption | refine Below.drew ?_ | refine below_drewN ?_ _ | refine Below.alloc ?_ (by simp) _ | refine Below.setCell ?_ (by first | (simp; done) | omega | (simp; omega)) _ | refine Below.alloc ?_ (by simp; omega) _))) (byte_at hz 14) (byte_at hz 15)).mono ?_
      rw [show bs.getD 14 0 * 256 + bs.getD 15 0 = wordAt bs 14 from rfl]
      rintro e w1 ⟨rfl, m2, rfl⟩
      have hbel2 : Below w.heap.size w (wc.drewN (m1 + m2)) := below_drewN hbel _
      have hne : w.heap.size ≠ g := by omega
      have hbv := (hb.drawnN (m1 + m2)).put 12 (.int .i64 vl)
      have hzv := (hzb.drawnN (m1 + m2)).aside (p := ⟨g, 12, none⟩) hne (.int .i64 vl)
      have hbel3 : Below w.heap.size w ((wc.drewN (m1 + m2)).setCell ⟨g, 12, none⟩ (.int .i64 vl)) := hbel2.setCell (by simp; omega) _
      have hbadv : vl = 0 ∨ 4094 < vl := by omega
      have herr : decErr bs = 5 := by unfold decErr; rw [if_neg (by omega), if_pos htag, if_neg (by omega), if_pos (by rw [hV]; exact hbadv)]
      rcases hbadv with rfl | hgt
      · go_upto_region 10 with fail
        refine zero_region (k := .int .i64 5) hzv rfl (by decide) (by simp) fun W' z ho' => ?_
        simp only [Act.put, List.setIfInBounds_toArray, List.set_cons_succ, List.set_cons_zero]
        have z_0 := z.at_ 0; have z_1 := z.at_ 1; have z_2 := z.at_ 2; have z_3 := z.at_ 3; have z_4 := z.at_ 4; have z_5 := z.at_ 5; have z_6 := z.at_ 6; have z_7 := z.at_ 7; have z_8 := z.at_ 8; have z_9 := z.at_ 9; have z_10 := z.at_ 10; have z_11 := z.at_ 11; have z_12 := z.at_ 12; have z_13 := z.at_ 13; have z_14 := z.at_ 14
        go_wp2
        exact bodyPost_ret (v := .tuple #[.agg #[.int .u8 0, .int .u8 0, .int .u8 0, .int .u8 0, .int .u8 0, .int .u8 0, .int .u8 0, .int .u8 0, .int .u8 0, .int .u8 0, .int .u8 0, .int .u8 0, .int .i64 0, .int .i64 0, .slice none 0 0], .int .i64 5]) (by simp [results, Try.results30, go_sem, z_0, z_1, z_2, z_3, z_4, z_5, z_6, z_7, z_8, z_9, z_10, z_11, z_12, z_13, z_14]) rfl (dec_bad 5 herr (by decide) (only_below hbel3 ho' (Nat.le_refl _)))
      · have hz0 : (vl == 0) = false := by simp; omega
        have hgt' : decide (vl > 4094) = true := by simpa using hgt
        go_upto_region 10 with fail
        refine zero_region (k := .int .i64 5) hzv rfl (by decide) (by simp) fun W' z ho' => ?_
        simp only [Act.put, List.setIfInBounds_toArray, List.set_cons_succ, List.set_cons_zero]
        have z_0 := z.at_ 0; have z_1 := z.at_ 1; have z_2 := z.at_ 2; have z_3 := z.at_ 3; have z_4 := z.at_ 4; have z_5 := z.at_ 5; have z_6 := z.at_ 6; have z_7 := z.at_ 7; have z_8 := z.at_ 8; have z_9 := z.at_ 9; have z_10 := z.at_ 10; have z_11 := z.at_ 11; have z_12 := z.at_ 12; have z_13 := z.at_ 13; have z_14 := z.at_ 14
        go_wp2
        exact bodyPost_ret (v := .tuple #[.agg #[.int .u8 0, .int .u8 0, .int .u8 0, .int .u8 0, .int .u8 0, .int .u8 0, .int .u8 0, .int .u8 0, .int .u8 0, .int .u8 0, .int .u8 0, .int .u8 0, .int .i64 0, .int .i64 0, .slice none 0 0], .int .i64 5]) (by simp [results, Try.results30, go_sem, z_0, z_1, z_2, z_3, z_4, z_5, z_6, z_7, z_8, z_9, z_10, z_11, z_12, z_13, z_14]) rfl (dec_bad 5 herr (by decide) (only_below hbel3 ho' (Nat.le_refl _)))
set_option maxHeartbeats 4000000 in
theorem decode_good (a : Addr) (n c : Nat) (bs : List Int) (w : World) (hl : bs.length = n) (hz : ∀ z ∈ bs, 0 ≤ z ∧ z < 256) (hnb : n ≤ 1000000) (hnc : n ≤ c) (hcm : c ≤ 9223372036854775807) (hlies : Lies w.heap.size (some a) (bs.map (Value.int .u8)) w) (hn : 14 ≤ n) (hgood : wordAt bs 12 = 33024 → ¬ n < 18 ∧ ¬ wordAt bs 14 % 4096 = 0 ∧ ¬ 4094 < wordAt bs 14 % 4096) :
    Calls Try.prog 30 #[.slice (some a) n c] w (DecPost bs w) := by
  replace hgood := Lib.hid hgood
  obtain ⟨a0, ha0, ha, -⟩ := hlies.int (k := 0) (by omega)
  injection ha0 with ha0
  subst ha0
  have cells : ∀ i, i < n → w.cell? (a.add i) = some (.int .u8 (bs.getD i 0)) := fun i hi => by
    obtain ⟨a', h1, _, h2⟩ := hlies.int (k := i) (by omega)
    injection h1 with h1
    rw [h1]; exact h2
  have cellp : ∀ i, 0 < i → i < n → w.cell? ⟨a.block, a.off + i, none⟩ = some (.int .u8 (bs.getD i 0)) := fun i h0 hi => by
    have h := cells i hi
    rwa [show a.add i = ⟨a.block, a.off + i, none⟩ by simp [Addr.add, show i ≠ 0 by omega]] at h
  have x0 : w.cell? a = some (.int .u8 (bs.getD 0 0)) := cells 0 (by omega)
  have x1 : w.cell? ⟨a.block, a.off + 1, none⟩ = some (.int .u8 (bs.getD 1 0)) := cellp 1 (by omega) (by omega)
  have x2 : w.cell? ⟨a.block, a.off + 2, none⟩ = some (.int .u8 (bs.getD 2 0)) := cellp 2 (by omega) (by omega)
  have x3 : w.cell? ⟨a.block, a.off + 3, none⟩ = some (.int .u8 (bs.getD 3 0)) := cellp 3 (by omega) (by omega)
  have x4 : w.cell? ⟨a.block, a.off + 4, none⟩ = some (.int .u8 (bs.getD 4 0)) := cellp 4 (by omega) (by omega)
  have x5 : w.cell? ⟨a.block, a.off + 5, none⟩ = some (.int .u8 (bs.getD 5 0)) := cellp 5 (by omega) (by omega)
  have x6 : w.cell? ⟨a.block, a.off + 6, none⟩ = some (.int .u8 (bs.getD 6 0)) := cellp 6 (by omega) (by omega)
  have x7 : w.cell? ⟨a.block, a.off + 7, none⟩ = some (.int .u8 (bs.getD 7 0)) := cellp 7 (by omega) (by omega)
  have x8 : w.cell? ⟨a.block, a.off + 8, none⟩ = some (.int .u8 (bs.getD 8 0)) := cellp 8 (by omega) (by omega)
  have x9 : w.cell? ⟨a.block, a.off + 9, none⟩ = some (.int .u8 (bs.getD 9 0)) := cellp 9 (by omega) (by omega)
  have x10 : w.cell? ⟨a.block, a.off + 10, none⟩ = some (.int .u8 (bs.getD 10 0)) := cellp 10 (by omega) (by omega)
  have x11 : w.cell? ⟨a.block, a.off + 11, none⟩ = some (.int .u8 (bs.getD 11 0)) := cellp 11 (by omega) (by omega)
  have y0 := fun o => (World.cell?_alloc_lt w o a ha).trans x0
  have q6 : (6 : Int) ≤ c := by omega
  have q12 : (12 : Int) ≤ c := by omega
  have n6 : ¬ c = 6 := by omega
  have hat : ∀ w A, (Instr.arrayAt 23 (.slice A 6 c)).run Try.prog w = .ok (.pointer A) w := fun w A => run_arrayAt w 23 _ 6 A 6 c Try.underlying23 (Nat.le_refl _)
  have hat2 : ∀ w A, (Instr.arrayAt 23 (.slice A 6 (c - 6))).run Try.prog w = .ok (.pointer A) w := fun w A => run_arrayAt w 23 _ 6 A 6 (c - 6) Try.underlying23 (Nat.le_refl _)
  go_enter Try.func30, Try.ntmps30
  go_upto_region 3 with fail
  go_cut [4] (fun p wx => ∃ g, p = .pointer (some ⟨g, 0, none⟩) ∧ w.heap.size < g ∧ Box g 42 #[.int .u8 (bs.getD 0 0), .int .u8 (bs.getD 1 0), .int .u8 (bs.getD 2 0), .int .u8 (bs.getD 3 0), .int .u8 (bs.getD 4 0), .int .u8 (bs.getD 5 0), .int .u8 (bs.getD 6 0), .int .u8 (bs.getD 7 0), .int .u8 (bs.getD 8 0), .int .u8 (bs.getD 9 0), .int .u8 (bs.getD 10 0), .int .u8 (bs.getD 11 0), .int .i64 0, .int .i64 0, .slice none 0 0] wx ∧ Box w.heap.size 42 #[.int .u8 0, .int .u8 0, .int .u8 0, .int .u8 0, .int .u8 0, .int .u8 0, .int .u8 0, .int .u8 0, .int .u8 0, .int .u8 0, .int .u8 0, .int .u8 0, .int .i64 0, .int .i64 0, .slice none 0 0] wx ∧ Below w.heap.size w wx)
  case first =>
    refine wp_region_tail 10 (fun _ => False) (fun _ => True) (Stays (fun _ => False)) [isV ?v0r2, isV ?v1r2, isV ?v2r2, isV ?v3r2, isV ?v4r2, isV ?v5r2, isV ?v6r2, isV ?v7r2, isV ?v8r2, isBox (fun _ => False) (w.heap.size + 1) 42 #[.int .u8 0, .int .u8 0, .int .u8 0, .int .u8 0, .int .u8 0, .int .u8 0, .int .u8 0, .int .u8 0, .int .u8 0, .int .u8 0, .int .u8 0, .int .u8 0, .int .i64 0, .int .i64 0, .slice none 0 0]] (by kernel_rfl) (by kernel_rfl) (by kernel_rfl) (by kernel_rfl) trivial (fun _ h => False.elim h) (fun _ _ _ h => h) ?spr2 ?enr2
    case spr2 =>
      -- 0: Op.move t0
      refine specs_cons (cst _ rfl fun env ρ W hW hI hF hS => ?_) ?_
      · have e0 := hS.at 0 (by kernel_rfl) (slot_base (by kernel_rfl))
        go_simp
        try with_reducible rfl
      -- 1: Op.slice 33 t10 none (some (const (6:i64))) none
      refine specs_cons (cst _ rfl fun env ρ W hW hI hF hS => ?_) ?_
      · have hc := stays_cells hW; have hca := (hW.cell (p := a) (by simp; omega) id).trans (y0 _); have cc := hS.const; have e10 := (hS.at 10 (by kernel_rfl) (v := env 0) (by kernel_rfl)).trans (hF 0 (by kernel_rfl))
        go_simp
        try with_reducible rfl
      -- 2: Op.sliceToArrayPointer 23 t11
      refine specs_cons (cst _ rfl fun env ρ W hW hI hF hS => ?_) ?_
      · have hc := stays_cells hW; have hca := (hW.cell (p := a) (by simp; omega) id).trans (y0 _); have e11 := (hS.at 11 (by kernel_rfl) (v := env 1) (by kernel_rfl)).trans (hF 1 (by kernel_rfl))
        go_simp
        try with_reducible rfl
      -- 3: Op.load 23 t12
      refine specs_cons (cst _ rfl fun env ρ W hW hI hF hS => ?_) ?_
      · have hc := stays_cells hW; have hca := (hW.cell (p := a) (by simp; omega) id).trans (y0 _); have e12 := (hS.at 12 (by kernel_rfl) (v := env 2) (by kernel_rfl)).trans (hF 2 (by kernel_rfl))
        go_simp
        try with_reducible rfl
      -- 4: Op.move t0
      refine specs_cons (cst _ rfl fun env ρ W hW hI hF hS => ?_) ?_
      · have e0 := hS.at 0 (by kernel_rfl) (slot_base (by kernel_rfl))
        go_simp
        try with_reducible rfl
      -- 5: Op.slice 33 t14 (some (const (6:i64))) (some (const (12:i64))) none
      refine specs_cons (cst _ rfl fun env ρ W hW hI hF hS => ?_) ?_
      · have hc := stays_cells hW; have hca := (hW.cell (p := a) (by simp; omega) id).trans (y0 _); have cc := hS.const; have e14 := (hS.at 14 (by kernel_rfl) (v := env 4) (by kernel_rfl)).trans (hF 4 (by kernel_rfl))
        go_simp
        try with_reducible rfl
      -- 6: Op.sliceToArrayPointer 23 t15
      refine specs_cons (cst _ rfl fun env ρ W hW hI hF hS => ?_) ?_
      · have hc := stays_cells hW; have hca := (hW.cell (p := a) (by simp; omega) id).trans (y0 _); have e15 := (hS.at 15 (by kernel_rfl) (v := env 5) (by kernel_rfl)).trans (hF 5 (by kernel_rfl))
        go_simp
        try with_reducible rfl
      -- 7: Op.load 23 t16
      refine specs_cons (cst _ rfl fun env ρ W hW hI hF hS => ?_) ?_
      · have hc := stays_cells hW; have hca := (hW.cell (p := a) (by simp; omega) id).trans (y0 _); have e16 := (hS.at 16 (by kernel_rfl) (v := env 6) (by kernel_rfl)).trans (hF 6 (by kernel_rfl))
        go_simp
        try with_reducible rfl
      -- 8: Op.build 42 #[(0, t13), (1, t17)]
      refine specs_cons (cst _ rfl fun env ρ W hW hI hF hS => ?_) ?_
      · have e13 := (hS.at 13 (by kernel_rfl) (v := env 3) (by kernel_rfl)).trans (hF 3 (by kernel_rfl)); have e17 := (hS.at 17 (by kernel_rfl) (v := env 7) (by kernel_rfl)).trans (hF 7 (by kernel_rfl))
        go_simp
        try with_reducible rfl
      -- 9: Op.alloc 42
      refine specs_cons (lit_box (by simp) _ _ rfl (fun _ h => False.elim h) (fun _ _ _ h => h) fun env ρ W hW hI hF hS => ?_) ?_
      · 
        go_simp
        try with_reducible rfl
      exact specs_nil
    case enr2 =>
      intro env W K
      have f0 : env 0 = _ := K.facts 0 (by decide) rfl
      have f1 : env 1 = _ := K.facts 1 (by decide) rfl
      have f2 : env 2 = _ := K.facts 2 (by decide) rfl
      have f3 : env 3 = _ := K.facts 3 (by decide) rfl
      have f4 : env 4 = _ := K.facts 4 (by decide) rfl
      have f5 : env 5 = _ := K.facts 5 (by decide) rfl
      have f6 : env 6 = _ := K.facts 6 (by decide) rfl
      have f7 : env 7 = _ := K.facts 7 (by decide) rfl
      have f8 : env 8 = _ := K.facts 8 (by decide) rfl
      obtain ⟨g9, k9, ⟨l9, x9⟩, b9⟩ := K.facts 9 (by decide) rfl
      have hgrow := K.stays.of_drew.below
      clear K
      simp only [List.take_succ_cons, List.take_zero, List.drop_zero, List.drop_succ_cons, putAll, Nat.reduceAdd]
      simp only [Act.put, List.setIfInBounds_toArray, List.set_cons_succ, List.set_cons_zero, f0, f1, f2, f3, f4, f5, f6, f7, f8, k9]
      clear f0 f1 f2 f3 f4 f5 f6 f7 f8
      have b9_0 := b9.at_ 0; have b9_1 := b9.at_ 1; have b9_2 := b9.at_ 2; have b9_3 := b9.at_ 3; have b9_4 := b9.at_ 4; have b9_5 := b9.at_ 5; have b9_6 := b9.at_ 6; have b9_7 := b9.at_ 7; have b9_8 := b9.at_ 8; have b9_9 := b9.at_ 9; have b9_10 := b9.at_ 10; have b9_11 := b9.at_ 11; have b9_12 := b9.at_ 12; have b9_13 := b9.at_ 13; have b9_14 := b9.at_ 14
      have b9o0 := b9.open_ 0; have b9o1 := b9.open_ 1; have b9o2 := b9.open_ 2; have b9o3 := b9.open_ 3; have b9o4 := b9.open_ 4; have b9o5 := b9.open_ 5; have b9o6 := b9.open_ 6; have b9o7 := b9.open_ 7; have b9o8 := b9.open_ 8; have b9o9 := b9.open_ 9; have b9o10 := b9.open_ 10; have b9o11 := b9.open_ 11; have b9o12 := b9.open_ 12; have b9o13 := b9.open_ 13; have b9o14 := b9.open_ 14
      have hsz9 := hgrow.size
      simp at hsz9
      go_wp2
      go_meet
      have hzz := (Box.made w 42 #[.int .u8 0, .int .u8 0, .int .u8 0, .int .u8 0, .int .u8 0, .int .u8 0, .int .u8 0, .int .u8 0, .int .u8 0, .int .u8 0, .int .u8 0, .int .u8 0, .int .i64 0, .int .i64 0, .slice none 0 0]).under hgrow (by simp)
      have hne : w.heap.size ≠ g9 := by omega
      refine ⟨g9, rfl, by omega, box_fill b9 rfl, ?_, ?_⟩
      · exact box_aside (g := g9) (W := W) ((((((((((((((((OnlyBlock.refl _ _).setCell (by rfl) _).setCell (by rfl) _).setCell (by rfl) _).setCell (by rfl) _).setCell (by rfl) _).setCell (by rfl) _).setCell (by rfl) _).setCell (by rfl) _).setCell (by rfl) _).setCell (by rfl) _).setCell (by rfl) _).setCell (by rfl) _).setCell (by rfl) _).setCell (by rfl) _).setCell (by rfl) _) hne hzz
      · exact (OnlyBlock.stays (g := g9) (X := fun _ => False) ((((((((((((((((OnlyBlock.refl _ _).setCell (by rfl) _).setCell (by rfl) _).setCell (by rfl) _).setCell (by rfl) _).setCell (by rfl) _).setCell (by rfl) _).setCell (by rfl) _).setCell (by rfl) _).setCell (by rfl) _).setCell (by rfl) _).setCell (by rfl) _).setCell (by rfl) _).setCell (by rfl) _).setCell (by rfl) _).setCell (by rfl) _) (Stays.of_below (((Below.refl w.heap.size w).alloc (Nat.le_refl _) _).trans (hgrow.mono (by simp)))) (by omega)).below
  case rest =>
    obtain ⟨g, rfl, hg, hb, hzb, hbel⟩ := hcut
    have low : ∀ i, 0 < i → i < n → ∀ W', Below w.heap.size w W' → W'.cell? ⟨a.block, a.off + i, none⟩ = some (.int .u8 (bs.getD i 0)) := fun i h0 hi W' h => (h.cell (p := ⟨a.block, a.off + i, none⟩) ha).trans (cellp i h0 hi)
    have n12 : ¬ c = 12 := by omega
    have hwb := Lib.hid (word_bounds hz)
    clear x0 x1 x2 x3 x4 x5 x6 x7 x8 x9 x10 x11 y0 n6 q6 hat hat2 cells
    go_wp2_with fail
    refine (word_any ⟨a.block, a.off + 12, none⟩ (n - 12) (c - 12) _ _ _ (by omega) (by omega) (low 12 (by omega) (by omega) _ hbel) (low 13 (by omega) (by omega) _ hbel) (byte_at hz 12) (byte_at hz 13)).mono ?_
    rw [show bs.getD 12 0 * 256 + bs.getD 13 0 = wordAt bs 12 from rfl]
    rintro e w1 ⟨rfl, m1, rfl⟩
    go_upto_if 23 with fail
    go_cut [5] (fun v wx => ∃ vl o, v = .slice (some ⟨a.block, a.off + o, none⟩) (n - o) (c - o) ∧ (o = decOff bs ∧ vl = decVlan bs ∧ 12 ≤ o ∧ o ≤ 16 ∧ o + 2 ≤ n ∧ decErr bs = decEnd bs o) ∧ Box g 42 #[.int .u8 (bs.getD 0 0), .int .u8 (bs.getD 1 0), .int .u8 (bs.getD 2 0), .int .u8 (bs.getD 3 0), .int .u8 (bs.getD 4 0), .int .u8 (bs.getD 5 0), .int .u8 (bs.getD 6 0), .int .u8 (bs.getD 7 0), .int .u8 (bs.getD 8 0), .int .u8 (bs.getD 9 0), .int .u8 (bs.getD 10 0), .int .u8 (bs.getD 11 0), .int .i64 vl, .int .i64 0, .slice none 0 0] wx ∧ Box w.heap.size 42 #[.int .u8 0, .int .u8 0, .int .u8 0, .int .u8 0, .int .u8 0, .int .u8 0, .int .u8 0, .int .u8 0, .int .u8 0, .int .u8 0, .int .u8 0, .int .u8 0, .int .i64 0, .int .i64 0, .slice none 0 0] wx ∧ Below w.heap.size w wx)
    case first =>
      by_cases htag : wordAt bs 12 = 33024
      · have heq : (wordAt bs 12 == 33024) = true := by simpa using htag
        have hn18 : ¬ n < 18 := (hgood.out htag).1
        have hgd := (hgood.out htag).2
        have hVb := hwb.out 14
        have hand := and_low (wordAt bs 14) hVb.1 hVb.2
        have hV : decVlan bs = wordAt bs 14 % 4096 := by unfold decVlan; rw [if_pos htag]
        have hl1 : 0 ≤ wordAt bs 14 % 4096 ∧ wordAt bs 14 % 4096 ≤ 4095 := by omega
        generalize wordAt bs 14 % 4096 = vl at hand hV hl1 hgd
        have q2 : (2 : Int) ≤ (c - 12 : Nat) := by omega
        have n2 : ¬ c - 12 = 2 := by omega
        have q12 := hb.at_ 12
        have q12o := hb.open_ 12
        go_wp2_with fail
        refine (word_any _ _ _ (bs.getD 14 0) (bs.getD 15 0) _ (by omega) (by omega) (low 14 (by omega) (by omega) _ (by repeat (with_reducible first | exact Below.refl _ _ | assumption | refine Below.drew ?_ | refine below_drewN ?_ _ | refine Below.alloc ?_ (by simp) _ | refine Below.setCell ?_ (by first | (simp; done) | omega | (simp; omega)) _ | refine Below.alloc ?_ (by simp; omega) _))) (low 15 (by omega) (by omega) _ (by repeat (with_reducible first | exact Below.refl _ _ | assumption | refine Below.drew ?_ | refine below_drewN ?_ _ | refine Below.alloc ?_ (by simp) _ | refine Below.setCell ?_ (by first | (simp; done) | omega | (simp; omega)) _ | refine Below.alloc ?_ (by simp; omega) _))) (byte_at hz 14) (byte_at hz 15)).mono ?_
        rw [show bs.getD 14 0 * 256 + bs.getD 15 0 = wordAt bs 14 from rfl]
        rintro e w1 ⟨rfl, m2, rfl⟩
        have hbel2 : Below w.heap.size w (wc.drewN (m1 + m2)) := below_drewN hbel _
        have hne : w.heap.size ≠ g := by omega
        have hbv := (hb.drawnN (m1 + m2)).put 12 (.int .i64 vl)
        have hzv := (hzb.drawnN (m1 + m2)).aside (p := ⟨g, 12, none⟩) hne (.int .i64 vl)
        have hbel3 : Below w.heap.size w ((wc.drewN (m1 + m2)).setCell ⟨g, 12, none⟩ (.int .i64 vl)) := hbel2.setCell (by simp; omega) _
        have hv0 : ¬ vl = 0 := by omega
        have hv1 : ¬ 4094 < vl := by omega
        have hz0 : (vl == 0) = false := by simpa using hv0
        have hgt' : decide (vl > 4094) = false := by simpa using hv1
        have q4 : (4 : Int) ≤ (c - 12 : Nat) := by omega
        have n4 : ¬ c - 12 = 4 := by omega
        go_wp2
        go_meet
        refine ⟨vl, 16, ?_, ⟨?_, hV.symm, by omega, by omega, by omega, ?_⟩, hbv, hzv, hbel3⟩
        · first
            | rfl
            | (congr 1 <;> omega)
        · unfold decOff; rw [if_pos htag]
        · unfold decErr; rw [if_neg (by omega), if_pos htag, if_neg (by omega), if_neg (by rw [hV]; omega)]
      · have hne : (wordAt bs 12 == 33024) = false := by simpa using htag
        go_wp2
        go_meet
        refine ⟨0, 12, rfl, ⟨?_, ?_, by omega, by omega, by omega, ?_⟩, hb.drawnN _, hzb.drawnN _, below_drewN hbel _⟩
        · unfold decOff; rw [if_neg htag]
        · unfold decVlan; rw [if_neg htag]
        · unfold decErr; rw [if_neg (by omega), if_neg htag]
    case rest =>
      obtain ⟨vl, o, rfl, ⟨ho, hvl, o12, o16, on, herr0⟩, hb, hzb, hbel⟩ := hcut
      have HO := Lib.hid ho; clear ho
      have HV := Lib.hid hvl; clear hvl
      have HE := Lib.hid herr0; clear herr0
      have hne : w.heap.size ≠ g := by omega
      have q13 := hb.at_ 13
      have q13o := hb.open_ 13
      clear q12 n12 hwb
      go_wp2_with fail
      refine (word_any ⟨a.block, a.off + o, none⟩ (n - o) (c - o) (bs.getD o 0) (bs.getD (o + 1) 0) _ (by omega) (by omega) (low o (by omega) (by omega) _ (by repeat (with_reducible first | exact Below.refl _ _ | assumption | refine Below.drew ?_ | refine below_drewN ?_ _ | refine Below.alloc ?_ (by simp) _ | refine Below.setCell ?_ (by first | (simp; done) | omega | (simp; omega)) _ | refine Below.alloc ?_ (by simp; omega) _))) (low (o + 1) (by omega) (by omega) _ (by repeat (with_reducible first | exact Below.refl _ _ | assumption | refine Below.drew ?_ | refine below_drewN ?_ _ | refine Below.alloc ?_ (by simp) _ | refine Below.setCell ?_ (by first | (simp; done) | omega | (simp; omega)) _ | refine Below.alloc ?_ (by simp; omega) _))) (byte_at hz o) (byte_at hz (o + 1))).mono ?_
      rw [show bs.getD o 0 * 256 + bs.getD (o + 1) 0 = wordAt bs o from rfl]
      rintro e w1 ⟨rfl, m1, rfl⟩
      go_wp2_with fail
      refine (vtype_any (wordAt bs o) _).mono ?_
      rintro e w2 ⟨rfl, rfl⟩
      have hbv := (hb.drawnN m1).put 13 (.int .i64 (wordAt bs o))
      have hzv := (hzb.drawnN m1).aside (p := ⟨g, 13, none⟩) hne (.int .i64 (wordAt bs o))
      have hbel3 : Below w.heap.size w ((wc.drewN m1).setCell ⟨g, 13, none⟩ (.int .i64 (wordAt bs o))) := (below_drewN hbel m1).setCell (by simp; omega) _
      have hE : decEnd bs o = if typeOk (wordAt bs o) = false then 5 else if 1500 < bs.length - o - 2 then 3 else 0 := rfl
      have HW := Lib.hid (rfl : wordAt bs o = wordAt bs o)
      by_cases hok : typeOk (wordAt bs o) = false
      · have herr : decErr bs = 5 := by rw [HE.out, hE, if_pos hok]
        clear hE
        go_upto_region 14 with fail
        refine zero_region (k := .int .i64 5) hzv rfl (by decide) (by simp) fun W' z ho' => ?_
        simp only [Act.put, List.setIfInBounds_toArray, List.set_cons_succ, List.set_cons_zero]
        have z_0 := z.at_ 0; have z_1 := z.at_ 1; have z_2 := z.at_ 2; have z_3 := z.at_ 3; have z_4 := z.at_ 4; have z_5 := z.at_ 5; have z_6 := z.at_ 6; have z_7 := z.at_ 7; have z_8 := z.at_ 8; have z_9 := z.at_ 9; have z_10 := z.at_ 10; have z_11 := z.at_ 11; have z_12 := z.at_ 12; have z_13 := z.at_ 13; have z_14 := z.at_ 14
        go_wp2
        exact bodyPost_ret (v := .tuple #[.agg #[.int .u8 0, .int .u8 0, .int .u8 0, .int .u8 0, .int .u8 0, .int .u8 0, .int .u8 0, .int .u8 0, .int .u8 0, .int .u8 0, .int .u8 0, .int .u8 0, .int .i64 0, .int .i64 0, .slice none 0 0], .int .i64 5]) (by simp [results, Try.results30, go_sem, z_0, z_1, z_2, z_3, z_4, z_5, z_6, z_7, z_8, z_9, z_10, z_11, z_12, z_13, z_14]) rfl (dec_bad 5 herr (by decide) (only_below hbel3 ho' (Nat.le_refl _)))
      · have hok' : typeOk (wordAt bs o) = true := by simpa using hok
        by_cases hlong : 1500 < n - o - 2
        · have herr : decErr bs = 3 := by rw [HE.out, hE, if_neg hok, if_pos (by omega)]
          clear hE
          have hlen : decide ((((n - o : Nat) : Int) - 2) > 1500) = true := by simp; omega
          go_upto_region 16 with fail
          refine zero_region (k := .int .i64 3) hzv rfl (by decide) (by simp) fun W' z ho' => ?_
          simp only [Act.put, List.setIfInBounds_toArray, List.set_cons_succ, List.set_cons_zero]
          have z_0 := z.at_ 0; have z_1 := z.at_ 1; have z_2 := z.at_ 2; have z_3 := z.at_ 3; have z_4 := z.at_ 4; have z_5 := z.at_ 5; have z_6 := z.at_ 6; have z_7 := z.at_ 7; have z_8 := z.at_ 8; have z_9 := z.at_ 9; have z_10 := z.at_ 10; have z_11 := z.at_ 11; have z_12 := z.at_ 12; have z_13 := z.at_ 13; have z_14 := z.at_ 14
          go_wp2
          exact bodyPost_ret (v := .tuple #[.agg #[.int .u8 0, .int .u8 0, .int .u8 0, .int .u8 0, .int .u8 0, .int .u8 0, .int .u8 0, .int .u8 0, .int .u8 0, .int .u8 0, .int .u8 0, .int .u8 0, .int .i64 0, .int .i64 0, .slice none 0 0], .int .i64 3]) (by simp [results, Try.results30, go_sem, z_0, z_1, z_2, z_3, z_4, z_5, z_6, z_7, z_8, z_9, z_10, z_11, z_12, z_13, z_14]) rfl (dec_bad 3 herr (by decide) (only_below hbel3 ho' (Nat.le_refl _)))
        · have herr : decErr bs = 0 := by rw [HE.out, hE, if_neg hok, if_neg (by omega)]
          clear hE
          have hlen : decide ((((n - o : Nat) : Int) - 2) > 1500) = false := by simp; omega
          have q2 : (2 : Int) ≤ (c - o : Nat) := by omega
          by_cases hc2 : c - o = 2
          · go_wp2_with fail
            refine (clone_any (B := w.heap.size) _ (n - o - 2) _ (bs.drop (o + 2)) _ (by simp; omega) (by omega) (by rw [show bs.drop (o + 2) = [] from List.drop_eq_nil_of_le (by omega)]; exact Lies.nothing)).mono ?_
            rintro e w4 ⟨v, rfl, hown, hb4⟩
            have hbv4 := hbv.under hb4 hbv.inside
            have hzv4 := hzv.under hb4 hzv.inside
            obtain ⟨A', c', rfl, -, -, -, -⟩ := own_open hown
            have q14 := hbv4.at_ 14
            have q14o := hbv4.open_ 14
            have hap := own_apart hown hbv4 (by decide)
            have ho5 : OnlyBlock g w4 (w4.setCell ⟨g, 14, none⟩ (.slice A' (n - o - 2) c')) := (OnlyBlock.refl _ _).setCell (by rfl) _
            have hown5 := own_only hown ho5 hap
            have hb5 := hbv4.put 14 (.slice A' (n - o - 2) c')
            have hz5 := hzv4.aside (p := ⟨g, 14, none⟩) hne (.slice A' (n - o - 2) c')
            have hbel5 : Below w.heap.size w (w4.setCell ⟨g, 14, none⟩ (.slice A' (n - o - 2) c')) := (hbel3.trans (hb4.mono hbel3.size)).setCell (by simp; omega) _
            have hlen' : (bs.drop (o + 2)).length = n - o - 2 := by simp; omega
            go_upto_region 18 with fail
            refine copy_region (k := .int .i64 0) (Z := w.heap.size) (g := g) hb5 hz5 rfl rfl (by decide) (by simp) fun W' z ho' => ?_
            simp only [Act.put, List.setIfInBounds_toArray, List.set_cons_succ, List.set_cons_zero]
            have hown6 := own_only hown5 ho' (own_apart hown5 hz5 (by decide))
            have z_0 := z.at_ 0; have z_1 := z.at_ 1; have z_2 := z.at_ 2; have z_3 := z.at_ 3; have z_4 := z.at_ 4; have z_5 := z.at_ 5; have z_6 := z.at_ 6; have z_7 := z.at_ 7; have z_8 := z.at_ 8; have z_9 := z.at_ 9; have z_10 := z.at_ 10; have z_11 := z.at_ 11; have z_12 := z.at_ 12; have z_13 := z.at_ 13; have z_14 := z.at_ 14
            go_wp2
            refine bodyPost_ret (v := .tuple #[.agg #[.int .u8 (bs.getD 0 0), .int .u8 (bs.getD 1 0), .int .u8 (bs.getD 2 0), .int .u8 (bs.getD 3 0), .int .u8 (bs.getD 4 0), .int .u8 (bs.getD 5 0), .int .u8 (bs.getD 6 0), .int .u8 (bs.getD 7 0), .int .u8 (bs.getD 8 0), .int .u8 (bs.getD 9 0), .int .u8 (bs.getD 10 0), .int .u8 (bs.getD 11 0), .int .i64 vl, .int .i64 (wordAt bs o), .slice A' (n - o - 2) c'], .int .i64 0]) (by simp [results, Try.results30, go_sem, z_0, z_1, z_2, z_3, z_4, z_5, z_6, z_7, z_8, z_9, z_10, z_11, z_12, z_13, z_14]) rfl ?_
            exact dec_good HO.out HV.out herr (only_below hbel5 ho' (Nat.le_refl _)) (by rw [hlen']; exact own_less hown6 hbel3.size)
          · go_wp2_with fail
            refine (clone_any (B := w.heap.size) _ (n - o - 2) _ (bs.drop (o + 2)) _ (by simp; omega) (by omega) (by have h := lies_tail (off := a.off) (W := (wc.drewN m1).setCell ⟨g, 13, none⟩ (.int .i64 (wordAt bs o))) (o + 2) ha (fun k h1 h2 => low k (by omega) (by omega) _ hbel3); rwa [← Nat.add_assoc] at h)).mono ?_
            rintro e w4 ⟨v, rfl, hown, hb4⟩
            have hbv4 := hbv.under hb4 hbv.inside
            have hzv4 := hzv.under hb4 hzv.inside
            obtain ⟨A', c', rfl, -, -, -, -⟩ := own_open hown
            have q14 := hbv4.at_ 14
            have q14o := hbv4.open_ 14
            have hap := own_apart hown hbv4 (by decide)
            have ho5 : OnlyBlock g w4 (w4.setCell ⟨g, 14, none⟩ (.slice A' (n - o - 2) c')) := (OnlyBlock.refl _ _).setCell (by rfl) _
            have hown5 := own_only hown ho5 hap
            have hb5 := hbv4.put 14 (.slice A' (n - o - 2) c')
            have hz5 := hzv4.aside (p := ⟨g, 14, none⟩) hne (.slice A' (n - o - 2) c')
            have hbel5 : Below w.heap.size w (w4.setCell ⟨g, 14, none⟩ (.slice A' (n - o - 2) c')) := (hbel3.trans (hb4.mono hbel3.size)).setCell (by simp; omega) _
            have hlen' : (bs.drop (o + 2)).length = n - o - 2 := by simp; omega
            go_upto_region 18 with fail
            refine copy_region (k := .int .i64 0) (Z := w.heap.size) (g := g) hb5 hz5 rfl rfl (by decide) (by simp) fun W' z ho' => ?_
            simp only [Act.put, List.setIfInBounds_toArray, List.set_cons_succ, List.set_cons_zero]
            have hown6 := own_only hown5 ho' (own_apart hown5 hz5 (by decide))
            have z_0 := z.at_ 0; have z_1 := z.at_ 1; have z_2 := z.at_ 2; have z_3 := z.at_ 3; have z_4 := z.at_ 4; have z_5 := z.at_ 5; have z_6 := z.at_ 6; have z_7 := z.at_ 7; have z_8 := z.at_ 8; have z_9 := z.at_ 9; have z_10 := z.at_ 10; have z_11 := z.at_ 11; have z_12 := z.at_ 12; have z_13 := z.at_ 13; have z_14 := z.at_ 14
            go_wp2
            refine bodyPost_ret (v := .tuple #[.agg #[.int .u8 (bs.getD 0 0), .int .u8 (bs.getD 1 0), .int .u8 (bs.getD 2 0), .int .u8 (bs.getD 3 0), .int .u8 (bs.getD 4 0), .int .u8 (bs.getD 5 0), .int .u8 (bs.getD 6 0), .int .u8 (bs.getD 7 0), .int .u8 (bs.getD 8 0), .int .u8 (bs.getD 9 0), .int .u8 (bs.getD 10 0), .int .u8 (bs.getD 11 0), .int .i64 vl, .int .i64 (wordAt bs o), .slice A' (n - o - 2) c'], .int .i64 0]) (by simp [results, Try.results30, go_sem, z_0, z_1, z_2, z_3, z_4, z_5, z_6, z_7, z_8, z_9, z_10, z_11, z_12, z_13, z_14]) rfl ?_
            exact dec_good HO.out HV.out herr (only_below hbel5 ho' (Nat.le_refl _)) (by rw [hlen']; exact own_less hown6 hbel3.size)
set_option maxHeartbeats 400000 in
theorem decode_any (A : Option Addr) (n c : Nat) (bs : List Int) (w : World) (hl : bs.length = n) (hz : ∀ z ∈ bs, 0 ≤ z ∧ z < 256) (hnb : n ≤ 1000000) (hnc : n ≤ c) (hcm : c ≤ 9223372036854775807) (hlies : Lies w.heap.size A (bs.map (Value.int .u8)) w) :
    Calls Try.prog 30 #[.slice A n c] w (DecPost bs w) := by
  by_cases h14 : n < 14
  · have hk : decErr bs = 4 := by unfold decErr; rw [if_pos (by omega)]
    have post := fun w' hb => Lib.hid (@dec_bad bs w w' 4 hk (by decide) hb)
    generalize DecPost bs w = R at post
    go_enter Try.func30, Try.ntmps30
    go_wp2
    exact bodyPost_ret (v := .tuple #[.agg #[.int .u8 0, .int .u8 0, .int .u8 0, .int .u8 0, .int .u8 0, .int .u8 0, .int .u8 0, .int .u8 0, .int .u8 0, .int .u8 0, .int .u8 0, .int .u8 0, .int .i64 0, .int .i64 0, .slice none 0 0], .int .i64 4]) (by simp [results, Try.results30, go_sem]) rfl (post _ (by repeat (with_reducible first | exact Below.refl _ _ | assumption | refine Below.drew ?_ | refine below_drewN ?_ _ | refine Below.alloc ?_ (by simp) _ | refine Below.setCell ?_ (by first | (simp; done) | omega | (simp; omega)) _ | refine Below.alloc ?_ (by simp; omega) _))).out
  · have hn : 14 ≤ n := by omega
    clear h14
    obtain ⟨a, rfl, -, -⟩ := hlies.int (k := 0) (by omega)
    by_cases htag : wordAt bs 12 = 33024
    · by_cases hbad : n < 18 ∨ wordAt bs 14 % 4096 = 0 ∨ 4094 < wordAt bs 14 % 4096
      · exact decode_bad a n c bs w hl hz hnb hnc hcm hlies hn htag hbad
      · exact decode_good a n c bs w hl hz hnb hnc hcm hlies hn fun _ => by omega
    · exact decode_good a n c bs w hl hz hnb hnc hcm hlies hn fun h => absurd h htag
end Go.Proofs.Ytklolalgbcgdiaa
