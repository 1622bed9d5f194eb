/-
  Layer 12 (meter): each function's contract, and what a run grants as plain mathematics.
-/
import Derived.Test.YtmdfajpbgfdbbaaRows
import Derived.Test.YtmdfajpbgfdbbaaMem
import Derived.ProofKit
import Derived.Deep.DeepCutAuto
namespace Go.Proofs.Ytmdfajpbgfdbbaa
open Go.RowKit

theorem tmod_mod (v n : Int) (h : 0 < n) : v.tmod n % n = v % n := by
  rw [Int.tmod_eq_emod]
  split
  · simp
  · rw [show (n.natAbs : Int) = n by omega]; simp
theorem tmod_neg (v n : Int) (h : 0 < n) (hr : v.tmod n < 0) : v.tmod n + n = v % n := by
  have h3 := Int.lt_tmod_of_pos v h
  rw [← tmod_mod v n h, ← Int.add_emod_right, Int.emod_eq_of_lt] <;> omega
theorem tmod_pos (v n : Int) (h : 0 < n) (hr : 0 ≤ v.tmod n) : v.tmod n = v % n := by
  have h3 := Int.tmod_lt_of_pos v h
  rw [← tmod_mod v n h, Int.emod_eq_of_lt] <;> omega
set_option maxHeartbeats 400000 in
theorem mod_any (v n : Int) (w : World) (h0 : 0 < n) (h1 : n ≤ 9223372036854775807) :
    Calls Try.prog 7 #[.int .i64 v, .int .i64 n] w fun e w' => e = .returned (.int .i64 (v % n)) ∧ w = w' := by
  have hlo : -n < v.tmod n := Int.lt_tmod_of_pos v h0
  have hhi := Int.tmod_lt_of_pos v h0
  by_cases hr : v.tmod n < 0
  · have h2 := Lib.hid (tmod_neg v n h0 hr)
    have hd : IntKind.i64.wrap (v.tmod n + n) = v.tmod n + n := IntWalk.i64_in _ (by omega)
    go_enter Try.func7, Try.ntmps7
    go_wp2
    go_ret
    exact ⟨ret_int h2.out, rfl⟩
  · have h2 := Lib.hid (tmod_pos v n h0 (by omega))
    have hr' : 0 ≤ v.tmod n := by omega
    clear hr
    go_enter Try.func7, Try.ntmps7
    go_wp2
    go_ret
    exact ⟨ret_int h2.out, rfl⟩
set_option maxHeartbeats 400000 in
theorem new_any (r b : Int) (w : World) :
    Calls Try.prog 9 #[.int .i64 r, .int .i64 b] w fun e w' => e = .returned (.agg #[.int .i64 b, .int .i64 r, .int .i64 b]) ∧ Below w.heap.size w w' := by
  go_enter Try.func9, Try.ntmps9
  go_wp2
  exact bodyPost_ret (v := .agg #[.int .i64 b, .int .i64 r, .int .i64 b]) (by simp [results, Try.results9, go_sem]) rfl ⟨rfl, (Below.refl _ _).alloc (Nat.le_refl _) _⟩
set_option maxHeartbeats 400000 in
theorem tick_any (l r b : Int) (w : World) (h0 : 0 ≤ l) (h1 : l ≤ b) (h2 : 0 ≤ r) (h3 : r ≤ b) (h4 : b ≤ 1048576) :
    Calls Try.prog 11 #[.agg #[.int .i64 l, .int .i64 r, .int .i64 b]] w fun e w' => e = .returned (.agg #[.int .i64 (min (l + r) b), .int .i64 r, .int .i64 b]) ∧ Below w.heap.size w w' := by
  by_cases hm : l + r ≤ b
  · have e := Lib.hid (show min (l + r) b = l + r by omega)
    go_enter Try.func11, Try.ntmps11
    go_wp2
    all_goals refine bodyPost_ret (v := .agg #[.int .i64 (min (l + r) b), .int .i64 r, .int .i64 b]) (by simp [results, Try.results11, go_sem]; omega) rfl ⟨rfl, ?_⟩
    all_goals exact ((Below.refl _ _).alloc (Nat.le_refl _) _).alloc (by simp) _
  · have e := Lib.hid (show min (l + r) b = b by omega)
    go_enter Try.func11, Try.ntmps11
    go_wp2
    all_goals refine bodyPost_ret (v := .agg #[.int .i64 (min (l + r) b), .int .i64 r, .int .i64 b]) (by simp [results, Try.results11, go_sem]; omega) rfl ⟨rfl, ?_⟩
    all_goals exact ((Below.refl _ _).alloc (Nat.le_refl _) _).alloc (by simp) _
set_option maxHeartbeats 400000 in
theorem valid_any (l r b : Int) (w : World) (h0 : 0 ≤ l) (h1 : l ≤ b) (h2 : 0 ≤ r) (h3 : r ≤ b) (h4 : b ≤ 1048576) :
    Calls Try.prog 10 #[.agg #[.int .i64 l, .int .i64 r, .int .i64 b]] w fun e w' => e = .returned (.bool true) ∧ Below w.heap.size w w' := by
  have h5 : 0 ≤ b := by omega
  go_enter Try.func10, Try.ntmps10
  go_wp2
  go_ret
  exact ⟨rfl, (Below.refl _ _).alloc (Nat.le_refl _) _⟩
def g (n L : Int) : Int := min (max n 0) (max L 0)
def step (R B L n : Int) : Int := min (L - g n L + R) B
def lvl (R B L : Int) (ns : List Int) : Int := ns.foldl (step R B) L
def gr (R B : Int) : Int → List Int → List Int
  | _, [] => []
  | L, n :: ns => g n L :: gr R B (step R B L n) ns
theorem g_bd (n L : Int) (h : 0 ≤ L) : 0 ≤ g n L ∧ g n L ≤ L := by unfold g; omega
theorem step_bd (R B L n : Int) (hR : 0 ≤ R) (h : 0 ≤ L) (h1 : L ≤ B) : 0 ≤ step R B L n ∧ step R B L n ≤ B := by
  have := g_bd n L h; unfold step; omega
theorem lvl_bd (R B : Int) (hR : 0 ≤ R) (ns : List Int) : ∀ L, 0 ≤ L → L ≤ B → 0 ≤ lvl R B L ns ∧ lvl R B L ns ≤ B := by
  induction ns with
  | nil => intro L h h1; exact ⟨h, h1⟩
  | cons n ns ih => intro L h h1; have := step_bd R B L n hR h h1; exact ih _ this.1 this.2
theorem lvl_snoc (R B L : Int) (ns : List Int) (n : Int) : lvl R B L (ns ++ [n]) = step R B (lvl R B L ns) n := by simp [lvl]
theorem gr_snoc (R B : Int) (ns : List Int) (n : Int) : ∀ L, gr R B L (ns ++ [n]) = gr R B L ns ++ [g n (lvl R B L ns)] := by
  induction ns with
  | nil => intro L; rfl
  | cons m ns ih => intro L; simp [gr, ih, lvl]
theorem gr_len (R B : Int) (ns : List Int) : ∀ L, (gr R B L ns).length = ns.length := by
  induction ns with
  | nil => intro L; rfl
  | cons m ns ih => intro L; simp [gr, ih]

theorem Try.info3 : (Try.prog.info? 3).map (fun i => (i.zero, i.size, i.bytes)) = some (some (.int .i64 0), 1, 8) := by kernel_rfl

theorem take_snoc (zs : List Int) (k : Nat) (hk : k < zs.length) : zs.take (k + 1) = zs.take k ++ [zs.getD k 0] := by
  rw [List.take_add_one, List.getElem?_eq_getElem hk, List.getD_eq_getElem?_getD, List.getElem?_eq_getElem hk]; rfl

theorem map_getD (zs : List Int) (k : Nat) (v : Value) (h : (zs.map (Value.int .i64))[k]? = some v) : v = .int .i64 (zs.getD k 0) := by
  rw [List.getElem?_map] at h
  rw [List.getD_eq_getElem?_getD]
  cases hz : zs[k]? with
  | none => simp [hz] at h
  | some z => simp [hz] at h; simp [h]

/-- What one round makes of the relation. -/
theorem run_rel {L R B x y : Int} {k : Nat} {zs : List Int} {w wr w1 : World} {u6 v' : Value} {o : Obj} (hx : zs.getD k 0 = x) (hk : k < zs.length)
    (hy : lvl R B L (zs.take k) = y)
    (hown : wr.ownsRow (w.heap.size + 2) 3 1 u6 k ((gr R B L (zs.take k)).map (Value.int .i64)))
    (hb1 : Box w.heap.size 26 #[.int .i64 y, .int .i64 R, .int .i64 B] wr)
    (hb2 : Box (w.heap.size + 1) 26 #[.int .i64 0, .int .i64 0, .int .i64 0] wr) (hbel : Below w.heap.size w wr)
    (hown' : w1.ownsRow (w.heap.size + 2) 3 1 v' (k + 1) ((gr R B L (zs.take k)).map (Value.int .i64) ++ [.int .i64 (g x y)])) (hgrow : (wr.alloc o).grownBy w1 u6.ownBlock) :
    Box w.heap.size 26 #[.int .i64 y, .int .i64 R, .int .i64 B] w1 ∧ Box (w.heap.size + 1) 26 #[.int .i64 0, .int .i64 0, .int .i64 0] w1 ∧ Below w.heap.size w w1 ∧
    w1.ownsRow (w.heap.size + 2) 3 1 v' (k + 1) ((gr R B L (zs.take (k + 1))).map (Value.int .i64)) ∧ lvl R B L (zs.take (k + 1)) = step R B y x := by
  have hne : ∀ j, j < w.heap.size + 2 → some j ≠ u6.ownBlock := fun j hj h => by have := hown.lt j h.symm; omega
  refine ⟨(hb1.past o).grow hgrow (hne _ (by omega)), (hb2.past o).grow hgrow (hne _ (by omega)), (hbel.alloc hbel.size o).grown hgrow (by have := hbel.size; simp; omega) (fun j hj => by have := (hown.lt j hj).1; omega), ?_, ?_⟩
  · rw [take_snoc zs k hk, gr_snoc, hy, hx]; simpa using hown'
  · rw [take_snoc zs k hk, lvl_snoc, hy, hx]

theorem run_rel2 {n : Nat} {w w1 w2 : World} {v' : Value} {xs : List Value} {cs : Array Value} {u : Value} 
    (hsz : w.heap.size + 2 ≤ w1.heap.size)
    (hown : w1.ownsRow (w.heap.size + 2) 3 1 v' n xs)
    (hb1 : Box w.heap.size 26 cs w1)
    (hb2 : Box (w.heap.size + 1) 26 #[.int .i64 0, .int .i64 0, .int .i64 0] w1) (hbel : Below w.heap.size w w1) (hb : Below w1.heap.size (w1.setCell ⟨w.heap.size, 0, none⟩ u) w2) :
    Box w.heap.size 26 (cs.setIfInBounds 0 u) w2 ∧ Box (w.heap.size + 1) 26 #[.int .i64 0, .int .i64 0, .int .i64 0] w2 ∧ Below w.heap.size w w2 ∧
    w2.ownsRow (w.heap.size + 2) 3 1 v' n xs := by
  have hs : (w1.setCell ⟨w.heap.size, 0, none⟩ u).heap.size = w1.heap.size := by simp [World.setCell]
  refine ⟨(hb1.put 0 u).under hb (by omega), (hb2.aside (by simp) u).under hb (by omega), (hbel.setCell (p := ⟨w.heap.size, 0, none⟩) (Nat.le_refl _) u).trans (hb.mono (by omega)), ?_⟩
  have h1 := ownsRow_setCell_below hown (a := ⟨w.heap.size, 0, none⟩) (by show w.heap.size < w.heap.size + 2; omega) u
  exact h1.kept (row := none) ⟨hb.os, hb.tape, hb.output, hb.size, fun i hi _ => hb.block i (by rw [hs] at hi; exact hi)⟩ (by cases h : v'.ownBlock <;> simp)

set_option maxHeartbeats 1000000 in
theorem run_any (L R B : Int) (A : Option Addr) (n c : Nat) (zs : List Int) (w : World) (h0 : 0 ≤ L) (h1 : L ≤ B) (h2 : 0 ≤ R) (h3 : R ≤ B) (h4 : B ≤ 1048576) (hn : n ≤ 1000000) (hz : zs.length = n)
    (hA : Lies w.heap.size A (zs.map (Value.int .i64)) w) :
    Calls Try.prog 8 #[.agg #[.int .i64 L, .int .i64 R, .int .i64 B], .slice A n c] w fun e w' => ∃ v, e = .returned (.tuple #[.agg #[.int .i64 (lvl R B L zs), .int .i64 R, .int .i64 B], v]) ∧
      w'.ownsRow (w.heap.size + 2) 3 1 v n ((gr R B L zs).map (Value.int .i64)) ∧ Below w.heap.size w w' := by
  obtain ⟨i0, hi, hz0, hz1, hz2⟩ := info_parts Try.info3
  go_enter Try.func8, Try.ntmps8
  go_wp2

  go_loopw [6, 12] (fun v i wr => ∃ k : Nat, k ≤ n ∧ i = .int .i64 k ∧ wr.ownsRow (w.heap.size + 2) 3 1 v k ((gr R B L (zs.take k)).map (Value.int .i64)) ∧
     Box w.heap.size 26 #[.int .i64 (lvl R B L (zs.take k)), .int .i64 R, .int .i64 B] wr ∧ 
     Box (w.heap.size + 1) 26 #[.int .i64 0, .int .i64 0, .int .i64 0] wr ∧ Below w.heap.size w wr)
    (fun _ i _ => n - (intOf i).toNat)
  case atStart =>
    refine ⟨0, Nat.zero_le _, rfl, World.ownsRow_nil _ _ _ _, (Box.made w 26 _).past _, ?_, ((Below.refl _ _).alloc (Nat.le_refl _) _).alloc (by simp) _⟩
    have h := Box.made (w.alloc (.cells #[.int .i64 L, .int .i64 R, .int .i64 B] 26)) 26 #[.int .i64 0, .int .i64 0, .int .i64 0]
    simpa using h
  case round =>
    obtain ⟨k, hk, rfl, hown, hb1, hb2, hbel⟩ := hrel
    by_cases hlt : k < n
    · have hyb := lvl_bd R B h2 (zs.take k) L h0 h1
      generalize hy : lvl R B L (zs.take k) = y at hb1 hyb
      have Hy := Lib.hid hy; clear hy
      obtain ⟨hy0, hyB⟩ := hyb
      obtain ⟨a, v0, rfl, ha, hx0, hc⟩ := hA k (by simp; omega)
      obtain rfl := map_getD zs k v0 hx0
      clear hx0
      generalize hx : zs.getD k 0 = x at hc
      have Hx := Lib.hid hx; clear hx
      have hcx : wr.cell? (a.add k) = some (.int .i64 x) := (hbel.cell (by rw [block_add]; exact ha)).trans hc
      have hcases : (x ≤ 0 ∧ g x y = 0) ∨ (0 < x ∧ x ≤ y ∧ g x y = x) ∨ (0 < x ∧ y < x ∧ g x y = y) := by unfold g; omega
      have hgb := g_bd x y hy0
      have c0 : wr.cell? ⟨w.heap.size, 0, none⟩ = some (.int .i64 y) := hb1.at_ 0
      go_upto_region 5 with fail
      go_cut [9] (fun v wx => v = .int .i64 (g x y) ∧ wx = wr)
      case first =>
        rcases hcases with ⟨h5, hg⟩ | ⟨h5, h6, hg⟩ | ⟨h5, h6, hg⟩
        all_goals
          have Hg := Lib.hid hg; clear hg
          go_wp2
          all_goals
            go_meet
            exact ⟨congrArg (Value.int .i64) (by have := Hg.out; omega), rfl⟩
      case rest =>
        obtain ⟨rfl, rfl⟩ := hcut
        clear hcases
        go_wp2_with (at_builtin; refine wpList_append_own _ rfl _ _ 22 rfl (w.heap.size + 2) 3 i0 (.int .i64 0) 1 8 Try.underlying22 hi hz0 hz1 hz2 rfl (by decide) _ _ _ rfl (hown.alloc _) ⟨wc.heap.size, 0, none⟩ 1 1 [.int .i64 (g x y)] rfl rfl ?c1 ?c2 ?c3 ?c4 ?c5 ?_)
        case c1 =>
          intro j u hj
          match j, hj with
          | 0, hj => simp at hj; subst hj; simp [Addr.add]
        case c2 => intro u hu; simp at hu; subst hu; rfl
        case c3 => unfold maxLen; omega
        case c4 => omega
        case c5 => have := hbel.size; have := hb2.inside; simp; omega
        · intro v' w1 hown' hgrow _
          have hsz : w.heap.size + 2 ≤ w1.heap.size := by have := hb2.inside; have := hgrow.size; simp at this; omega
          obtain ⟨d1, d2, d3, d4, d5⟩ := run_rel Hx.out (by omega) Hy.out hown hb1 hb2 hbel hown' hgrow
          clear hown' hgrow hown hb1 hb2 hbel hcx hc c0 hA
          have D5 := Lib.hid d5; clear d5
          have e0 := d1.at_ 0
          have e1 := d1.at_ 1
          have e2 := d1.at_ 2
          have e3 := d1.open_ 0
          generalize hgg : g x y = gg at hgb
          have Hgg := Lib.hid hgg; clear hgg
          obtain ⟨hg0, hg1⟩ := hgb
          go_wp2_with fail
          refine (tick_any _ _ _ _ (by omega) (by omega) (by omega) (by omega) (by omega)).mono ?_
          rintro e w2 ⟨rfl, hb⟩
          obtain ⟨f1, f2, f3, f4⟩ := run_rel2 hsz d4 d1 d2 d3 (by simpa [World.setCell] using hb)
          clear hb d1 d2 d3 d4 e0 e1 e2 e3
          have e0 := f1.at_ 0
          have e1 := f1.at_ 1
          have e2 := f1.at_ 2
          have e3 := f1.open_ 0
          have e4 := f1.open_ 1
          have e5 := f1.open_ 2
          go_wp2
          go_roundw
          case rel => 
            have own3 := fun (i : Nat) (u : Value) (W : World) (h : W.ownsRow (w.heap.size + 2) 3 1 v' (k + 1) ((gr R B L (zs.take (k + 1))).map (Value.int .i64))) => ownsRow_setCell_below h (a := ⟨w.heap.size, i, none⟩) (by show w.heap.size < w.heap.size + 2; omega) u
            refine ⟨k + 1, by omega, by go_num, own3 _ _ _ (own3 _ _ _ (own3 _ _ _ f4)), ?_, ((f2.aside (by simp) _).aside (by simp) _).aside (by simp) _, ((f3.setCell (p := ⟨_, 0, none⟩) (Nat.le_refl _) _).setCell (p := ⟨_, 1, none⟩) (Nat.le_refl _) _).setCell (p := ⟨_, 2, none⟩) (Nat.le_refl _) _⟩
            have hl : lvl R B L (zs.take (k + 1)) = min (y - gg + R) B := by rw [D5.out]; unfold step; rw [Hgg.out]
            rw [hl]
            exact ((f1.put 0 _).put 1 _).put 2 _
          case measure => simp [intOf]; omega
    · have hkn : k = n := by omega
      subst hkn
      have e0 := hb1.at_ 0
      have e1 := hb1.at_ 1
      have e2 := hb1.at_ 2
      have f0 := hb2.at_ 0
      have f1 := hb2.at_ 1
      have f2 := hb2.at_ 2
      have f3 := hb2.open_ 0
      have f4 := hb2.open_ 1
      have f5 := hb2.open_ 2
      go_wp2
      have htk : zs.take k = zs := List.take_of_length_le (by omega)
      rw [htk] at hown
      have own3 := fun (i : Nat) (u : Value) (W : World) (h : W.ownsRow (w.heap.size + 2) 3 1 u6 k ((gr R B L zs).map (Value.int .i64))) => ownsRow_setCell_below h (a := ⟨w.heap.size + 1, i, none⟩) (by show w.heap.size + 1 < w.heap.size + 2; omega) u
      refine bodyPost_ret (v := .tuple #[.agg #[.int .i64 (lvl R B L zs), .int .i64 R, .int .i64 B], u6]) ?_ rfl ⟨_, rfl, own3 _ _ _ (own3 _ _ _ (own3 _ _ _ hown)), ((hbel.setCell (p := ⟨_, 0, none⟩) (by simp) _).setCell (p := ⟨_, 1, none⟩) (by simp) _).setCell (p := ⟨_, 2, none⟩) (by simp) _⟩
      simp [results, Try.results8, go_sem, htk, f0, f1, f2]

/-- What a call owns: its cells, laid open. -/
theorem own_cells {w : World} {base n : Nat} {v : Value} {xs : List Value} (h : w.ownsRow base 3 1 v n xs) (hn : 0 < n) : ∃ g cap, v = .slice (some ⟨g, 0, none⟩) n cap ∧ base ≤ g ∧ g < w.heap.size ∧ ∀ j u, xs[j]? = some u → w.cell? ⟨g, j, none⟩ = some u := by
  obtain ⟨g, cap, rfl, h1, h2⟩ := h.form hn
  refine ⟨g, cap, rfl, h1, h2, fun j u hu => ?_⟩
  have h3 := h.cells (g := g) rfl j u hu
  rcases Nat.eq_zero_or_pos j with e | e
  · subst e; simpa [Addr.add] using h3
  · simpa [Addr.add, show j ≠ 0 by omega] using h3

set_option maxHeartbeats 1000000 in
theorem awake_any (w : World) : Calls Try.prog 6 #[] w fun e w' => e = .returned (.bool true) ∧ Below w.heap.size w w' := by
  go_enter Try.func6, Try.ntmps6
  go_wp2_with fail
  refine (new_any _ _ _).mono ?_
  rintro e w1 ⟨rfl, hb⟩
  go_wp2_with fail
  refine (run_any 2 1 2 _ 3 _ [5, 5, 5] _ (by omega) (by omega) (by omega) (by omega) (by omega) (by omega) rfl ?_).mono ?_
  · intro k hk
    match k, hk with
    | 0, _ => exact ⟨_, .int .i64 5, rfl, by simp, rfl, by simp [Addr.add]⟩
    | 1, _ => exact ⟨_, .int .i64 5, rfl, by simp, rfl, by simp [Addr.add]⟩
    | 2, _ => exact ⟨_, .int .i64 5, rfl, by simp, rfl, by simp [Addr.add]⟩
  rintro e w2 ⟨v, rfl, hown, hb2⟩
  obtain ⟨g0, cap, rfl, hg1, hg2, hc⟩ := own_cells hown (by omega)
  have e0 := hc 0 (.int .i64 2) rfl
  have e1 := hc 1 (.int .i64 1) rfl
  have e2 := hc 2 (.int .i64 1) rfl
  clear hc hown
  go_wp2
  go_ret
  refine ⟨rfl, ((hb.trans (((Below.refl _ _).alloc (Nat.le_refl _) _).mono hb.size)).trans (hb2.mono (by have := hb.size; simp; omega))).alloc (by have := hb.size; have := hb2.size; simp at this; omega) _⟩
end Go.Proofs.Ytmdfajpbgfdbbaa
