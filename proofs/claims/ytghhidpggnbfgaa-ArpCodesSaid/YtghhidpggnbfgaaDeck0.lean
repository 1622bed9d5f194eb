/-
  A deck of numbers that are taken one after the other: New, Next.
-/
import Derived.Test.YtghhidpggnbfgaaUse
import Derived.Test.YtghhidpggnbfgaaMod
import Derived.Test.YtghhidpggnbfgaaOpen
import Derived.Test.YtghhidpggnbfgaaPush
import Derived.BigQuiet
import Derived.Deep.DeepCutAuto
namespace Go.Proofs.Ytghhidpggnbfgaa
open Go.RowKit

/-- Block D is a deck whose numbers lie in older blocks. -/
def Deck (D : Nat) (A : Option Addr) (n c : Nat) (zs : List Int) (w : World) : Prop :=
  ∃ k : Nat, k ≤ n ∧ zs.length = n ∧ n ≤ 9223372036854775807 ∧ Box D 54 #[.slice A n c, .int .i64 k] w ∧ Lies D A (zs.map (Value.int .i64)) w

theorem Deck.inside {D : Nat} {A : Option Addr} {n c : Nat} {zs : List Int} {w : World} (h : Deck D A n c zs w) : D < w.heap.size := by
  obtain ⟨k, _, _, _, hb, _⟩ := h; exact hb.inside
theorem Deck.stays {D : Nat} {A : Option Addr} {n c : Nat} {zs : List Int} {w w' : World} (h : Deck D A n c zs w) (hs : Below w.heap.size w w') : Deck D A n c zs w' := by
  obtain ⟨k, h1, h2, h3, hb, hl⟩ := h
  exact ⟨k, h1, h2, h3, hb.under hs hb.inside, hl.same fun p hp => hs.cell (by have := hb.inside; omega)⟩

set_option maxHeartbeats 400000 in
theorem new_any (A : Option Addr) (n c : Nat) (zs : List Int) (w : World) (h : zs.length = n) (hn : n ≤ 9223372036854775807) (hl : Lies w.heap.size A (zs.map (Value.int .i64)) w) :
    Calls Try.prog 9 #[.slice A n c] w fun e w' => ∃ D, e = .returned (.pointer (some ⟨D, 0, none⟩)) ∧ w.heap.size ≤ D ∧ Deck D A n c zs w' ∧ Below w.heap.size w w' := by
  go_enter Try.func9, Try.ntmps9
  go_wp2
  go_ret
  refine ⟨w.heap.size, rfl, Nat.le_refl _, ⟨0, Nat.zero_le _, h, hn, Box.made _ _ _, hl.alloc (Nat.le_refl _) _⟩, (by repeat (with_reducible first | exact Below.refl _ _ | assumption | refine Below.drew ?_ | refine below_drewN ?_ _ | refine Below.alloc ?_ (by simp) _ | refine Below.setCell ?_ (by first | (simp; done) | omega | (simp; omega)) _ | refine Below.alloc ?_ (by simp; omega) _))⟩

set_option maxHeartbeats 1000000 in
theorem next_any (D : Nat) (A : Option Addr) (n c : Nat) (zs : List Int) (m : Int) (w : World) (hm0 : 0 < m) (hm1 : m ≤ 9223372036854775807) (hd : Deck D A n c zs w) :
    Calls Try.prog 25 #[.pointer (some ⟨D, 0, none⟩), .int .i64 m] w fun e w' => ∃ r, e = .returned (.int .i64 r) ∧ (0 ≤ r ∧ r < m) ∧ Deck D A n c zs w' ∧ Stays (· = D) w w' := by
  obtain ⟨k, hk, hz, hn, hb, hl⟩ := hd
  have b0 := hb.at_ 0
  have b1 := hb.at_ 1
  have o1 := hb.open_ 1
  by_cases hlt : k < n
  · obtain ⟨a, rfl, ha, hc⟩ := hl.int (k := k) (by omega)
    generalize zs.getD k 0 = x at hc
    have hk1 : ((k : Int) + 1).toNat = k + 1 := by omega
    have hd : decide ((n : Int) ≤ k) = false := by simpa using (show ¬ ((n : Int) ≤ k) by omega)
    go_enter Try.func25, Try.ntmps25
    go_wp2_with fail
    go_quiet (fail)
    go_wp2_with fail
    have hne : a.block ≠ D := by omega
    have e0 : ((w.drewN nq).setCell ⟨D, 1, none⟩ (.int .i64 (k + 1))).cell? ⟨D, 0, none⟩ = some (.slice (some a) n c) := by rw [World.cell?_setCell_other _ _ _ _ (by simp)]; exact b0
    have e1 : ((w.drewN nq).setCell ⟨D, 1, none⟩ (.int .i64 (k + 1))).cell? ⟨D, 1, none⟩ = some (.int .i64 (k + 1)) := by
      have := ((hb.drawnN nq).put 1 (.int .i64 ((k : Int) + 1))).at_ 1
      simpa using this
    have ec : ((w.drewN nq).setCell ⟨D, 1, none⟩ (.int .i64 (k + 1))).cell? (a.add k) = some (.int .i64 x) := by
      rw [World.cell?_setCell_other _ _ _ _ (by intro e; have := congrArg Addr.block e; rw [block_add] at this; exact hne this.symm)]
      exact hc
    have hfin : Deck D (some a) n c zs ((w.drewN nq).setCell ⟨D, 1, none⟩ (.int .i64 (k + 1))) ∧ Stays (· = D) w ((w.drewN nq).setCell ⟨D, 1, none⟩ (.int .i64 (k + 1))) := by
      refine ⟨⟨k + 1, by omega, hz, hn, ?_, (hl.drewN nq).same fun p hp => World.cell?_setCell_other _ _ _ _ (by intro e; rw [← e] at hp; simp at hp)⟩, ⟨rfl, rfl, rfl, by simp [World.setCell, World.drewN], fun j _ hj => ?_⟩⟩
      · have := (hb.drawnN nq).put 1 (.int .i64 ((k : Int) + 1))
        simpa using this
      · rw [Below.heap_setCell _ _ _ _ (by simpa using hj)]; rfl
    generalize (w.drewN nq).setCell ⟨D, 1, none⟩ (.int .i64 (k + 1)) = W1 at e0 e1 ec hfin
    have hmod := fun W => (mod_any x m W hm0 hm1).mono fun e w' (h : e = .returned (.int .i64 (x % m)) ∧ W = w') => (⟨h.1, h.2.symm⟩ : e = .returned (.int .i64 (x % m)) ∧ w' = W)
    have hr0 := Int.emod_nonneg x (show m ≠ 0 by omega)
    have hr1 := Int.emod_lt_of_pos x hm0
    generalize x % m = r at hmod hr0 hr1
    have Hmod := Lib.hid hmod
    have Hfin := Lib.hid hfin
    clear hmod hfin b0 b1 o1 hb hl hc hne
    have z1 : IntKind.i64.wrap ((k : Int) + 1 - 1) = k := by rw [show (k : Int) + 1 - 1 = k by omega]; exact IntWalk.i64_in _ (by omega)
    go_quiet ((go_at_call 15; exact Calls.quiet_of_same (Hmod.out _)))
    go_wp2
    go_ret
    exact ⟨r, rfl, ⟨hr0, hr1⟩, Hfin.out.1.stays (below_drewN (Below.refl _ _) _), Hfin.out.2.trans (Stays.of_below (below_drewN (Below.refl _ _) _))⟩
  · have hd : decide ((n : Int) ≤ k) = true := by simpa using (show (n : Int) ≤ k by omega)
    go_enter Try.func25, Try.ntmps25
    go_wp2_with fail
    go_quiet (fail)
    go_wp2
    go_ret
    exact ⟨0, rfl, ⟨by omega, hm0⟩, ⟨k, hk, hz, hn, hb.drawnN _, hl.drewN _⟩, Stays.of_below (below_drewN (Below.refl _ _) _)⟩

/-- Below number B w' is as w, but for the blocks of X. -/
theorem Stays.grown {X : Nat → Prop} {a w w' : World} {row : Option Nat} (h : Stays X a w) (hg : w.grownBy w' row) (hr : ∀ g, row = some g → a.heap.size ≤ g) : Stays X a w' :=
  ⟨hg.os.trans h.os, hg.tape.trans h.tape, hg.output.trans h.output, Nat.le_trans h.size hg.size, fun k hk hx => (hg.block k (Nat.lt_of_lt_of_le hk h.size) (fun e => by have := hr k e.symm; omega)).trans (h.block k hk hx)⟩
theorem Deck.grown {D : Nat} {A : Option Addr} {n c : Nat} {zs : List Int} {w w' : World} {row : Option Nat} (h : Deck D A n c zs w) (hg : w.grownBy w' row) (hr : ∀ g, row = some g → D < g) : Deck D A n c zs w' := by
  obtain ⟨k, h1, h2, h3, hb, hl⟩ := h
  exact ⟨k, h1, h2, h3, hb.grow hg (fun e => by have := hr D e.symm; omega), hl.grown hg (by have := hb.inside; omega) (fun g e => by have := hr g e; omega)⟩
theorem own_stays {X : Nat → Prop} {w w' : World} {base n : Nat} {e : TypeId} {size : Nat} {v : Value} {xs : List Value} (h : w.ownsRow base e size v n xs) (hs : Stays X w w') (hX : ∀ k, X k → k < base) : w'.ownsRow base e size v n xs := by
  obtain ⟨h1, h2 | ⟨g, cap, cur, e1, h3, h4, h5⟩⟩ := h
  · exact ⟨h1, .inl h2⟩
  · refine ⟨h1, .inr ⟨g, cap, cur, e1, h3, ?_, h5⟩⟩
    have hlt : g < w.heap.size := lt_of_block h4
    rw [hs.block g hlt (fun hx => by have := hX g hx; omega)]
    exact h4

/-- What is owned is not in a box of another type. -/
theorem own_apart {w : World} {base n : Nat} {e t : TypeId} {size : Nat} {v : Value} {xs : List Value} {g : Nat} {cs : Array Value} (h : w.ownsRow base e size v n xs) (hb : Box g t cs w) (hne : t ≠ e) : v.ownBlock ≠ some g := by
  obtain ⟨h1, h2 | ⟨g', cap, cur, e1, h3, h4, h5⟩⟩ := h
  · rw [h2.1]; simp [Value.ownBlock]
  · rw [e1]
    intro hg
    simp [Value.ownBlock] at hg
    subst hg
    have e2 : w.heap[g']? = some (.cells cs t (0, 0)) := hb
    rw [e2] at h4
    simp at h4
    exact hne h4.2
theorem own_only {w w' : World} {base n : Nat} {e : TypeId} {size : Nat} {v : Value} {xs : List Value} {g : Nat} (h : w.ownsRow base e size v n xs) (ho : OnlyBlock g w w') (hne : v.ownBlock ≠ some g) : w'.ownsRow base e size v n xs := by
  obtain ⟨h1, h2 | ⟨g', cap, cur, e1, h3, h4, h5⟩⟩ := h
  · exact ⟨h1, .inl h2⟩
  · refine ⟨h1, .inr ⟨g', cap, cur, e1, h3, ?_, h5⟩⟩
    rw [ho.block g' (fun e2 => by subst e2; rw [e1] at hne; simp [Value.ownBlock] at hne)]
    exact h4
theorem Deck.only {D g : Nat} {A : Option Addr} {n c : Nat} {zs : List Int} {w w' : World} (h : Deck D A n c zs w) (ho : OnlyBlock g w w') (hg : D < g) : Deck D A n c zs w' := by
  obtain ⟨k, h1, h2, h3, hb, hl⟩ := h
  refine ⟨k, h1, h2, h3, ?_, hl.same fun p hp => World.cell?_of_block (w := w) (ho.block p.block (by omega))⟩
  show w'.heap[D]? = _
  rw [ho.block D (by omega)]; exact hb
end Go.Proofs.Ytghhidpggnbfgaa
