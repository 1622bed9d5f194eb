/-
  Layer 4: the maker of frames.
-/
import Derived.Test.YtklolalgbcgdiaaEther
import Derived.Test.YtklolalgbcgdiaaDeck
namespace Go.Proofs.Ytklolalgbcgdiaa
open Go.RowKit
def macV (n : Int) : Value := .agg #[.int .u8 2, .int .u8 0, .int .u8 (n / 16777216 % 256), .int .u8 (n / 65536 % 256), .int .u8 (n / 256 % 256), .int .u8 (n % 256)]
theorem pick6 {b : Nat} {W : World} {t : TypeId} (h : Box b t #[.int .i64 2048, .int .i64 1536, .int .i64 65535, .int .i64 2054, .int .i64 1535, .int .i64 33024] W) (r : Nat) (hr : r < 6) :
    ∃ y : Int, (1535 ≤ y ∧ y ≤ 65535) ∧ W.cell? ⟨b, r, none⟩ = some (.int .i64 y) := by
  rcases (show r = 0 ∨ r = 1 ∨ r = 2 ∨ r = 3 ∨ r = 4 ∨ r = 5 by omega) with rfl | rfl | rfl | rfl | rfl | rfl
  · exact ⟨2048, by omega, h.at_ 0⟩
  · exact ⟨1536, by omega, h.at_ 1⟩
  · exact ⟨65535, by omega, h.at_ 2⟩
  · exact ⟨2054, by omega, h.at_ 3⟩
  · exact ⟨1535, by omega, h.at_ 4⟩
  · exact ⟨33024, by omega, h.at_ 5⟩

theorem pick4 {b : Nat} {W : World} {t : TypeId} (h : Box b t #[.int .i64 1, .int .i64 4094, .int .i64 4095, .int .i64 100] W) (r : Nat) (hr : r < 4) :
    ∃ y : Int, (0 ≤ y ∧ y ≤ 4095) ∧ W.cell? ⟨b, r, none⟩ = some (.int .i64 y) := by
  rcases (show r = 0 ∨ r = 1 ∨ r = 2 ∨ r = 3 by omega) with rfl | rfl | rfl | rfl
  · exact ⟨1, by omega, h.at_ 0⟩
  · exact ⟨4094, by omega, h.at_ 1⟩
  · exact ⟨4095, by omega, h.at_ 2⟩
  · exact ⟨100, by omega, h.at_ 3⟩

theorem own_nil {w : World} {base n m c : Nat} {e : TypeId} {A : Option Addr} {xs : List Value} (h : w.ownsRow base e 1 (.slice A m c) n xs) : A = none → c = 0 := by
  rintro rfl
  rcases h.2 with ⟨h1, _⟩ | ⟨g, cap, cur, h1, _⟩
  · injection h1
  · injection h1 with h1 _ _
    cases h1
/-- The frame that is being made: in block g, its data the call's own. -/
structure FrameAt (D : Nat) (A : Option Addr) (n c : Nat) (zs : List Int) (w : World) (g : Nat) (a b vl y : Int) (s : Value) (bs : List Int) (wx : World) : Prop where
  lo : w.heap.size ≤ g
  box : Box g 42 #[.int .u8 2, .int .u8 0, .int .u8 (a / 16777216 % 256), .int .u8 (a / 65536 % 256), .int .u8 (a / 256 % 256), .int .u8 (a % 256), .int .u8 2, .int .u8 0, .int .u8 (b / 16777216 % 256), .int .u8 (b / 65536 % 256), .int .u8 (b / 256 % 256), .int .u8 (b % 256), .int .i64 vl, .int .i64 y, s] wx
  ty : 1535 ≤ y ∧ y ≤ 65535
  vlan : 0 ≤ vl ∧ vl ≤ 4095
  own : wx.ownsRow w.heap.size 5 1 s bs.length (bs.map (Value.int .u8))
  len : bs.length ≤ 1501
  ok : ∀ z ∈ bs, 0 ≤ z ∧ z < 256
  deck : Deck D A n c zs wx
  stays : Stays (· = D) w wx

theorem FrameAt.keeps {D : Nat} {A : Option Addr} {n c : Nat} {zs : List Int} {w : World} {g : Nat} {a b vl y : Int} {s : Value} {bs : List Int} {wx wy : World} (h : FrameAt D A n c zs w g a b vl y s bs wx) (hd : Deck D A n c zs wy) (hs : Stays (· = D) wx wy) (hg : D < w.heap.size) : FrameAt D A n c zs w g a b vl y s bs wy :=
  ⟨h.lo, box_stays h.box hs (by have := h.lo; omega), h.ty, h.vlan, own_stays h.own hs (fun k hk => by subst hk; exact hg), h.len, h.ok, hd, h.stays.trans hs⟩

theorem FrameAt.filled {D : Nat} {A : Option Addr} {n c : Nat} {zs : List Int} {w : World} {g : Nat} {a b vl y vl' : Int} {s s' : Value} {bs bs' : List Int} {wx wy : World} (h : FrameAt D A n c zs w g a b vl y s bs wx) (hg : D < w.heap.size) (ho : OnlyBlock g wx wy)
    (hb : Box g 42 #[.int .u8 2, .int .u8 0, .int .u8 (a / 16777216 % 256), .int .u8 (a / 65536 % 256), .int .u8 (a / 256 % 256), .int .u8 (a % 256), .int .u8 2, .int .u8 0, .int .u8 (b / 16777216 % 256), .int .u8 (b / 65536 % 256), .int .u8 (b / 256 % 256), .int .u8 (b % 256), .int .i64 vl', .int .i64 y, s'] wy) (hv : 0 ≤ vl' ∧ vl' ≤ 4095) (hown : wx.ownsRow w.heap.size 5 1 s' bs'.length (bs'.map (Value.int .u8))) (hl : bs'.length ≤ 1501) (hz : ∀ z ∈ bs', 0 ≤ z ∧ z < 256) : FrameAt D A n c zs w g a b vl' y s' bs' wy :=
  ⟨h.lo, hb, h.ty, hv, own_only hown ho (own_apart hown h.box (by decide)), hl, hz, h.deck.only ho (by have := h.lo; omega), ho.stays h.stays h.lo⟩
theorem FrameAt.vlanned {D : Nat} {A : Option Addr} {n c : Nat} {zs : List Int} {w : World} {g : Nat} {a b vl y : Int} {s : Value} {bs : List Int} {wx : World} (h : FrameAt D A n c zs w g a b vl y s bs wx) (hg : D < w.heap.size) (v : Int) (hv : 0 ≤ v ∧ v ≤ 4095) : FrameAt D A n c zs w g a b v y s bs (wx.setCell ⟨g, 12, none⟩ (.int .i64 v)) := by
  refine h.filled hg (OnlyBlock.setCell (p := ⟨g, 12, none⟩) (OnlyBlock.refl g wx) rfl _) ?_ hv h.own h.len h.ok
  have := h.box.put 12 (.int .i64 v)
  simpa using this
theorem FrameAt.loaded {D : Nat} {A : Option Addr} {n c : Nat} {zs : List Int} {w : World} {g : Nat} {a b vl y : Int} {s s' : Value} {bs bs' : List Int} {wx : World} (h : FrameAt D A n c zs w g a b vl y s bs wx) (hg : D < w.heap.size) (hown : wx.ownsRow w.heap.size 5 1 s' bs'.length (bs'.map (Value.int .u8))) (hl : bs'.length ≤ 1501) (hz : ∀ z ∈ bs', 0 ≤ z ∧ z < 256) : FrameAt D A n c zs w g a b vl y s' bs' (wx.setCell ⟨g, 14, none⟩ s') := by
  refine h.filled hg (OnlyBlock.setCell (p := ⟨g, 14, none⟩) (OnlyBlock.refl g wx) rfl _) ?_ h.vlan hown hl hz
  have := h.box.put 14 s'
  simpa using this
theorem own_made {w : World} {e : TypeId} {base : Nat} (m : Nat) (z : Value) (hm : m ≤ 1000000) (hb : base ≤ w.heap.size) : (w.alloc (.cells (madeCells #[z] m) e)).ownsRow base e 1 (.slice (some ⟨w.heap.size, 0, none⟩) m m) m (List.replicate m z) := by
  refine ⟨by simp, .inr ⟨w.heap.size, m, madeCells #[z] m, rfl, hb, heap_alloc_new w _, Nat.le_refl _, by unfold maxLen; omega, by simp [size_madeCells], ?_⟩⟩
  rw [Nat.mul_one]
  refine List.ext_getElem (by simp [size_madeCells]) fun i h1 h2 => ?_
  simp [madeCells, Nat.mod_one]

set_option maxHeartbeats 2000000 in
theorem frame_any (D : Nat) (A : Option Addr) (n c : Nat) (zs : List Int) (w : World) (hd : Deck D A n c zs w) :
    Calls Try.prog 24 #[.pointer (some ⟨D, 0, none⟩)] w fun e w' => ∃ (a b vl y : Int) (A' : Option Addr) (m c' : Nat) (bs : List Int), e = .returned (.agg #[.int .u8 2, .int .u8 0, .int .u8 (a / 16777216 % 256), .int .u8 (a / 65536 % 256), .int .u8 (a / 256 % 256), .int .u8 (a % 256), .int .u8 2, .int .u8 0, .int .u8 (b / 16777216 % 256), .int .u8 (b / 65536 % 256), .int .u8 (b / 256 % 256), .int .u8 (b % 256), .int .i64 vl, .int .i64 y, .slice A' m c']) ∧ (1535 ≤ y ∧ y ≤ 65535) ∧ (0 ≤ vl ∧ vl ≤ 4095) ∧
      Lies w'.heap.size A' (bs.map (Value.int .u8)) w' ∧ (bs.length = m ∧ m ≤ 1501 ∧ m ≤ c' ∧ c' ≤ maxLen ∧ (A' = none → c' = 0)) ∧ (∀ z ∈ bs, 0 ≤ z ∧ z < 256) ∧ Stays (· = D) w w' := by
  have hin0 := hd.inside
  have hd0 := hd.stays ((Below.refl w.heap.size w).alloc (Nat.le_refl _) (.cells #[.int .u8 0, .int .u8 0, .int .u8 0, .int .u8 0, .int .u8 0, .int .u8 0, .int .u8 0, .int .u8 0, .int .u8 0, .int .u8 0, .int .u8 0, .int .u8 0, .int .i64 0, .int .i64 0, .slice none 0 0] 42))
  have hbel0 := (Below.refl w.heap.size w).alloc (Nat.le_refl _) (.cells #[.int .u8 0, .int .u8 0, .int .u8 0, .int .u8 0, .int .u8 0, .int .u8 0, .int .u8 0, .int .u8 0, .int .u8 0, .int .u8 0, .int .u8 0, .int .u8 0, .int .i64 0, .int .i64 0, .slice none 0 0] 42)
  have hb0 := Box.made w 42 #[.int .u8 0, .int .u8 0, .int .u8 0, .int .u8 0, .int .u8 0, .int .u8 0, .int .u8 0, .int .u8 0, .int .u8 0, .int .u8 0, .int .u8 0, .int .u8 0, .int .i64 0, .int .i64 0, .slice none 0 0]
  go_enter Try.func24, Try.ntmps24
  go_upto_region 1 with fail
  generalize w.alloc (.cells #[.int .u8 0, .int .u8 0, .int .u8 0, .int .u8 0, .int .u8 0, .int .u8 0, .int .u8 0, .int .u8 0, .int .u8 0, .int .u8 0, .int .u8 0, .int .u8 0, .int .i64 0, .int .i64 0, .slice none 0 0] 42) = w0 at hd0 hbel0 hb0
  have hin := hd0.inside
  go_cut [3] (fun p wx => ∃ (g : Nat) (a b y : Int) (s : Value) (bs : List Int), p = .pointer (some ⟨g, 0, none⟩) ∧ FrameAt D A n c zs w0 g a b 0 y s bs wx)
  case first =>
    refine wp_region_tail 15 (fun k => k = D) (fun W => Deck D A n c zs W) (Stays (fun k => k = D)) [isV ?v0r1, .fact (fun _ v _ => ∃ r, v = .int .i64 r ∧ 0 ≤ r ∧ r < 300), .fact (fun _ v _ => ∃ n, v = macV n), isV ?v3r1, .fact (fun _ v _ => ∃ r, v = .int .i64 r ∧ 0 ≤ r ∧ r < 300), .fact (fun _ v _ => ∃ n, v = macV n), isLit (fun k => k = D) (w0.heap.size) 3 #[.int .i64 2048, .int .i64 1536, .int .i64 65535, .int .i64 2054, .int .i64 1535, .int .i64 33024] 6, isV ?v7r1, .fact (fun _ v _ => ∃ r, v = .int .i64 r ∧ 0 ≤ r ∧ r < 6), .fact (fun _ v W => ∃ (g r : Nat) (y : Int), v = .pointer (some ⟨g, r, none⟩) ∧ g ≠ D ∧ (1535 ≤ y ∧ y ≤ 65535) ∧ g < W.heap.size ∧ W.cell? ⟨g, r, none⟩ = some (.int .i64 y)), .fact (fun _ v _ => ∃ y, v = .int .i64 y ∧ 1535 ≤ y ∧ y ≤ 65535), isV ?v11r1, .fact (fun _ v W => ∃ bs : List Int, W.ownsRow w0.heap.size 5 1 v bs.length (bs.map (Value.int .u8)) ∧ bs.length ≤ 30 ∧ ∀ z ∈ bs, 0 ≤ z ∧ z < 256), .fact (fun env v W => ∃ (a b y : Int) (s : Value) (bs : List Int), v = .agg #[.int .u8 2, .int .u8 0, .int .u8 (a / 16777216 % 256), .int .u8 (a / 65536 % 256), .int .u8 (a / 256 % 256), .int .u8 (a % 256), .int .u8 2, .int .u8 0, .int .u8 (b / 16777216 % 256), .int .u8 (b / 65536 % 256), .int .u8 (b / 256 % 256), .int .u8 (b % 256), .int .i64 0, .int .i64 y, s] ∧ (1535 ≤ y ∧ y ≤ 65535) ∧ W.ownsRow w0.heap.size 5 1 s bs.length (bs.map (Value.int .u8)) ∧ bs.length ≤ 30 ∧ ∀ z ∈ bs, 0 ≤ z ∧ z < 256), isBox (fun k => k = D) (w0.heap.size) 42 #[.int .u8 0, .int .u8 0, .int .u8 0, .int .u8 0, .int .u8 0, .int .u8 0, .int .u8 0, .int .u8 0, .int .u8 0, .int .u8 0, .int .u8 0, .int .u8 0, .int .i64 0, .int .i64 0, .slice none 0 0]] (by kernel_rfl) (by kernel_rfl) (by kernel_rfl) (by kernel_rfl) hd0 (fun k h => by subst h; exact hin) (fun _ _ _ h => h) ?spr1 ?enr1
    case spr1 =>
      -- 0: Op.move t0
      refine specs_cons (cst _ rfl fun env ρ W hW hI hF hS => ?_) ?_
      · have e0 := hS.at 0 (by kernel_rfl) (slot_base (by kernel_rfl))
        go_simp
        try with_reducible rfl
      -- 1: Op.call { value (Operand.func 36), args := #[t4, const (300:i64)], arg
      refine specs_cons (call_fact _ rfl (fun _ _ _ _ _ h => h) (fun _ _ _ _ _ h => h) fun env ρ W hW hI hF hS => ?_) ?_
      · have hc := stays_cells hW; have cf := hS.func; have cc := hS.const; have e4 := (hS.at 4 (by kernel_rfl) (v := env 0) (by kernel_rfl)).trans (hF 0 (by kernel_rfl))
        refine ⟨_, _, ?_, (next_any D A n c zs 300 W (by omega) (by omega) hI).mono ?_⟩
        · go_simp
        · rintro e w' ⟨r, rfl, ⟨h0, h1⟩, hd, hs⟩
          exact ⟨_, rfl, hs, hd, r, rfl, h0, h1⟩
      -- 2: Op.call { value (Operand.func 33), args := #[t5], argTypes := #[3] }
      refine specs_cons (call_fact _ rfl (fun _ _ _ _ _ h => h) (fun _ _ _ _ _ h => h) fun env ρ W hW hI hF hS => ?_) ?_
      · have hc := stays_cells hW; have cf := hS.func; have e5 := hS.at 5 (by kernel_rfl) (v := env 1) (by kernel_rfl); obtain ⟨r1, q1, r10, r11⟩ := hF 1 (by kernel_rfl)
        refine ⟨_, _, ?_, (mac_any r1 W).mono ?_⟩
        · go_simp
        · rintro e w' ⟨rfl, hb⟩
          exact ⟨_, rfl, Stays.of_below hb, hI.stays hb, r1, rfl⟩
      -- 3: Op.move t0
      refine specs_cons (cst _ rfl fun env ρ W hW hI hF hS => ?_) ?_
      · have e0 := hS.at 0 (by kernel_rfl) (slot_base (by kernel_rfl))
        go_simp
        try with_reducible rfl
      -- 4: Op.call { value (Operand.func 36), args := #[t7, const (300:i64)], arg
      refine specs_cons (call_fact _ rfl (fun _ _ _ _ _ h => h) (fun _ _ _ _ _ h => h) fun env ρ W hW hI hF hS => ?_) ?_
      · have hc := stays_cells hW; have cf := hS.func; have cc := hS.const; have e7 := (hS.at 7 (by kernel_rfl) (v := env 3) (by kernel_rfl)).trans (hF 3 (by kernel_rfl))
        refine ⟨_, _, ?_, (next_any D A n c zs 300 W (by omega) (by omega) hI).mono ?_⟩
        · go_simp
        · rintro e w' ⟨r, rfl, ⟨h0, h1⟩, hd, hs⟩
          exact ⟨_, rfl, hs, hd, r, rfl, h0, h1⟩
      -- 5: Op.call { value (Operand.func 33), args := #[t8], argTypes := #[3] }
      refine specs_cons (call_fact _ rfl (fun _ _ _ _ _ h => h) (fun _ _ _ _ _ h => h) fun env ρ W hW hI hF hS => ?_) ?_
      · have hc := stays_cells hW; have cf := hS.func; have e8 := hS.at 8 (by kernel_rfl) (v := env 4) (by kernel_rfl); obtain ⟨r4, q4, r40, r41⟩ := hF 4 (by kernel_rfl)
        refine ⟨_, _, ?_, (mac_any r4 W).mono ?_⟩
        · go_simp
        · rintro e w' ⟨rfl, hb⟩
          exact ⟨_, rfl, Stays.of_below hb, hI.stays hb, r4, rfl⟩
      -- 6: Op.buildSlice 43 6 #[(0, const (2048:i64)), (1, const (1536:i64)), (2,
      refine specs_cons (lit_made (Nat.le_refl _) _ _ _ rfl (fun k h => by subst h; exact hin) (fun _ _ hb h => Deck.stays h hb) fun env ρ W hW hI hF hS => ?_) ?_
      · have cc := hS.const
        go_simp
        try with_reducible rfl
      -- 7: Op.move t0
      refine specs_cons (cst _ rfl fun env ρ W hW hI hF hS => ?_) ?_
      · have e0 := hS.at 0 (by kernel_rfl) (slot_base (by kernel_rfl))
        go_simp
        try with_reducible rfl
      -- 8: Op.call { value (Operand.func 36), args := #[t11, const (6:i64)], argT
      refine specs_cons (call_fact _ rfl (fun _ _ _ _ _ h => h) (fun _ _ _ _ _ h => h) fun env ρ W hW hI hF hS => ?_) ?_
      · have hc := stays_cells hW; have cf := hS.func; have cc := hS.const; have e11 := (hS.at 11 (by kernel_rfl) (v := env 7) (by kernel_rfl)).trans (hF 7 (by kernel_rfl))
        refine ⟨_, _, ?_, (next_any D A n c zs 6 W (by omega) (by omega) hI).mono ?_⟩
        · go_simp
        · rintro e w' ⟨r, rfl, ⟨h0, h1⟩, hd, hs⟩
          exact ⟨_, rfl, hs, hd, r, rfl, h0, h1⟩
      -- 9: Op.indexAddr 43 t10 t12
      refine specs_cons (val_fact _ rfl (fun _ _ _ _ _ h => h) (fun _ _ _ _ hs ⟨g, r, y, h1, h2, h3, h4, h5⟩ => ⟨g, r, y, h1, h2, h3, Nat.lt_of_lt_of_le h4 hs.size, (hs.cell (p := ⟨g, r, none⟩) h4 h2).trans h5⟩) fun env ρ W hW hI hF hS => ?_) ?_
      · have hc := stays_cells hW; have e10 := hS.at 10 (by kernel_rfl) (v := env 6) (by kernel_rfl); obtain ⟨g6, k6, ⟨l6, n6⟩, b6⟩ := hF 6 (by kernel_rfl); have e12 := hS.at 12 (by kernel_rfl) (v := env 8) (by kernel_rfl); obtain ⟨r8, q8, r80, r81⟩ := hF 8 (by kernel_rfl)
        obtain ⟨r8, rfl⟩ := Int.eq_ofNat_of_zero_le r80; obtain ⟨y, hy, hc9⟩ := pick6 (b := g6) b6 r8 (by omega)
        refine ⟨.pointer (some ⟨g6, r8, none⟩), by go_simp, ?_⟩
        exact ⟨g6, r8, y, rfl, n6, hy, b6.inside, hc9⟩
      -- 10: Op.load 3 t13
      refine specs_cons (val_fact _ rfl (fun _ _ _ _ _ h => h) (fun _ _ _ _ _ h => h) fun env ρ W hW hI hF hS => ?_) ?_
      · have hc := stays_cells hW; have e13 := hS.at 13 (by kernel_rfl) (v := env 9) (by kernel_rfl); obtain ⟨g9, r9, y9, q9, n9, y90, l9, c9⟩ := hF 9 (by kernel_rfl)
        refine ⟨.int .i64 y9, by go_simp, ?_⟩
        exact ⟨y9, rfl, y90.1, y90.2⟩
      -- 11: Op.move t0
      refine specs_cons (cst _ rfl fun env ρ W hW hI hF hS => ?_) ?_
      · have e0 := hS.at 0 (by kernel_rfl) (slot_base (by kernel_rfl))
        go_simp
        try with_reducible rfl
      -- 12: Op.call { value (Operand.func 37), args := #[t15, const (30:i64)], arg
      refine specs_cons (call_fact _ rfl (fun _ _ _ _ _ h => h) (fun _ _ _ _ hs ⟨bs, h1, h2⟩ => ⟨bs, own_stays h1 hs (fun k hk => by subst hk; exact hin), h2⟩) fun env ρ W hW hI hF hS => ?_) ?_
      · have hc := stays_cells hW; have cf := hS.func; have cc := hS.const; have e15 := (hS.at 15 (by kernel_rfl) (v := env 11) (by kernel_rfl)).trans (hF 11 (by kernel_rfl))
        refine ⟨_, _, ?_, (bytes_any D A n c zs 30 W (by omega) hI).mono ?_⟩
        · go_simp
        · rintro e w' ⟨v, bs, rfl, ho, ⟨hl, hz⟩, hd2, hs⟩
          exact ⟨_, rfl, hs, hd2, bs, own_less ho hW.size, hl, hz⟩
      -- 13: Op.build 42 #[(0, t6), (1, t9), (3, t14), (4, t16)]
      refine specs_cons (val_fact _ rfl (fun _ _ _ _ _ h => h) (fun _ _ _ _ hs ⟨a, b, y, s, bs, h0, h1, h2, h3⟩ => ⟨a, b, y, s, bs, h0, h1, own_stays h2 hs (fun k hk => by subst hk; exact hin), h3⟩) fun env ρ W hW hI hF hS => ?_) ?_
      · have e6 := hS.at 6 (by kernel_rfl) (v := env 2) (by kernel_rfl); obtain ⟨m2, q2⟩ := hF 2 (by kernel_rfl); have e9 := hS.at 9 (by kernel_rfl) (v := env 5) (by kernel_rfl); obtain ⟨m5, q5⟩ := hF 5 (by kernel_rfl); have e14 := hS.at 14 (by kernel_rfl) (v := env 10) (by kernel_rfl); obtain ⟨y10, q10, y100, y101⟩ := hF 10 (by kernel_rfl); have e16 := hS.at 16 (by kernel_rfl) (v := env 12) (by kernel_rfl); obtain ⟨bs12, o12, l12, z12⟩ := hF 12 (by kernel_rfl)
        rw [show macV m2 = Value.agg _ from rfl] at q2; rw [show macV m5 = Value.agg _ from rfl] at q5; obtain ⟨A12, c12, hs12, -⟩ := own_open o12; rw [hs12] at o12
        refine ⟨_, by (go_simp; rfl), ?_⟩
        exact ⟨m2, m5, y10, _, bs12, rfl, ⟨y100, y101⟩, o12, l12, z12⟩
      -- 14: Op.alloc 42
      refine specs_cons (lit_box (Nat.le_refl _) _ _ rfl (fun k h => by subst h; exact hin) (fun _ _ hb h => Deck.stays h hb) fun env ρ W hW hI hF hS => ?_) ?_
      · 
        go_simp
        try with_reducible rfl
      exact specs_nil
    case enr1 =>
      intro env W K
      have f0 : env 0 = _ := K.facts 0 (by decide) rfl
      obtain ⟨r1, q1, r10, r11⟩ := K.facts 1 (by decide) rfl
      obtain ⟨m2, q2⟩ := K.facts 2 (by decide) rfl
      have f3 : env 3 = _ := K.facts 3 (by decide) rfl
      obtain ⟨r4, q4, r40, r41⟩ := K.facts 4 (by decide) rfl
      obtain ⟨m5, q5⟩ := K.facts 5 (by decide) rfl
      obtain ⟨g6, k6, ⟨l6, x6⟩, b6⟩ := K.facts 6 (by decide) rfl
      have f7 : env 7 = _ := K.facts 7 (by decide) rfl
      obtain ⟨r8, q8, r80, r81⟩ := K.facts 8 (by decide) rfl
      obtain ⟨g9, r9, y9, q9, n9, y90, l9, c9⟩ := K.facts 9 (by decide) rfl
      obtain ⟨y10, q10, y100, y101⟩ := K.facts 10 (by decide) rfl
      have f11 : env 11 = _ := K.facts 11 (by decide) rfl
      obtain ⟨bs12, o12, l12, z12⟩ := K.facts 12 (by decide) rfl
      obtain ⟨a13, b13, y13, s13, bs13, q13, y130, o13, l13, z13⟩ := K.facts 13 (by decide) rfl
      obtain ⟨g14, k14, ⟨l14, x14⟩, b14⟩ := K.facts 14 (by decide) rfl
      have hgrow := K.stays.of_drew
      have hinv := K.inv
      clear K
      simp only [List.take_succ_cons, List.take_zero, List.drop_zero, List.drop_succ_cons, putAll, Nat.reduceAdd]
      simp only [Act.put, List.setIfInBounds_toArray, List.set_cons_succ, List.set_cons_zero, f0, f3, k6, f7, f11, q13, k14]
      clear f0 f3 f7 f11
      obtain ⟨A13, c13, hs13, -⟩ := own_open o13
      subst hs13
      have b14_0 := b14.at_ 0; have b14_1 := b14.at_ 1; have b14_2 := b14.at_ 2; have b14_3 := b14.at_ 3; have b14_4 := b14.at_ 4; have b14_5 := b14.at_ 5; have b14_6 := b14.at_ 6; have b14_7 := b14.at_ 7; have b14_8 := b14.at_ 8; have b14_9 := b14.at_ 9; have b14_10 := b14.at_ 10; have b14_11 := b14.at_ 11; have b14_12 := b14.at_ 12; have b14_13 := b14.at_ 13; have b14_14 := b14.at_ 14
      have b14o0 := b14.open_ 0; have b14o1 := b14.open_ 1; have b14o2 := b14.open_ 2; have b14o3 := b14.open_ 3; have b14o4 := b14.open_ 4; have b14o5 := b14.open_ 5; have b14o6 := b14.open_ 6; have b14o7 := b14.open_ 7; have b14o8 := b14.open_ 8; have b14o9 := b14.open_ 9; have b14o10 := b14.open_ 10; have b14o11 := b14.open_ 11; have b14o12 := b14.open_ 12; have b14o13 := b14.open_ 13; have b14o14 := b14.open_ 14
      go_wp2
      go_meet
      refine ⟨g14, a13, b13, y13, _, bs13, rfl, l14, box_fill b14 rfl, y130, by omega, own_only o13 ?_ (own_apart o13 b14 (by decide)), by omega, z13, Deck.only (g := g14) hinv ?_ (by omega), OnlyBlock.stays ?_ hgrow l14⟩
      all_goals exact (((((((((((((((OnlyBlock.refl _ _).setCell (by rfl) _).setCell (by rfl) _).setCell (by rfl) _).setCell (by rfl) _).setCell (by rfl) _).setCell (by rfl) _).setCell (by rfl) _).setCell (by rfl) _).setCell (by rfl) _).setCell (by rfl) _).setCell (by rfl) _).setCell (by rfl) _).setCell (by rfl) _).setCell (by rfl) _).setCell (by rfl) _
  case rest =>
    obtain ⟨g, a, b, y, s, bs, rfl, hf⟩ := hcut
    go_upto_if 20 with fail
    refine (next_any D A n c zs 2 _ (by omega) (by omega) hf.deck).mono ?_
    rintro e w1 ⟨r, rfl, ⟨hr0, hr1⟩, hd1, hs1⟩
    have hf1 := hf.keeps hd1 hs1 hin
    go_upto_if 20 with fail
    go_cut [3] (fun p wx => p = .pointer (some ⟨g, 0, none⟩) ∧ ∃ vl, FrameAt D A n c zs w0 g a b vl y s bs wx)
    case first =>
      by_cases hr : r = 1
      · have hrb : (r == 1) = true := by simpa using hr
        go_wp2_with fail
        refine (next_any D A n c zs 4 _ (by omega) (by omega) (hd1.stays ((Below.refl _ _).alloc (Nat.le_refl _) _))).mono ?_
        rintro e w2 ⟨r2, rfl, ⟨hr20, hr21⟩, hd2, hs2⟩
        obtain ⟨r2, rfl⟩ := Int.eq_ofNat_of_zero_le hr20
        have hf2 := hf1.keeps hd2 ((Stays.alloc _ _ _).trans hs2) hin
        have hsz1 := hf1.stays.size
        have bl := box_stays (Box.made w1 3 #[.int .i64 1, .int .i64 4094, .int .i64 4095, .int .i64 100]) hs2 (show ¬ w1.heap.size = D by omega)
        obtain ⟨v, hv, hcv⟩ := pick4 bl r2 (by omega)
        have q1 := hf2.box.at_ 12
        have q2 := hf2.box.open_ 12
        have hfin := Lib.hid (hf2.vlanned hin v hv)
        go_wp2
        go_meet
        exact ⟨rfl, v, hfin.out⟩
      · have hrb : (r == 1) = false := by simpa using hr
        go_wp2
        go_meet
        exact ⟨rfl, 0, hf1⟩
    case rest =>
      obtain ⟨rfl, vl, hf⟩ := hcut
      go_upto_if 29 with fail
      refine (next_any D A n c zs 12 _ (by omega) (by omega) hf.deck).mono ?_
      rintro e w1 ⟨r, rfl, ⟨hr0, hr1⟩, hd1, hs1⟩
      have hf1 := hf.keeps hd1 hs1 hin
      go_upto_if 29 with fail
      go_cut [3] (fun p wx => p = .pointer (some ⟨g, 0, none⟩) ∧ ∃ s bs, FrameAt D A n c zs w0 g a b vl y s bs wx)
      case first =>
        by_cases hr : r = 11
        · have hrb : (r == 11) = true := by simpa using hr
          go_wp2_with fail
          refine (next_any D A n c zs 2 _ (by omega) (by omega) hd1).mono ?_
          rintro e w2 ⟨r2, rfl, ⟨hr20, hr21⟩, hd2, hs2⟩
          obtain ⟨r2, rfl⟩ := Int.eq_ofNat_of_zero_le hr20
          have hf2 := hf1.keeps hd2 hs2 hin
          obtain ⟨i0, hi, hz0, hz1, hz2⟩ := info_parts (show (Try.prog.info? 5).map (fun i => (i.zero, i.size, i.bytes)) = some (some (.int .u8 0), 1, 1) by kernel_rfl)
          have hmk := run_make (P := Try.prog) w2 33 5 i0 (.int .u8 0) Try.underlying33 hi hz0 .i64 .i64 (1500 + r2) (1500 + r2) (by omega) (by omega) (by rw [hz2]; omega) (by omega)
          rw [hz1, Nat.mul_one, show ((1500 : Int) + r2).toNat = 1500 + r2 by omega] at hmk
          have hso := own_made (w := w2) (e := 5) (base := w0.heap.size) (1500 + r2) (.int .u8 0) (by omega) hf2.stays.size
          have hf3 := hf2.keeps (hd2.stays ((Below.refl _ _).alloc (Nat.le_refl _) _)) (Stays.alloc _ _ (.cells (madeCells #[.int .u8 0] (1500 + r2)) 5)) hin
          have hso' : (w2.alloc (.cells (madeCells #[.int .u8 0] (1500 + r2)) 5)).ownsRow w0.heap.size 5 1 (.slice (some ⟨w2.heap.size, 0, none⟩) (1500 + r2) (1500 + r2)) (List.replicate (1500 + r2) (0 : Int)).length ((List.replicate (1500 + r2) (0 : Int)).map (Value.int .u8)) := by simpa using hso
          have hfin := Lib.hid (hf3.loaded hin hso' (by simp; omega) (by intro z hz; have := List.eq_of_mem_replicate hz; omega))
          have q1 := hf3.box.at_ 14
          have q2 := hf3.box.open_ 14
          have hin2 := hf2.box.inside
          clear hi hz0 hz1 hz2
          go_wp2
          go_meet
          refine ⟨rfl, .slice (some ⟨w2.heap.size, 0, none⟩) (1500 + r2) (1500 + r2), List.replicate (1500 + r2) 0, ?_⟩
          have h9 := hfin.out
          rw [World.setCell_alloc_past (hn := hf2.box.inside)] at h9
          exact h9
        · have hrb : (r == 11) = false := by simpa using hr
          go_wp2
          go_meet
          exact ⟨rfl, _, _, hf1⟩
      case rest =>
        obtain ⟨rfl, s, bs, hf⟩ := hcut
        obtain ⟨A1, c1, rfl, k1, k2, k3, k4⟩ := own_open hf.own
        have hb := hf.box
        have hb_0 := hb.at_ 0; have hb_1 := hb.at_ 1; have hb_2 := hb.at_ 2; have hb_3 := hb.at_ 3; have hb_4 := hb.at_ 4; have hb_5 := hb.at_ 5; have hb_6 := hb.at_ 6; have hb_7 := hb.at_ 7; have hb_8 := hb.at_ 8; have hb_9 := hb.at_ 9; have hb_10 := hb.at_ 10; have hb_11 := hb.at_ 11; have hb_12 := hb.at_ 12; have hb_13 := hb.at_ 13; have hb_14 := hb.at_ 14
        have hz := box_stays hb0 hf.stays (show ¬ w.heap.size = D by omega)
        have hz_0 := hz.at_ 0; have hz_1 := hz.at_ 1; have hz_2 := hz.at_ 2; have hz_3 := hz.at_ 3; have hz_4 := hz.at_ 4; have hz_5 := hz.at_ 5; have hz_6 := hz.at_ 6; have hz_7 := hz.at_ 7; have hz_8 := hz.at_ 8; have hz_9 := hz.at_ 9; have hz_10 := hz.at_ 10; have hz_11 := hz.at_ 11; have hz_12 := hz.at_ 12; have hz_13 := hz.at_ 13; have hz_14 := hz.at_ 14
        have hzo0 := hz.open_ 0; have hzo1 := hz.open_ 1; have hzo2 := hz.open_ 2; have hzo3 := hz.open_ 3; have hzo4 := hz.open_ 4; have hzo5 := hz.open_ 5; have hzo6 := hz.open_ 6; have hzo7 := hz.open_ 7; have hzo8 := hz.open_ 8; have hzo9 := hz.open_ 9; have hzo10 := hz.open_ 10; have hzo11 := hz.open_ 11; have hzo12 := hz.open_ 12; have hzo13 := hz.open_ 13; have hzo14 := hz.open_ 14
        have hne : g ≠ w.heap.size := by have := hf.lo; have := hb0.inside; omega
        go_wp2
        refine bodyPost_ret (v := .agg #[.int .u8 2, .int .u8 0, .int .u8 (a / 16777216 % 256), .int .u8 (a / 65536 % 256), .int .u8 (a / 256 % 256), .int .u8 (a % 256), .int .u8 2, .int .u8 0, .int .u8 (b / 16777216 % 256), .int .u8 (b / 65536 % 256), .int .u8 (b / 256 % 256), .int .u8 (b % 256), .int .i64 vl, .int .i64 y, .slice A1 bs.length c1]) (by simp [results, Try.results24, go_sem, hz_0, hz_1, hz_2, hz_3, hz_4, hz_5, hz_6, hz_7, hz_8, hz_9, hz_10, hz_11, hz_12, hz_13, hz_14]) rfl ⟨a, b, vl, y, A1, bs.length, c1, bs, rfl, hf.ty, hf.vlan, ?_, ⟨rfl, hf.len, k1, k2, own_nil hf.own⟩, hf.ok, ?_⟩
        · exact Lies.own (own_only (g := w.heap.size) hf.own ((((((((((((((((OnlyBlock.refl _ _).setCell (by rfl) _).setCell (by rfl) _).setCell (by rfl) _).setCell (by rfl) _).setCell (by rfl) _).setCell (by rfl) _).setCell (by rfl) _).setCell (by rfl) _).setCell (by rfl) _).setCell (by rfl) _).setCell (by rfl) _).setCell (by rfl) _).setCell (by rfl) _).setCell (by rfl) _).setCell (by rfl) _) (own_apart hf.own hz (by decide)))
        · exact OnlyBlock.stays (g := w.heap.size) ((((((((((((((((OnlyBlock.refl _ _).setCell (by rfl) _).setCell (by rfl) _).setCell (by rfl) _).setCell (by rfl) _).setCell (by rfl) _).setCell (by rfl) _).setCell (by rfl) _).setCell (by rfl) _).setCell (by rfl) _).setCell (by rfl) _).setCell (by rfl) _).setCell (by rfl) _).setCell (by rfl) _).setCell (by rfl) _).setCell (by rfl) _) ((Stays.of_below hbel0).trans hf.stays) (Nat.le_refl _)
end Go.Proofs.Ytklolalgbcgdiaa
