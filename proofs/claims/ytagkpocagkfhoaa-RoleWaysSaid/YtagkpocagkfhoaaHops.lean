/-
  The maker of hops.
-/
import Derived.Test.YtagkpocagkfhoaaHops9
namespace Go.Proofs.Ytagkpocagkfhoaa
open Go.RowKit
section
variable {P : Program} {w : World}
/-- One more element of several cells behind what the call owns. -/
theorem push_cells {ops : Array Oper} {rest : List Oper} {o : Oper} {a : Act} {Q : Exit → Act → World → Prop} (hgd : o.guard = none) (s x : Operand) (t : TypeId)
    (ho : o.op = .call { callee := .builtin .append, args := #[s, x], argTypes := #[t, t] })
    (base : Nat) (e : TypeId) (z : Value) (size bytes : Nat) (ht : P.underlying t = some (.slice e)) (hi : (P.info? e).map (fun i => (i.zero, i.size, i.bytes)) = some (some z, size, bytes)) (hz : z.cells.size = size) (hsz : 0 < size) (hby : bytes ≤ 1000)
    (v : Value) (n : Nat) (xs : List Value) (hs : a.eval s = v) (hown : w.ownsRow base e size v n xs) (us : List Value) (hul : us.length = size)
    (hx : a.eval x = .slice (some ⟨w.heap.size, 0, none⟩) 1 1) (hu : ∀ u ∈ us, u.oneCell' = true) (hN : n + 1 ≤ 1000000) (hbase : base ≤ w.heap.size)
    (h : ∀ v' w', w'.ownsRow base e size v' (n + 1) (xs ++ us) → (w.alloc (.cells us.toArray e)).grownBy w' v.ownBlock → wpList P ops Q rest (a.put o.dst v') w') : wpList P ops Q (o :: rest) a (w.alloc (.cells us.toArray e)) := by
  obtain ⟨i0, hi0, h1, h2, h3⟩ := info_parts hi
  refine wpList_append_own _ hgd s x t ho base e i0 z size bytes ht hi0 h1 h2 h3 hz hsz v n xs hs (hown.alloc _) ⟨w.heap.size, 0, none⟩ 1 1 us hx (by omega) ?_ hu (by unfold maxLen; omega) ?_ (by simp; omega) (fun v' w' h3 h4 _ => h v' w' h3 h4)
  · intro j u' hj
    have e1 : (⟨w.heap.size, 0, none⟩ : Addr).add j = ⟨w.heap.size, j, none⟩ := by unfold Addr.add; split <;> simp_all
    rw [e1]
    have hb : (w.alloc (.cells us.toArray e)).heap[w.heap.size]? = some (.cells us.toArray e (0, 0)) := heap_alloc_new w _
    rw [cell_of_row _ w.heap.size j us.toArray e (0, 0) hb]
    simpa using hj
  · calc (n + 1) * bytes ≤ 1000000 * 1000 := Nat.mul_le_mul hN hby
      _ ≤ _ := by omega
end
def flat (hs : List HopZ) : List Value := hs.flatMap fun h => [.int .i64 h.src, .int .i64 h.dst, .int .i64 h.role]
theorem flat_at : ∀ (hs : List HopZ) (i : Nat) (h : HopZ), hs[i]? = some h → (flat hs)[i * 3]? = some (.int .i64 h.src) ∧ (flat hs)[i * 3 + 1]? = some (.int .i64 h.dst) ∧ (flat hs)[i * 3 + 2]? = some (.int .i64 h.role)
  | [], i, h, e => by simp at e
  | x :: t, 0, h, e => by injection e with e; subst e; exact ⟨rfl, rfl, rfl⟩
  | x :: t, i + 1, h, e => by
    have ih := flat_at t i h (by simpa using e)
    rw [show (i + 1) * 3 = i * 3 + 3 by omega]
    exact ih
theorem flat_snoc (hs : List HopZ) (h : HopZ) : flat (hs ++ [h]) = flat hs ++ [.int .i64 h.src, .int .i64 h.dst, .int .i64 h.role] := by simp [flat]
theorem flat_len (hs : List HopZ) : (flat hs).length = hs.length * 3 := by
  induction hs with
  | nil => rfl
  | cons x t ih => simp only [flat, List.flatMap_cons, List.length_append, List.length_cons, List.length_nil] at ih ⊢; omega
theorem hops_of_own {w : World} {base : Nat} {v : Value} {hs : List HopZ} {m : Nat} (hm : m = hs.length) (h : w.ownsRow base 56 3 v m (flat hs)) : ∃ A c, v = .slice A m c ∧ HopsAt w.heap.size A hs w := by
  subst hm
  rcases h.2 with ⟨rfl, h0⟩ | ⟨g, cap, cur, rfl, hb, hg, h1, h2, h3, h4⟩
  · refine ⟨none, 0, by rw [h0], fun i x hx => ?_⟩
    have : hs = [] := List.eq_nil_of_length_eq_zero h0
    subst this
    simp at hx
  · refine ⟨_, cap, rfl, fun i x hx => ?_⟩
    have hi : i < hs.length := by
      rcases Nat.lt_or_ge i hs.length with h' | h'
      · exact h'
      · rw [List.getElem?_eq_none h'] at hx; cases hx
    obtain ⟨f1, f2, f3⟩ := flat_at hs i x hx
    have cell : ∀ k u, k < hs.length * 3 → (flat hs)[k]? = some u → w.cell? ⟨g, 0 + k, none⟩ = some u := fun k u hk hu => by
      rw [Nat.zero_add, cell_of_row w g k cur _ (0, 0) hg]
      rw [← h4, List.getElem?_take_of_lt (by omega)] at hu
      simpa using hu
    refine ⟨g, 0, rfl, (Array.getElem?_eq_some_iff.1 hg).1, cell _ _ (by omega) f1, ?_, ?_⟩
    · exact cell (i * 3 + 1) _ (by omega) f2
    · exact cell (i * 3 + 2) _ (by omega) f3
theorem infoH : (Try.prog.info? 56).map (fun i => (i.zero, i.size, i.bytes)) = some (some (.agg #[.int .i64 0, .int .i64 0, .int .i64 0]), 3, 24) := by kernel_rfl
set_option maxRecDepth 100000 in
set_option maxHeartbeats 4000000 in
theorem hops_any (D : Nat) (A : Option Addr) (n c : Nat) (zs : List Int) (w : World) (hd : Deck D A n c zs w) :
    Calls Try.prog 14 #[.pointer (some ⟨D, 0, none⟩)] w fun e w' => ∃ (A' : Option Addr) (c' : Nat) (hs : List HopZ), e = .returned (.slice A' hs.length c') ∧ hs.length ≤ 8 ∧ HopsAt w'.heap.size A' hs w' ∧ Stays (· = D) w w' := by
  have hDin := hd.inside
  go_enter Try.func14, Try.ntmps14
  go_wp2_with fail
  refine (next_any D A n c zs 5 _ (by omega) (by omega) hd).mono ?_
  rintro e w1 ⟨r1, rfl, ⟨p0, p1⟩, hd1, hs1⟩
  go_wp2_with fail
  refine (next_any D A n c zs 9 _ (by omega) (by omega) hd1).mono ?_
  rintro e w2 ⟨r2, rfl, ⟨q0, q1⟩, hd2, hs2⟩
  have hs12 := hs1.trans hs2
  clear hd hd1 hs1 hs2
  obtain ⟨K0, rfl⟩ : ∃ K0 : Nat, r2 = K0 := ⟨r2.toNat, by omega⟩
  go_wp2_with fail
  go_loopw [3, 4, 5, 6] (fun out t kd k wr => ∃ (hs : List HopZ) (a : Int) (kk K : Nat), t = .int .i64 a ∧ kd = .int .i64 kk ∧ kk ≤ 2 ∧ k = .int .i64 K ∧ K + hs.length ≤ 8 ∧ wr.ownsRow w.heap.size 56 3 out hs.length (flat hs) ∧ Deck D A n c zs wr ∧ Stays (· = D) w wr) (fun _ _ _ k _ => (intOf k).toNat)
  case atStart => exact ⟨[], 1 + r1, 0, K0, by go_num, rfl, by omega, rfl, by simp; omega, World.ownsRow_nil _ _ _ _, hd2, hs12⟩
  case round =>
    obtain ⟨hs, a, kk, K, rfl, rfl, hkk, rfl, hK, hown, hdk, hst⟩ := hrel
    rcases K with _ | K
    · obtain ⟨A', c', rfl, hho⟩ := hops_of_own rfl hown
      go_wp2
      go_ret
      exact ⟨A', c', hs, rfl, by omega, hho, hst⟩
    · have k0 : (K : Int) + 1 > 0 := by omega
      go_wp2_with fail
      refine (next_any D A n c zs 6 _ (by omega) (by omega) hdk).mono ?_
      rintro e w1 ⟨r1, rfl, ⟨p0, p1⟩, hd1, hs1⟩
      have own1 := own_stays hown hs1 (fun k h => by subst h; exact hDin)
      have st1 := hst.trans hs1
      have hd1i := hd1.inside
      clear hown hdk
      have hb1 := Box.made w1 56 #[.int .i64 a, .int .i64 (1 + r1), .int .i64 0]
      have own2 := own1.alloc (.cells #[.int .i64 a, .int .i64 (1 + r1), .int .i64 0] 56)
      have st2 : Stays (· = D) w (w1.alloc (.cells #[.int .i64 a, .int .i64 (1 + r1), .int .i64 0] 56)) := st1.trans (Stays.alloc _ _ _)
      have hd2 := hd1.stays ((Below.refl _ _).alloc (Nat.le_refl _) (.cells #[.int .i64 a, .int .i64 (1 + r1), .int .i64 0] 56))
      go_upto_region 8 with fail
      obtain ⟨H, hH⟩ : ∃ x, x = w1.heap.size := ⟨_, rfl⟩
      have hHD : ¬ H = D := by omega
      have hHw : w.heap.size ≤ H := by have := st1.size; omega
      have hvH : ∀ j, (Value.ownBlock _) = some j → j < H := fun j hj => by rw [hH]; exact (own1.lt j hj).2
      rw [← hH] at hb1
      rw [← hH]
      clear hH own1 st1 hd1
      go_wp2_with fail
      refine (next_any D A n c zs 5 _ (by omega) (by omega) hd2).mono ?_
      rintro e w2 ⟨r2, rfl, ⟨q0, q1⟩, hd3, hs3⟩
      have hb2 := box_stays hb1 hs3 hHD
      have own3 := own_stays own2 hs3 (fun k h => by subst h; exact hDin)
      have st3 := st2.trans hs3
      clear own2 st2 hd2 hb1 hs3
      obtain ⟨kn, hkn, hk2⟩ : ∃ kn : Nat, (if (kk : Int) < r2 - 2 then r2 - 2 else (kk : Int)) = kn ∧ kn ≤ 2 := by
        by_cases hlt : (kk : Int) < r2 - 2
        · rw [if_pos hlt]; exact ⟨(r2 - 2).toNat, by omega, by omega⟩
        · rw [if_neg hlt]; exact ⟨kk, rfl, hkk⟩
      go_upto_region 9 with fail
      clear hkn
      have hH2 := hb2.inside
      have hDH : D < H := by omega
      go_cut [] (fun wx => ∃ z : Int, Stays (· = D) w wx ∧ Deck D A n c zs wx ∧ Box H 56 #[.int .i64 a, .int .i64 (1 + r1), .int .i64 z] wx ∧ wx.ownsRow w.heap.size 56 3 u3 hs.length (flat hs))
      case first =>
        rcases (show kn = 0 ∨ kn = 1 ∨ kn = 2 by omega) with rfl | rfl | rfl
        · refine hops9_0 D H A n c zs a (1 + r1) 0 w2 hd3 hb2 hHD _ _ _ _ _ _ _ _ _ _ _ _ _ _ _ _ _ _ _ _ _ _ _ _ _ _ _ _ _ _ _ _ _ _ _ _ _ _ _ _ _ _ _ _ _ _ _ _ _ _ _ _ _ _ _ _ (fun W z u27 u28 u29 u30 u31 u32 u33 u34 u35 u36 u37 u38 hsW hdW hbW => ?_)
          have hown := own_stays own3 hsW (fun k h => by subst h; exact hDin)
          have hH3 := (st3.trans hsW)
          go_wp2
          go_meet
          have ob : OnlyBlock H W (W.setCell ⟨H, 2, none⟩ (.int .i64 z)) := (OnlyBlock.refl H W).setCell (p := ⟨H, 2, none⟩) rfl _
          exact ⟨z, OnlyBlock.stays ob hH3 hHw, hdW.only ob hDH, by simpa using hbW.put 2 (.int .i64 z), own_only hown ob (fun e => absurd (hvH _ e) (Nat.lt_irrefl _))⟩
        · refine hops9_1 D H A n c zs a (1 + r1) 0 w2 hd3 hb2 hHD _ _ _ _ _ _ _ _ _ _ _ _ _ _ _ _ _ _ _ _ _ _ _ _ _ _ _ _ _ _ _ _ _ _ _ _ _ _ _ _ _ _ _ _ _ _ _ _ _ _ _ _ _ _ _ _ (fun W z u27 u28 u29 u30 u31 u32 u33 u34 u35 u36 u37 u38 hsW hdW hbW => ?_)
          have hown := own_stays own3 hsW (fun k h => by subst h; exact hDin)
          have hH3 := (st3.trans hsW)
          go_wp2
          go_meet
          have ob : OnlyBlock H W (W.setCell ⟨H, 2, none⟩ (.int .i64 z)) := (OnlyBlock.refl H W).setCell (p := ⟨H, 2, none⟩) rfl _
          exact ⟨z, OnlyBlock.stays ob hH3 hHw, hdW.only ob hDH, by simpa using hbW.put 2 (.int .i64 z), own_only hown ob (fun e => absurd (hvH _ e) (Nat.lt_irrefl _))⟩
        · refine hops9_2 D H A n c zs a (1 + r1) 0 w2 hd3 hb2 hHD _ _ _ _ _ _ _ _ _ _ _ _ _ _ _ _ _ _ _ _ _ _ _ _ _ _ _ _ _ _ _ _ _ _ _ _ _ _ _ _ _ _ _ _ _ _ _ _ _ _ _ _ _ _ _ _ (fun W z u27 u28 u29 u30 u31 u32 u33 u34 u35 u36 u37 u38 hsW hdW hbW => ?_)
          have hown := own_stays own3 hsW (fun k h => by subst h; exact hDin)
          have hH3 := (st3.trans hsW)
          go_wp2
          go_meet
          have ob : OnlyBlock H W (W.setCell ⟨H, 2, none⟩ (.int .i64 z)) := (OnlyBlock.refl H W).setCell (p := ⟨H, 2, none⟩) rfl _
          exact ⟨z, OnlyBlock.stays ob hH3 hHw, hdW.only ob hDH, by simpa using hbW.put 2 (.int .i64 z), own_only hown ob (fun e => absurd (hvH _ e) (Nat.lt_irrefl _))⟩
      case rest =>
        obtain ⟨z, st4, hd4, hb4, own4⟩ := hcut
        have hH4 := hb4.inside
        go_wp2_with fail
        refine (next_any D A n c zs 16 _ (by omega) (by omega) hd4).mono ?_
        rintro e w3 ⟨r3, rfl, ⟨t0, t1⟩, hd5, hs5⟩
        have hb5 := box_stays hb4 hs5 hHD
        have own5 := own_stays own4 hs5 (fun k h => by subst h; exact hDin)
        have st5 := st4.trans hs5
        clear hb4 own4 st4 hd4 hs5 hd3 hb2 own3 st3
        by_cases e0 : r3 = 0
        · subst e0
          go_wp2_with fail
          refine (next_any D A n c zs 7 _ (by omega) (by omega) hd5).mono ?_
          rintro e w4 ⟨r5, rfl, ⟨v0, v1⟩, hd6, hs6⟩
          have hb6 := box_stays hb5 hs6 hHD
          have own6 := own_stays own5 hs6 (fun k h => by subst h; exact hDin)
          have st6 := st5.trans hs6
          have d0 := hb6.at_ 2; have d1 := hb6.open_ 2
          go_upto_region 15 with fail
          have ob : OnlyBlock H w4 (w4.setCell ⟨H, 2, none⟩ (.int .i64 (r5 - 1))) := (OnlyBlock.refl H w4).setCell (p := ⟨H, 2, none⟩) rfl _
          have hb7 : Box H 56 #[.int .i64 a, .int .i64 (1 + r1), .int .i64 (r5 - 1)] (w4.setCell ⟨H, 2, none⟩ (.int .i64 (r5 - 1))) := by simpa using hb6.put 2 (.int .i64 (r5 - 1))
          have own7 := own_only own6 ob (fun e => absurd (hvH _ e) (Nat.lt_irrefl _))
          have st7 := OnlyBlock.stays ob st6 hHw
          have hd7 := hd6.only ob hDH
          generalize w4.setCell ⟨H, 2, none⟩ (.int .i64 (r5 - 1)) = w5 at hb7 own7 st7 hd7
          clear d0 d1 ob hb6 own6 st6 hd6 hb5 own5 st5 hd5
          have c0 := hb7.at_ 0; have c1 := hb7.at_ 1; have c2 := hb7.at_ 2
          have sz := st7.size
          go_wp2_with (at_builtin; refine push_cells rfl _ _ 28 rfl w.heap.size 56 (.agg #[.int .i64 0, .int .i64 0, .int .i64 0]) 3 24 Try.underlying28 infoH rfl (by omega) (by omega) _ _ _ rfl own7 [.int .i64 a, .int .i64 (1 + r1), .int .i64 (r5 - 1)] rfl rfl (by simp [Value.oneCell']) (by omega) sz ?_)
          intro v8 w8 hown8 hgr8
          have st8 := (st7.trans (Stays.alloc _ _ _)).grown hgr8 (fun g hg => (own7.lt g hg).1)
          have hd8 := (hd7.stays ((Below.refl _ _).alloc (Nat.le_refl _) _)).grown hgr8 (fun g hg => by have := (own7.lt g hg).1; omega)
          go_wp2
          go_roundw
          case measure => simp [intOf]
          case rel => exact ⟨hs ++ [⟨a, 1 + r1, (r5 - 1)⟩], 1 + r1, kn, K, rfl, rfl, hk2, by go_num, by simp; omega, by rw [flat_snoc]; simpa using hown8, hd8, st8⟩
        · have e0' : (r3 == 0) = false := by simpa using e0
          by_cases e1 : r3 = 1
          · subst e1
            go_wp2_with fail
            refine (next_any D A n c zs 4 _ (by omega) (by omega) hd5).mono ?_
            rintro e w4 ⟨r5, rfl, ⟨v0, v1⟩, hd6, hs6⟩
            have hb6 := box_stays hb5 hs6 hHD
            have own6 := own_stays own5 hs6 (fun k h => by subst h; exact hDin)
            have st6 := st5.trans hs6
            have d0 := hb6.at_ 0; have d1 := hb6.open_ 0
            go_upto_region 15 with fail
            have ob : OnlyBlock H w4 (w4.setCell ⟨H, 0, none⟩ (.int .i64 r5)) := (OnlyBlock.refl H w4).setCell (p := ⟨H, 0, none⟩) rfl _
            have hb7 : Box H 56 #[.int .i64 r5, .int .i64 (1 + r1), .int .i64 z] (w4.setCell ⟨H, 0, none⟩ (.int .i64 r5)) := by simpa using hb6.put 0 (.int .i64 r5)
            have own7 := own_only own6 ob (fun e => absurd (hvH _ e) (Nat.lt_irrefl _))
            have st7 := OnlyBlock.stays ob st6 hHw
            have hd7 := hd6.only ob hDH
            generalize w4.setCell ⟨H, 0, none⟩ (.int .i64 r5) = w5 at hb7 own7 st7 hd7
            clear d0 d1 ob hb6 own6 st6 hd6 hb5 own5 st5 hd5
            have c0 := hb7.at_ 0; have c1 := hb7.at_ 1; have c2 := hb7.at_ 2
            have sz := st7.size
            go_wp2_with (at_builtin; refine push_cells rfl _ _ 28 rfl w.heap.size 56 (.agg #[.int .i64 0, .int .i64 0, .int .i64 0]) 3 24 Try.underlying28 infoH rfl (by omega) (by omega) _ _ _ rfl own7 [.int .i64 r5, .int .i64 (1 + r1), .int .i64 z] rfl rfl (by simp [Value.oneCell']) (by omega) sz ?_)
            intro v8 w8 hown8 hgr8
            have st8 := (st7.trans (Stays.alloc _ _ _)).grown hgr8 (fun g hg => (own7.lt g hg).1)
            have hd8 := (hd7.stays ((Below.refl _ _).alloc (Nat.le_refl _) _)).grown hgr8 (fun g hg => by have := (own7.lt g hg).1; omega)
            go_wp2
            go_roundw
            case measure => simp [intOf]
            case rel => exact ⟨hs ++ [⟨r5, 1 + r1, z⟩], 1 + r1, kn, K, rfl, rfl, hk2, by go_num, by simp; omega, by rw [flat_snoc]; simpa using hown8, hd8, st8⟩
          · have e1' : (r3 == 1) = false := by simpa using e1
            go_upto_region 15 with fail
            have c0 := hb5.at_ 0; have c1 := hb5.at_ 1; have c2 := hb5.at_ 2
            have sz := st5.size
            go_wp2_with (at_builtin; refine push_cells rfl _ _ 28 rfl w.heap.size 56 (.agg #[.int .i64 0, .int .i64 0, .int .i64 0]) 3 24 Try.underlying28 infoH rfl (by omega) (by omega) _ _ _ rfl own5 [.int .i64 a, .int .i64 (1 + r1), .int .i64 z] rfl rfl (by simp [Value.oneCell']) (by omega) sz ?_)
            intro v8 w8 hown8 hgr8
            have st8 := (st5.trans (Stays.alloc _ _ _)).grown hgr8 (fun g hg => (own5.lt g hg).1)
            have hd8 := (hd5.stays ((Below.refl _ _).alloc (Nat.le_refl _) _)).grown hgr8 (fun g hg => by have := (own5.lt g hg).1; omega)
            go_wp2
            go_roundw
            case measure => simp [intOf]
            case rel => exact ⟨hs ++ [⟨a, 1 + r1, z⟩], 1 + r1, kn, K, rfl, rfl, hk2, by go_num, by simp; omega, by rw [flat_snoc]; simpa using hown8, hd8, st8⟩
end Go.Proofs.Ytagkpocagkfhoaa
