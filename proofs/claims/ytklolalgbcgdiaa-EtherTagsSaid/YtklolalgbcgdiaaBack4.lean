/-
  Layer 4: what is decoded out of a frame's bytes is the frame.
-/
import Derived.Test.YtklolalgbcgdiaaDecode4
namespace Go.Proofs.Ytklolalgbcgdiaa
open Go.RowKit

theorem dec_back (d0 d1 d2 d3 d4 d5 d6 d7 d8 d9 d10 d11 : Int) (vl y : Int) (bs : List Int) (hok : frameOk vl y bs.length = true) :
    decErr (frameBytes [d0, d1, d2, d3, d4, d5, d6, d7, d8, d9, d10, d11] vl y bs) = 0 ∧ decVlan (frameBytes [d0, d1, d2, d3, d4, d5, d6, d7, d8, d9, d10, d11] vl y bs) = vl ∧ wordAt (frameBytes [d0, d1, d2, d3, d4, d5, d6, d7, d8, d9, d10, d11] vl y bs) (decOff (frameBytes [d0, d1, d2, d3, d4, d5, d6, d7, d8, d9, d10, d11] vl y bs)) = y ∧ (frameBytes [d0, d1, d2, d3, d4, d5, d6, d7, d8, d9, d10, d11] vl y bs).drop (decOff (frameBytes [d0, d1, d2, d3, d4, d5, d6, d7, d8, d9, d10, d11] vl y bs) + 2) = bs := by
  have hk : 0 ≤ vl ∧ vl ≤ 4094 ∧ 1536 ≤ y ∧ y ≤ 65535 ∧ y ≠ 33024 ∧ bs.length ≤ 1500 := by simp [frameOk, typeOk] at hok; omega
  obtain ⟨v0, v1, y0, y1, y2, hm⟩ := hk
  have ht : typeOk y = true := by simp [frameOk] at hok; exact hok.1.2
  have ey : y / 256 * 256 + y % 256 = y := by omega
  have ev : vl / 256 * 256 + vl % 256 = vl := by omega
  by_cases hv : vl = 0
  · subst hv
    have e : frameBytes [d0, d1, d2, d3, d4, d5, d6, d7, d8, d9, d10, d11] 0 y bs = [d0, d1, d2, d3, d4, d5, d6, d7, d8, d9, d10, d11] ++ (y / 256 :: y % 256 :: bs) := by simp [frameBytes]
    have hw : wordAt ([d0, d1, d2, d3, d4, d5, d6, d7, d8, d9, d10, d11] ++ (y / 256 :: y % 256 :: bs)) 12 = y := by simp [wordAt, ey]
    have ho : decOff ([d0, d1, d2, d3, d4, d5, d6, d7, d8, d9, d10, d11] ++ (y / 256 :: y % 256 :: bs)) = 12 := by unfold decOff; rw [hw, if_neg y2]
    rw [e]
    refine ⟨?_, ?_, ?_, ?_⟩
    · unfold decErr; rw [hw, if_neg (by simp), if_neg y2]
      unfold decEnd; rw [hw, ht, if_neg (by simp), if_neg (by simp; omega)]
    · unfold decVlan; rw [hw, if_neg y2]
    · rw [ho, hw]
    · rw [ho]; rfl
  · have e : frameBytes [d0, d1, d2, d3, d4, d5, d6, d7, d8, d9, d10, d11] vl y bs = [d0, d1, d2, d3, d4, d5, d6, d7, d8, d9, d10, d11] ++ (129 :: 0 :: vl / 256 :: vl % 256 :: y / 256 :: y % 256 :: bs) := by simp [frameBytes, hv]
    have hw : wordAt ([d0, d1, d2, d3, d4, d5, d6, d7, d8, d9, d10, d11] ++ (129 :: 0 :: vl / 256 :: vl % 256 :: y / 256 :: y % 256 :: bs)) 12 = 33024 := by simp [wordAt]
    have hw4 : wordAt ([d0, d1, d2, d3, d4, d5, d6, d7, d8, d9, d10, d11] ++ (129 :: 0 :: vl / 256 :: vl % 256 :: y / 256 :: y % 256 :: bs)) 14 = vl := by simp [wordAt, ev]
    have hw6 : wordAt ([d0, d1, d2, d3, d4, d5, d6, d7, d8, d9, d10, d11] ++ (129 :: 0 :: vl / 256 :: vl % 256 :: y / 256 :: y % 256 :: bs)) 16 = y := by simp [wordAt, ey]
    have ho : decOff ([d0, d1, d2, d3, d4, d5, d6, d7, d8, d9, d10, d11] ++ (129 :: 0 :: vl / 256 :: vl % 256 :: y / 256 :: y % 256 :: bs)) = 16 := by unfold decOff; rw [hw, if_pos rfl]
    have hd : decVlan ([d0, d1, d2, d3, d4, d5, d6, d7, d8, d9, d10, d11] ++ (129 :: 0 :: vl / 256 :: vl % 256 :: y / 256 :: y % 256 :: bs)) = vl := by unfold decVlan; rw [hw, if_pos rfl, hw4]; omega
    rw [e]
    refine ⟨?_, hd, ?_, ?_⟩
    · unfold decErr; rw [hw, hd, if_neg (by simp), if_pos rfl, if_neg (by simp), if_neg (by omega)]
      unfold decEnd; rw [hw6, ht, if_neg (by simp), if_neg (by simp; omega)]
    · rw [ho, hw6]
    · rw [ho]; rfl

theorem frame_ok (d0 d1 d2 d3 d4 d5 d6 d7 d8 d9 d10 d11 : Int) (vl y : Int) (bs : List Int) (hd : ∀ z ∈ [d0, d1, d2, d3, d4, d5, d6, d7, d8, d9, d10, d11], 0 ≤ z ∧ z < 256) (hz : ∀ z ∈ bs, 0 ≤ z ∧ z < 256) (hok : frameOk vl y bs.length = true) : ∀ z ∈ frameBytes [d0, d1, d2, d3, d4, d5, d6, d7, d8, d9, d10, d11] vl y bs, 0 ≤ z ∧ z < 256 := by
  have hk : 0 ≤ vl ∧ vl ≤ 4094 ∧ 1536 ≤ y ∧ y ≤ 65535 := by simp [frameOk, typeOk] at hok; omega
  intro z h
  unfold frameBytes at h
  rw [List.mem_append, List.mem_append, List.mem_append] at h
  rcases h with ((h | h) | h) | h
  · exact hd z h
  · split at h
    · cases h
    · simp at h; omega
  · simp at h; omega
  · exact hz z h

/-- A frame's bytes are read as the frame. -/
theorem decode_back (d0 d1 d2 d3 d4 d5 d6 d7 d8 d9 d10 d11 : Int) (vl y : Int) (bs : List Int) (m : Nat) (A : Option Addr) (n c : Nat) (w : World) (hm : bs.length = m) (hok : frameOk vl y m = true) (hd : ∀ z ∈ [d0, d1, d2, d3, d4, d5, d6, d7, d8, d9, d10, d11], 0 ≤ z ∧ z < 256) (hz : ∀ z ∈ bs, 0 ≤ z ∧ z < 256)
    (hl : (frameBytes [d0, d1, d2, d3, d4, d5, d6, d7, d8, d9, d10, d11] vl y bs).length = n) (hnc : n ≤ c) (hcm : c ≤ 9223372036854775807) (hlies : Lies w.heap.size A ((frameBytes [d0, d1, d2, d3, d4, d5, d6, d7, d8, d9, d10, d11] vl y bs).map (Value.int .u8)) w) :
    Calls Try.prog 30 #[.slice A n c] w fun e w' => ∃ A' c', e = .returned (.tuple #[.agg #[.int .u8 d0, .int .u8 d1, .int .u8 d2, .int .u8 d3, .int .u8 d4, .int .u8 d5, .int .u8 d6, .int .u8 d7, .int .u8 d8, .int .u8 d9, .int .u8 d10, .int .u8 d11, .int .i64 vl, .int .i64 y, .slice A' m c'], .int .i64 0]) ∧ (m ≤ c' ∧ (A' = none → c' = 0)) ∧ w'.ownsRow w.heap.size 5 1 (.slice A' m c') m (bs.map (Value.int .u8)) ∧ Below w.heap.size w w' := by
  subst hm
  obtain ⟨e0, e1, e2, e3⟩ := dec_back d0 d1 d2 d3 d4 d5 d6 d7 d8 d9 d10 d11 vl y bs hok
  have hm : bs.length ≤ 1500 := by simp [frameOk] at hok; omega
  have hlen : (frameBytes [d0, d1, d2, d3, d4, d5, d6, d7, d8, d9, d10, d11] vl y bs).length ≤ 1518 := by unfold frameBytes; split <;> simp <;> omega
  refine (decode_any A n c (frameBytes [d0, d1, d2, d3, d4, d5, d6, d7, d8, d9, d10, d11] vl y bs) w hl (frame_ok d0 d1 d2 d3 d4 d5 d6 d7 d8 d9 d10 d11 vl y bs hd hz hok) (by omega) hnc hcm hlies).mono ?_
  rintro e w' ⟨hbel, ⟨h1, -⟩ | ⟨-, s, rfl, hown⟩⟩
  · exact absurd e0 h1
  · rw [e1, e2]
    rw [e3] at hown
    obtain ⟨A', c', rfl, k1, k2, k3, k4⟩ := own_open hown
    exact ⟨A', c', rfl, ⟨k1, own_nil hown⟩, hown, hbel⟩
theorem frameOk_vlan {v y : Int} {m : Nat} (h : frameOk 0 y m = true) (h0 : 0 ≤ v) (h1 : v ≤ 4094) : frameOk v y m = true := by
  unfold frameOk at h ⊢
  simp only [Bool.and_eq_true, decide_eq_true_eq] at h ⊢
  exact ⟨⟨⟨h0, h1⟩, h.1.2⟩, h.2⟩
end Go.Proofs.Ytklolalgbcgdiaa
