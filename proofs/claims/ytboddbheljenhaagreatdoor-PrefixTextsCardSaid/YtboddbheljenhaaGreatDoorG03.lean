/-
  Bytes and texts: a slice of bytes that lies in memory, made a string. No program is named here.
-/
import Derived.Test.YtboddbheljenhaaGreatDoorG02
import Derived.Laws.BytesArg
import Derived.Laws.BytesString
import Derived.Laws.Strings
import Derived.Laws.ResultCell
namespace Go.Proofs.YtboddbheljenhaaGreatDoor
open Go.RowKit

theorem conv_bytes {P : Program} {B n c : Nat} {A : Option Addr} {xs : List Int} {w : World} {src dst e : TypeId} (hs : P.underlying src = some (.slice e)) (he : P.underlying e = some (.int .u8)) (hd : P.underlying dst = some .string)
    (h : Lies B A (xs.map (Value.int .u8)) w) (hl : xs.length = n) : (convert src dst (.slice A n c)).run P w = .ok (.string (strOfNums xs)) w := by
  cases A with
  | none =>
    have : n = 0 := by
      rcases Nat.eq_zero_or_pos n with h' | h'
      · exact h'
      · obtain ⟨a, v, h1, -⟩ := h 0 (by simp; omega)
        cases h1
    subst this
    obtain rfl : xs = [] := by cases xs <;> simp_all
    exact run_convert_bytes_nil w src e hs he 0 c dst hd
  | some a =>
    have hl' : (loadCells a n).run P w = .ok (xs.map (Value.int .u8)).toArray w := by
      have := run_loadCells_list (P := P) w a (xs.map (Value.int .u8)) (fun j v hj => by
        have hjl : j < (xs.map (Value.int .u8)).length := by
          rcases Nat.lt_or_ge j (xs.map (Value.int .u8)).length with h | h
          · exact h
          · rw [List.getElem?_eq_none h] at hj; cases hj
        obtain ⟨a', v', h1, _, h2, h3⟩ := h j hjl
        injection h1 with h1
        subst h1
        rw [h2] at hj
        injection hj with hj
        rw [h3, hj])
      simpa [hl] using this
    rw [run_convert_bytes_string w src dst e _ n c hs he hd, run_bytesToString w _ n c xs hl', foldl_push_bytes]
    simp [strOfNums, ByteArray.empty, ByteArray.emptyWithCapacity]
    rfl

theorem nums_list (xs : List Int) : (strOfNums xs).data.toList = xs.map fun n => UInt8.ofNat n.toNat := rfl
def bytesOf (s : ByteArray) : List Int := s.data.toList.map fun b => (b.toNat : Int)
end Go.Proofs.YtboddbheljenhaaGreatDoor
namespace Go.Proofs.YtboddbheljenhaaGreatDoor
open Go.RowKit
end Go.Proofs.YtboddbheljenhaaGreatDoor
