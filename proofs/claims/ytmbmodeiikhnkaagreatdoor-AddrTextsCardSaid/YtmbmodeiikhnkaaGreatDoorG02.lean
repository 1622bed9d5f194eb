/-
  Bytes and texts: a slice of bytes that lies in memory, made a string. No program is named here.
-/
import Derived.Test.YtmbmodeiikhnkaaGreatDoorG01
import Derived.Laws.BytesArg
import Derived.Laws.BytesString
import Derived.Laws.Strings
import Derived.Laws.ResultCell
namespace Go.Proofs.YtmbmodeiikhnkaaGreatDoor
open Go.RowKit

theorem conv_bytes {P : Program} {B n c : Nat} {A : Option Addr} {xs : List Int} {w : World} {src dst e : TypeId} (hs : P.underlying src = some (.slice e)) (he : P.underlying e = some (.int .u8)) (hd : P.underlying dst = some .string)
    (h : Lies B A (xs.map (Value.int .u8)) w) (hl : xs.length = n) : (convert src dst (.slice A n c)).run P w = .ok (.string (strOfNums xs)) w := by
  cases A with
  | none =>
    have : n = 0 := by
      rcases Nat.eq_zero_or_pos n with h' | h'
      · exact h'
      · obtain ⟨a, v, h1, -⟩ := h 0 (by simp; omega)
        cases h1
    subst this
    obtain rfl : xs = [] := by cases xs <;> simp_all
    exact run_convert_bytes_nil w src e hs he 0 c dst hd
  | some a =>
    have hl' : (loadCells a n).run P w = .ok (xs.map (Value.int .u8)).toArray w := by
      have := run_loadCells_list (P := P) w a (xs.map (Value.int .u8)) (fun j v hj => by
        have hjl : j < (xs.map (Value.int .u8)).length := by
          rcases Nat.lt_or_ge j (xs.map (Value.int .u8)).length with h | h
          · exact h
          · rw [List.getElem?_eq_none h] at hj; cases hj
        obtain ⟨a', v', h1, _, h2, h3⟩ := h j hjl
        injection h1 with h1
        subst h1
        rw [h2] at hj
        injection hj with hj
        rw [h3, hj])
      simpa [hl] using this
    rw [run_convert_bytes_string w src dst e _ n c hs he hd, run_bytesToString w _ n c xs hl', foldl_push_bytes]
    simp [strOfNums, ByteArray.empty, ByteArray.emptyWithCapacity]
    rfl

theorem nums_list (xs : List Int) : (strOfNums xs).data.toList = xs.map fun n => UInt8.ofNat n.toNat := rfl
theorem nums_inj : ∀ {xs ys : List Int}, (∀ z ∈ xs, 0 ≤ z ∧ z < 256) → (∀ z ∈ ys, 0 ≤ z ∧ z < 256) → (xs.map fun n => UInt8.ofNat n.toNat) = (ys.map fun n => UInt8.ofNat n.toNat) → xs = ys
  | [], [], _, _, _ => rfl
  | [], y :: ys, _, _, h => by simp at h
  | x :: xs, [], _, _, h => by simp at h
  | x :: xs, y :: ys, hx, hy, h => by
    simp only [List.map_cons, List.cons.injEq] at h
    have h1 := hx x List.mem_cons_self
    have h2 := hy y List.mem_cons_self
    have e : x = y := by
      have := congrArg UInt8.toNat h.1
      simp at this
      omega
    rw [e, nums_inj (fun z hz => hx z (List.mem_cons_of_mem _ hz)) (fun z hz => hy z (List.mem_cons_of_mem _ hz)) h.2]
theorem nums_eq {xs ys : List Int} (hx : ∀ z ∈ xs, 0 ≤ z ∧ z < 256) (hy : ∀ z ∈ ys, 0 ≤ z ∧ z < 256) : ((strOfNums xs).data.toList == (strOfNums ys).data.toList) = (xs == ys) := by
  rw [Bool.eq_iff_iff, beq_iff_eq, beq_iff_eq]
  exact ⟨fun h => nums_inj hx hy h, fun h => by rw [h]⟩
/-- A byte of a string. -/
theorem run_at {P : Program} {t : TypeId} (ht : P.underlying t = some .string) (zs : List Int) (hz : ∀ z ∈ zs, 0 ≤ z ∧ z < 256) (k : IntKind) (i : Int) (n : Nat) (hi : i = n) (hn : n < zs.length) (w : World) :
    (Instr.index t (.string (strOfNums zs)) (.int k i)).run P w = .ok (.int .u8 (zs.getD n 0)) w := by
  subst hi
  rw [run_index_string w t _ k _ ht]
  have hs : (strOfNums zs).size = zs.length := strOfNums_size zs
  have hb := hz _ (List.getElem_mem hn)
  have hcond : 0 ≤ (n : Int) ∧ (n : Int) < (strOfNums zs).size := by omega
  rw [dif_pos hcond]
  have e : ((strOfNums zs)[(n : Int).toNat]'(by omega)) = UInt8.ofNat zs[n].toNat := by
    show ((strOfNums zs).data[(n : Int).toNat]'(by have : (strOfNums zs).data.size = zs.length := hs; omega)) = _
    simp [strOfNums]
  rw [e]
  have e2 : ((UInt8.ofNat zs[n].toNat).toNat : Int) = zs[n] := by simp; omega
  rw [e2]
  simp [List.getD_eq_getElem?_getD, hn]
def bytesOf (s : ByteArray) : List Int := s.data.toList.map fun b => (b.toNat : Int)
theorem bytesOf_ok (s : ByteArray) : ∀ z ∈ bytesOf s, 0 ≤ z ∧ z < 256 := by
  intro z hz
  unfold bytesOf at hz
  obtain ⟨b, _, rfl⟩ := List.mem_map.1 hz
  have := b.toNat_lt
  omega
theorem bytesOf_eq (s : ByteArray) : strOfNums (bytesOf s) = s := by
  obtain ⟨⟨l⟩⟩ := s
  simp [strOfNums, bytesOf, Function.comp_def]
end Go.Proofs.YtmbmodeiikhnkaaGreatDoor
namespace Go.Proofs.YtmbmodeiikhnkaaGreatDoor
open Go.RowKit
theorem ret_box2 {P : Program} {W : World} {Z : Nat} {t : TypeId} {cs : Array Value} {f : Func} {R : Ending → World → Prop} {a : Act} {d : TypeDesc} {p u : Tmp} {v : Value} (h : f.results = #[.cell p t, .tmp u]) (hu : P.underlying t = some d) (hd : (match d with | .struct _ | .array _ _ => true | _ => false) = true) (hi : (P.info? t).map (·.size) = some cs.size)
    (hp : a.tmps.getD p undef = .pointer (some ⟨Z, 0, none⟩)) (hv : a.tmps.getD u undef = v) (hb : Box Z t cs W) (hdf : a.defers = []) (hr : R (.returned (.tuple #[.agg cs, v])) W) : bodyPost P f R .ret a W := by
  refine bodyPost_ret (v := .tuple #[.agg cs, v]) ?_ hdf hr
  rw [results_cell_tmp h, hp, hv]
  simp only [asAddr, Sem.run_pure, Result.andThen_ok, run_loadVar_row W Z t t cs (0, 0) d hb hu hd hi]
/-- A guarded load of a whole struct, where the guard holds. -/
theorem load_box_on {P : Program} {W : World} {Z : Nat} {t : TypeId} {cs : Array Value} {ops : Array Oper} {rest : List Oper} {a : Act} {Q : Exit → Act → World → Prop} {d : TypeDesc} {dst p : Tmp} {t0 : TypeId} {s0 : String} {f0 : Array Edge} {g : Nat} {b c : Bool} {u : Tmp}
    (hg : dstOf ops g = some u) (hc : a.eval (.tmp u) = .bool c) (hcb : (c == b) = true) (hu : P.underlying t = some d) (hd : (match d with | .struct _ | .array _ _ => true | _ => false) = true) (hi : (P.info? t).map (·.size) = some cs.size) (hp : a.eval (.tmp p) = .pointer (some ⟨Z, 0, none⟩)) (hb : Box Z t cs W)
    (h : wpList P ops Q rest (a.put (some dst) (.agg cs)) W) : wpList P ops Q (⟨some dst, .load t (.tmp p), t0, s0, f0, some (g, b)⟩ :: rest) a W := by
  refine wpList_step fun K hK => ?_
  rw [wanted_is (o := ⟨some dst, .load t (.tmp p), t0, s0, f0, some (g, b)⟩) rfl hg hc, if_pos hcb]
  have h2 := run_load_box (P := P) (W := W) (ρ := a.eval) (o := ⟨some dst, .load t (.tmp p), t0, s0, f0, some (g, b)⟩) rfl hp hu hd hi hb
  unfold Oper.wp
  rw [h2]
  exact hK _ _ h
end Go.Proofs.YtmbmodeiikhnkaaGreatDoor
