/-
  Layer 2: the bits of a first and of a last address. No walk.
-/
import Derived.Test.YtboddbheljenhaaDoorG03
import Derived.Test.YtboddbheljenhaaDoorAbsE
namespace Go.Proofs.YtboddbheljenhaaDoor
open Go.RowKit
def khN (v : Bool) (n : Nat) : Nat := if v = true then 64 - n else 0
def klN (v : Bool) (n : Nat) : Nat := if v = true then min 64 (128 - n) else 32 - n
def wiN (v : Bool) : Nat := if v = true then 128 else 32
/-- A number without its last k bits, and with all of them. -/
def cutZ (x : Int) (k : Nat) : Int := x - x % 2 ^ k
def filZ (x : Int) (k : Nat) : Int := x - x % 2 ^ k + (2 ^ k - 1)
theorem two_pos (k : Nat) : (0 : Int) < 2 ^ k := Int.pow_pos (by decide)
theorem cast_pow (k : Nat) : ((2 ^ k : Nat) : Int) = (2 : Int) ^ k := Int.natCast_pow 2 k
theorem cutZ_nat (x k : Nat) : cutZ (x : Int) k = ((x - x % 2 ^ k : Nat) : Int) := by
  unfold cutZ
  rw [Int.ofNat_sub (Nat.mod_le _ _), Int.natCast_emod, cast_pow]
theorem filZ_nat (x k : Nat) : filZ (x : Int) k = ((x - x % 2 ^ k + (2 ^ k - 1) : Nat) : Int) := by
  have h := cutZ_nat x k
  have hp := Nat.two_pow_pos k
  unfold cutZ at h
  unfold filZ
  rw [h, Int.natCast_add, Int.ofNat_sub hp, cast_pow]
  rfl
theorem cutZ_zero (x : Int) : cutZ x 0 = x := by unfold cutZ; simp
theorem filZ_zero (x : Int) : filZ x 0 = x := by unfold filZ; simp
theorem cutZ_bd {x : Int} (k : Nat) (h : 0 ≤ x) : 0 ≤ cutZ x k ∧ cutZ x k ≤ x := by
  obtain ⟨X, rfl⟩ := Int.eq_ofNat_of_zero_le h
  rw [cutZ_nat]
  omega
theorem cutZ_mod (x : Int) (k : Nat) : cutZ x k % 2 ^ k = 0 := by
  unfold cutZ
  have e : x - x % 2 ^ k = 2 ^ k * (x / 2 ^ k) := by rw [Int.emod_def]; omega
  rw [e, Int.mul_emod_right]
theorem cutZ_idem (x : Int) (k : Nat) : cutZ (cutZ x k) k = cutZ x k := by
  rw [cutZ, cutZ_mod, Int.sub_zero]
/-- Of a number below 2 ^ m with k at most m: stays below. -/
theorem filZ_bd {x : Int} (k m : Nat) (h : 0 ≤ x) (hx : x < 2 ^ m) (hk : k ≤ m) : x ≤ filZ x k ∧ filZ x k < 2 ^ m := by
  obtain ⟨X, rfl⟩ := Int.eq_ofNat_of_zero_le h
  have hX : X < 2 ^ m := by have := cast_pow m; omega
  have hp := Nat.two_pow_pos k
  have hm : X % 2 ^ k < 2 ^ k := Nat.mod_lt _ hp
  rw [filZ_nat, ← cast_pow]
  have h1 : X - X % 2 ^ k + (2 ^ k - 1) < 2 ^ m := by
    rw [← nat_or X k]
    exact Nat.or_lt_two_pow hX (Nat.lt_of_lt_of_le (by omega) (Nat.pow_le_pow_right (by decide) hk))
  omega
def bitZ (x : Int) (b : Nat) : Int := x / 2 ^ b % 2
theorem bitZ_nat (x b : Nat) : bitZ (x : Int) b = ((x / 2 ^ b % 2 : Nat) : Int) := by
  unfold bitZ
  rw [Int.natCast_emod, Int.natCast_ediv, cast_pow]
  rfl
theorem bit_of (x b : Nat) : x / 2 ^ b % 2 = (x.testBit b).toNat := by
  rw [Nat.testBit_eq_decide_div_mod_eq]
  have : x / 2 ^ b % 2 < 2 := Nat.mod_lt _ (by decide)
  by_cases h : x / 2 ^ b % 2 = 1
  · rw [decide_eq_true h]; exact h
  · rw [decide_eq_false h]; simp; omega
theorem bitZ_cut (x : Int) (k b : Nat) (h : 0 ≤ x) : bitZ (cutZ x k) b = if b < k then 0 else bitZ x b := by
  obtain ⟨X, rfl⟩ := Int.eq_ofNat_of_zero_le h
  rw [cutZ_nat, bitZ_nat, bitZ_nat, bit_of, bit_of, ← clr_zero, clr_bit (Nat.zero_le _)]
  by_cases hb : b < k
  · simp [hb]
  · simp [hb]
theorem bitZ_fil (x : Int) (k b : Nat) (h : 0 ≤ x) : bitZ (filZ x k) b = if b < k then 1 else bitZ x b := by
  obtain ⟨X, rfl⟩ := Int.eq_ofNat_of_zero_le h
  rw [filZ_nat, bitZ_nat, bitZ_nat, bit_of, bit_of, ← sets_zero, sets_bit (Nat.zero_le _)]
  by_cases hb : b < k
  · simp [hb]
  · simp [hb]
end Go.Proofs.YtboddbheljenhaaDoor
namespace Go.Proofs.YtboddbheljenhaaDoor
open Go.RowKit
theorem opok_make_ro {P : Program} {k : Nat} {st : St} {o : Oper} {t e : TypeId} {l c : Operand} {K : IntKind} {m : Int} (ho : o.op = .makeSlice t l c) (hl : st.aop l = .val (.int .i64 m)) (hc : st.aop c = .val (.int .i64 m)) (ht : P.underlying t = some (.slice e))
    (hi : (P.info? e).map (fun i => (i.zero, i.size, i.bytes)) = some (some (.int K 0), 1, 1)) (h0 : 0 ≤ m) (h1 : m ≤ 16777216) :
    OpOk P k st o ⟨.ro (ints K (List.replicate m.toNat 0)), [], [], []⟩ :=
  opok_newro fun ψ prot w ρ hr hlt => by
    obtain ⟨i, hi0, hz0, hs0, hb0⟩ := info_parts hi
    have e1 := (hl ▸ hr l (by simp [ho, Op.operands])).val_eq
    have e2 := (hc ▸ hr c (by simp [ho, Op.operands])).val_eq
    have hrun := run_make (P := P) w t e i (.int K 0) ht hi0 hz0 .i64 .i64 m m h0 (Int.le_refl _) (by rw [hb0]; omega) (by omega)
    rw [hs0, Nat.mul_one] at hrun
    have ho1 := World.ownsRow_lit (base := 0) (size := 1) (e := e) w (madeCells (Value.cells (.int K 0)) m.toNat) m.toNat (Nat.zero_le _) (by unfold maxLen; omega) (by simp [size_madeCells])
    rw [made_zeros] at ho1
    refine ⟨.slice (some ⟨w.heap.size, 0, none⟩) m.toNat m.toNat, .cells (madeCells (Value.cells (.int K 0)) m.toNat) e (0, 0), by unfold execOp; simp only [ho, e1, e2, Sem.run_bind, hrun, Result.andThen_ok, Sem.run_pure], ?_⟩
    have el : (ints K (List.replicate m.toNat 0)).length = m.toNat := by simp
    have := ro_row (ψ := ψ) (prot := prot) (w := w.alloc (.cells (madeCells (Value.cells (.int K 0)) m.toNat) e (0, 0))) (t := e) (sz := 1) (cap := m.toNat) (bl := some w.heap.size) (es := ints K (List.replicate m.toNat 0)) (xs := (List.replicate m.toNat (0 : Int)).map (Value.int K)) (by rw [el]; exact ho1) (by rw [flat_ints]; exact vrels_zeros K _)
    rw [el] at this
    exact this.mono (fun _ _ _ h => h) fun b hb => ⟨hb.imp id fun h => by injection h with h; exact h.symm, rfl⟩
theorem runk_makeR {P : Program} {k : Nat} {ops : Array Oper} {N : Nat} {draw : Bool} {K : St → Prop} {o : Oper} {os : List Oper} {env : List (Nat × AVal)} {objs : Writes} {acc : List Tr} {d : Nat} {t e : TypeId} {l c : Operand} {J : IntKind} {m : Int} (hg : o.guard = none) (hd : o.dst = some d) (ho : o.op = .makeSlice t l c) (hl : (⟨env, objs⟩ : St).aop l = .val (.int .i64 m)) (hc : (⟨env, objs⟩ : St).aop c = .val (.int .i64 m)) (ht : P.underlying t = some (.slice e))
    (hs : sizeIs P e 1) (hz : (P.info? e).bind (·.zero) = some (.int J 0)) (hb : (P.info? e).map (·.bytes) = some 1) (h0 : 0 ≤ m) (h1 : m ≤ 16777216)
    (t : RunK P k ops N draw os ⟨(d, .ro (ints J (List.replicate m.toNat 0))) :: env, objs⟩ (⟨.ro (ints J (List.replicate m.toNat 0)), [], [], []⟩ :: acc) K) : RunK P k ops N draw (o :: os) ⟨env, objs⟩ acc K := by
  cases hi : P.info? e with
  | none => rw [hi] at hz; cases hz
  | some i =>
    unfold sizeIs at hs
    rw [hi] at hs hz hb
    have hz' : i.zero = some (.int J 0) := hz
    simp only [Option.map_some, Option.some.injEq] at hs hb
    exact runk0 hg hd (opok_make_ro (K := J) ho hl hc ht (by rw [hi]; simp [hs, hz', hb]) h0 h1) t
end Go.Proofs.YtboddbheljenhaaDoor
