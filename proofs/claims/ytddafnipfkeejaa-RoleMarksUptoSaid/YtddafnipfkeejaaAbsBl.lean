/-
  Rows of elements of one cell, of any kind: made of zeros, an element written. No program is named here.
-/
import Derived.Test.YtddafnipfkeejaaAbsU
import Derived.Test.YtddafnipfkeejaaAbsF
import Derived.Test.YtddafnipfkeejaaAbsI
namespace Go.Proofs.Ytddafnipfkeejaa
open Go.RowKit
section
variable {P : Program} {k : Nat} {st : St} {o : Oper}
theorem made_zerosG {z : Value} (hz : z.cells = #[z]) (m : Nat) : (madeCells z.cells m).toList = List.replicate m z := by
  rw [hz]
  have h1 : ∀ x : Nat, [z][x % 1]?.getD default = z := fun x => by rw [Nat.mod_one]; rfl
  simp only [madeCells]
  simp [h1, Nat.mod_one, List.map_const']
theorem flat_repl (z : Value) (hf : (AVal.val z).flat = [.val z]) (m : Nat) : (List.replicate m (AVal.val z)).flatMap AVal.flat = List.replicate m (AVal.val z) := by
  induction m with
  | zero => rfl
  | succ m ih => rw [List.replicate_succ, List.flatMap_cons, hf, ih]; rfl
theorem vrels_repl {ψ : Ghost} {prot : Nat → Prop} {w : World} (z : Value) (m : Nat) : VRels ψ prot w (List.replicate m (.val z)) (List.replicate m z) := by
  have := VRels.vals (ψ := ψ) (prot := prot) (w := w) (vs := List.replicate m z)
  simpa using this
theorem opok_makeG {t e : TypeId} {l c : Operand} (d : Nat) {z : Value} {bytes : Nat} {m : Int} (ho : o.op = .makeSlice t l c) (hl : st.aop l = .val (.int .i64 m)) (hc : st.aop c = .val (.int .i64 m)) (ht : P.underlying t = some (.slice e))
    (hi : (P.info? e).map (fun i => (i.zero, i.size, i.bytes)) = some (some z, 1, bytes)) (hz : z.cells = #[z]) (hf : (AVal.val z).flat = [.val z]) (hby : bytes ≤ 16) (h0 : 0 ≤ m) (h1 : m ≤ 16777216) :
    OpOk P k st o ⟨.own d k m.toNat, [(d, some (k, .row e 1 (List.replicate m.toNat (.val z))))], [d], [d]⟩ :=
  opok_new fun ψ prot w ρ hr => by
    obtain ⟨i, hi0, hz0, hs0, hb0⟩ := info_parts hi
    have e1 := (hl ▸ hr l (by simp [ho, Op.operands])).val_eq
    have e2 := (hc ▸ hr c (by simp [ho, Op.operands])).val_eq
    have hrun := run_make (P := P) w t e i z ht hi0 hz0 .i64 .i64 m m h0 (Int.le_refl _) (by rw [hb0]; have : m * (bytes : Int) ≤ 16777216 * 16 := Int.mul_le_mul h1 (by omega) (by omega) (by omega); rw [Int.mul_comm] at this; omega) (by omega)
    rw [hs0, Nat.mul_one] at hrun
    have hzc : z.cells.size = 1 := by rw [hz]; rfl
    refine ⟨.slice (some ⟨w.heap.size, 0, none⟩) m.toNat m.toNat, .cells (madeCells z.cells m.toNat) e (0, 0), m.toNat, by unfold execOp; simp only [ho, e1, e2, Sem.run_bind, hrun, Result.andThen_ok, Sem.run_pure], fun ψ' hψ hpr => ⟨List.replicate m.toNat z, ?_, ?_⟩, fun ψ' h => .own d k _ _ h⟩
    · have := World.ownsRow_lit (base := 0) (size := 1) (e := e) w (madeCells z.cells m.toNat) m.toNat (Nat.zero_le _) (by unfold maxLen; omega) (by simp [size_madeCells, hzc])
      rw [made_zerosG hz] at this
      simpa using this
    · rw [flat_repl z hf]; exact vrels_repl z _
theorem opok_makeG_ro {t e : TypeId} {l c : Operand} {z : Value} {bytes : Nat} {m : Int} (ho : o.op = .makeSlice t l c) (hl : st.aop l = .val (.int .i64 m)) (hc : st.aop c = .val (.int .i64 m)) (ht : P.underlying t = some (.slice e))
    (hi : (P.info? e).map (fun i => (i.zero, i.size, i.bytes)) = some (some z, 1, bytes)) (hz : z.cells = #[z]) (hf : (AVal.val z).flat = [.val z]) (hby : bytes ≤ 16) (h0 : 0 ≤ m) (h1 : m ≤ 16777216) :
    OpOk P k st o ⟨.ro (List.replicate m.toNat (.val z)), [], [], []⟩ :=
  opok_newro fun ψ prot w ρ hr hlt => by
    obtain ⟨i, hi0, hz0, hs0, hb0⟩ := info_parts hi
    have e1 := (hl ▸ hr l (by simp [ho, Op.operands])).val_eq
    have e2 := (hc ▸ hr c (by simp [ho, Op.operands])).val_eq
    have hrun := run_make (P := P) w t e i z ht hi0 hz0 .i64 .i64 m m h0 (Int.le_refl _) (by rw [hb0]; have : m * (bytes : Int) ≤ 16777216 * 16 := Int.mul_le_mul h1 (by omega) (by omega) (by omega); rw [Int.mul_comm] at this; omega) (by omega)
    rw [hs0, Nat.mul_one] at hrun
    have hzc : z.cells.size = 1 := by rw [hz]; rfl
    have ho1 := World.ownsRow_lit (base := 0) (size := 1) (e := e) w (madeCells z.cells m.toNat) m.toNat (Nat.zero_le _) (by unfold maxLen; omega) (by simp [size_madeCells, hzc])
    rw [made_zerosG hz] at ho1
    refine ⟨.slice (some ⟨w.heap.size, 0, none⟩) m.toNat m.toNat, .cells (madeCells z.cells m.toNat) e (0, 0), by unfold execOp; simp only [ho, e1, e2, Sem.run_bind, hrun, Result.andThen_ok, Sem.run_pure], ?_⟩
    have el : (List.replicate m.toNat (AVal.val z)).length = m.toNat := by simp
    have := ro_row (ψ := ψ) (prot := prot) (w := w.alloc (.cells (madeCells z.cells m.toNat) e (0, 0))) (t := e) (sz := 1) (cap := m.toNat) (bl := some w.heap.size) (es := List.replicate m.toNat (.val z)) (xs := List.replicate m.toNat z) (by rw [el]; simpa using ho1) (by rw [flat_repl z hf]; exact vrels_repl z _)
    rw [el] at this
    exact this.mono (fun _ _ _ h => h) fun b hb => ⟨hb.imp id fun h => by injection h with h; exact h.symm, rfl⟩
theorem flat_ones : ∀ {es : List AVal}, (es.all fun e => match e.flat with | [_] => true | _ => false) = true → (∀ e ∈ es, e.flat = [e]) → es.flatMap AVal.flat = es
  | [], _, _ => rfl
  | e :: es, h, h1 => by
    simp only [List.all_cons, Bool.and_eq_true] at h
    rw [List.flatMap_cons, h1 e List.mem_cons_self, flat_ones h.2 fun x hx => h1 x (List.mem_cons_of_mem _ hx)]
    rfl
variable {ops : Array Oper} {N : Nat} {draw : Bool} {K : St → Prop} {os : List Oper} {env : List (Nat × AVal)} {objs : Writes} {acc : List Tr} {d : Nat}
theorem runk_makeG {t e : TypeId} {l c : Operand} {z : Value} {bytes : Nat} {m : Int} (hg : o.guard = none) (hd : o.dst = some d) (ho : o.op = .makeSlice t l c) (hl : (⟨env, objs⟩ : St).aop l = .val (.int .i64 m)) (hc : (⟨env, objs⟩ : St).aop c = .val (.int .i64 m)) (ht : P.underlying t = some (.slice e))
    (hs : sizeIs P e 1) (hzz : (P.info? e).bind (·.zero) = some z) (hb : (P.info? e).map (·.bytes) = some bytes) (hz : z.cells = #[z]) (hf : (AVal.val z).flat = [.val z]) (hby : Nat.ble bytes 16 = true) (h0 : 0 ≤ m) (h1 : m ≤ 16777216)
    (t : RunK P k ops N draw os ⟨(d, .own d k m.toNat) :: env, (d, some (k, .row e 1 (List.replicate m.toNat (.val z)))) :: objs⟩ (⟨.own d k m.toNat, [(d, some (k, .row e 1 (List.replicate m.toNat (.val z))))], [d], [d]⟩ :: acc) K) : RunK P k ops N draw (o :: os) ⟨env, objs⟩ acc K := by
  cases hi : P.info? e with
  | none => rw [hi] at hzz; cases hzz
  | some i =>
    unfold sizeIs at hs
    rw [hi] at hs hzz hb
    have hz' : i.zero = some z := hzz
    simp only [Option.map_some, Option.some.injEq] at hs hb
    exact runk hg hd (opok_makeG d ho hl hc ht (by rw [hi]; simp [hs, hz', hb]) hz hf (Nat.le_of_ble_eq_true hby) h0 h1) t
theorem runk_makeGR {t e : TypeId} {l c : Operand} {z : Value} {bytes : Nat} {m : Int} (hg : o.guard = none) (hd : o.dst = some d) (ho : o.op = .makeSlice t l c) (hl : (⟨env, objs⟩ : St).aop l = .val (.int .i64 m)) (hc : (⟨env, objs⟩ : St).aop c = .val (.int .i64 m)) (ht : P.underlying t = some (.slice e))
    (hs : sizeIs P e 1) (hzz : (P.info? e).bind (·.zero) = some z) (hb : (P.info? e).map (·.bytes) = some bytes) (hz : z.cells = #[z]) (hf : (AVal.val z).flat = [.val z]) (hby : Nat.ble bytes 16 = true) (h0 : 0 ≤ m) (h1 : m ≤ 16777216)
    (t : RunK P k ops N draw os ⟨(d, .ro (List.replicate m.toNat (.val z))) :: env, objs⟩ (⟨.ro (List.replicate m.toNat (.val z)), [], [], []⟩ :: acc) K) : RunK P k ops N draw (o :: os) ⟨env, objs⟩ acc K := by
  cases hi : P.info? e with
  | none => rw [hi] at hzz; cases hzz
  | some i =>
    unfold sizeIs at hs
    rw [hi] at hs hzz hb
    have hz' : i.zero = some z := hzz
    simp only [Option.map_some, Option.some.injEq] at hs hb
    exact runk hg hd (opok_makeG_ro ho hl hc ht (by rw [hi]; simp [hs, hz', hb]) hz hf (Nat.le_of_ble_eq_true hby) h0 h1) t
/-- An element of a row whose elements are values of one cell. -/
theorem runk_setG {t e : TypeId} {p x : Operand} {n kk off m : Nat} {es es' : List AVal} {v : AVal} (hg : o.guard = none) (hd : o.dst = none) (ho : o.op = .store t p x) (hp : (⟨env, objs⟩ : St).aop p = .ptr n kk off) (hx : (⟨env, objs⟩ : St).aop x = v) (hn : (⟨env, objs⟩ : St).obj n = some (kk, .row e 1 es)) (hk : v.known = true) (hv : v.flat = [v]) (h1 : v.one = true) (hs : sizeIs P t 1) (hm : off = m) (hes : es.flatMap AVal.flat = es) (hes' : (es.set m v).flatMap AVal.flat = es.set m v) (hf : m < es.length) (he : es.set m v = es')
    (r : RunK P k ops N draw os ⟨env, (n, some (kk, .row e 1 es')) :: objs⟩ (⟨.any, [(n, some (kk, .row e 1 es'))], [n], []⟩ :: acc) K) : RunK P k ops N draw (o :: os) ⟨env, objs⟩ acc K := by
  subst hm
  subst he
  refine runkN hg hd (opok_storeRow (es' := es.set off v) ho hp hn hx hk hv (by simp [h1]) hs (by rw [hes]; simp; omega) (by simp) ?_) r
  rw [hes, hes', setCells_one hf]
end
end Go.Proofs.Ytddafnipfkeejaa
