/-
  A row of bytes that was made out of a text: it may be written, and is made a text again. No program is named here.
-/
import Derived.Test.YtboddbheljenhaaGreatDoorStr2
import Derived.Test.YtboddbheljenhaaGreatDoorG05
import Derived.Test.YtboddbheljenhaaGreatDoorAbsB
import Derived.Test.YtboddbheljenhaaGreatDoorG03
import Derived.Test.YtboddbheljenhaaGreatDoorRows
import Derived.Test.YtboddbheljenhaaGreatDoorMem
import Derived.ProofKit
namespace Go.Proofs.YtboddbheljenhaaGreatDoor
open Go.RowKit
section
variable {P : Program} {k : Nat} {st : St} {o : Oper}
theorem opok_newD {v : AVal} {d : Nat} {ob : AObj} (h : ∀ (ψ : Ghost) (prot : Nat → Prop) (w : World) (ρ : Operand → Value), (∀ x ∈ o.op.operands, VRel ψ prot w (st.aop x) (ρ x)) → ∃ cv ob' cap, (execOp ρ o).run P w = .ok (.value cv) (w.drew.alloc ob') ∧
      (∀ ψ' : Ghost, ORel ψ' prot (w.drew.alloc ob') ⟨some w.heap.size, cap⟩ ob) ∧ ∀ ψ' : Ghost, ψ' d k = some ⟨some w.heap.size, cap⟩ → VRel ψ' prot (w.drew.alloc ob') v cv) :
    OpOk P k st o ⟨v, [(d, some (k, ob))], [d], [d]⟩ := by
  refine ⟨fun n hn => by simpa [Writes.names] using hn, fun ψ prot obj w ρ _ hx r hf => ?_⟩
  obtain ⟨cv, ob', cap, h1, h2, h3⟩ := h ψ prot w ρ hx
  rw [h1]
  have hsz : (w.drew.alloc ob').heap.size = w.heap.size + 1 := by show (w.heap.push ob').size = _; simp
  obtain ⟨ψ', g1, g2, g3, g4, g5⟩ := evolve_make (w' := w.drew.alloc ob') r.toRH [] d k ⟨some w.heap.size, cap⟩ ob (hf d (by simp)) rfl rfl rfl (by omega) (fun b hb _ => Below.heap_alloc w.drew ob' b hb) (fun b hb => by injection hb with hb; exact .inl (by omega)) (fun ψ' _ => h2 ψ')
  exact ⟨ψ', prot, g1, g2, h3 ψ' g3, fun n j hne => (g5 n j hne).imp id fun ⟨e1, e2⟩ => ⟨e1, by simp [e2]⟩⟩
/-- The bytes of a text, as numbers. -/
def bints (l : List UInt8) : List Int := l.map fun b => (b.toNat : Int)
theorem opok_convF {s t e : TypeId} {x : Operand} {l : List UInt8} (d : Nat) (ho : o.op = .convert s t x) (hx : st.aop x = .val (bstr l)) (hs : P.underlying s = some .string) (ht : P.underlying t = some (.slice e)) (he : P.underlying e = some (.int .u8)) :
    OpOk P k st o ⟨.own d k l.length, [(d, some (k, .rowF (bints l)))], [d], [d]⟩ :=
  opok_newD fun ψ prot w ρ hr => by
    have e1 := (hx ▸ hr x (by simp [ho, Op.operands]) : VRel ψ prot w (.val (bstr l)) (ρ x)).val_eq
    have hrun := run_bytes_of_string w s t e ⟨l.toArray⟩ hs ht he
    have hcap : l.length ≤ grownCap w (⟨l.toArray⟩ : ByteArray).size 0 e := grownCap_ge w _ 0 e
    generalize grownCap w (⟨l.toArray⟩ : ByteArray).size 0 e = cap at hrun hcap
    refine ⟨.slice (some ⟨w.heap.size, 0, none⟩) l.length cap, .cells (bytesRow ⟨l.toArray⟩ cap) e ((bytesRow ⟨l.toArray⟩ cap).size, (bytesRow ⟨l.toArray⟩ cap).size + 1), cap, ?_, fun ψ' => ?_, fun ψ' h => .own d k l.length _ h⟩
    · have : (convert s t (bstr l)).run P w = _ := hrun
      simp only [execOp, ho, e1, Sem.run_bind, this, Result.andThen_ok, Sem.run_pure]
      rfl
    · have hh : (w.drew.alloc (.cells (bytesRow ⟨l.toArray⟩ cap) e ((bytesRow ⟨l.toArray⟩ cap).size, (bytesRow ⟨l.toArray⟩ cap).size + 1))).heap[w.heap.size]? = some (.cells (bytesRow ⟨l.toArray⟩ cap) e ((bytesRow ⟨l.toArray⟩ cap).size, (bytesRow ⟨l.toArray⟩ cap).size + 1)) := by
        show (w.heap.push _)[w.heap.size]? = _
        simp
      have hbs : (bints l).length ≤ (bytesRow ⟨l.toArray⟩ cap).size := by simp [bytesRow, bints]
      refine ⟨w.heap.size, _, e, _, rfl, hh, Nat.le_refl _, hbs, by simpa [bints] using hcap, fun i z hi => ?_⟩
      have hil : i < l.length := by have := (List.getElem?_eq_some_iff.1 hi).1; simpa [bints] using this
      have hz : z = (l[i].toNat : Int) := by
        unfold bints at hi
        rw [List.getElem?_map, List.getElem?_eq_getElem hil] at hi
        injection hi with hi; exact hi.symm
      unfold bytesRow
      rw [Array.getElem?_append_left (by simpa using hil), Array.getElem?_map, Array.getElem?_eq_getElem (by simpa using hil), hz]
      simp
theorem opok_indexF {t e : TypeId} {x ix : Operand} {n kk len : Nat} {zs : List Int} {kd : IntKind} {i : Int} (ho : o.op = .indexAddr t x ix) (hx : st.aop x = .own n kk len) (hn : st.obj n = some (kk, .rowF zs)) (hi : st.aop ix = .val (.int kd i)) (ht : P.underlying t = some (.slice e)) (hs : sizeIs P e 1)
    (h0 : 0 ≤ i) (h1 : i < len) : OpOk P k st o ⟨.ptr n kk i.toNat, [], [n], []⟩ :=
  opok_quiet fun ψ prot obj w ρ hob hr r => by
    have e1 := hx ▸ hr x (by simp [ho, Op.operands])
    have e2 := (hi ▸ hr ix (by simp [ho, Op.operands]) : VRel ψ prot w (.val (.int kd i)) (ρ ix)).val_eq
    obtain ⟨loc, hv, hψ⟩ := e1.own_inv
    obtain ⟨loc', g1, b, cur, t', fr, g2, -⟩ := r.live n kk _ ((hob n (by simp)).trans hn)
    rw [hψ] at g1; injection g1 with g1; subst g1
    rw [g2] at hv
    obtain ⟨bb, cc⟩ := loc
    simp only at g2
    subst g2
    refine ⟨.pointer (some ⟨b, i.toNat, none⟩), ?_, .ptr n kk _ b cc hψ⟩
    simp [execOp, ho, hv, e2, Instr.indexAt, asIntOf, run_underlying ht, run_sizeIs hs, h0, h1, addr_add0, go_sem]
theorem run_store1 {t : TypeId} (hs : sizeIs P t 1) (w : World) (b off : Nat) (kd : IntKind) (v : Int) {old : Value} (hc : w.cell? ⟨b, off, none⟩ = some old) (hf : w.frozen? ⟨b, off, none⟩ = false) : (storeVar t ⟨b, off, none⟩ (.int kd v)).run P w = .ok () (w.setCell ⟨b, off, none⟩ (.int kd v)) := by
  have h1 : (store (⟨b, off, none⟩ : Addr) (.int kd v)).run P w = .ok () (w.setCell ⟨b, off, none⟩ (.int kd v)) := by
    rw [run_store P w _ _ _ rfl]
    simp only [hc, hf, Bool.false_eq_true, if_false]
  have h2 : (storeCells (⟨b, off, none⟩ : Addr) [.int kd v]).run P w = .ok () (w.setCell ⟨b, off, none⟩ (.int kd v)) := by
    simp only [storeCells, addr_add0, Nat.add_zero, Sem.run_bind, h1, Result.andThen_ok, Sem.run_pure]
  simp only [storeVar, run_sizeIs hs, Sem.run_bind, Result.andThen_ok]
  exact h2
theorem opok_textF {s t e : TypeId} {x : Operand} {n kk len : Nat} {zs : List Int} (ho : o.op = .convert s t x) (hx : st.aop x = .own n kk len) (hn : st.obj n = some (kk, .rowF zs)) (hs : P.underlying s = some (.slice e)) (he : P.underlying e = some (.int .u8)) (ht : P.underlying t = some .string) (hl : zs.length = len) :
    OpOk P k st o ⟨.val (bstr (zs.map fun z => UInt8.ofNat z.toNat)), [], [n], []⟩ :=
  opok_quiet fun ψ prot obj w ρ hob hr r => by
    have e1 := hx ▸ hr x (by simp [ho, Op.operands])
    obtain ⟨loc, hv, hψ⟩ := e1.own_inv
    obtain ⟨loc', g1, b, cur, t', fr, g2, g3, -, g4, g5, g6⟩ := r.live n kk _ ((hob n (by simp)).trans hn)
    rw [hψ] at g1; injection g1 with g1; subst g1
    rw [g2] at hv
    have hb : b < w.heap.size := (Array.getElem?_eq_some_iff.1 g3).1
    have hlies : Lies w.heap.size (some ⟨b, 0, none⟩) (zs.map (Value.int .u8)) w := fun j hj => by
      have hjl : j < zs.length := by simpa using hj
      refine ⟨⟨b, 0, none⟩, .int .u8 zs[j], rfl, hb, by simp [hjl], ?_⟩
      rw [addr_add0]
      simp only [World.cell?, g3, Nat.zero_add]
      exact g6 j _ (List.getElem?_eq_getElem hjl)
    have := conv_bytes (P := P) (c := loc.cap) hs he ht hlies hl
    exact ⟨_, by simp only [execOp, ho, hv, Option.map_some, this, Sem.run_bind, Sem.run_pure, Result.andThen_ok]; rfl, .val _⟩
variable {ops : Array Oper} {N : Nat} {draw : Bool} {K : St → Prop} {os : List Oper} {env : List (Nat × AVal)} {objs : Writes} {acc : List Tr}
theorem runk_convF {d : Nat} {s t e : TypeId} {x : Operand} {l : List UInt8} (hg : o.guard = none) (hd : o.dst = some d) (ho : o.op = .convert s t x) (hx : (⟨env, objs⟩ : St).aop x = .val (bstr l)) (hs : P.underlying s = some .string) (ht : P.underlying t = some (.slice e)) (he : P.underlying e = some (.int .u8))
    (r : RunK P k ops N draw os ⟨(d, .own d k l.length) :: env, (d, some (k, .rowF (bints l))) :: objs⟩ (⟨.own d k l.length, [(d, some (k, .rowF (bints l)))], [d], [d]⟩ :: acc) K) : RunK P k ops N draw (o :: os) ⟨env, objs⟩ acc K :=
  runk hg hd (opok_convF d ho hx hs ht he) r
end
end Go.Proofs.YtboddbheljenhaaGreatDoor
namespace Go.Proofs.YtboddbheljenhaaGreatDoor
open Go.RowKit
theorem strOf_bints (l : List UInt8) : Value.string (strOfNums (bints l)) = bstr l := by
  unfold strOfNums bstr bints
  simp only [List.map_map]
  have : (l.map ((fun n : Int => UInt8.ofNat n.toNat) ∘ fun b : UInt8 => (b.toNat : Int))) = l := by
    conv => rhs; rw [← List.map_id l]
    refine List.map_congr_left fun b _ => ?_
    simp
  rw [this]
section
variable {P : Program} {k : Nat} {st : St} {o : Oper}
theorem opok_arrRoF {t e : TypeId} {n : Nat} {x y : Operand} {kd : IntKind} {lo : Nat} {cs : List AVal} (ho : o.op = .slice t x (some y) none none) (hx : st.aop x = .rref cs) (hy : st.aop y = .val (.int kd lo)) (hu : P.underlying t = some (.array n e)) (hs : sizeIs P e 1) (hn : cs.length = n) (hf : (cs.drop lo).flatMap AVal.flat = cs.drop lo) (hh : lo < n) : OpOk P k st o ⟨.ro (cs.drop lo), [], [], []⟩ :=
  opok_quiet fun ψ prot obj w ρ _ hr _ => by
    have e1 := hx ▸ hr x (by simp [ho, Op.operands])
    have e2 := (hy ▸ hr y (by simp [ho, Op.operands]) : VRel ψ prot w (.val (.int kd lo)) (ρ y)).val_eq
    obtain ⟨vs, b, off, hpv, hpr, ⟨hl, hv⟩, hcc⟩ := e1.rref_inv
    subst hn
    have hlt : (cs.drop lo).length = cs.length - lo := by rw [List.length_drop]
    have hle := Nat.le_of_lt hh
    have hne : ¬ cs.length = lo := by omega
    refine ⟨.slice (some ⟨b, off + lo, none⟩) (cs.drop lo).length (cs.length - lo), ?_, .ro (cs.drop lo) (vs.drop lo) b (off + lo) (cs.length - lo) (by rw [hlt]; exact Nat.le_refl _) hpr (by rw [hf, List.length_drop, List.length_drop, hl]) (fun i v h => ?_) (fun i x v h1 h2 => ?_)⟩
    · have ea : (⟨b, off, none⟩ : Addr).add lo = ⟨b, off + lo, none⟩ := by simp [Addr.add]
      rw [hlt]
      simp [execOp, ho, hpv, e2, Instr.sliceAt, Instr.sliceBounds, Instr.sureAddr, run_underlying hu, run_sizeIs hs, ea, go_sem, asIntOf, hle, hne]
    · rw [List.getElem?_drop] at h
      have := hcc (lo + i) v h
      rw [Nat.add_assoc]; exact this
    · rw [hf, List.getElem?_drop] at h1
      rw [List.getElem?_drop] at h2
      exact hv _ x v h1 h2
theorem drop_ints (k : IntKind) (xs : List Int) (n : Nat) : (ints k xs).drop n = ints k (xs.drop n) := by simp [ints, List.map_drop]
theorem opok_arrRoI {t e : TypeId} {n : Nat} {x y : Operand} {kd ke : IntKind} {lo : Nat} {xs ys : List Int} (ho : o.op = .slice t x (some y) none none) (hx : st.aop x = .rref (ints ke xs)) (hy : st.aop y = .val (.int kd lo)) (hu : P.underlying t = some (.array n e)) (hs : sizeIs P e 1) (hn : xs.length = n) (hh : lo < n) (hys : xs.drop lo = ys) : OpOk P k st o ⟨.ro (ints ke ys), [], [], []⟩ := by
  have h := opok_arrRoF (k := k) ho hx hy hu hs (by rw [length_ints, hn]) (by rw [drop_ints, flat_ints]) hh
  rw [drop_ints, hys] at h
  exact h
end
end Go.Proofs.YtboddbheljenhaaGreatDoor
namespace Go.Proofs.YtboddbheljenhaaGreatDoor
open Go.RowKit
section
variable {P : Program} {k : Nat} {st : St} {o : Oper}
theorem opok_sliceArr {t e t' : TypeId} {m n kk : Nat} {x : Operand} (d : Nat) {cs : List AVal} (ho : o.op = .slice t x none none none) (hx : st.aop x = .ptr n kk 0) (hn : st.obj n = some (kk, .box t' cs)) (hu : P.underlying t = some (.array m e)) (hs : sizeIs P e 1) (hl : cs.length = m) (h0 : 0 < m) :
    OpOk P k st o ⟨.sub d k 0 cs.length 1, [(d, some (k, .arr t' cs)), (n, none)], [d, n], [d]⟩ := by
  refine ⟨fun m hm => by simpa [Writes.names] using hm, fun ψ prot obj w ρ hob hr r hf => ?_⟩
  have e1 := hx ▸ hr x (by simp [ho, Op.operands])
  obtain ⟨b0, cap0, hv, hψ⟩ : ∃ b cap, ρ x = .pointer (some ⟨b, 0, none⟩) ∧ ψ n kk = some ⟨some b, cap⟩ := by
    generalize ρ x = v at e1
    cases e1 with
    | ptr _ _ _ b cap h => exact ⟨b, cap, rfl, h⟩
  have hnn := (hob n (by simp)).trans hn
  obtain ⟨loc', g1, g2⟩ := r.live n kk _ hnn
  rw [hψ] at g1; injection g1 with g1; subst g1
  obtain ⟨b, vs, hb, hh, hvs⟩ := g2
  injection hb with hb; subst hb
  have ea : (⟨b0, 0, none⟩ : Addr).add 0 = ⟨b0, 0, none⟩ := by rw [addr_add0]
  have hexec : (execOp ρ o).run P w = .ok (.value (.slice (some ⟨b0, 0, none⟩) m m)) w := by
    simp [execOp, ho, hv, Instr.sliceAt, Instr.sliceBounds, Instr.sureAddr, run_underlying hu, run_sizeIs hs, ea, go_sem]
  rw [hexec]
  obtain ⟨ψ', k1, k2, k3, k4, k5⟩ := evolve_make (w' := w) r.toRH [n] d k ⟨some b0, cs.length⟩ (.arr t' cs) (hf d (by simp)) rfl rfl rfl (Nat.le_refl _) (fun b hb hk => rfl) (fun b hb => .inr ⟨n, by simp, kk, _, _, hnn, hψ, hb⟩) (fun ψ' hψ' => ⟨b0, vs, rfl, hh, hvs.mono hψ' fun b hb => ⟨hb, rfl⟩⟩)
  refine ⟨ψ', prot, k1, k2, ?_, fun n j hne => (k5 n j hne).imp id fun ⟨q1, q2⟩ => ⟨q1, by simp [q2]⟩⟩
  have := VRel.sub (ψ := ψ') (prot := prot) (w := w) d k 0 cs.length 1 b0 cs.length k3
  rw [hl] at this
  rw [if_neg (by omega), Nat.zero_mul, Nat.sub_zero] at this
  rw [hl]
  exact this
end
section
variable {P : Program} {k : Nat} {ops : Array Oper} {N : Nat} {draw : Bool} {K : St → Prop} {os : List Oper} {o : Oper} {env : List (Nat × AVal)} {objs : Writes} {acc : List Tr} {d : Nat}
theorem runk_sliceArr {t e t' : TypeId} {m n kk : Nat} {x : Operand} {cs : List AVal} (hg : o.guard = none) (hd : o.dst = some d) (ho : o.op = .slice t x none none none) (hx : (⟨env, objs⟩ : St).aop x = .ptr n kk 0) (hn : (⟨env, objs⟩ : St).obj n = some (kk, .box t' cs)) (hu : P.underlying t = some (.array m e)) (hs : sizeIs P e 1) (hl : cs.length = m) (h0 : 0 < m)
    (r : RunK P k ops N draw os ⟨(d, .sub d k 0 cs.length 1) :: env, (d, some (k, .arr t' cs)) :: (n, none) :: objs⟩ (⟨.sub d k 0 cs.length 1, [(d, some (k, .arr t' cs)), (n, none)], [d, n], [d]⟩ :: acc) K) : RunK P k ops N draw (o :: os) ⟨env, objs⟩ acc K :=
  runk hg hd (opok_sliceArr d ho hx hn hu hs hl h0) r
end
end Go.Proofs.YtboddbheljenhaaGreatDoor
namespace Go.Proofs.YtboddbheljenhaaGreatDoor
open Go.RowKit

theorem tmod_mod (v n : Int) (h : 0 < n) : v.tmod n % n = v % n := by
  rw [Int.tmod_eq_emod]
  split
  · simp
  · rw [show (n.natAbs : Int) = n by omega]; simp
theorem tmod_neg (v n : Int) (h : 0 < n) (hr : v.tmod n < 0) : v.tmod n + n = v % n := by
  have h3 := Int.lt_tmod_of_pos v h
  rw [← tmod_mod v n h, ← Int.add_emod_right, Int.emod_eq_of_lt] <;> omega
theorem tmod_pos (v n : Int) (h : 0 < n) (hr : 0 ≤ v.tmod n) : v.tmod n = v % n := by
  have h3 := Int.tmod_lt_of_pos v h
  rw [← tmod_mod v n h, Int.emod_eq_of_lt] <;> omega
set_option maxHeartbeats 400000 in
theorem mod_any (v n : Int) (w : World) (h0 : 0 < n) (h1 : n ≤ 9223372036854775807) :
    Calls Tryz.prog 12 #[.int .i64 v, .int .i64 n] w fun e w' => e = .returned (.int .i64 (v % n)) ∧ w = w' := by
  have hlo : -n < v.tmod n := Int.lt_tmod_of_pos v h0
  have hhi := Int.tmod_lt_of_pos v h0
  by_cases hr : v.tmod n < 0
  · have h2 := Lib.hid (tmod_neg v n h0 hr)
    have hd : IntKind.i64.wrap (v.tmod n + n) = v.tmod n + n := IntWalk.i64_in _ (by omega)
    go_enter Tryz.func12, Tryz.ntmps12
    go_wp2
    go_ret
    exact ⟨ret_int h2.out, rfl⟩
  · have h2 := Lib.hid (tmod_pos v n h0 (by omega))
    have hr' : 0 ≤ v.tmod n := by omega
    clear hr
    go_enter Tryz.func12, Tryz.ntmps12
    go_wp2
    go_ret
    exact ⟨ret_int h2.out, rfl⟩

end Go.Proofs.YtboddbheljenhaaGreatDoor
