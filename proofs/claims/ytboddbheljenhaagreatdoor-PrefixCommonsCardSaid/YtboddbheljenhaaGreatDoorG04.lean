/-
  A law's last step, once for all laws: a call that returns true and turns nothing below the heap's old size gives the row's post, whatever the arguments' types. No program is named here.
-/
import Derived.WalkKit
import Derived.ProofKit
import Derived.OpenShut
import Derived.Below
import Derived.Carry
import Derived.Test.YtboddbheljenhaaGreatDoorG03
import Derived.Laws.CopyRow
namespace Go.Proofs.YtboddbheljenhaaGreatDoor
open Go.ChangeShapes Go.WideShapes Go.ChangeAt Go.RowKit

section
variable {H : Type} {enc : TypeId × Value → H} {P : Program}

/-- All arguments read as they did. -/
theorem args_same (hl : laidOutB P = true) {W W' : World} (hb : Below W.heap.size W W') :
    ∀ {ts : List TypeId} {vs : List Value} {ds : List (DataW H)} {ps : List MemPlace}, ts.all (fun t => P.readableRec t && decide (t < P.types.size)) = true →
      DataW.TrodAll enc P W 0 (fun _ => true) true ts vs ds ps → (∀ x ∈ ps, x.block < W.heap.size) → DataW.TrodAll enc P W' 0 (fun b => decide (b < W.heap.size)) true ts vs ds ps
  | [], [], [], _, _, h, _ => h
  | t :: ts, v :: vs, d :: ds, ps, hr, h, hlt => by
    obtain ⟨p, q, h1, h2, rfl⟩ := h
    simp only [List.all_cons, Bool.and_eq_true, decide_eq_true_eq] at hr
    exact ⟨p, q, Below.trod hl hr.1.1 hr.1.2 h1 hb (fun x hx => hlt x (by simp [hx])), args_same hl hb hr.2 h2 (fun x hx => hlt x (by simp [hx])), rfl⟩
  | [], _ :: _, _, _, _, h, _ => h.elim
  | [], [], _ :: _, _, _, h, _ => h.elim
  | _ :: _, [], _, _, _, h, _ => h.elim
  | _ :: _, _ :: _, [], _, _, h, _ => h.elim

theorem law_post {f : Func} {s : ChangeSpec} {apart : Bool} {W W' : World} {args : Array Value} {ds : List (DataW H)} {before p : List MemPlace} {tb : TypeId}
    (hW : DataW.Whole enc P f.params.toList s.vars apart W args.toList ds [] before)
    (hA : DataW.TrodAll enc P W 0 (fun _ => true) true f.params.toList args.toList ds p) (hbf : before = p) (hv : s.vars = [])
    (hs : s.fn H (ds ++ []) = { results := [.lit (.bool true)], args := ds }) (hr : f.resultTypes = #[tb]) (htb : P.underlying tb = some .bool)
    (hl : laidOutB P = true) (hrow : f.params.toList.all (fun t => P.readableRec t && decide (t < P.types.size)) = true)
    (hb : Below W.heap.size W W') : s.post enc P f apart true false false W args (.bool true) W' := by
  have hlt : ∀ x ∈ before, x.block < W.heap.size := fun x hx => hW.lt x hx
  refine ⟨ds, [], before, [], p, [], hW, ?_, ?_, ?_, World.keptBut_mono (fun x hx => ⟨hx, .inr (.inl (hbf ▸ hx))⟩) (hb.frame (· ∈ before)), fun h => by cases h⟩
  · rw [hs, hr]
    exact trodAll_cons_mk (p := []) (p' := []) (shut_bool htb _) trodAll_mk0
  · rw [hs]
    exact args_same hl hb hrow hA (fun x hx => hlt x (hbf ▸ hx))
  · rw [hs, hv]; rfl
end
end Go.Proofs.YtboddbheljenhaaGreatDoor
namespace Go.Proofs.YtboddbheljenhaaGreatDoor
open Go.RowKit
theorem opok_make_ro {P : Program} {k : Nat} {st : St} {o : Oper} {t e : TypeId} {l c : Operand} {K : IntKind} {m : Int} (ho : o.op = .makeSlice t l c) (hl : st.aop l = .val (.int .i64 m)) (hc : st.aop c = .val (.int .i64 m)) (ht : P.underlying t = some (.slice e))
    (hi : (P.info? e).map (fun i => (i.zero, i.size, i.bytes)) = some (some (.int K 0), 1, 1)) (h0 : 0 ≤ m) (h1 : m ≤ 16777216) :
    OpOk P k st o ⟨.ro (ints K (List.replicate m.toNat 0)), [], [], []⟩ :=
  opok_newro fun ψ prot w ρ hr hlt => by
    obtain ⟨i, hi0, hz0, hs0, hb0⟩ := info_parts hi
    have e1 := (hl ▸ hr l (by simp [ho, Op.operands])).val_eq
    have e2 := (hc ▸ hr c (by simp [ho, Op.operands])).val_eq
    have hrun := run_make (P := P) w t e i (.int K 0) ht hi0 hz0 .i64 .i64 m m h0 (Int.le_refl _) (by rw [hb0]; omega) (by omega)
    rw [hs0, Nat.mul_one] at hrun
    have ho1 := World.ownsRow_lit (base := 0) (size := 1) (e := e) w (madeCells (Value.cells (.int K 0)) m.toNat) m.toNat (Nat.zero_le _) (by unfold maxLen; omega) (by simp [size_madeCells])
    rw [made_zeros] at ho1
    refine ⟨.slice (some ⟨w.heap.size, 0, none⟩) m.toNat m.toNat, .cells (madeCells (Value.cells (.int K 0)) m.toNat) e (0, 0), by unfold execOp; simp only [ho, e1, e2, Sem.run_bind, hrun, Result.andThen_ok, Sem.run_pure], ?_⟩
    have el : (ints K (List.replicate m.toNat 0)).length = m.toNat := by simp
    have := ro_row (ψ := ψ) (prot := prot) (w := w.alloc (.cells (madeCells (Value.cells (.int K 0)) m.toNat) e (0, 0))) (t := e) (sz := 1) (cap := m.toNat) (bl := some w.heap.size) (es := ints K (List.replicate m.toNat 0)) (xs := (List.replicate m.toNat (0 : Int)).map (Value.int K)) (by rw [el]; exact ho1) (by rw [flat_ints]; exact vrels_zeros K _)
    rw [el] at this
    exact this.mono (fun _ _ _ h => h) fun b hb => ⟨hb.imp id fun h => by injection h with h; exact h.symm, rfl⟩
theorem runk_makeR {P : Program} {k : Nat} {ops : Array Oper} {N : Nat} {draw : Bool} {K : St → Prop} {o : Oper} {os : List Oper} {env : List (Nat × AVal)} {objs : Writes} {acc : List Tr} {d : Nat} {t e : TypeId} {l c : Operand} {J : IntKind} {m : Int} (hg : o.guard = none) (hd : o.dst = some d) (ho : o.op = .makeSlice t l c) (hl : (⟨env, objs⟩ : St).aop l = .val (.int .i64 m)) (hc : (⟨env, objs⟩ : St).aop c = .val (.int .i64 m)) (ht : P.underlying t = some (.slice e))
    (hs : sizeIs P e 1) (hz : (P.info? e).bind (·.zero) = some (.int J 0)) (hb : (P.info? e).map (·.bytes) = some 1) (h0 : 0 ≤ m) (h1 : m ≤ 16777216)
    (t : RunK P k ops N draw os ⟨(d, .ro (ints J (List.replicate m.toNat 0))) :: env, objs⟩ (⟨.ro (ints J (List.replicate m.toNat 0)), [], [], []⟩ :: acc) K) : RunK P k ops N draw (o :: os) ⟨env, objs⟩ acc K := by
  cases hi : P.info? e with
  | none => rw [hi] at hz; cases hz
  | some i =>
    unfold sizeIs at hs
    rw [hi] at hs hz hb
    have hz' : i.zero = some (.int J 0) := hz
    simp only [Option.map_some, Option.some.injEq] at hs hb
    exact runk0 hg hd (opok_make_ro (K := J) ho hl hc ht (by rw [hi]; simp [hs, hz', hb]) h0 h1) t
end Go.Proofs.YtboddbheljenhaaGreatDoor
namespace Go.Proofs.YtboddbheljenhaaGreatDoor
open Go.RowKit
theorem ints_vals {ψ : Ghost} {prot : Nat → Prop} {w : World} {K : IntKind} {xs : List Int} {zs : List Value} (h : VRels ψ prot w (ints K xs) zs) : zs = xs.map (Value.int K) := by
  apply List.ext_getElem
  · have := h.1; simpa using this
  · intro i q1 q2
    have hi : i < xs.length := by simpa using q2
    have := (h.2 i (.val (.int K xs[i])) zs[i] (by rw [ints_get]; simp [hi]) (List.getElem?_eq_getElem q1)).val_eq
    simp [this]
theorem copied_take (K : IntKind) {xs ys : List Int} {cl : List Value} {off : Nat} (h : cl.take xs.length = xs.map (Value.int K)) (hl : off + ys.length ≤ xs.length) :
    (cl.take off ++ ys.map (Value.int K) ++ cl.drop (off + ys.length)).take (xs.take off ++ ys ++ xs.drop (off + ys.length)).length = (xs.take off ++ ys ++ xs.drop (off + ys.length)).map (Value.int K) := by
  have hxl : (xs.take off ++ ys ++ xs.drop (off + ys.length)).length = xs.length := by simp; omega
  have hcl := (List.take_append_drop xs.length cl).symm
  rw [h] at hcl
  generalize cl.drop xs.length = R at hcl
  subst hcl
  have e1 : (xs.map (Value.int K) ++ R).take off = (xs.map (Value.int K)).take off := List.take_append_of_le_length (by simp; omega)
  have e2 : (xs.map (Value.int K) ++ R).drop (off + ys.length) = (xs.map (Value.int K)).drop (off + ys.length) ++ R := List.drop_append_of_le_length (by simp; omega)
  rw [hxl, e1, e2, ← List.append_assoc, List.take_append_of_le_length (by simp; omega), List.take_of_length_le (by simp; omega)]
  simp [List.map_take, List.map_drop]
/-- An array's value. -/
theorem opok_buildA {P : Program} {k : Nat} {st : St} {o : Oper} {t e : TypeId} {n : Nat} {parts : Array (Nat × Operand)} {sz : Nat} {z : Value} {vs : List (Nat × AVal)} {out : List AVal} (ho : o.op = .build t parts) (hu : P.underlying t = some (.array n e)) (hs : sizeIs P e sz) (hz : (P.info? t).bind (·.zero) = some z)
    (hp : PartsOf st parts.toList vs) (hf : fillA (fun i => some (i * sz, sz)) (AVal.val z).flat vs = some out) : OpOk P k st o ⟨.agg out, [], [], []⟩ :=
  opok_quiet fun ψ prot obj w ρ _ hr _ => by
    have hvs := hp.spec
    cases hi : P.info? t with
    | none => rw [hi] at hz; cases hz
    | some i =>
      have hz' : i.zero = some z := by rw [hi] at hz; exact hz
      obtain ⟨cs', g1, g2⟩ := fill_rel (ψ := ψ) (prot := prot) (w := w) vs (parts.toList.map fun x => (x.1, ρ x.2)) _ out z.cells (by simp [← hvs]) (fun j p q h1 h2 => by
        rw [← hvs] at h1
        simp only [List.getElem?_map] at h1 h2
        cases hq : parts.toList[j]? with
        | none => rw [hq] at h1; cases h1
        | some y =>
          rw [hq] at h1 h2
          simp only [Option.map_some, Option.some.injEq] at h1 h2
          subst h1; subst h2
          exact ⟨rfl, hr y.2 (by simp only [ho, Op.operands]; simp; exact ⟨y.1, by simpa using List.mem_of_getElem? hq⟩)⟩) (VRel.flat (.val z) rfl) hf
      cases hj : P.info? e with
      | none => unfold sizeIs at hs; rw [hj] at hs; cases hs
      | some ie =>
        have hsz : ie.size = sz := by unfold sizeIs at hs; rw [hj] at hs; simpa using hs
        have hb : P.built t (parts.map fun (i, x) => (i, ρ x)).toList = some cs' := by
          simp only [Program.built, hi, hu, hz', hj, hsz, Array.toList_map]
          exact g1
        refine ⟨.agg cs', ?_, VRels.agg g2⟩
        simp only [execOp, ho, Sem.run_bind, Sem.run_pure]
        rw [run_build w t _ cs' hb]
        rfl
end Go.Proofs.YtboddbheljenhaaGreatDoor
