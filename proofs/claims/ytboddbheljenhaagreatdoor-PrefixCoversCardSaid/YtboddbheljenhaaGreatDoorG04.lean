/-
  What a row that lists variables gives: those variables' cells; the builder with the world's shape.
-/
import Derived.Test.YtboddbheljenhaaGreatDoorG03
import Derived.Test.YtboddbheljenhaaGreatDoorProg
import Derived.LaidMore
import Derived.LaidLaws
import Derived.HandedShaped
import Derived.Stop.LaidErr
import Derived.Stop.Joined
import Derived.Lib.LaidTab
import Derived.Shelf.Vars
import Derived.Lib.TrailingZeros
import Derived.WalkKit
import Derived.ProofKit
import Derived.OpenShut
import Derived.Below
import Derived.Carry
import Derived.Laws.CopyRow
namespace Go.Proofs.YtboddbheljenhaaGreatDoor
open Go.RowKit
theorem laidVars_mem {P : Program} {w : World} {n : String} {d : DataW Unit} : ∀ {l : List (String × DataW Unit)} {ps : List MemPlace}, DataW.LaidVars P w l ps → (n, d) ∈ l →
    ∃ g t cs fuel p, P.globalNamed n = some g ∧ (P.globals[g]?).map (·.type) = some t ∧ w.var? P n = some cs ∧ DataW.trod (fun _ => ()) P w 0 (fun _ => true) false fuel t cs.toList = some (d, p) ∧ List.Sublist (MemPlace.row ⟨g, 0, none⟩ cs.size ++ p) ps
  | [], _, _, hm => by cases hm
  | (n', d') :: r, ps, h, hm => by
    obtain ⟨g, t, cs, fuel, p, q, h1, h2, h3, h4, h5, h6⟩ := h
    rcases List.mem_cons.1 hm with e | hm
    · injection e with e1 e2
      subst e1; subst e2; subst h6
      exact ⟨g, t, cs, fuel, p, h1, h2, h3, h4, List.sublist_append_left _ _⟩
    · obtain ⟨g', t', cs', fuel', p', k1, k2, k3, k4, k5⟩ := laidVars_mem h5 hm
      subst h6
      exact ⟨g', t', cs', fuel', p', k1, k2, k3, k4, k5.trans (List.sublist_append_right _ _)⟩
/-- One of the listed variables by itself. -/
theorem laidMet_one {P : Program} {w : World} {n : String} {d : DataW Unit} {l : List (String × DataW Unit)} (h : laidMet P l w) (hm : (n, d) ∈ l) : laidMet P [(n, d)] w := by
  obtain ⟨ps, hv, hnd, hrows⟩ := h
  obtain ⟨g, t, cs, fuel, p, k1, k2, k3, k4, k5⟩ := laidVars_mem hv hm
  refine ⟨MemPlace.row ⟨g, 0, none⟩ cs.size ++ p ++ [], ⟨g, t, cs, fuel, p, [], k1, k2, k3, k4, rfl, rfl⟩, ?_, fun b off hb => hrows b off (k5.subset (by simpa using hb))⟩
  rw [List.append_nil]
  exact List.Nodup.sublist k5 hnd
theorem returnsInHanded_of_laid {H : Type} {enc : TypeId × Value → H} {a : Assume} {C : Checked} {os : Os} {f : FuncId} {fn : Func} {s : ChangeSpec} {conds : List PathCond} {apart fresh handsOn again : Bool} {X : World → Array Value → Prop}
    (hX : ∀ (w w' : World) (args : Array Value), w.heap = w'.heap → X w args → X w' args)
    (own : ownKnob C.prog.godebug = none) (started : os.Started) (noInit : C.prog.inits.idxOf? f = none) (hfn : C.prog.funcs[f]? = some fn)
    (witness : ∃ (w : World) (tape : Tape) (i : Input), w.os = os ∧ (w.forCall tape i).Shaped C.prog ∧ i.vars = [] ∧ Input.okWide C.prog (w.forCall tape i) .any w.heap.size f i ∧
      ((s.pre enc C.prog fn conds apart (w.forCall tape i).memory i.args ∧ X (w.forCall tape i).memory i.args) ∧ sizedMet enc C.prog fn (OpenSpec.ofChange s) apart (w.forCall tape i).memory i.args) ∧ a.holds C.prog (lone (Frame.enter C.prog f i.args .normal) [] (w.forCall tape i)))
    (contract : ∀ (W : World) (base : Nat) (args : Array Value) (ds gs : List (DataW H)) (before : List MemPlace),
      (∀ (j : Nat) t v, fn.params[j]? = some t → args[j]? = some v → Value.okWide C.prog W .any base t v) →
      DataW.Whole enc C.prog fn.params.toList s.vars apart W args.toList ds gs before →
      X W args → W.ShapedOpen C.prog →
      Calls C.prog f args W fun e W' => ∃ v, e = .returned v ∧ s.post enc C.prog fn apart fresh handsOn again W args v W') :
    ReturnsInHanded a C os f .any (fun w args => (s.pre enc C.prog fn conds apart w args ∧ X w args) ∧ sizedMet enc C.prog fn (OpenSpec.ofChange s) apart w args) (s.post enc C.prog fn apart fresh handsOn again) := by
  refine returnsInHanded_of_calls own started noInit witness ?_
  intro w tape i _ hsh _ hok hpre hholds
  obtain ⟨_, _, _, fn', hfn', _, _, _, _, hval⟩ := hok
  have e : fn' = fn := Option.some.inj (hfn'.symm.trans hfn)
  subst e
  obtain ⟨⟨⟨ds, gs, before, hw, hc⟩, hx⟩, hz⟩ := hpre
  have hw' := DataW.Whole.of_heap (w' := w.forCall tape i) (by rfl) hw
  refine (contract (w.forCall tape i) w.heap.size i.args ds gs before hval hw' (hX _ _ _ (by rfl) hx) hsh).mono fun e W' ⟨v, he, hp⟩ => ?_
  subst he
  exact ChangeSpec.post_blind hp
theorem var_cells {P : Program} {w : World} {n : String} {g : Nat} {cs : Array Value} (hg : P.globalNamed n = some g) (hv : w.var? P n = some cs) : ∃ t fr, w.heap[g]? = some (.cells cs t fr) := by
  unfold World.var? at hv
  rw [hg] at hv
  simp only [Option.bind_some] at hv
  split at hv
  · rename_i c t fr e
    injection hv with hv
    subst hv
    exact ⟨t, fr, e⟩
  · cases hv
theorem star_err : "*" ++ "errors.errorString" = "*errors.errorString" := by decide
theorem row_err (u : TypeId) (h : Tryz.prog.typeName? 3 u = some "*errors.errorString") : u = 155 :=
  typeName_ptr_named (nm := "errors.errorString") (by rw [star_err]; kernel_rfl) (by kernel_rfl) (by decide) u (by rw [star_err]; exact h)
/-- The variables that are known, out of what the row lists and of the world's shape. -/
theorem varsOk_of {l : List (String × DataW Unit)} {W : World} (hL : laidMet Tryz.prog l W) (hS : W.ShapedOpen Tryz.prog)
  (hp : ("internal/strconv.uint64pow10", Lib.tabData .u64 Lib.pow10Tab) ∈ l)
  (hs : ("strconv.ErrSyntax", DataW.iface "*errors.errorString" (.ptr (.agg [.lit (.string [105, 110, 118, 97, 108, 105, 100, 32, 115, 121, 110, 116, 97, 120])]))) ∈ l)
  (hr : ("strconv.ErrRange", DataW.iface "*errors.errorString" (.ptr (.agg [.lit (.string [118, 97, 108, 117, 101, 32, 111, 117, 116, 32, 111, 102, 32, 114, 97, 110, 103, 101])]))) ∈ l)
  (hd : ("math/bits.deBruijn64tab", Lib.tabData .u8 (Lib.deBruijn64tab.map fun n : Nat => (n : Int))) ∈ l)
  : VarsOk (· < W.heap.size) W := by
  intro x hx
  have inside : ∀ {g : Nat} {o : Obj}, W.heap[g]? = some o → g < W.heap.size := fun h => (Array.getElem?_eq_some_iff.1 h).1
  have hm : x ∈ varWants := hx
  simp only [varWants, List.nil_append, List.append_assoc, List.cons_append, List.mem_cons, List.not_mem_nil, or_false] at hm
  rcases hm with hm | hm
  · have hg : Tryz.prog.globalNamed "internal/strconv.uint64pow10" = some 1 := by kernel_rfl
    have ht := Lib.tabIs_of_head (g := 1) (t := 140) (e := 22) (n := 20) hg (by kernel_rfl) (by kernel_rfl) (by kernel_rfl) (by kernel_rfl) (by kernel_rfl) (laidMet_one hL hp)
    obtain ⟨t, fr, hh⟩ := var_cells hg ht
    subst hm
    exact ⟨inside hh, _, t, fr, hh, rfl⟩
  rcases hm with hm | hm
  · have hg : Tryz.prog.globalNamed "strconv.ErrSyntax" = some 2 := by kernel_rfl
    obtain ⟨a, s, hv, -, -, -⟩ := laid_sentinel (laidMet_one hL hs) hg (ti := 85) (by kernel_rfl) (ms := Tryz.prog.methodsAt 85) (by kernel_rfl) (tp := 155) row_err (te := 157) (by kernel_rfl) Tryz.underlying157 rfl rfl Tryz.underlying9 (by kernel_rfl) (by kernel_rfl)
    obtain ⟨t, fr, hh⟩ := var_cells hg hv
    subst hm
    exact ⟨inside hh, _, t, fr, hh, _, _, rfl⟩
  rcases hm with hm | hm
  · have hg : Tryz.prog.globalNamed "strconv.ErrRange" = some 3 := by kernel_rfl
    obtain ⟨a, s, hv, -, -, -⟩ := laid_sentinel (laidMet_one hL hr) hg (ti := 85) (by kernel_rfl) (ms := Tryz.prog.methodsAt 85) (by kernel_rfl) (tp := 155) row_err (te := 157) (by kernel_rfl) Tryz.underlying157 rfl rfl Tryz.underlying9 (by kernel_rfl) (by kernel_rfl)
    obtain ⟨t, fr, hh⟩ := var_cells hg hv
    subst hm
    exact ⟨inside hh, _, t, fr, hh, _, _, rfl⟩
  rcases hm with hm | hm
  · have hg : Tryz.prog.globalNamed "math/bits.deBruijn64tab" = some 5 := by kernel_rfl
    have ht := Lib.tabIs_of_head (g := 5) (t := 162) (e := 5) (n := 64) hg (by kernel_rfl) (by kernel_rfl) (by kernel_rfl) (by kernel_rfl) (by kernel_rfl) (laidMet_one hL hd)
    obtain ⟨t, fr, hh⟩ := var_cells hg ht
    subst hm
    exact ⟨inside hh, _, t, fr, hh, rfl⟩
  · obtain ⟨cs, hh, hsz, -⟩ := hS.1 0 #[.int .i64 0] 3 (by decide +kernel) (by kernel_rfl)
    obtain ⟨m, hc⟩ := cell_of_shapedOpen_int (zero := #[.int .i64 0]) (t := 3) (k := .i64) hS (by decide +kernel) (show ((begin Tryz.prog (fun _ _ => 0) default).world.heap[0]?).bind Obj.row? = some (#[.int .i64 0], 3) by kernel_rfl) rfl (by kernel_rfl) (by kernel_rfl) (by kernel_rfl)
    subst hm
    refine ⟨inside hh, cs, _, _, hh, m, ?_⟩
    have h1 : cs.size = 1 := hsz
    have h2 : cs[0]? = some (.int .i64 m) := by have := hc; simp only [World.cell?, hh] at this; exact this
    apply Array.ext
    · simpa using h1
    · intro i q1 q2
      have hi : i = 0 := by omega
      subst hi
      rw [Array.getElem?_eq_getElem q1] at h2
      injection h2
end Go.Proofs.YtboddbheljenhaaGreatDoor
namespace Go.Proofs.YtboddbheljenhaaGreatDoor
open Go.ChangeShapes Go.WideShapes Go.ChangeAt Go.RowKit

section
variable {H : Type} {enc : TypeId × Value → H} {P : Program}

/-- All arguments read as they did. -/
theorem args_same (hl : laidOutB P = true) {W W' : World} (hb : Below W.heap.size W W') :
    ∀ {ts : List TypeId} {vs : List Value} {ds : List (DataW H)} {ps : List MemPlace}, ts.all (fun t => P.readableRec t && decide (t < P.types.size)) = true →
      DataW.TrodAll enc P W 0 (fun _ => true) true ts vs ds ps → (∀ x ∈ ps, x.block < W.heap.size) → DataW.TrodAll enc P W' 0 (fun b => decide (b < W.heap.size)) true ts vs ds ps
  | [], [], [], _, _, h, _ => h
  | t :: ts, v :: vs, d :: ds, ps, hr, h, hlt => by
    obtain ⟨p, q, h1, h2, rfl⟩ := h
    simp only [List.all_cons, Bool.and_eq_true, decide_eq_true_eq] at hr
    exact ⟨p, q, Below.trod hl hr.1.1 hr.1.2 h1 hb (fun x hx => hlt x (by simp [hx])), args_same hl hb hr.2 h2 (fun x hx => hlt x (by simp [hx])), rfl⟩
  | [], _ :: _, _, _, _, h, _ => h.elim
  | [], [], _ :: _, _, _, h, _ => h.elim
  | _ :: _, [], _, _, _, h, _ => h.elim
  | _ :: _, _ :: _, [], _, _, h, _ => h.elim

theorem law_post {f : Func} {s : ChangeSpec} {apart : Bool} {W W' : World} {args : Array Value} {ds : List (DataW H)} {before p : List MemPlace} {tb : TypeId}
    (hW : DataW.Whole enc P f.params.toList s.vars apart W args.toList ds [] before)
    (hA : DataW.TrodAll enc P W 0 (fun _ => true) true f.params.toList args.toList ds p) (hbf : before = p) (hv : s.vars = [])
    (hs : s.fn H (ds ++ []) = { results := [.lit (.bool true)], args := ds }) (hr : f.resultTypes = #[tb]) (htb : P.underlying tb = some .bool)
    (hl : laidOutB P = true) (hrow : f.params.toList.all (fun t => P.readableRec t && decide (t < P.types.size)) = true)
    (hb : Below W.heap.size W W') : s.post enc P f apart true false false W args (.bool true) W' := by
  have hlt : ∀ x ∈ before, x.block < W.heap.size := fun x hx => hW.lt x hx
  refine ⟨ds, [], before, [], p, [], hW, ?_, ?_, ?_, World.keptBut_mono (fun x hx => ⟨hx, .inr (.inl (hbf ▸ hx))⟩) (hb.frame (· ∈ before)), fun h => by cases h⟩
  · rw [hs, hr]
    exact trodAll_cons_mk (p := []) (p' := []) (shut_bool htb _) trodAll_mk0
  · rw [hs]
    exact args_same hl hb hrow hA (fun x hx => hlt x (hbf ▸ hx))
  · rw [hs, hv]; rfl
end
end Go.Proofs.YtboddbheljenhaaGreatDoor
namespace Go.Proofs.YtboddbheljenhaaGreatDoor
open Go.RowKit
theorem opok_make_ro {P : Program} {k : Nat} {st : St} {o : Oper} {t e : TypeId} {l c : Operand} {K : IntKind} {m : Int} (ho : o.op = .makeSlice t l c) (hl : st.aop l = .val (.int .i64 m)) (hc : st.aop c = .val (.int .i64 m)) (ht : P.underlying t = some (.slice e))
    (hi : (P.info? e).map (fun i => (i.zero, i.size, i.bytes)) = some (some (.int K 0), 1, 1)) (h0 : 0 ≤ m) (h1 : m ≤ 16777216) :
    OpOk P k st o ⟨.ro (ints K (List.replicate m.toNat 0)), [], [], []⟩ :=
  opok_newro fun ψ prot w ρ hr hlt => by
    obtain ⟨i, hi0, hz0, hs0, hb0⟩ := info_parts hi
    have e1 := (hl ▸ hr l (by simp [ho, Op.operands])).val_eq
    have e2 := (hc ▸ hr c (by simp [ho, Op.operands])).val_eq
    have hrun := run_make (P := P) w t e i (.int K 0) ht hi0 hz0 .i64 .i64 m m h0 (Int.le_refl _) (by rw [hb0]; omega) (by omega)
    rw [hs0, Nat.mul_one] at hrun
    have ho1 := World.ownsRow_lit (base := 0) (size := 1) (e := e) w (madeCells (Value.cells (.int K 0)) m.toNat) m.toNat (Nat.zero_le _) (by unfold maxLen; omega) (by simp [size_madeCells])
    rw [made_zeros] at ho1
    refine ⟨.slice (some ⟨w.heap.size, 0, none⟩) m.toNat m.toNat, .cells (madeCells (Value.cells (.int K 0)) m.toNat) e (0, 0), by unfold execOp; simp only [ho, e1, e2, Sem.run_bind, hrun, Result.andThen_ok, Sem.run_pure], ?_⟩
    have el : (ints K (List.replicate m.toNat 0)).length = m.toNat := by simp
    have := ro_row (ψ := ψ) (prot := prot) (w := w.alloc (.cells (madeCells (Value.cells (.int K 0)) m.toNat) e (0, 0))) (t := e) (sz := 1) (cap := m.toNat) (bl := some w.heap.size) (es := ints K (List.replicate m.toNat 0)) (xs := (List.replicate m.toNat (0 : Int)).map (Value.int K)) (by rw [el]; exact ho1) (by rw [flat_ints]; exact vrels_zeros K _)
    rw [el] at this
    exact this.mono (fun _ _ _ h => h) fun b hb => ⟨hb.imp id fun h => by injection h with h; exact h.symm, rfl⟩
theorem runk_makeR {P : Program} {k : Nat} {ops : Array Oper} {N : Nat} {draw : Bool} {K : St → Prop} {o : Oper} {os : List Oper} {env : List (Nat × AVal)} {objs : Writes} {acc : List Tr} {d : Nat} {t e : TypeId} {l c : Operand} {J : IntKind} {m : Int} (hg : o.guard = none) (hd : o.dst = some d) (ho : o.op = .makeSlice t l c) (hl : (⟨env, objs⟩ : St).aop l = .val (.int .i64 m)) (hc : (⟨env, objs⟩ : St).aop c = .val (.int .i64 m)) (ht : P.underlying t = some (.slice e))
    (hs : sizeIs P e 1) (hz : (P.info? e).bind (·.zero) = some (.int J 0)) (hb : (P.info? e).map (·.bytes) = some 1) (h0 : 0 ≤ m) (h1 : m ≤ 16777216)
    (t : RunK P k ops N draw os ⟨(d, .ro (ints J (List.replicate m.toNat 0))) :: env, objs⟩ (⟨.ro (ints J (List.replicate m.toNat 0)), [], [], []⟩ :: acc) K) : RunK P k ops N draw (o :: os) ⟨env, objs⟩ acc K := by
  cases hi : P.info? e with
  | none => rw [hi] at hz; cases hz
  | some i =>
    unfold sizeIs at hs
    rw [hi] at hs hz hb
    have hz' : i.zero = some (.int J 0) := hz
    simp only [Option.map_some, Option.some.injEq] at hs hb
    exact runk0 hg hd (opok_make_ro (K := J) ho hl hc ht (by rw [hi]; simp [hs, hz', hb]) h0 h1) t
end Go.Proofs.YtboddbheljenhaaGreatDoor
namespace Go.Proofs.YtboddbheljenhaaGreatDoor
open Go.RowKit
theorem ints_vals {ψ : Ghost} {prot : Nat → Prop} {w : World} {K : IntKind} {xs : List Int} {zs : List Value} (h : VRels ψ prot w (ints K xs) zs) : zs = xs.map (Value.int K) := by
  apply List.ext_getElem
  · have := h.1; simpa using this
  · intro i q1 q2
    have hi : i < xs.length := by simpa using q2
    have := (h.2 i (.val (.int K xs[i])) zs[i] (by rw [ints_get]; simp [hi]) (List.getElem?_eq_getElem q1)).val_eq
    simp [this]
theorem copied_take (K : IntKind) {xs ys : List Int} {cl : List Value} {off : Nat} (h : cl.take xs.length = xs.map (Value.int K)) (hl : off + ys.length ≤ xs.length) :
    (cl.take off ++ ys.map (Value.int K) ++ cl.drop (off + ys.length)).take (xs.take off ++ ys ++ xs.drop (off + ys.length)).length = (xs.take off ++ ys ++ xs.drop (off + ys.length)).map (Value.int K) := by
  have hxl : (xs.take off ++ ys ++ xs.drop (off + ys.length)).length = xs.length := by simp; omega
  have hcl := (List.take_append_drop xs.length cl).symm
  rw [h] at hcl
  generalize cl.drop xs.length = R at hcl
  subst hcl
  have e1 : (xs.map (Value.int K) ++ R).take off = (xs.map (Value.int K)).take off := List.take_append_of_le_length (by simp; omega)
  have e2 : (xs.map (Value.int K) ++ R).drop (off + ys.length) = (xs.map (Value.int K)).drop (off + ys.length) ++ R := List.drop_append_of_le_length (by simp; omega)
  rw [hxl, e1, e2, ← List.append_assoc, List.take_append_of_le_length (by simp; omega), List.take_of_length_le (by simp; omega)]
  simp [List.map_take, List.map_drop]
/-- An array's value. -/
theorem opok_buildA {P : Program} {k : Nat} {st : St} {o : Oper} {t e : TypeId} {n : Nat} {parts : Array (Nat × Operand)} {sz : Nat} {z : Value} {vs : List (Nat × AVal)} {out : List AVal} (ho : o.op = .build t parts) (hu : P.underlying t = some (.array n e)) (hs : sizeIs P e sz) (hz : (P.info? t).bind (·.zero) = some z)
    (hp : PartsOf st parts.toList vs) (hf : fillA (fun i => some (i * sz, sz)) (AVal.val z).flat vs = some out) : OpOk P k st o ⟨.agg out, [], [], []⟩ :=
  opok_quiet fun ψ prot obj w ρ _ hr _ => by
    have hvs := hp.spec
    cases hi : P.info? t with
    | none => rw [hi] at hz; cases hz
    | some i =>
      have hz' : i.zero = some z := by rw [hi] at hz; exact hz
      obtain ⟨cs', g1, g2⟩ := fill_rel (ψ := ψ) (prot := prot) (w := w) vs (parts.toList.map fun x => (x.1, ρ x.2)) _ out z.cells (by simp [← hvs]) (fun j p q h1 h2 => by
        rw [← hvs] at h1
        simp only [List.getElem?_map] at h1 h2
        cases hq : parts.toList[j]? with
        | none => rw [hq] at h1; cases h1
        | some y =>
          rw [hq] at h1 h2
          simp only [Option.map_some, Option.some.injEq] at h1 h2
          subst h1; subst h2
          exact ⟨rfl, hr y.2 (by simp only [ho, Op.operands]; simp; exact ⟨y.1, by simpa using List.mem_of_getElem? hq⟩)⟩) (VRel.flat (.val z) rfl) hf
      cases hj : P.info? e with
      | none => unfold sizeIs at hs; rw [hj] at hs; cases hs
      | some ie =>
        have hsz : ie.size = sz := by unfold sizeIs at hs; rw [hj] at hs; simpa using hs
        have hb : P.built t (parts.map fun (i, x) => (i, ρ x)).toList = some cs' := by
          simp only [Program.built, hi, hu, hz', hj, hsz, Array.toList_map]
          exact g1
        refine ⟨.agg cs', ?_, VRels.agg g2⟩
        simp only [execOp, ho, Sem.run_bind, Sem.run_pure]
        rw [run_build w t _ cs' hb]
        rfl
end Go.Proofs.YtboddbheljenhaaGreatDoor
