/-
  Texts by their bytes. No program is named here.
-/
import Derived.Test.YtboddbheljenhaaGreatDoorG04
import Derived.Lib.Strings
import Derived.Laws.CopyRow
namespace Go.Proofs.YtboddbheljenhaaGreatDoor
open Go.RowKit
def bstr (l : List UInt8) : Value := .string ⟨l.toArray⟩
theorem bstr_of (s : ByteArray) : Value.string s = bstr s.data.toList := rfl
theorem mk_toList (l : List UInt8) : (⟨l.toArray⟩ : ByteArray).toList = l := Lib.toList_data _
theorem mk_size (l : List UInt8) : (⟨l.toArray⟩ : ByteArray).size = l.length := rfl
theorem mk_append (a b : List UInt8) : (⟨a.toArray⟩ : ByteArray) ++ ⟨b.toArray⟩ = ⟨(a ++ b).toArray⟩ := by
  apply ByteArray.ext
  rw [ByteArray.data_append]
  simp
theorem mk_extract (l : List UInt8) (i j : Nat) : (⟨l.toArray⟩ : ByteArray).extract i j = ⟨((l.drop i).take (j - i)).toArray⟩ := by
  apply ByteArray.ext
  rw [ByteArray.data_extract]
  simp [List.extract_eq_take_drop]
theorem bstr_bytes (xs : List Int) : Value.string (strOfNums xs) = bstr (xs.map fun n => UInt8.ofNat n.toNat) := rfl
section
variable {P : Program} {k : Nat} {st : St} {o : Oper}
theorem opok_scat {t yt : TypeId} {x y : Operand} {a b : List UInt8} (ho : o.op = .binOp .add t x y yt) (hx : st.aop x = .val (bstr a)) (hy : st.aop y = .val (bstr b)) (hl : a.length + b.length ≤ 9223372036854775807) : OpOk P k st o ⟨.val (bstr (a ++ b)), [], [], []⟩ :=
  opok_bin ho hx hy fun w => by
    have h1 : ¬ ((((⟨a.toArray⟩ : ByteArray).size + (⟨b.toArray⟩ : ByteArray).size : Nat) : Int) > IntKind.i64.max) := by
      rw [mk_size, mk_size]
      have : IntKind.i64.max = 9223372036854775807 := rfl
      omega
    simp only [eqGuard, binOp, bstr, Op.stringOp, h1, if_false, mk_append]
    rfl
theorem opok_seql {t yt : TypeId} {x y : Operand} {a b : List UInt8} (ho : o.op = .binOp .eql t x y yt) (hx : st.aop x = .val (bstr a)) (hy : st.aop y = .val (bstr b)) : OpOk P k st o ⟨.val (.bool (a == b)), [], [], []⟩ :=
  opok_bin ho hx hy fun w => by
    simp only [eqGuard, binOp, bstr, Op.stringOp, mk_toList]
    rfl
theorem opok_sneq {t yt : TypeId} {x y : Operand} {a b : List UInt8} (ho : o.op = .binOp .neq t x y yt) (hx : st.aop x = .val (bstr a)) (hy : st.aop y = .val (bstr b)) : OpOk P k st o ⟨.val (.bool (!(a == b))), [], [], []⟩ :=
  opok_bin ho hx hy fun w => by
    simp only [eqGuard, binOp, bstr, Op.stringOp, mk_toList]
    rfl
theorem opok_slss {t yt : TypeId} {x y : Operand} {a b : List UInt8} (ho : o.op = .binOp .lss t x y yt) (hx : st.aop x = .val (bstr a)) (hy : st.aop y = .val (bstr b)) : OpOk P k st o ⟨.val (.bool (Op.bytesLess a b)), [], [], []⟩ :=
  opok_bin ho hx hy fun w => by
    simp only [eqGuard, binOp, bstr, Op.stringOp, mk_toList]
    rfl
theorem opok_slen {x : Operand} {t : TypeId} {a : List UInt8} (ho : o.op = .call { callee := .builtin .len, args := #[x], argTypes := #[t] }) (hx : st.aop x = .val (bstr a)) (ht : P.underlying t = some .string) : OpOk P k st o ⟨.val (.int .i64 a.length), [], [], []⟩ :=
  opok_lenS ho hx ht
def byteAt (l : List UInt8) (i : Int) : Int := ((l.getD i.toNat 0).toNat : Int)
theorem byteAt_get {l : List UInt8} {i : Nat} {x : UInt8} (h : l[i]? = some x) : byteAt l (i : Int) = (x.toNat : Int) := by
  unfold byteAt
  rw [List.getD_eq_getElem?_getD, Int.toNat_natCast, h]; rfl
theorem run_sindex {t : TypeId} (ht : P.underlying t = some .string) (l : List UInt8) (kd : IntKind) (i : Int) (h0 : 0 ≤ i) (h1 : i < l.length) (w : World) :
    (Instr.index t (bstr l) (.int kd i)).run P w = .ok (.int .u8 (byteAt l i)) w := by
  show _ = Result.ok (Value.int .u8 ((l.getD i.toNat 0).toNat : Int)) w
  have hi : i.toNat < l.length := by omega
  have e : (⟨l.toArray⟩ : ByteArray)[i.toNat]? = some (l.getD i.toNat 0) := by
    have : (⟨l.toArray⟩ : ByteArray)[i.toNat]? = some (⟨l.toArray⟩ : ByteArray)[i.toNat] := getElem?_pos _ _ (by rw [mk_size]; exact hi)
    rw [this, List.getD_eq_getElem?_getD, List.getElem?_eq_getElem hi]
    rfl
  simp [Instr.index, asIntOf, run_underlying ht, bstr, h0, e, go_sem]
theorem opok_sindex {t : TypeId} {x ix : Operand} {l : List UInt8} {kd : IntKind} {i : Int} (ho : o.op = .index t x ix) (hx : st.aop x = .val (bstr l)) (hi : st.aop ix = .val (.int kd i)) (ht : P.underlying t = some .string) (h0 : 0 ≤ i) (h1 : i < l.length) : OpOk P k st o ⟨.val (.int .u8 (byteAt l i)), [], [], []⟩ :=
  opok_ixv ho hx hi fun w => run_sindex ht l kd i h0 h1 w
theorem opok_sslice {t : TypeId} {x : Operand} {lo' hi' : Option Operand} {l : List UInt8} (lo hi : Nat) (ho : o.op = .slice t x lo' hi' none) (hx : st.aop x = .val (bstr l)) (ht : P.underlying t = some .string)
    (hlo : boundIs st lo' 0 lo) (hhi : boundIs st hi' l.length hi) (h1 : lo ≤ hi) (h2 : hi ≤ l.length) : OpOk P k st o ⟨.val (bstr ((l.drop lo).take (hi - lo))), [], [], []⟩ :=
  opok_quiet fun ψ prot obj w ρ _ hr r => by
    have e1 := (hx ▸ hr x (by simp [ho, Op.operands]) : VRel ψ prot w (.val (bstr l)) (ρ x)).val_eq
    have b1 : lo'.map ρ = none ∧ lo = 0 ∨ ∃ kd, lo'.map ρ = some (.int kd lo) := by
      rcases hlo with ⟨rfl, rfl⟩ | ⟨y, kd, rfl, hy⟩
      · exact .inl ⟨rfl, rfl⟩
      · refine .inr ⟨kd, ?_⟩
        have := (hy ▸ hr y (by simp [ho, Op.operands]) : VRel ψ prot w (.val (.int kd lo)) (ρ y)).val_eq
        simp [this]
    have b2 : hi'.map ρ = none ∧ hi = l.length ∨ ∃ kd, hi'.map ρ = some (.int kd hi) := by
      rcases hhi with ⟨rfl, rfl⟩ | ⟨y, kd, rfl, hy⟩
      · exact .inl ⟨rfl, rfl⟩
      · refine .inr ⟨kd, ?_⟩
        have := (hy ▸ hr y (by simp [ho, Op.operands]) : VRel ψ prot w (.val (.int kd hi)) (ρ y)).val_eq
        simp [this]
    refine ⟨bstr ((l.drop lo).take (hi - lo)), ?_, .val _⟩
    have hsb : (Instr.sliceBounds false l.length l.length (lo'.map ρ) (hi'.map ρ) none).run P w = .ok (lo, hi, l.length) w := by
      have hb : ∀ (kd : IntKind) (n m : Nat) (e : BoundsCode), n ≤ m → (Instr.sliceBound (.int kd n) m e).run P w = .ok n w := fun kd n m e h => by
        simp [Instr.sliceBound, asIntOf, h, go_sem]
      rcases b1 with ⟨q1, rfl⟩ | ⟨kd, q1⟩ <;> rcases b2 with ⟨q2, rfl⟩ | ⟨kd', q2⟩
      · simp [Instr.sliceBounds, q1, q2, go_sem]
      · simp [Instr.sliceBounds, q1, q2, hb _ _ _ _ h2, go_sem]
      · simp [Instr.sliceBounds, q1, q2, hb _ _ _ _ h1, go_sem]
      · simp [Instr.sliceBounds, q1, q2, hb _ _ _ _ h2, hb _ _ _ _ h1, go_sem]
        exact fun h => absurd h1 (by omega)
    have hrun : (Instr.slice t (bstr l) (lo'.map ρ) (hi'.map ρ) none).run P w = .ok (bstr ((l.drop lo).take (hi - lo))) w := by
      simp only [Instr.slice, Sem.run_bind, run_underlying ht, Result.andThen_ok, bstr, Option.isSome_none, Bool.false_eq_true, if_false, Sem.run_pure, mk_size, hsb, mk_extract]
    have hrun2 : (Instr.sliceAt t (bstr l) (lo'.map ρ) (hi'.map ρ) none).run P w = .ok (bstr ((l.drop lo).take (hi - lo))) w := by
      simp only [Instr.sliceAt, Sem.run_bind, run_underlying ht, Result.andThen_ok, hrun]
    simp only [execOp, ho, e1, hrun2, Sem.run_bind, Sem.run_pure, Result.andThen_ok, Option.map_none]
theorem VRel.ifc_inv {ψ : Ghost} {prot : Nat → Prop} {w : World} {it : TypeId} {v : Value} (h : VRel ψ prot w (.ifc it) v) : ∃ u, v = .iface it u := by
  cases h with | ifc _ u => exact ⟨u, rfl⟩
theorem opok_errNe {t yt it : TypeId} {x y : Operand} (ho : o.op = .binOp .neq t x y yt) (hx : st.aop x = .ifc it) (hy : st.aop y = .val .nilIface) (ht : P.underlying t = some (.interface (P.methodsAt t))) : OpOk P k st o ⟨.val (.bool true), [], [], []⟩ :=
  opok_quiet fun ψ prot obj w ρ _ hr _ => by
    have h2 := (hy ▸ hr y (by simp [ho, Op.operands]) : VRel ψ prot w (.val .nilIface) (ρ y)).val_eq
    obtain ⟨v, hv⟩ := (hx ▸ hr x (by simp [ho, Op.operands]) : VRel ψ prot w (.ifc it) (ρ x)).ifc_inv
    have hb : (binOp .neq t (.iface it v) .nilIface).run P w = .ok (.bool true) w := by
      exact run_neq_held_nil w t it v ht
    refine ⟨.bool true, ?_, .val _⟩
    simp only [execOp, ho, hv, h2, Sem.run_bind, eqGuard, Bool.not_true, Bool.false_eq_true, if_false, hb, Sem.run_pure, Result.andThen_ok]
theorem opok_errEq {t yt it : TypeId} {x y : Operand} (ho : o.op = .binOp .eql t x y yt) (hx : st.aop x = .ifc it) (hy : st.aop y = .val .nilIface) (ht : P.underlying t = some (.interface (P.methodsAt t))) : OpOk P k st o ⟨.val (.bool false), [], [], []⟩ :=
  opok_quiet fun ψ prot obj w ρ _ hr _ => by
    have h2 := (hy ▸ hr y (by simp [ho, Op.operands]) : VRel ψ prot w (.val .nilIface) (ρ y)).val_eq
    obtain ⟨v, hv⟩ := (hx ▸ hr x (by simp [ho, Op.operands]) : VRel ψ prot w (.ifc it) (ρ x)).ifc_inv
    have hb : (binOp .eql t (.iface it v) .nilIface).run P w = .ok (.bool false) w := by
      exact run_eql_held_nil w t it v ht
    refine ⟨.bool false, ?_, .val _⟩
    simp only [execOp, ho, hv, h2, Sem.run_bind, eqGuard, Bool.not_true, Bool.false_eq_true, if_false, hb, Sem.run_pure, Result.andThen_ok]
end
end Go.Proofs.YtboddbheljenhaaGreatDoor
namespace Go.Proofs.YtboddbheljenhaaGreatDoor
open Go.RowKit
theorem ints_vals {ψ : Ghost} {prot : Nat → Prop} {w : World} {K : IntKind} {xs : List Int} {zs : List Value} (h : VRels ψ prot w (ints K xs) zs) : zs = xs.map (Value.int K) := by
  apply List.ext_getElem
  · have := h.1; simpa using this
  · intro i q1 q2
    have hi : i < xs.length := by simpa using q2
    have := (h.2 i (.val (.int K xs[i])) zs[i] (by rw [ints_get]; simp [hi]) (List.getElem?_eq_getElem q1)).val_eq
    simp [this]
theorem opok_buildA {P : Program} {k : Nat} {st : St} {o : Oper} {t e : TypeId} {n : Nat} {parts : Array (Nat × Operand)} {sz : Nat} {z : Value} {vs : List (Nat × AVal)} {out : List AVal} (ho : o.op = .build t parts) (hu : P.underlying t = some (.array n e)) (hs : sizeIs P e sz) (hz : (P.info? t).bind (·.zero) = some z)
    (hp : PartsOf st parts.toList vs) (hf : fillA (fun i => some (i * sz, sz)) (AVal.val z).flat vs = some out) : OpOk P k st o ⟨.agg out, [], [], []⟩ :=
  opok_quiet fun ψ prot obj w ρ _ hr _ => by
    have hvs := hp.spec
    cases hi : P.info? t with
    | none => rw [hi] at hz; cases hz
    | some i =>
      have hz' : i.zero = some z := by rw [hi] at hz; exact hz
      obtain ⟨cs', g1, g2⟩ := fill_rel (ψ := ψ) (prot := prot) (w := w) vs (parts.toList.map fun x => (x.1, ρ x.2)) _ out z.cells (by simp [← hvs]) (fun j p q h1 h2 => by
        rw [← hvs] at h1
        simp only [List.getElem?_map] at h1 h2
        cases hq : parts.toList[j]? with
        | none => rw [hq] at h1; cases h1
        | some y =>
          rw [hq] at h1 h2
          simp only [Option.map_some, Option.some.injEq] at h1 h2
          subst h1; subst h2
          exact ⟨rfl, hr y.2 (by simp only [ho, Op.operands]; simp; exact ⟨y.1, by simpa using List.mem_of_getElem? hq⟩)⟩) (VRel.flat (.val z) rfl) hf
      cases hj : P.info? e with
      | none => unfold sizeIs at hs; rw [hj] at hs; cases hs
      | some ie =>
        have hsz : ie.size = sz := by unfold sizeIs at hs; rw [hj] at hs; simpa using hs
        have hb : P.built t (parts.map fun (i, x) => (i, ρ x)).toList = some cs' := by
          simp only [Program.built, hi, hu, hz', hj, hsz, Array.toList_map]
          exact g1
        refine ⟨.agg cs', ?_, VRels.agg g2⟩
        simp only [execOp, ho, Sem.run_bind, Sem.run_pure]
        rw [run_build w t _ cs' hb]
        rfl
end Go.Proofs.YtboddbheljenhaaGreatDoor
namespace Go.Proofs.YtboddbheljenhaaGreatDoor
open Go.RowKit
section
variable (bs : List Bind) (fr : List (Nat × Nat × AObj))
def bindOutN : Writes := bs.map (fun b => (b.p, b.o'.map fun o => (0, o))) ++ fr.map fun x => (x.1, some (0, x.2.2))
def bindBackN (k : Nat) : List (Nat × Nat × Nat × Nat) := bs.map (fun b => (b.p, 0, b.n, b.k)) ++ fr.map fun x => (x.1, 0, x.2.1, k)
def bindWrN (k : Nat) : Writes := bs.map (fun b => (b.n, b.o'.map fun o => (b.k, o))) ++ fr.map fun x => (x.2.1, some (k, x.2.2))
def bindTouchN : List Nat := bs.map (·.n) ++ fr.map (·.2.1)
def bindOkN : Bool :=
  decide (bs.map (·.n) ++ fr.map (·.2.1)).Nodup && decide (bs.map (·.p) ++ fr.map (·.1)).Nodup && bs.all (fun b => decide (b.p < 1000) && b.o.pure && (match b.o' with | some o => o.pure | none => true)) && fr.all (fun x => decide (1000 ≤ x.1) && x.2.2.pure)
end
section
variable {P : Program} {k : Nat} {st : St} {o : Oper}
end
end Go.Proofs.YtboddbheljenhaaGreatDoor
namespace Go.Proofs.YtboddbheljenhaaGreatDoor
open Go.RowKit
def Timeless (v : AVal) : Prop := ∀ (ψ : Ghost) (prot : Nat → Prop) (w : World) (cv : Value), VRel ψ prot w v cv → ∀ (ψ' : Ghost) (prot' : Nat → Prop) (w' : World), VRel ψ' prot' w' v cv
theorem timeless_val (u : Value) : Timeless (.val u) := fun ψ prot w cv h ψ' prot' w' => by
  have := h.val_eq
  subst this
  exact .val _
theorem timeless_ifc (t : TypeId) : Timeless (.ifc t) := fun ψ prot w cv h ψ' prot' w' => by
  obtain ⟨u, rfl⟩ := h.ifc_inv
  exact .ifc t u
theorem timeless_tuple {vs : List AVal} (h : ∀ v ∈ vs, Timeless v) : Timeless (.tuple vs) := fun ψ prot w cv hv ψ' prot' w' => by
  cases hv with
  | tuple _ us hl hr => exact .tuple _ us hl fun i x u h1 h2 => h x (List.mem_of_getElem? h1) _ _ _ _ (hr i x u h1 h2) _ _ _
theorem timeless_agg {vs : List AVal} (h : ∀ v ∈ vs, Timeless v) : Timeless (.agg vs) := fun ψ prot w cv hv ψ' prot' w' => by
  cases hv with
  | agg _ us hl hr => exact .agg _ us hl fun i x u h1 h2 => h x (List.mem_of_getElem? h1) _ _ _ _ (hr i x u h1 h2) _ _ _
theorem spec_lendT {P : Program} {f : FuncId} {t : TypeId} {sz : Nat} {es args args' : List AVal} {v : AVal} (hv : Timeless v) (hl : args'.length = args.length) (ha : ∀ (i : Nat) (y : AVal), args[i]? = some y → ∃ x, args'[i]? = some x ∧ Frz 0 0 es x y) (h : Spec P f args [] v []) :
    Spec P f args' [(0, some (0, .row t sz es))] v [(0, some (0, .row t sz es))] := by
  intro ψ prot w cargs hgh hrh hsz hargs
  obtain ⟨loc, hψ, h2⟩ := hrh.live 0 0 (.row t sz es) (by simp [updW, List.lookup])
  have hone : ∀ n j o, updW (fun _ => none) [(0, some (0, AObj.row t sz es))] n = some (j, o) → n = 0 ∧ j = 0 ∧ o = .row t sz es := fun n j o e => by
    by_cases h0 : n = 0
    · subst h0
      have e2 : some ((0 : Nat), AObj.row t sz es) = some (j, o) := by simpa [updW, List.lookup] using e
      injection e2 with e2
      injection e2 with e3 e4
      exact ⟨rfl, e3.symm, e4.symm⟩
    · have : (n == 0) = false := by simpa using h0
      simp [updW, List.lookup, this] at e
  have hlive : updW (fun _ => none) [(0, some (0, AObj.row t sz es))] 0 = some (0, .row t sz es) := by simp [updW, List.lookup]
  have hown : ∀ b, loc.block = some b → ¬ unowned ψ (updW (fun _ => none) [(0, some (0, .row t sz es))]) w b := fun b hb hu => hu.2 0 0 _ loc hlive hψ hb
  let prot2 : Nat → Prop := fun b => prot b ∨ loc.block = some b
  have hp2 : ∀ b, prot2 b → b < w.heap.size := fun b hb => hb.elim (fun h => (hrh.pr b h).1) (fun h => h2.inside b h)
  have h2' := h2
  have hor := h2
  have hmono : ∀ b, prot b → prot2 b := fun b hb => .inl hb
  have hro : ∀ u, VRel ψ prot w (.own 0 0 es.length) u → VRel ψ prot2 w (.ro es) u := fun u hu => by
    obtain ⟨loc', hv, hψ'⟩ := hu.own_inv
    rw [hψ] at hψ'; injection hψ' with hψ'; subst hψ'
    obtain ⟨xs, g3, g4, g5⟩ := loc_of_own hor
    rw [hv]
    cases hb : loc.block with
    | none =>
      obtain ⟨q1, q2⟩ := g5 hb
      obtain rfl : es = [] := List.eq_nil_of_length_eq_zero q1
      rw [q2]; exact .roNil _ _ fun _ => rfl
    | some b =>
      obtain ⟨ys, k1, k2⟩ := hor
      refine .ro es xs b 0 loc.cap ?_ (.inr hb) g3.1 (fun i v hi => ?_) fun i x v hx hi => (g3.2 i x v hx hi).mono (fun _ _ _ h => h) fun b hb => ⟨hmono b hb, rfl⟩
      · rw [hb] at k1
        rcases k1.2 with ⟨h, _⟩ | ⟨g, c, cur, h, _, _, hle, _⟩
        · cases h
        · injection h with _ _ e3; rw [e3]; exact hle
      · obtain ⟨ad, q1, q2⟩ := g4 i v hi
        rw [hb] at q1
        simp only [Option.map_some, Option.some.injEq] at q1
        subst q1
        rwa [addr_add0] at q2
  refine Calls.mono (h ψ prot2 w cargs hgh ⟨rh_nil hp2, hrh.vr.mono fun b hb => ⟨.inl hb, rfl⟩⟩ (by rw [hsz, hl]) (fun i y u e1 e2 => ?_)) ?_
  · obtain ⟨x, hx, hf⟩ := ha i y e1
    exact hf.rel hmono hro (hargs i x u hx e2)
  rintro e w' ⟨cv, ψ', prot', rfl, q1, q2, q3⟩
  have hpb : ∀ b, prot b → loc.block ≠ some b := fun b hb hl => hown b hl (hrh.pr b hb)
  have hheap : ∀ b, b < w.heap.size → w'.heap[b]? = w.heap[b]? := fun b hb => (q1.un b (unowned_nil.2 hb)).2
  refine ⟨_, ψ', fun b => prot' b ∧ loc.block ≠ some b, rfl, ⟨q1.os, q1.tape, q1.output, q1.size, q1.gh, fun b hb => ⟨q1.pr b (.inl hb), hpb b hb⟩, fun b hb => ⟨⟨Nat.lt_of_lt_of_le hb.1 q1.size, fun n j o l e1 e2 e3 => ?_⟩, hheap b hb.1⟩, fun b hb => ?_⟩, ⟨fun n j o e1 => ?_, fun n n1 j j1 o o1 l l1 e1 e2 hne => ?_, fun b hb => ⟨(q2.pr b hb.1).1, fun n j o l e1 e2 e3 => ?_⟩⟩, ?_⟩
  · obtain ⟨rfl, rfl, rfl⟩ := hone n j o e1
    rw [q1.gh 0 0 loc hψ] at e2
    injection e2 with e2
    subst e2
    exact hb.2 0 0 _ loc hlive hψ e3
  · rcases q1.new b hb.1 with h3 | h3
    · exact h3.elim .inl fun h3 => absurd h3 hb.2
    · exact .inr fun hu => h3 (unowned_nil.2 hu.1)
  · obtain ⟨rfl, rfl, rfl⟩ := hone n j o e1
    exact ⟨loc, q1.gh 0 0 loc hψ, ORel.mono q1.gh (fun b hb => ⟨⟨q1.pr b (.inl hb), hpb b hb⟩, hheap b (hrh.pr b hb).1⟩) (fun b hb => hheap b (h2'.inside b hb)) h2'⟩
  · obtain ⟨rfl, rfl, rfl⟩ := hone n j o e1
    obtain ⟨rfl, rfl, rfl⟩ := hone n1 j1 o1 e2
    exact absurd rfl hne
  · obtain ⟨rfl, rfl, rfl⟩ := hone n j o e1
    rw [q1.gh 0 0 loc hψ] at e2
    injection e2 with e2
    subst e2
    exact hb.2 e3
  · exact hv _ _ _ _ q3 _ _ _
theorem spec_belowV {P : Program} {f : FuncId} {args : List AVal} {v : AVal} (hv : Timeless v) (h : ∀ (ψ : Ghost) (prot : Nat → Prop) (w : World) (cargs : Array Value), VarsOk prot w → (∀ b, prot b → b < w.heap.size) → cargs.size = args.length → (∀ (i : Nat) (x : AVal) (v : Value), args[i]? = some x → cargs[i]? = some v → VRel ψ prot w x v) →
    Calls P f cargs w fun e w' => ∃ cv, e = .returned cv ∧ VRel ψ prot w' v cv ∧ Below w.heap.size w w') : Spec P f args [] v [] := by
  intro ψ prot w cargs _ hrh hsz hargs
  refine Calls.mono (h ψ prot w cargs hrh.vr (fun b hb => (hrh.pr b hb).1) hsz hargs) ?_
  rintro e w' ⟨cv, rfl, hr, hb⟩
  exact ⟨cv, ψ, prot, rfl, ⟨hb.os, hb.tape, hb.output, hb.size, fun _ _ _ h => h, fun _ h => h, fun b hb' => ⟨unowned_nil.2 (Nat.lt_of_lt_of_le (unowned_nil.1 hb') hb.size), hb.block b (unowned_nil.1 hb')⟩, fun b hb' => .inl hb'⟩, rh_nil fun b hb' => Nat.lt_of_lt_of_le (hrh.pr b hb').1 hb.size, hv _ _ _ _ hr _ _ _⟩
theorem spec_fresh {P : Program} {f : FuncId} {args : List AVal} {v : AVal} (h : ∀ (ψ : Ghost) (prot : Nat → Prop) (w : World) (cargs : Array Value), VarsOk prot w → (∀ b, prot b → b < w.heap.size) → cargs.size = args.length → (∀ (i : Nat) (x : AVal) (v : Value), args[i]? = some x → cargs[i]? = some v → VRel ψ prot w x v) →
    Calls P f cargs w fun e w' => ∃ cv, e = .returned cv ∧ VRel ψ (fun b => prot b ∨ (w.heap.size ≤ b ∧ b < w'.heap.size)) w' v cv ∧ Below w.heap.size w w') : Spec P f args [] v [] := by
  intro ψ prot w cargs _ hrh hsz hargs
  refine Calls.mono (h ψ prot w cargs hrh.vr (fun b hb => (hrh.pr b hb).1) hsz hargs) ?_
  rintro e w' ⟨cv, rfl, hr, hb⟩
  exact ⟨cv, ψ, fun b => prot b ∨ (w.heap.size ≤ b ∧ b < w'.heap.size), rfl, ⟨hb.os, hb.tape, hb.output, hb.size, fun _ _ _ h => h, fun _ h => .inl h, fun b hb' => ⟨unowned_nil.2 (Nat.lt_of_lt_of_le (unowned_nil.1 hb') hb.size), hb.block b (unowned_nil.1 hb')⟩, fun b hb' => hb'.elim .inl fun h => .inr fun hu => by have := unowned_nil.1 hu; omega⟩, rh_nil fun b hb' => hb'.elim (fun h => Nat.lt_of_lt_of_le (hrh.pr b h).1 hb.size) fun h => h.2, hr⟩
theorem one_arg {ψ : Ghost} {prot : Nat → Prop} {w : World} {cargs : Array Value} {u : Value} (hsz : cargs.size = [AVal.val u].length) (h : ∀ (i : Nat) (x : AVal) (v : Value), [AVal.val u][i]? = some x → cargs[i]? = some v → VRel ψ prot w x v) : cargs = #[u] :=
  vals_of (vs := #[u]) hsz h
def strL (ls : List (List UInt8)) : List AVal := ls.map fun l => .val (bstr l)
@[simp] theorem length_strL (ls : List (List UInt8)) : (strL ls).length = ls.length := by simp [strL]
theorem strL_cons (l : List UInt8) (ls : List (List UInt8)) : strL (l :: ls) = .val (bstr l) :: strL ls := rfl
theorem strL_append (a b : List (List UInt8)) : strL (a ++ b) = strL a ++ strL b := by simp [strL]
theorem strL_get (ls : List (List UInt8)) (i : Nat) : (strL ls)[i]? = (ls[i]?).map fun l => .val (bstr l) := by simp [strL]
@[simp] theorem flat_strL : ∀ ls : List (List UInt8), (strL ls).flatMap AVal.flat = strL ls
  | [] => rfl
  | l :: ls => by rw [strL_cons, List.flatMap_cons, flat_strL ls]; rfl
@[simp] theorem widths_strL (ls : List (List UInt8)) : widths 1 (strL ls) = true := by
  rw [widths, List.all_eq_true]
  intro x hx
  obtain ⟨l, -, rfl⟩ := List.mem_map.1 hx
  rfl
@[simp] theorem pures_strL (ls : List (List UInt8)) : AVal.pures (strL ls) = true := AVal.pures_of fun x hx => by
  obtain ⟨l, -, rfl⟩ := List.mem_map.1 hx
  rfl
@[simp] theorem pure_strL (ls : List (List UInt8)) : AVal.pure (.ro (strL ls)) = true := pures_strL ls
theorem ro_strL {ψ : Ghost} {prot : Nat → Prop} {w : World} {ls : List (List UInt8)} {v : Value} (h : VRel ψ prot w (.ro (strL ls)) v) (hk : ∀ b, prot b → b < w.heap.size) :
    (ls = [] ∧ ∃ a c, v = .slice a 0 c) ∨ ∃ b o c, v = .slice (some ⟨b, o, none⟩) ls.length c ∧ b < w.heap.size ∧ ls.length ≤ c ∧ ∀ (j : Nat) (x : List UInt8), ls[j]? = some x → w.cell? ⟨b, o + j, none⟩ = some (bstr x) := by
  rcases h.ro_inv with ⟨h0, a0, c0, hv, -⟩ | ⟨vs, b, off, cap, hv, hp, h4, h5, hcp⟩
  · refine .inl ⟨?_, a0, c0, hv⟩
    cases ls with
    | nil => rfl
    | cons l ls => cases h0
  · refine .inr ⟨b, off, cap, by rw [hv, length_strL], hk b hp, by rw [← length_strL]; exact hcp, fun j x hj => ?_⟩
    rw [flat_strL] at h4
    have hl : j < vs.length := by rw [h4.1, length_strL]; exact (List.getElem?_eq_some_iff.1 hj).1
    have e1 : vs[j]? = some vs[j] := List.getElem?_eq_getElem hl
    have e2 := (h4.2 j (.val (bstr x)) vs[j] (by rw [strL_get, hj]; rfl) e1).val_eq
    rw [h5 j _ e1, e2]
theorem vrel_new_strL {ψ : Ghost} {prot : Nat → Prop} {w : World} {ls : List (List UInt8)} {b c : Nat} {cs : Array Value} {t : TypeId} {fr : Nat × Nat} (hb : prot b) (hh : w.heap[b]? = some (.cells cs t fr)) (hcs : cs = (ls.map bstr).toArray) (hc : ls.length ≤ c) :
    VRel ψ prot w (.ro (strL ls)) (.slice (some ⟨b, 0, none⟩) ls.length c) := by
  subst hcs
  rw [← length_strL]
  refine .ro (strL ls) (ls.map bstr) b 0 c (by rw [length_strL]; exact hc) hb (by rw [flat_strL, length_strL, List.length_map]) (fun i v hi => ?_) fun i x v h1 h2 => ?_
  · simp only [World.cell?, hh, Nat.zero_add]
    simpa using hi
  · rw [flat_strL, strL_get] at h1
    rw [List.getElem?_map] at h2
    cases hl : ls[i]? with
    | none => rw [hl] at h1; cases h1
    | some l =>
      rw [hl] at h1 h2
      cases h1; cases h2
      exact .val _
end Go.Proofs.YtboddbheljenhaaGreatDoor
