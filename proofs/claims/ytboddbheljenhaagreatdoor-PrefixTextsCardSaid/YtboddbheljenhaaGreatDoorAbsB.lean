/-
  A region's walk, operation by operation, in one line of goals. No program is named here. Helps for walks by states: lists of numbers, literals, how a function ends. No program is named here. The steps of a walk by states, one for each kind of operation. No program is named here. Between calls by worlds and functions by states. No program is named here. Ways that meet again; arguments that are known in another form. No program is named here. More operations by states: structs that are built, nil checks, elements, bytes as texts, results in cells. No program is named here. Rows that nobody will write any more, wherever they are named. No program is named here. A function of the library that copies a slice of numbers, as a function by states: the copy never changes. No program is named here. A new slice of zeros, by states. No program is named here. Structs that are compared, min and max, two results of which the first lies in a cell, by states. No program is named here. Functions that read a slice of numbers, given one that does not change, or a row that the caller gives up. No program is named here. A store into an element of a row of numbers, by states. No program is named here. A row of numbers that is lent to a function that only reads. No program is named here.
-/
import Derived.Test.YtboddbheljenhaaGreatDoorAbsA
import Derived.Test.YtboddbheljenhaaGreatDoorG02
import Derived.Test.YtboddbheljenhaaGreatDoorG03
import Derived.Laws.MakeOwn
namespace Go.Proofs.YtboddbheljenhaaGreatDoor
open Go.RowKit
def RunK (P : Program) (k : Nat) (ops : Array Oper) (N : Nat) (draw : Bool) : List Oper → St → List Tr → (St → Prop) → Prop
  | [], st, acc, K => regionChk N ops acc.reverse draw = true ∧ K st
  | o :: os, st, acc, K => ∃ tr, Step P k ops st o tr ∧ RunK P k ops N draw os (st.put o.dst tr.v tr.wr) (tr :: acc) K
section
variable {P : Program} {k : Nat} {ops : Array Oper} {N : Nat} {draw : Bool} {K : St → Prop} {st : St} {ini : Ini} {Q : Exit → St → Prop}
theorem RunK.all : ∀ {os : List Oper} {st : St} {acc : List Tr}, RunK P k ops N draw os st acc K → ∃ trs st', RunOps P k ops os st trs st' ∧ regionChk N ops (acc.reverse ++ trs) draw = true ∧ K st'
  | [], st, acc, h => ⟨[], st, .nil st, by simpa using h.1, h.2⟩
  | o :: os, st, acc, ⟨tr, h1, h2⟩ => by
    obtain ⟨trs, st', g1, g2, g3⟩ := RunK.all h2
    exact ⟨tr :: trs, st', .cons h1 g1, by simpa using g2, g3⟩
theorem awp_reg {id : Nat} (hm : P.follows .mixedOrders = true) (h : ∀ k, RunK P k ops N draw ops.toList st [] (Q .normal)) : Awp P N ini (.region id ops draw) Q st :=
  awp_region hm fun k => let ⟨trs, st', h1, h2, h3⟩ := (h k).all; ⟨trs, st', h1, by simpa using h2, h3⟩
theorem awp_reg_seq {id : Nat} {y : Code} (hm : P.follows .mixedOrders = true) (h : ∀ k, RunK P k ops N draw ops.toList st [] (Awp P N ini y Q)) : Awp P N ini (.seq (.region id ops draw) y) Q st := awp_seq (awp_reg hm h)
theorem runk_end {acc : List Tr} (hc : regionChk N ops acc.reverse draw = true) (h : K st) : RunK P k ops N draw [] st acc K := ⟨hc, h⟩
theorem runk {o : Oper} {os : List Oper} {env : List (Nat × AVal)} {objs : Writes} {acc : List Tr} {v : AVal} {wr : Writes} {touch made : List Nat} {d : Nat} (hg : o.guard = none) (hd : o.dst = some d) (h : OpOk P k ⟨env, objs⟩ o ⟨v, wr, touch, made⟩)
    (t : RunK P k ops N draw os ⟨(d, v) :: env, wr ++ objs⟩ (⟨v, wr, touch, made⟩ :: acc) K) : RunK P k ops N draw (o :: os) ⟨env, objs⟩ acc K := ⟨_, .inl ⟨hg, h⟩, by rw [hd]; exact t⟩
theorem runk0 {o : Oper} {os : List Oper} {env : List (Nat × AVal)} {objs : Writes} {acc : List Tr} {v : AVal} {touch : List Nat} {d : Nat} (hg : o.guard = none) (hd : o.dst = some d) (h : OpOk P k ⟨env, objs⟩ o ⟨v, [], touch, []⟩)
    (t : RunK P k ops N draw os ⟨(d, v) :: env, objs⟩ (⟨v, [], touch, []⟩ :: acc) K) : RunK P k ops N draw (o :: os) ⟨env, objs⟩ acc K := ⟨_, .inl ⟨hg, h⟩, by rw [hd]; exact t⟩
theorem runkN {o : Oper} {os : List Oper} {env : List (Nat × AVal)} {objs : Writes} {acc : List Tr} {v : AVal} {wr : Writes} {touch made : List Nat} (hg : o.guard = none) (hd : o.dst = none) (h : OpOk P k ⟨env, objs⟩ o ⟨v, wr, touch, made⟩)
    (t : RunK P k ops N draw os ⟨env, wr ++ objs⟩ (⟨v, wr, touch, made⟩ :: acc) K) : RunK P k ops N draw (o :: os) ⟨env, objs⟩ acc K := ⟨_, .inl ⟨hg, h⟩, by rw [hd]; exact t⟩
end
section
variable {P : Program} {k : Nat} {st : St} {o : Oper}
theorem opok_bin {op : BinOp} {t yt : TypeId} {x y : Operand} {a b cv : Value} (ho : o.op = .binOp op t x y yt) (hx : st.aop x = .val a) (hy : st.aop y = .val b) (h : ∀ w, (do eqGuard op t x y a b; binOp op t a b : Sem Value).run P w = .ok cv w) : OpOk P k st o ⟨.val cv, [], [], []⟩ :=
  opok_quiet fun ψ prot obj w ρ _ hr _ => by
    have h1 := (hx ▸ hr x (by simp [ho, Op.operands]) : VRel ψ prot w (.val a) (ρ x)).val_eq
    have h2 := (hy ▸ hr y (by simp [ho, Op.operands]) : VRel ψ prot w (.val b) (ρ y)).val_eq
    refine ⟨cv, ?_, .val _⟩
    have := h w
    simp only [Sem.run_bind] at this
    simp only [execOp, ho, h1, h2, Sem.run_bind, Sem.run_pure]
    rw [this]; rfl
theorem opok_un {op : UnOp} {t : TypeId} {x : Operand} {a cv : Value} (ho : o.op = .unOp op t x) (hx : st.aop x = .val a) (h : ∀ w, (Op.unary op a).run P w = .ok cv w) : OpOk P k st o ⟨.val cv, [], [], []⟩ :=
  opok_quiet fun ψ prot obj w ρ _ hr _ => by
    have h1 := (hx ▸ hr x (by simp [ho, Op.operands]) : VRel ψ prot w (.val a) (ρ x)).val_eq
    exact ⟨cv, by simp only [execOp, ho, h1, Sem.run_bind, h w, Result.andThen_ok, Sem.run_pure], .val _⟩
theorem opok_conv {s t : TypeId} {x : Operand} {a cv : Value} (ho : o.op = .convert s t x) (hx : st.aop x = .val a) (h : ∀ w, (convert s t a).run P w = .ok cv w) : OpOk P k st o ⟨.val cv, [], [], []⟩ :=
  opok_quiet fun ψ prot obj w ρ _ hr _ => by
    have h1 := (hx ▸ hr x (by simp [ho, Op.operands]) : VRel ψ prot w (.val a) (ρ x)).val_eq
    exact ⟨cv, by simp only [execOp, ho, h1, Sem.run_bind, h w, Result.andThen_ok, Sem.run_pure], .val _⟩
end
def ints (k : IntKind) (xs : List Int) : List AVal := xs.map fun x => .val (.int k x)
end Go.Proofs.YtboddbheljenhaaGreatDoor
namespace Go.Proofs.YtboddbheljenhaaGreatDoor
open Go.RowKit
section
variable (k : IntKind) (xs ys : List Int)
@[simp] theorem length_ints : (ints k xs).length = xs.length := by simp [ints]
theorem flat_ints : (ints k xs).flatMap AVal.flat = ints k xs := by induction xs with | nil => rfl | cons x xs ih => simpa [ints, AVal.flat] using ih
@[simp] theorem widths_ints : widths 1 (ints k xs) = true := by simp [widths, ints, AVal.flat]
@[simp] theorem one_ints : ((ints k xs).flatMap AVal.flat).all AVal.one = true := by rw [flat_ints]; simp [ints, AVal.one]
@[simp] theorem pures_ints : AVal.pures (ints k xs) = true := AVal.pures_of fun x hx => by
  simp only [ints, List.mem_map] at hx
  obtain ⟨y, -, rfl⟩ := hx; rfl
@[simp] theorem ints_append : ints k xs ++ ints k ys = ints k (xs ++ ys) := by simp [ints]
theorem ints_cons (x : Int) : ints k (x :: xs) = .val (.int k x) :: ints k xs := rfl
theorem ints_nil : ints k [] = [] := rfl
theorem ints_get (i : Nat) : (ints k xs)[i]? = (xs[i]?).map fun x => .val (.int k x) := by simp [ints]
end
def nodupB : List Nat → Bool
  | [] => true
  | n :: l => !l.contains n && nodupB l
theorem nodupB_spec : ∀ {l : List Nat}, nodupB l = true → l.Nodup
  | [], _ => List.nodup_nil
  | n :: l, h => by
    simp only [nodupB, Bool.and_eq_true, Bool.not_eq_true'] at h
    refine List.nodup_cons.2 ⟨fun hm => ?_, nodupB_spec h.2⟩
    have : l.contains n = true := by simpa using hm
    rw [this] at h; cases h.1

section
variable {P : Program} {fn : Func} {st : St} {v0 v : AVal} {objs' : Writes}
theorem updW_live : ∀ {wr : Writes} {n : Nat}, (wr.map (·.1)).Nodup → updW (fun _ => none) (wr.filter fun x => x.2.isSome) n = updW (fun _ => none) wr n := fun {wr n} hn => by
  simp only [updW]
  cases h : wr.lookup n with
  | none =>
    have : n ∉ Writes.names (wr.filter fun x => x.2.isSome) := fun hm => by
      simp only [Writes.names, List.mem_map, List.mem_filter] at hm
      obtain ⟨⟨m, y⟩, ⟨h1, _⟩, rfl⟩ := hm
      rw [lookup_of_mem hn h1] at h; cases h
    rw [lookup_none_of_not_mem this]
  | some y =>
    have hm := lookup_mem h
    cases y with
    | none =>
      have : n ∉ Writes.names (wr.filter fun x => x.2.isSome) := fun hm' => by
        simp only [Writes.names, List.mem_map, List.mem_filter] at hm'
        obtain ⟨⟨m, y⟩, ⟨h1, h2⟩, rfl⟩ := hm'
        rw [lookup_of_mem hn h1] at h
        simp only [Option.some.injEq] at h
        subst h; cases h2
      rw [lookup_none_of_not_mem this]
    | some z =>
      have h1 : (n, some z) ∈ wr.filter fun x => x.2.isSome := List.mem_filter.2 ⟨hm, rfl⟩
      have h2 : ((wr.filter fun x => x.2.isSome).map (·.1)).Nodup := List.Sublist.nodup ((List.filter_sublist).map _) hn
      rw [lookup_of_mem h2 h1]
theorem ends (keep : List (Nat × Nat × Nat × AObj)) (hres : ResOk P fn st v0) (hren : RenT (keep.map fun x => (x.2.1, x.2.2.1, x.1, 0)) v0 v) (hobj : ∀ x ∈ keep, st.obj x.2.1 = some (x.2.2.1, x.2.2.2))
    (hout : (objs'.filter fun x => x.2.isSome) = keep.map fun x => (x.1, some (0, x.2.2.2))) (hn : nodupB (objs'.map (·.1)) = true) (hn2 : nodupB (keep.map (·.2.1)) = true) (hp : ∀ x ∈ keep, x.2.2.2.pure = true)
    (hid : (keep.all fun x => decide (1000 ≤ x.1) || (x.2.1 == x.1 && x.2.2.1 == 0)) = true) {e : Exit} (he : e = .ret ∨ e = .normal) : Ends P fn v objs' e st := by
  have hnd := nodupB_spec hn
  have hk1 : (keep.map (·.1)).Nodup := by
    have := List.Sublist.nodup ((List.filter_sublist (p := fun x => x.2.isSome) (l := objs')).map (·.1)) hnd
    rw [hout] at this
    simpa [Function.comp_def] using this
  refine ⟨he, v0, keep.map fun x => (x.1, x.2.1, x.2.2.1), hres, ?_, fun n => ?_, fun x hx => ?_, ?_, ?_, fun x hx => ?_⟩
  · simpa [Function.comp_def] using hren
  · rw [← updW_live hnd, hout]
    have e1 : (keep.map fun x => (x.1, x.2.1, x.2.2.1)).lookup n = (keep.lookup n).map fun y => (y.1, y.2.1) := mem_lookup_map (f := fun y : Nat × Nat × AObj => (y.1, y.2.1)) (l := keep) (n := n)
    have e2 : (keep.map fun x => (x.1, (some (0, x.2.2.2) : Option (Nat × AObj)))).lookup n = (keep.lookup n).map fun y => (some (0, y.2.2) : Option (Nat × AObj)) := mem_lookup_map (f := fun y : Nat × Nat × AObj => (some (0, y.2.2) : Option (Nat × AObj))) (l := keep) (n := n)
    simp only [updW, e1, e2]
    cases hl : keep.lookup n with
    | none => rfl
    | some y =>
      have := hobj _ (lookup_mem hl)
      simp only [Option.map_some]
      simp only at this
      rw [this]; rfl
  · obtain ⟨y, hy, rfl⟩ := List.mem_map.1 hx
    exact ⟨y.2.2.2, hobj y hy, hp y hy⟩
  · have := nodupB_spec hn2
    simpa [Function.comp_def] using this
  · simpa [Function.comp_def] using hk1
  · obtain ⟨y, hy, rfl⟩ := List.mem_map.1 hx
    have := (List.all_eq_true.1 hid) y hy
    simpa using this
theorem ends_pure (hres : ResOk P fn st v0) (hv : v0 = v) (hp : v.pure = true) (hout : (objs'.filter fun x => x.2.isSome) = []) (hn : nodupB (objs'.map (·.1)) = true) {e : Exit} (he : e = .ret ∨ e = .normal) : Ends P fn v objs' e st :=
  ends (v0 := v0) [] hres (hv ▸ .one (.pure _ (hv ▸ hp))) (fun x h => by cases h) hout hn rfl (fun x h => by cases h) rfl he
theorem ends_own {a n k len len' : Nat} {o o' : AObj} (hr : fn.results = #[.tmp a]) (ha : st.get a = .own n k len) (hobj : st.obj n = some (k, o)) (hout : (objs'.filter fun x => x.2.isSome) = [(1000, some (0, o'))]) (hl : len = len') (ho : o = o') (hp : o'.pure = true)
    (hn : nodupB (objs'.map (·.1)) = true) {e : Exit} (he : e = .ret ∨ e = .normal) : Ends P fn (.own 1000 0 len') objs' e st := by
  subst ho
  exact ends [(1000, n, k, o)] (res_one hr ha) (.one (.own _ _ _ _ _ _ hl List.mem_cons_self)) (fun x h => by simp at h; subst h; exact hobj) hout hn rfl (fun x h => by simp at h; subst h; exact hp) rfl he
theorem ends_own2 {a b n k len len' : Nat} {o o' : AObj} {x x' : AVal} (hr : fn.results = #[.tmp a, .tmp b]) (ha : st.get a = .own n k len) (hb : st.get b = x) (hobj : st.obj n = some (k, o)) (hout : (objs'.filter fun x => x.2.isSome) = [(1000, some (0, o'))]) (hl : len = len') (ho : o = o') (hx : x = x') (hp : o'.pure = true) (hpx : x'.pure = true)
    (hn : nodupB (objs'.map (·.1)) = true) {e : Exit} (he : e = .ret ∨ e = .normal) : Ends P fn (.tuple [.own 1000 0 len', x']) objs' e st := by
  subst ho; subst hx
  exact ends [(1000, n, k, o)] (res_two hr ha hb) (.tuple (.cons (.own _ _ _ _ _ _ hl List.mem_cons_self) (.cons (.pure _ hpx) .nil))) (fun x h => by simp at h; subst h; exact hobj) hout hn rfl (fun x h => by simp at h; subst h; exact hp) rfl he
inductive PartsAre (st : St) : List (Nat × Operand) → Nat → List AVal → Prop where
  | nil (i : Nat) : PartsAre st [] i []
  | cons {x : Operand} {v : AVal} {ps : List (Nat × Operand)} {i : Nat} {vs : List AVal} (h : st.aop x = v) (t : PartsAre st ps (i + 1) vs) : PartsAre st ((i, x) :: ps) i (v :: vs)
theorem PartsAre.spec : ∀ {ps : List (Nat × Operand)} {i : Nat} {vs : List AVal}, PartsAre st ps i vs → ps.map (·.1) = List.range' i ps.length ∧ ps.map (fun x => st.aop x.2) = vs := by
  intro ps i vs h
  induction h with
  | nil => exact ⟨rfl, rfl⟩
  | cons h _ ih => exact ⟨by simp [ih.1, List.range'_succ], by simp [ih.2, h]⟩
variable {k : Nat} {o : Oper}
theorem opok_lit {t e : TypeId} {len : Nat} {parts : Array (Nat × Operand)} (d : Nat) {z : Value} {sz bytes : Nat} {es : List AVal} (ho : o.op = .buildSlice t len parts) (ht : P.underlying t = some (.slice e)) (hi : (P.info? e).map (fun i => (i.zero, i.size, i.bytes)) = some (some z, sz, bytes))
    (hsz : Nat.ble 1 sz = true) (h0 : Nat.ble 1 len = true) (hlen : Nat.ble (len * sz) 16777216 = true) (hpl : parts.toList.length = len) (hp : PartsAre st parts.toList 0 es) (hk : es.all AVal.known = true) (hw : widths sz es = true) : OpOk P k st o ⟨.own d k len, [(d, some (k, .row e sz es))], [d], [d]⟩ := by
  obtain ⟨h1, h2⟩ := hp.spec
  exact opok_buildSlice d ho ht hi (Nat.le_of_ble_eq_true hsz) (Nat.le_of_ble_eq_true h0) (Nat.le_of_ble_eq_true hlen) (by rw [h1, hpl, List.range_eq_range']) h2 hk hw
theorem opok_app {t e : TypeId} {s x : Operand} (d : Nat) {sv xv : AVal} {z : Value} {sz bytes : Nat} {kl tl : List Nat} {es1 es2 es : List AVal} (ho : o.op = .call { callee := .builtin .append, args := #[s, x], argTypes := #[t, t] })
    (hs : st.aop s = sv) (hx : st.aop x = xv) (ht : P.underlying t = some (.slice e)) (hi : (P.info? e).map (fun i => (i.zero, i.size, i.bytes)) = some (some z, sz, bytes)) (hz : Nat.beq z.cells.size sz = true) (hsz : Nat.ble 1 sz = true) (hby : Nat.ble bytes 140 = true)
    (hb : BaseIs st e sz sv kl es1) (hsrc : SrcIs st xv tl es2) (hw : widths sz es2 = true) (h1 : (es2.flatMap AVal.flat).all AVal.one = true) (hN : es1.length + es2.length ≤ 1000000000000) (hes : es1 ++ es2 = es) :
    OpOk P k st o ⟨.own d k es.length, (d, some (k, .row e sz es)) :: kl.map (fun n => (n, none)), d :: (kl ++ tl), [d]⟩ :=
  opok_append d ho hs hx ht hi (Nat.eq_of_beq_eq_true hz) (Nat.le_of_ble_eq_true hsz) (Nat.le_of_ble_eq_true hby) hb hsrc hw h1 hN hes
end
end Go.Proofs.YtboddbheljenhaaGreatDoor
namespace Go.Proofs.YtboddbheljenhaaGreatDoor
open Go.RowKit
theorem Ren.pureR {g : List (Nat × Nat × Nat × Nat)} {x y : AVal} (h : y.pure = true) (e : x = y) : Ren g x y := e ▸ .pure _ (e ▸ h)
theorem ints_one (k : IntKind) (a : Int) : [AVal.val (.int k a)] = ints k [a] := rfl
theorem ints_consR (k : IntKind) (a : Int) (xs : List Int) : AVal.val (.int k a) :: ints k xs = ints k (a :: xs) := rfl
section
variable {P : Program} {k : Nat} {ops : Array Oper} {N : Nat} {draw : Bool} {K : St → Prop} {o : Oper} {os : List Oper} {env : List (Nat × AVal)} {objs : Writes} {acc : List Tr} {d : Nat}
theorem runk_lit {t e : TypeId} {len : Nat} {parts : Array (Nat × Operand)} {z : Value} {sz : Nat} {es : List AVal} (hg : o.guard = none) (hd : o.dst = some d) (ho : o.op = .buildSlice t len parts) (ht : P.underlying t = some (.slice e)) (hs : sizeIs P e sz) (hz : (P.info? e).bind (·.zero) = some z)
    (hsz : Nat.ble 1 sz = true) (h0 : Nat.ble 1 len = true) (hlen : Nat.ble (len * sz) 16777216 = true) (hpl : parts.toList.length = len) (hp : PartsAre ⟨env, objs⟩ parts.toList 0 es) (hk : es.all AVal.known = true) (hw : widths sz es = true)
    (t : RunK P k ops N draw os ⟨(d, .own d k len) :: env, (d, some (k, .row e sz es)) :: objs⟩ (⟨.own d k len, [(d, some (k, .row e sz es))], [d], [d]⟩ :: acc) K) : RunK P k ops N draw (o :: os) ⟨env, objs⟩ acc K := by
  cases hi : P.info? e with
  | none => rw [hi] at hz; cases hz
  | some i =>
    unfold sizeIs at hs
    rw [hi] at hs hz
    have hz' : i.zero = some z := hz
    simp only [Option.map_some, Option.some.injEq] at hs
    exact runk hg hd (opok_lit (z := z) (bytes := i.bytes) d ho ht (by rw [hi]; simp [hs, hz']) hsz h0 hlen hpl hp hk hw) t
theorem runk_app {t e : TypeId} {s x : Operand} {sv xv : AVal} {z : Value} {sz bytes : Nat} {kl tl : List Nat} {es1 es2 es : List AVal} (hg : o.guard = none) (hd : o.dst = some d) (ho : o.op = .call { callee := .builtin .append, args := #[s, x], argTypes := #[t, t] })
    (hs : (⟨env, objs⟩ : St).aop s = sv) (hx : (⟨env, objs⟩ : St).aop x = xv) (ht : P.underlying t = some (.slice e)) (hsi : sizeIs P e sz) (hzz : (P.info? e).bind (·.zero) = some z) (hbb : (P.info? e).map (·.bytes) = some bytes) (hz : Nat.beq z.cells.size sz = true) (hsz : Nat.ble 1 sz = true) (hby : Nat.ble bytes 140 = true)
    (hb : BaseIs ⟨env, objs⟩ e sz sv kl es1) (hsrc : SrcIs ⟨env, objs⟩ xv tl es2) (hw : widths sz es2 = true) (h1 : (es2.flatMap AVal.flat).all AVal.one = true) (hN : es1.length + es2.length ≤ 1000000000000) (hes : es1 ++ es2 = es)
    (t : RunK P k ops N draw os ⟨(d, .own d k es.length) :: env, (d, some (k, .row e sz es)) :: (kl.map (fun n => (n, none)) ++ objs)⟩ (⟨.own d k es.length, (d, some (k, .row e sz es)) :: kl.map (fun n => (n, none)), d :: (kl ++ tl), [d]⟩ :: acc) K) : RunK P k ops N draw (o :: os) ⟨env, objs⟩ acc K := by
  cases hi : P.info? e with
  | none => rw [hi] at hzz; cases hzz
  | some i =>
    unfold sizeIs at hsi
    rw [hi] at hsi hzz hbb
    have hz' : i.zero = some z := hzz
    simp only [Option.map_some, Option.some.injEq] at hsi hbb
    exact runk hg hd (opok_app (z := z) (bytes := bytes) d ho hs hx ht (by rw [hi]; simp [hsi, hz', hbb]) hz hsz hby hb hsrc hw h1 hN hes) t
theorem runk_box {t : TypeId} {x : Operand} {v : AVal} {cs : List AVal} (hg : o.guard = none) (hd : o.dst = some d) (ho : o.op = .box t x) (hx : (⟨env, objs⟩ : St).aop x = v) (hk : v.known = true) (hcs : v.flat = cs)
    (t : RunK P k ops N draw os ⟨(d, .ptr d k 0) :: env, (d, some (k, .box t cs)) :: objs⟩ (⟨.ptr d k 0, [(d, some (k, .box t cs))], [d], [d]⟩ :: acc) K) : RunK P k ops N draw (o :: os) ⟨env, objs⟩ acc K :=
  runk hg hd (opok_box d ho hx hk hcs) t
theorem runk_alloc {t : TypeId} {z : Value} {cs : List AVal} (hg : o.guard = none) (hd : o.dst = some d) (ho : o.op = .alloc t) (hz : (P.info? t).bind (·.zero) = some z) (hcs : (AVal.val z).flat = cs)
    (t : RunK P k ops N draw os ⟨(d, .ptr d k 0) :: env, (d, some (k, .box t cs)) :: objs⟩ (⟨.ptr d k 0, [(d, some (k, .box t cs))], [d], [d]⟩ :: acc) K) : RunK P k ops N draw (o :: os) ⟨env, objs⟩ acc K :=
  runk hg hd (opok_alloc d ho hz hcs) t
theorem runk_store {t bt : TypeId} {p x : Operand} {n kk off m : Nat} {cs fs cs' : List AVal} {v : AVal} (hg : o.guard = none) (hd : o.dst = none) (ho : o.op = .store t p x) (hp : (⟨env, objs⟩ : St).aop p = .ptr n kk off) (hx : (⟨env, objs⟩ : St).aop x = v) (hn : (⟨env, objs⟩ : St).obj n = some (kk, .box bt cs)) (hk : v.known = true) (hfs : v.flat = fs)
    (h1 : fs.all AVal.one = true) (hs : sizeIs P t m) (hm : fs.length = m) (hf : Nat.ble (off + m) cs.length = true) (hcs : setCells cs off fs = cs')
    (t : RunK P k ops N draw os ⟨env, (n, some (kk, .box bt cs')) :: objs⟩ (⟨.any, [(n, some (kk, .box bt cs'))], [n], []⟩ :: acc) K) : RunK P k ops N draw (o :: os) ⟨env, objs⟩ acc K :=
  runkN hg hd (opok_store ho hp hn hx hk hfs h1 (by rw [hm]; exact hs) (by rw [hm]; exact Nat.le_of_ble_eq_true hf) hcs) t
theorem runk_fa {s : TypeId} {p : Operand} {f n kk off m off' : Nat} {fs : Array Field} {fd : Field} (hg : o.guard = none) (hd : o.dst = some d) (ho : o.op = .fieldAddr s p f) (hp : (⟨env, objs⟩ : St).aop p = .ptr n kk off) (hu : P.underlying s = some (.struct fs)) (hf : fs[f]? = some fd) (hs : sizeIs P fd.type m) (hm : Nat.ble 1 m = true) (hoff : off + fd.offset = off')
    (t : RunK P k ops N draw os ⟨(d, .ptr n kk off') :: env, objs⟩ (⟨.ptr n kk off', [], [], []⟩ :: acc) K) : RunK P k ops N draw (o :: os) ⟨env, objs⟩ acc K := by
  subst hoff
  exact runk0 hg hd (opok_fieldAddr ho hp hu hf hs (by have := Nat.le_of_ble_eq_true hm; omega)) t
theorem runk_assignOwn {x : Operand} {n kk len : Nat} {ob : AObj} (hg : o.guard = none) (hd : o.dst = some d) (ho : o.op = .assign x) (hx : (⟨env, objs⟩ : St).aop x = .own n kk len) (hn : (⟨env, objs⟩ : St).obj n = some (kk, ob))
    (t : RunK P k ops N draw os ⟨(d, .own d k len) :: env, (d, some (k, ob)) :: (n, none) :: objs⟩ (⟨.own d k len, [(d, some (k, ob)), (n, none)], [d, n], [d]⟩ :: acc) K) : RunK P k ops N draw (o :: os) ⟨env, objs⟩ acc K :=
  runk hg hd (opok_assignOwn d ho hx hn) t
theorem runk_pure {x : Operand} {xs : Array Operand} {ats : Array TypeId} {f : FuncId} {fn : Func} {c : Code} {caps cargs : List AVal} {v : AVal} (hg : o.guard = none) (hd : o.dst = some d)
    (ho : o.op = .call { callee := .value x, args := xs, argTypes := ats }) (hx : (⟨env, objs⟩ : St).aop x = .fn f caps) (hf : P.funcs[f]? = some fn) (hn : (fn.name == "runtime.NumGoroutine") = false) (hb : fn.body = some c)
    (hspec : Spec P f cargs [] v []) (hr : Rens [] (xs.toList.map (⟨env, objs⟩ : St).aop ++ caps) cargs) (hv : v.pure = true)
    (t : RunK P k ops N draw os ⟨(d, v) :: env, objs⟩ (⟨v, [], [], []⟩ :: acc) K) : RunK P k ops N draw (o :: os) ⟨env, objs⟩ acc K :=
  runk0 hg hd (opok_call (d := 0) [] none ho hx hf hn hb hr hspec rfl (.one (.pure _ hv)) (fun b h => by cases h) rfl) t
theorem runk_made {x : Operand} {xs : Array Operand} {ats : Array TypeId} {f : FuncId} {fn : Func} {c : Code} {caps cargs : List AVal} {v0 v : AVal} {fo : AObj} (hg : o.guard = none) (hd : o.dst = some d)
    (ho : o.op = .call { callee := .value x, args := xs, argTypes := ats }) (hx : (⟨env, objs⟩ : St).aop x = .fn f caps) (hf : P.funcs[f]? = some fn) (hn : (fn.name == "runtime.NumGoroutine") = false) (hb : fn.body = some c)
    (hspec : Spec P f cargs [] v0 [(1000, some (0, fo))]) (hr : Rens [] (xs.toList.map (⟨env, objs⟩ : St).aop ++ caps) cargs) (hv : RenT [(1000, 0, d, k)] v0 v) (hp : fo.pure = true)
    (t : RunK P k ops N draw os ⟨(d, v) :: env, (d, some (k, fo)) :: objs⟩ (⟨v, [(d, some (k, fo))], [d], [d]⟩ :: acc) K) : RunK P k ops N draw (o :: os) ⟨env, objs⟩ acc K :=
  runk hg hd (opok_call (d := d) [] (some fo) ho hx hf hn hb hr hspec rfl hv (fun b h => by cases h) (by simp [bindOk, hp])) t
theorem runk_with {x : Operand} {xs : Array Operand} {ats : Array TypeId} {f : FuncId} {fn : Func} {c : Code} {caps cargs : List AVal} {v : AVal} {ob ob' : AObj} {n kk : Nat} (hg : o.guard = none) (hd : o.dst = some d)
    (ho : o.op = .call { callee := .value x, args := xs, argTypes := ats }) (hx : (⟨env, objs⟩ : St).aop x = .fn f caps) (hf : P.funcs[f]? = some fn) (hn : (fn.name == "runtime.NumGoroutine") = false) (hb : fn.body = some c)
    (hspec : Spec P f cargs [(0, some (0, ob))] v [(0, some (0, ob'))]) (hr : Rens [(n, kk, 0, 0)] (xs.toList.map (⟨env, objs⟩ : St).aop ++ caps) cargs) (hobj : (⟨env, objs⟩ : St).obj n = some (kk, ob)) (hv : v.pure = true) (hp : ob.pure = true) (hp' : ob'.pure = true)
    (t : RunK P k ops N draw os ⟨(d, v) :: env, (n, some (kk, ob')) :: objs⟩ (⟨v, [(n, some (kk, ob'))], [n], []⟩ :: acc) K) : RunK P k ops N draw (o :: os) ⟨env, objs⟩ acc K :=
  runk hg hd (opok_call (d := d) [⟨0, n, kk, ob, some ob'⟩] none ho hx hf hn hb hr hspec rfl (.one (.pure _ hv)) (fun b h => by simp at h; subst h; exact hobj) (by simp [bindOk, hp, hp'])) t
end
end Go.Proofs.YtboddbheljenhaaGreatDoor
namespace Go.Proofs.YtboddbheljenhaaGreatDoor
open Go.RowKit
theorem updW_nil (n : Nat) : updW (fun _ => none) [] n = none := rfl
theorem unowned_nil {ψ : Ghost} {w : World} {b : Nat} : unowned ψ (updW (fun _ => none) []) w b ↔ b < w.heap.size := ⟨fun h => h.1, fun h => ⟨h, fun n k o loc h1 => by cases h1⟩⟩
theorem rh_nil {ψ : Ghost} {prot : Nat → Prop} {w : World} (h : ∀ b, prot b → b < w.heap.size) : RH ψ prot (updW (fun _ => none) []) w :=
  ⟨fun n k o h => (nomatch h), fun n n1 k k1 o o1 l l1 h => (nomatch h), fun b hb => unowned_nil.2 (h b hb)⟩
theorem vals_of {ψ : Ghost} {prot : Nat → Prop} {w : World} {vs cargs : Array Value} (hsz : cargs.size = (vs.toList.map AVal.val).length) (h : ∀ (i : Nat) (x : AVal) (u : Value), (vs.toList.map AVal.val)[i]? = some x → cargs[i]? = some u → VRel ψ prot w x u) : cargs = vs := by
  apply Array.ext
  · simpa using hsz
  · intro i h1 h2
    have := h i (.val vs[i]) cargs[i] (by simp [h2]) (by simp [h1])
    exact this.val_eq
theorem spec_of_calls {P : Program} {f : FuncId} {vs : Array Value} {u : Value} (h : ∀ w, Calls P f vs w fun e w' => e = .returned u ∧ Below w.heap.size w w') : Spec P f (vs.toList.map .val) [] (.val u) [] := by
  intro ψ prot w cargs _ hrh hsz hargs
  obtain rfl := vals_of hsz hargs
  refine Calls.mono (h w) ?_
  rintro e w' ⟨rfl, hb⟩
  have hk : ∀ b, prot b → b < w.heap.size := fun b hb => (hrh.pr b hb).1
  exact ⟨u, ψ, prot, rfl, ⟨hb.os, hb.tape, hb.output, hb.size, fun _ _ _ h => h, fun _ h => h, fun b hb' => ⟨unowned_nil.2 (Nat.lt_of_lt_of_le (unowned_nil.1 hb') hb.size), hb.block b (unowned_nil.1 hb')⟩, fun _ h => .inl h⟩,
    rh_nil fun b hb' => Nat.lt_of_lt_of_le (hk b hb') hb.size, .val u⟩
theorem calls_of_spec {P : Program} {f : FuncId} {args : List AVal} {v : AVal} {w : World} {cargs : Array Value} (h : Spec P f args [] v []) (hsz : cargs.size = args.length) (hargs : ∀ (i : Nat) (x : AVal) (u : Value), args[i]? = some x → cargs[i]? = some u → VRel (fun _ _ => none) (· < w.heap.size) w x u) (hV : VarsOk (· < w.heap.size) w := by intro x hx; simp [varWants] at hx) :
    Calls P f cargs w fun e w' => ∃ cv ψ prot, e = .returned cv ∧ VRel ψ prot w' v cv ∧ Below w.heap.size w w' := by
  refine Calls.mono (h (fun _ _ => none) (· < w.heap.size) w cargs (fun n k h => absurd rfl h) ⟨rh_nil fun b hb => hb, hV⟩ hsz hargs) ?_
  rintro e w' ⟨cv, ψ', prot', rfl, g1, -, g3⟩
  exact ⟨cv, ψ', prot', rfl, g3, ⟨g1.os, g1.tape, g1.output, g1.size, fun b hb => (g1.un b (unowned_nil.2 hb)).2⟩⟩
theorem calls_val {P : Program} {f : FuncId} {args : List AVal} {u : Value} {w : World} {cargs : Array Value} (h : Spec P f args [] (.val u) []) (hsz : cargs.size = args.length) (hargs : ∀ (i : Nat) (x : AVal) (u : Value), args[i]? = some x → cargs[i]? = some u → VRel (fun _ _ => none) (· < w.heap.size) w x u) (hV : VarsOk (· < w.heap.size) w := by intro x hx; simp [varWants] at hx) :
    Calls P f cargs w fun e w' => e = .returned u ∧ Below w.heap.size w w' := by
  refine Calls.mono (calls_of_spec h hsz hargs hV) ?_
  rintro e w' ⟨cv, ψ, prot, rfl, h1, h2⟩
  exact ⟨by rw [h1.val_eq], h2⟩
theorem vrel_ints {ψ : Ghost} {k : IntKind} {w : World} {A : Option Addr} {n c : Nat} {zs : List Int} (g : Ints k w A n c zs) : VRel ψ (· < w.heap.size) w (.ro (ints k zs)) (.slice A n c) := by
  by_cases hn : n = 0
  · subst hn
    obtain rfl : zs = [] := List.eq_nil_of_length_eq_zero g.len
    exact .roNil A c g.nil
  · have hl : (zs.map (Value.int k)).length = n := by simpa using g.len
    obtain ⟨a, v, h1, h2, h3, h4⟩ := g.lies 0 (by omega)
    subst h1
    have hsp : a.spot = none := by
      have e : a.add 0 = a := by simp [Addr.add]
      rw [e] at h4
      unfold World.cell? at h4
      split at h4
      · split at h4
        · cases h4
        · rename_i hs
          cases hq : a.spot with
          | none => rfl
          | some x => rw [hq] at hs; exact absurd rfl hs
      · cases h4
    obtain ⟨b, o, sp⟩ := a
    simp only at hsp
    subst hsp
    have := VRel.ro (ψ := ψ) (prot := (· < w.heap.size)) (w := w) (ints k zs) (zs.map (Value.int k)) b o c (by simpa [g.len] using g.cap) h2 (by rw [flat_ints]; simp) (fun i u hu => by
      have hi : i < (zs.map (Value.int k)).length := (List.getElem?_eq_some_iff.1 hu).1
      obtain ⟨a', v', q1, _, q3, q4⟩ := g.lies i hi
      injection q1 with q1; subst q1
      rw [q3] at hu; injection hu with hu; subst hu
      rwa [addr_add0] at q4) (fun i x u hx hu => by
      rw [flat_ints, ints_get] at hx
      simp only [List.getElem?_map] at hu
      cases hz : zs[i]? with
      | none => rw [hz] at hx; cases hx
      | some z =>
        rw [hz] at hx hu
        simp only [Option.map_some, Option.some.injEq] at hx hu
        subst hx; subst hu
        exact .val _)
    simpa [g.len] using this
end Go.Proofs.YtboddbheljenhaaGreatDoor
namespace Go.Proofs.YtboddbheljenhaaGreatDoor
open Go.RowKit
inductive EnvIs (st : St) : List (Nat × AVal) → Prop where
  | nil : EnvIs st []
  | cons {t : Nat} {v : AVal} {env : List (Nat × AVal)} (h : st.get t = v) (r : EnvIs st env) : EnvIs st ((t, v) :: env)
inductive ObjsAre (st : St) : Writes → Prop where
  | nil : ObjsAre st []
  | cons {n : Nat} {x : Nat × AObj} {objs : Writes} (h : st.obj n = some x) (r : ObjsAre st objs) : ObjsAre st ((n, some x) :: objs)
theorem EnvIs.mem {st : St} {env : List (Nat × AVal)} (h : EnvIs st env) : ∀ p ∈ env, st.get p.1 = p.2 := by
  induction h with
  | nil => intro p hp; cases hp
  | cons h _ ih => intro p hp; rcases List.mem_cons.1 hp with rfl | hp <;> first | exact h | exact ih p hp
theorem ObjsAre.mem {st : St} {objs : Writes} (h : ObjsAre st objs) : ∀ p ∈ objs, st.obj p.1 = p.2 := by
  induction h with
  | nil => intro p hp; cases hp
  | cons h _ ih => intro p hp; rcases List.mem_cons.1 hp with rfl | hp <;> first | exact h | exact ih p hp
theorem leB_of {st : St} {env : List (Nat × AVal)} {objs : Writes} (h : EnvIs st env) (g : ObjsAre st objs) : st.leB ⟨env, objs⟩ := by
  refine ⟨fun t => ?_, fun n => ?_⟩
  · cases hl : env.lookup t with
    | none => left; simp [St.get, hl]
    | some v =>
      right
      have := h.mem _ (lookup_mem hl)
      simp only [St.get, hl] at this ⊢
      exact this.symm
  · cases hl : objs.lookup n with
    | none => left; simp [St.obj, updW, hl]
    | some v =>
      right
      have := g.mem _ (lookup_mem hl)
      simp only at this
      simp [St.obj, updW, hl] at this ⊢
      exact this.symm
section
variable {P : Program} {N : Nat} {ini : Ini} {Q : Exit → St → Prop} {st : St} {k : Nat} {ops : Array Oper} {draw : Bool}
theorem awp_less {st' : St} {c : Code} (h : st.leB st') (h2 : Awp P N ini c Q st') : Awp P N ini c Q st := awp_weaken (fun _ _ r => r.less h) h2
end
def AVal.when (c : Bool) (v : AVal) : AVal := match c with | true => v | false => .any
theorem runk_guard {P : Program} {k : Nat} {ops : Array Oper} {N : Nat} {draw : Bool} {K : St → Prop} {o : Oper} {os : List Oper} {env : List (Nat × AVal)} {objs : Writes} {acc : List Tr} {v : AVal} {touch : List Nat} {d g t : Nat} {b want : Bool}
    (hg : o.guard = some (g, want)) (ht : dstOf ops g = some t) (hb : (⟨env, objs⟩ : St).get t = .val (.bool b)) (hd : o.dst = some d) (h : b = want → OpOk P k ⟨env, objs⟩ o ⟨v, [], touch, []⟩)
    (r : RunK P k ops N draw os ⟨(d, .when (b == want) v) :: env, objs⟩ (⟨.when (b == want) v, [], touch, []⟩ :: acc) K) : RunK P k ops N draw (o :: os) ⟨env, objs⟩ acc K := by
  refine ⟨⟨.when (b == want) v, [], touch, []⟩, .inr ⟨g, want, t, .bool b, hg, ht, hb, ?_⟩, by rw [hd]; exact r⟩
  by_cases hbw : b = want
  · have e : (b == want) = true := by simpa using hbw
    rw [e]
    exact .inl ⟨by rw [hbw], h hbw⟩
  · have e : (b == want) = false := by simpa using hbw
    rw [e]
    exact .inr ⟨by simpa using hbw, .inl rfl, rfl, rfl⟩
theorem pick_or {b x : Bool} : (if b then AVal.val (.bool true) else AVal.when (b == false) (.val (.bool x))) = .val (.bool (b || x)) := by cases b <;> rfl
theorem pick_and {b x : Bool} : (if b then AVal.when (b == true) (.val (.bool x)) else AVal.val (.bool false)) = .val (.bool (b && x)) := by cases b <;> rfl
theorem awp_adopt {P : Program} {N : Nat} {ini : Ini} {Q : Exit → St → Prop} {env : List (Nat × AVal)} {objs : Writes} {c : Code} (t d : Nat) (e : TypeId) (sz : Nat) (hv : (⟨env, objs⟩ : St).get t = .val (.slice none 0 0)) (h : ∀ k, Awp P N ini c Q ⟨(t, .own d k 0) :: env, (d, some (k, .row e sz [])) :: objs⟩) : Awp P N ini c Q ⟨env, objs⟩ := by
  rintro a w ⟨hd, hs, ψ, prot, h1, h2, ⟨K, hK⟩, h4⟩
  obtain ⟨ψ', g1, g2, g3, g4, g5⟩ := evolve_make (w' := w) h2 [] d K ⟨none, 0⟩ (.row e sz []) (hK d K (Nat.le_refl _)) rfl rfl rfl (Nat.le_refl _) (fun _ _ _ => rfl) (fun b hb => by cases hb) (fun ψ' _ => ⟨[], World.ownsRow_nil _ _ _ _, ⟨rfl, fun i x v h => by simp at h⟩⟩)
  have eo : (⟨(t, .own d K 0) :: env, (d, some (K, .row e sz [])) :: objs⟩ : St).obj = updW (⟨env, objs⟩ : St).obj ((d, some (K, .row e sz [])) :: [].map fun n => (n, none)) := by
    funext n
    simp only [St.obj, updW, List.lookup_cons, List.map_nil]
    cases n == d <;> rfl
  refine h K a w ⟨hd, hs, ψ', prot, by rw [eo]; exact h1.trans g1, by rw [eo]; exact g2, ⟨K + 1, fun n k hk => ?_⟩, fun t' => ?_⟩
  · by_cases hx : ψ' n k = none
    · exact hx
    · rcases g5 n k hx with q | ⟨q, _⟩
      · exact absurd (hK n k (by omega)) q
      · omega
  · have h5 := h4 t'
    by_cases ht : t' = t
    · subst ht
      rw [hv] at h5
      have e1 : (⟨(t', .own d K 0) :: env, (d, some (K, .row e sz [])) :: objs⟩ : St).get t' = .own d K 0 := by simp [St.get]
      rw [e1, h5.val_eq]
      exact .own d K 0 ⟨none, 0⟩ g3
    · have e1 : (⟨(t, .own d K 0) :: env, (d, some (K, .row e sz [])) :: objs⟩ : St).get t' = (⟨env, objs⟩ : St).get t' := by
        have : (t' == t) = false := by simpa using ht
        simp [St.get, List.lookup_cons, this]
      rw [e1]
      exact h5.mono g4 fun b hb => ⟨hb, rfl⟩
theorem VRel.agg_vals {ψ : Ghost} {prot : Nat → Prop} {w : World} {vs : List Value} {u : Value} (h : VRel ψ prot w (.agg (vs.map .val)) u) : u = .agg vs.toArray := by
  obtain ⟨us, rfl, h1, h2⟩ := h.aggs
  congr 1
  apply Array.ext
  · simpa using h1
  · intro i h3 h4
    have := h2 i (.val vs[i]) us[i] (by simp at h4; simp [h4]) (by simp [h3])
    simpa using this.val_eq
inductive ArgsLe : List AVal → List AVal → Prop where
  | nil : ArgsLe [] []
  | same {x : AVal} {xs ys : List AVal} (t : ArgsLe xs ys) : ArgsLe (x :: xs) (x :: ys)
  | agg {vs : List Value} {xs ys : List AVal} (t : ArgsLe xs ys) : ArgsLe (.agg (vs.map .val) :: xs) (.val (.agg vs.toArray) :: ys)
theorem ArgsLe.rel {xs ys : List AVal} (h : ArgsLe xs ys) : xs.length = ys.length ∧ ∀ (i : Nat) (y : AVal), ys[i]? = some y → ∃ x, xs[i]? = some x ∧ ∀ (ψ : Ghost) (prot : Nat → Prop) (w : World) (u : Value), VRel ψ prot w x u → VRel ψ prot w y u := by
  induction h with
  | nil => exact ⟨rfl, fun i y h => by simp at h⟩
  | same _ ih =>
    refine ⟨by simp [ih.1], fun i y hy => ?_⟩
    cases i with
    | zero => simp at hy; subst hy; exact ⟨_, rfl, fun _ _ _ _ h => h⟩
    | succ i => exact ih.2 i y (by simpa using hy)
  | agg _ ih =>
    refine ⟨by simp [ih.1], fun i y hy => ?_⟩
    cases i with
    | zero => simp at hy; subst hy; exact ⟨_, rfl, fun _ _ _ u h => by rw [h.agg_vals]; exact .val _⟩
    | succ i => exact ih.2 i y (by simpa using hy)
theorem Spec.of {P : Program} {f : FuncId} {args args' : List AVal} {objs objs' : Writes} {v : AVal} (h : Spec P f args objs v objs') (hl : ArgsLe args' args) : Spec P f args' objs v objs' := fun ψ prot w cargs hψ hr hs ha =>
  h ψ prot w cargs hψ hr (by rw [hs, hl.rel.1]) fun i x u h1 h2 => by
    obtain ⟨y, h3, h4⟩ := hl.rel.2 i x h1
    exact h4 ψ prot w u (ha i y u h3 h2)
end Go.Proofs.YtboddbheljenhaaGreatDoor
namespace Go.Proofs.YtboddbheljenhaaGreatDoor
open Go.RowKit
def fillA (place : Nat → Option (Nat × Nat)) (cells : List AVal) : List (Nat × AVal) → Option (List AVal)
  | [] => some cells
  | (i, v) :: rest => match place i with
    | none => none
    | some (off, size) => if v.known && (v.flat.length == size) && Nat.ble (off + v.flat.length) cells.length then fillA place (setCells cells off v.flat) rest else none
theorem foldl_segment (off : Nat) (vs : Array Value) (cs : Array Value) (h : off + vs.size ≤ cs.size) :
    (vs.zipIdx.foldl (fun cs (x : Value × Nat) => cs.setIfInBounds (off + x.2) x.1) cs).toList = cs.toList.take off ++ vs.toList ++ cs.toList.drop (off + vs.size) := by
  obtain ⟨h1, h2⟩ := Great.foldl_set off vs.toList 0 cs
  have e : vs.zipIdx.foldl (fun cs (x : Value × Nat) => cs.setIfInBounds (off + x.2) x.1) cs = (vs.toList.zipIdx 0).foldl (fun cs (x : Value × Nat) => cs.setIfInBounds (off + x.2) x.1) cs := by
    rw [← Array.foldl_toList]; simp
  rw [e]
  apply List.ext_getElem?
  intro k
  rw [Array.getElem?_toList, h2 k]
  simp only [Nat.add_zero, Array.length_toList]
  by_cases hk1 : k < off
  · rw [if_neg (by omega), List.append_assoc, List.getElem?_append_left (by simp; omega), List.getElem?_take_of_lt hk1, Array.getElem?_toList]
  · by_cases hk2 : k < off + vs.size
    · rw [if_pos ⟨by omega, hk2, by omega⟩, List.append_assoc, List.getElem?_append_right (by simp; omega), List.getElem?_append_left (by simp; omega)]
      simp [Nat.min_eq_left (show off ≤ cs.size by omega)]
    · rw [if_neg (by omega), List.getElem?_append_right (by simp; omega), List.getElem?_drop]
      simp only [List.length_append, List.length_take, Array.length_toList, Nat.min_eq_left (show off ≤ cs.size by omega)]
      rw [show off + vs.size + (k - (off + vs.size)) = k by omega, Array.getElem?_toList]
theorem fill_rel {ψ : Ghost} {prot : Nat → Prop} {w : World} {place : Nat → Option (Nat × Nat)} : ∀ (ps : List (Nat × AVal)) (qs : List (Nat × Value)) (cells out : List AVal) (cs : Array Value), qs.length = ps.length → (∀ (j : Nat) p q, ps[j]? = some p → qs[j]? = some q → p.1 = q.1 ∧ VRel ψ prot w p.2 q.2) →
    VRels ψ prot w cells cs.toList → fillA place cells ps = some out → ∃ cs', Instr.fill place cs qs = some cs' ∧ VRels ψ prot w out cs'.toList
  | [], qs, cells, out, cs, hl, _, hc, hf => by
    obtain rfl : qs = [] := List.eq_nil_of_length_eq_zero (by simpa using hl)
    simp only [fillA, Option.some.injEq] at hf
    subst hf
    exact ⟨cs, rfl, hc⟩
  | (i, v) :: ps, [], _, _, _, hl, _, _, _ => by cases hl
  | (i, v) :: ps, (i', u) :: qs, cells, out, cs, hl, hr, hc, hf => by
    obtain ⟨h1, h2⟩ := hr 0 _ _ rfl rfl
    simp only at h1 h2
    subst h1
    simp only [fillA] at hf
    cases hp : place i with
    | none => rw [hp] at hf; cases hf
    | some os =>
      obtain ⟨off, size⟩ := os
      rw [hp] at hf
      simp only at hf
      split at hf
      · rename_i hcond
        simp only [Bool.and_eq_true, beq_iff_eq] at hcond
        obtain ⟨⟨hk, hsz⟩, hle⟩ := hcond
        have hle' := Nat.le_of_ble_eq_true hle
        have hfl := h2.flat hk
        have hul : u.cells.size = v.flat.length := by simpa using hfl.1
        have hcl : cs.size = cells.length := by simpa using hc.1
        have hseg := foldl_segment off u.cells cs (by omega)
        obtain ⟨cs', g1, g2⟩ := fill_rel ps qs _ out (u.cells.zipIdx.foldl (fun cs (x : Value × Nat) => cs.setIfInBounds (off + x.2) x.1) cs) (by simpa using hl) (fun j p q hp hq => hr (j + 1) p q hp hq) (by
          rw [hseg, hul]
          exact ((hc.take off).append hfl).append (hc.drop _)) hf
        refine ⟨cs', ?_, g2⟩
        simp only [Instr.fill, hp]
        rw [if_neg (by simp; omega)]
        exact g1
      · cases hf

section
variable {P : Program} {k : Nat} {st : St} {o : Oper}
def placesOf (P : Program) (fs : Array Field) : Option (List (Nat × Nat)) := fs.toList.mapM fun f => (P.info? f.type).map fun i => (f.offset, i.size)
inductive PartsOf (st : St) : List (Nat × Operand) → List (Nat × AVal) → Prop where
  | nil : PartsOf st [] []
  | cons {i : Nat} {x : Operand} {v : AVal} {ps : List (Nat × Operand)} {vs : List (Nat × AVal)} (h : st.aop x = v) (t : PartsOf st ps vs) : PartsOf st ((i, x) :: ps) ((i, v) :: vs)
theorem PartsOf.spec : ∀ {ps : List (Nat × Operand)} {vs : List (Nat × AVal)}, PartsOf st ps vs → ps.map (fun x => (x.1, st.aop x.2)) = vs := by
  intro ps vs h
  induction h with
  | nil => rfl
  | cons h _ ih => simp [ih, h]
theorem opok_build {t : TypeId} {parts : Array (Nat × Operand)} {fs : Array Field} {pl : List (Nat × Nat)} {z : Value} {vs : List (Nat × AVal)} {out : List AVal} (ho : o.op = .build t parts) (hu : P.underlying t = some (.struct fs)) (hpl : placesOf P fs = some pl) (hz : (P.info? t).bind (·.zero) = some z)
    (hp : PartsOf st parts.toList vs) (hf : fillA (pl.toArray[·]?) (AVal.val z).flat vs = some out) : OpOk P k st o ⟨.agg out, [], [], []⟩ :=
  opok_quiet fun ψ prot obj w ρ _ hr _ => by
    have hvs := hp.spec
    cases hi : P.info? t with
    | none => rw [hi] at hz; cases hz
    | some i =>
      have hz' : i.zero = some z := by rw [hi] at hz; exact hz
      obtain ⟨cs', g1, g2⟩ := fill_rel (ψ := ψ) (prot := prot) (w := w) vs (parts.toList.map fun x => (x.1, ρ x.2)) _ out z.cells (by simp [← hvs]) (fun j p q h1 h2 => by
        rw [← hvs] at h1
        simp only [List.getElem?_map] at h1 h2
        cases hq : parts.toList[j]? with
        | none => rw [hq] at h1; cases h1
        | some y =>
          rw [hq] at h1 h2
          simp only [Option.map_some, Option.some.injEq] at h1 h2
          subst h1; subst h2
          exact ⟨rfl, hr y.2 (by simp only [ho, Op.operands]; simp; exact ⟨y.1, by simpa using List.mem_of_getElem? hq⟩)⟩) (VRel.flat (.val z) rfl) hf
      have hb : P.built t (parts.map fun (i, x) => (i, ρ x)).toList = some cs' := by
        unfold placesOf at hpl
        simp only [Program.built, hi, hu, hz', hpl, Array.toList_map]
        exact g1
      refine ⟨.agg cs', ?_, VRels.agg g2⟩
      simp only [execOp, ho, Sem.run_bind, Sem.run_pure]
      rw [run_build w t _ cs' hb]
      rfl
theorem opok_nilCheck {x : Operand} {n kk off : Nat} (ho : o.op = .nilCheck x) (hx : st.aop x = .ptr n kk off) : OpOk P k st o ⟨.ptr n kk off, [], [], []⟩ :=
  opok_quiet fun ψ prot obj w ρ _ hr _ => by
    have h1 := hx ▸ hr x (by simp [ho, Op.operands])
    obtain ⟨b, cap, hv, h⟩ := h1.ptr_inv
    exact ⟨ρ x, by simp [execOp, ho, hv, pure], h1⟩
theorem opok_nilCheckR {x : Operand} {cs : List AVal} (ho : o.op = .nilCheck x) (hx : st.aop x = .rref cs) : OpOk P k st o ⟨.rref cs, [], [], []⟩ :=
  opok_quiet fun ψ prot obj w ρ _ hr _ => by
    have h1 := hx ▸ hr x (by simp [ho, Op.operands])
    obtain ⟨vs, b, off, hv, _⟩ := h1.rref_inv
    exact ⟨ρ x, by simp [execOp, ho, hv, pure], h1⟩
theorem opok_elem {t t' : TypeId} {p : Operand} {n kk off sz : Nat} {es : List AVal} {y : AVal} (i : Nat) (ho : o.op = .load t p) (hp : st.aop p = .ptr n kk off) (hn : st.obj n = some (kk, .row t' sz es)) (ht : plainType P t = true) (hoff : off = i * sz) (hw : widths sz es = true) (h1 : sz = 1) (hy : es[i]? = some y) (hf : y.flat = [y]) : OpOk P k st o ⟨y, [], [n], []⟩ := by
  refine opok_load ho hp hn ht ?_
  obtain ⟨f1, f2⟩ := flat_at (widths_spec hw) i y hy
  show (es.flatMap AVal.flat)[off]? = some y
  subst h1
  rw [hf] at f1
  rw [hoff]
  have := congrArg (fun l => l[0]?) f1
  simpa using this
inductive BytesIs (st : St) : AVal → List Nat → List Int → Prop where
  | nil : BytesIs st (.val (.slice none 0 0)) [] []
  | ro (xs : List Int) : BytesIs st (.ro (ints .u8 xs)) [] xs
  | own (n kk : Nat) (t : TypeId) (sz : Nat) (xs : List Int) (len : Nat) (hn : st.obj n = some (kk, .row t sz (ints .u8 xs))) (hl : len = xs.length) : BytesIs st (.own n kk len) [n] xs
theorem opok_text {s t e : TypeId} {x : Operand} {xv : AVal} {tl : List Nat} {xs : List Int} (ho : o.op = .convert s t x) (hx : st.aop x = xv) (hs : P.underlying s = some (.slice e)) (he : P.underlying e = some (.int .u8)) (ht : P.underlying t = some .string) (hb : BytesIs st xv tl xs) : OpOk P k st o ⟨.val (.string (strOfNums xs)), [], tl, []⟩ :=
  opok_quiet fun ψ prot obj w ρ hob hr r => by
    have e2 := hx ▸ hr x (by simp [ho, Op.operands])
    obtain ⟨A, n, c, hv, hl, hlies⟩ : ∃ A n c, ρ x = .slice A n c ∧ xs.length = n ∧ Lies w.heap.size A (xs.map (Value.int .u8)) w := by
      have lies : ∀ (A : Option Addr) (vs : List Value), VRels ψ prot w (ints .u8 xs) vs → (∀ j u, vs[j]? = some u → ∃ ad : Addr, A = some ad ∧ ad.block < w.heap.size ∧ w.cell? (ad.add j) = some u) → Lies w.heap.size A (xs.map (Value.int .u8)) w := fun A vs h1 h2 j hj => by
        have hjl : j < xs.length := by simpa using hj
        have hjv : j < vs.length := by rw [h1.1]; simpa using hjl
        have q1 : vs[j]? = some vs[j] := List.getElem?_eq_getElem hjv
        have q2 := (h1.2 j (.val (.int .u8 xs[j])) vs[j] (by rw [ints_get]; simp [hjl]) q1).val_eq
        obtain ⟨ad, q3, q4, q5⟩ := h2 j _ q1
        exact ⟨ad, vs[j], q3, q4, by rw [q2]; simp [hjl], q5⟩
      cases hb with
      | nil => exact ⟨none, 0, 0, e2.val_eq, rfl, fun j hj => by simp at hj⟩
      | ro =>
        rcases e2.ro_inv with ⟨h0, a0, c0, hv, _⟩ | ⟨vs, b, off, cap, hv, hp, h4, h5, _⟩
        · obtain rfl : xs = [] := by cases xs with | nil => rfl | cons x xs => cases h0
          exact ⟨a0, 0, c0, hv, rfl, fun j hj => by simp at hj⟩
        · rw [flat_ints] at h4
          exact ⟨_, _, cap, hv, by simp, lies _ vs h4 fun j u hj => ⟨_, rfl, (r.pr b hp).1, by rw [addr_add0]; exact h5 j u hj⟩⟩
      | own n kk t sz xs len hn hl =>
        obtain ⟨loc, hv, hψ⟩ := e2.own_inv
        obtain ⟨loc', g1, g2⟩ := r.live n kk _ ((hob n (by simp)).trans hn)
        rw [hψ] at g1; injection g1 with g1; subst g1
        have hins := g2.inside
        obtain ⟨ys, g3, g4, _⟩ := loc_of_own g2
        rw [flat_ints] at g3
        refine ⟨_, len, loc.cap, hv, hl.symm, lies _ ys g3 fun j u hj => ?_⟩
        obtain ⟨ad, q1, q2⟩ := g4 j u hj
        refine ⟨ad, q1, ?_, q2⟩
        cases hbb : loc.block with
        | none => rw [hbb] at q1; cases q1
        | some b => rw [hbb] at q1; simp at q1; rw [← q1]; exact hins b hbb
    have := conv_bytes (P := P) (c := c) hs he ht hlies hl
    exact ⟨_, by simp only [execOp, ho, hv, this, Sem.run_bind, Sem.run_pure, Result.andThen_ok], .val _⟩
omit st o in
theorem aggType_spec {t : TypeId} (h : aggType P t = true) : (∃ fs, P.underlying t = some (.struct fs)) ∨ ∃ n e, P.underlying t = some (.array n e) := by
  unfold aggType at h
  split at h
  · exact .inl ⟨_, by assumption⟩
  · exact .inr ⟨_, _, by assumption⟩
  · cases h
theorem opok_len {x : Operand} {t : TypeId} {es : List AVal} {e : TypeId} {m : Nat} (ho : o.op = .call { callee := .builtin .len, args := #[x], argTypes := #[t] }) (hx : st.aop x = .ro es) (ht : P.underlying t = some (.slice e)) (hm : es.length = m) : OpOk P k st o ⟨.val (.int .i64 m), [], [], []⟩ := by
  subst hm; exact opok_len_ro ho hx ht
theorem res_cell {fn : Func} {a : Nat} {t : TypeId} {n kk : Nat} {bt : TypeId} {cs : List AVal} (hr : fn.results = #[.cell a t]) (ha : st.get a = .ptr n kk 0) (hn : st.obj n = some (kk, .box bt cs)) (ht : aggType P t = true) (hs : sizeIs P t cs.length) : ResOk P fn st (.agg cs) := fun ψ prot w tmps r h => by
  have h1 := h a
  rw [ha] at h1
  obtain ⟨b, cap, hv, h2⟩ := h1.ptr_inv
  obtain ⟨loc, h3, h4⟩ := r.live n kk _ hn
  rw [h2] at h3; injection h3 with h3; subst h3
  obtain ⟨b', vs, h0, hh, h5⟩ := h4
  injection h0 with h0; subst h0
  have hsz : (P.info? t).map (·.size) = some vs.toArray.size := by have := hs; unfold sizeIs at this; rw [this]; simp [h5.1]
  rcases aggType_spec ht with ⟨fs, hu⟩ | ⟨m, e, hu⟩
  · exact ⟨.agg vs.toArray, results_cell_row hr _ w b bt vs.toArray (0, 0) _ hv hh hu rfl hsz, VRels.agg (by simpa using h5)⟩
  · exact ⟨.agg vs.toArray, results_cell_row hr _ w b bt vs.toArray (0, 0) _ hv hh hu rfl hsz, VRels.agg (by simpa using h5)⟩
theorem ends_ptr {fn : Func} {a n kk : Nat} {o' ob : AObj} {objs' : Writes} (hr : fn.results = #[.tmp a]) (ha : st.get a = .ptr n kk 0) (hobj : st.obj n = some (kk, ob)) (hout : (objs'.filter fun x => x.2.isSome) = [(1000, some (0, o'))]) (ho : ob = o') (hp : o'.pure = true) (hn : nodupB (objs'.map (·.1)) = true) {e : Exit} (he : e = .ret ∨ e = .normal) :
    Ends P fn (.ptr 1000 0 0) objs' e st := by
  subst ho
  exact ends [(1000, n, kk, ob)] (res_one hr ha) (.one (.ptr _ _ _ _ _ List.mem_cons_self)) (fun x h => by simp at h; subst h; exact hobj) hout hn rfl (fun x h => by simp at h; subst h; exact hp) rfl he
theorem ends_with {fn : Func} {v0 v : AVal} {o' ob : AObj} {objs' : Writes} (hres : ResOk P fn st v0) (hv : v0 = v) (hpv : v.pure = true) (hobj : st.obj 0 = some (0, ob)) (hout : (objs'.filter fun x => x.2.isSome) = [(0, some (0, o'))]) (ho : ob = o') (hp : o'.pure = true) (hn : nodupB (objs'.map (·.1)) = true) {e : Exit} (he : e = .ret ∨ e = .normal) :
    Ends P fn v objs' e st := by
  subst ho; subst hv
  exact ends [(0, 0, 0, ob)] hres (.one (.pure _ hpv)) (fun x h => by simp at h; subst h; exact hobj) hout hn rfl (fun x h => by simp at h; subst h; exact hp) rfl he
end
end Go.Proofs.YtboddbheljenhaaGreatDoor
namespace Go.Proofs.YtboddbheljenhaaGreatDoor
open Go.RowKit
section
variable {P : Program} {k : Nat} {st : St} {o : Oper}
theorem opok_pure {x : Operand} {xs : Array Operand} {ats : Array TypeId} {f : FuncId} {fn : Func} {c : Code} {caps cargs : List AVal} {v : AVal} (ho : o.op = .call { callee := .value x, args := xs, argTypes := ats }) (hx : st.aop x = .fn f caps) (hf : P.funcs[f]? = some fn) (hn : (fn.name == "runtime.NumGoroutine") = false) (hb : fn.body = some c)
    (hspec : Spec P f cargs [] v []) (hr : Rens [] (xs.toList.map st.aop ++ caps) cargs) (hv : v.pure = true) : OpOk P k st o ⟨v, [], [], []⟩ :=
  opok_call (d := 0) [] none ho hx hf hn hb hr hspec rfl (.one (.pure _ hv)) (fun b h => by cases h) rfl
end
inductive Frz1 (n kk : Nat) (es : List AVal) : AVal → AVal → Prop where
  | any (x : AVal) : Frz1 n kk es x .any
  | same (x : AVal) : Frz1 n kk es x x
  | own (len : Nat) (h : len = es.length) : Frz1 n kk es (.own n kk len) (.ro es)
inductive Frzs (n kk : Nat) (es : List AVal) : List AVal → List AVal → Prop where
  | nil : Frzs n kk es [] []
  | cons {x y : AVal} {xs ys : List AVal} (h : Frz1 n kk es x y) (t : Frzs n kk es xs ys) : Frzs n kk es (x :: xs) (y :: ys)
inductive Frz (n kk : Nat) (es : List AVal) : AVal → AVal → Prop where
  | one {x y : AVal} (h : Frz1 n kk es x y) : Frz n kk es x y
  | agg {xs ys : List AVal} (h : Frzs n kk es xs ys) : Frz n kk es (.agg xs) (.agg ys)
  | tuple {xs ys : List AVal} (h : Frzs n kk es xs ys) : Frz n kk es (.tuple xs) (.tuple ys)
inductive FrzO (n kk : Nat) (es : List AVal) : AObj → AObj → Prop where
  | same (o : AObj) : FrzO n kk es o o
  | box {t : TypeId} {xs ys : List AVal} (h : Frzs n kk es xs ys) : FrzO n kk es (.box t xs) (.box t ys)
  | row {t : TypeId} {sz : Nat} {xs ys : List AVal} (h : Frzs n kk es (xs.flatMap AVal.flat) (ys.flatMap AVal.flat)) (hl : xs.length = ys.length) : FrzO n kk es (.row t sz xs) (.row t sz ys)
section
variable {ψ : Ghost} {prot prot' : Nat → Prop} {w : World} {n kk : Nat} {es : List AVal}
theorem Frz1.rel {x y : AVal} {v : Value} (h : Frz1 n kk es x y) (hm : ∀ b, prot b → prot' b) (ho : ∀ u, VRel ψ prot w (.own n kk es.length) u → VRel ψ prot' w (.ro es) u) (hv : VRel ψ prot w x v) : VRel ψ prot' w y v := by
  cases h with
  | any x => exact .any v
  | same x => exact hv.mono (fun _ _ _ h => h) fun b hb => ⟨hm b hb, rfl⟩
  | own len hl => subst hl; exact ho v hv
theorem Frzs.rel (hm : ∀ b, prot b → prot' b) (ho : ∀ u, VRel ψ prot w (.own n kk es.length) u → VRel ψ prot' w (.ro es) u) : ∀ {xs ys : List AVal}, Frzs n kk es xs ys → ∀ vs, VRels ψ prot w xs vs → VRels ψ prot' w ys vs := by
  intro xs ys h
  induction h with
  | nil => intro vs hv; exact ⟨hv.1, fun i x v h => by simp at h⟩
  | cons h _ ih =>
    intro vs hv
    cases vs with
    | nil => have := hv.1; simp at this
    | cons v vs =>
      have h2 := ih vs ⟨by simpa using hv.1, fun i x u h1 h2 => hv.2 (i + 1) x u h1 h2⟩
      refine ⟨by simp [h2.1], fun i x u h1 h3 => ?_⟩
      cases i with
      | zero => simp at h1 h3; subst h1; subst h3; exact h.rel hm ho (hv.2 0 _ _ rfl rfl)
      | succ i => exact h2.2 i x u h1 h3
theorem Frz.rel {x y : AVal} {v : Value} (h : Frz n kk es x y) (hm : ∀ b, prot b → prot' b) (ho : ∀ u, VRel ψ prot w (.own n kk es.length) u → VRel ψ prot' w (.ro es) u) (hv : VRel ψ prot w x v) : VRel ψ prot' w y v := by
  cases h with
  | one h => exact h.rel hm ho hv
  | agg h =>
    obtain ⟨vs, rfl, h2⟩ := hv.aggs
    exact VRels.agg (h.rel hm ho _ h2)
  | tuple h =>
    cases hv with
    | tuple _ vs hl hv =>
      have := h.rel hm ho vs.toList ⟨by simpa using hl, fun i x v h1 h2 => hv i x v h1 (by simpa using h2)⟩
      exact .tuple _ vs (by simpa using this.1) fun i x v h1 h2 => this.2 i x v h1 (by simpa using h2)
theorem FrzO.rel {o o' : AObj} {loc : Loc} (h : FrzO n kk es o o') (hm : ∀ b, prot b → prot' b) (ho : ∀ u, VRel ψ prot w (.own n kk es.length) u → VRel ψ prot' w (.ro es) u) (hv : ORel ψ prot w loc o) : ORel ψ prot' w loc o' := by
  cases h with
  | same => exact hv.mono (fun _ _ _ h => h) (fun b hb => ⟨hm b hb, rfl⟩) fun _ _ => rfl
  | box h => obtain ⟨b, vs, h0, h1, h2⟩ := hv; exact ⟨b, vs, h0, h1, h.rel hm ho _ h2⟩
  | row h hl => obtain ⟨xs, h1, h2⟩ := hv; rw [hl] at h1; exact ⟨xs, h1, h.rel hm ho _ h2⟩
end
inductive EnvFrz (n kk : Nat) (es : List AVal) (st : St) : List (Nat × AVal) → Prop where
  | nil : EnvFrz n kk es st []
  | cons {t : Nat} {v v' : AVal} {env : List (Nat × AVal)} (h : st.get t = v) (f : Frz n kk es v v') (r : EnvFrz n kk es st env) : EnvFrz n kk es st ((t, v') :: env)
inductive ObjsFrz (n kk : Nat) (es : List AVal) (st : St) : Writes → Prop where
  | nil : ObjsFrz n kk es st []
  | cons {m k : Nat} {o o' : AObj} {objs : Writes} (h : st.obj m = some (k, o)) (hm : (m != n) = true) (f : FrzO n kk es o o') (r : ObjsFrz n kk es st objs) : ObjsFrz n kk es st ((m, some (k, o')) :: objs)
theorem EnvFrz.mem {n kk : Nat} {es : List AVal} {st : St} {env : List (Nat × AVal)} (h : EnvFrz n kk es st env) : ∀ p ∈ env, Frz n kk es (st.get p.1) p.2 := by
  induction h with
  | nil => intro p hp; cases hp
  | cons h f _ ih => intro p hp; rcases List.mem_cons.1 hp with rfl | hp; · rw [h]; exact f
                     · exact ih p hp
theorem ObjsFrz.mem {n kk : Nat} {es : List AVal} {st : St} {objs : Writes} (h : ObjsFrz n kk es st objs) : ∀ p ∈ objs, ∃ k o o', p.2 = some (k, o') ∧ st.obj p.1 = some (k, o) ∧ p.1 ≠ n ∧ FrzO n kk es o o' := by
  induction h with
  | nil => intro p hp; cases hp
  | cons h hm f _ ih => intro p hp; rcases List.mem_cons.1 hp with rfl | hp; · exact ⟨_, _, _, rfl, h, by simpa using hm, f⟩
                        · exact ih p hp
theorem awp_frz {P : Program} {N : Nat} {ini : Ini} {Q : Exit → St → Prop} {st : St} {c : Code} (n kk : Nat) {sz : Nat} {t : TypeId} (es : List AVal) (env : List (Nat × AVal)) (objs : Writes) (hn : st.obj n = some (kk, .row t sz es)) (he : EnvFrz n kk es st env) (ho : ObjsFrz n kk es st objs) (h : Awp P N ini c Q ⟨env, objs⟩) : Awp P N ini c Q st := by
  rintro a w ⟨hd, hs, ψ, prot, h1, h2, h3, h4⟩
  obtain ⟨loc, hl, hor⟩ := h2.live n kk _ hn
  have live : ∀ m k o', (⟨env, objs⟩ : St).obj m = some (k, o') → m ≠ n ∧ ∃ o, st.obj m = some (k, o) ∧ FrzO n kk es o o' := fun m k o' h => by
    simp only [St.obj, updW] at h
    cases hlk : objs.lookup m with
    | none => rw [hlk] at h; cases h
    | some y =>
      rw [hlk] at h
      simp only at h
      subst h
      obtain ⟨k', o, o'', q1, q2, q3, q4⟩ := ho.mem _ (lookup_mem hlk)
      simp only [Option.some.injEq, Prod.mk.injEq] at q1
      obtain ⟨rfl, rfl⟩ := q1
      exact ⟨q3, o, q2, q4⟩
  let prot' : Nat → Prop := fun b => prot b ∨ loc.block = some b
  have hun : ∀ b, unowned ψ st.obj w b → unowned ψ (⟨env, objs⟩ : St).obj w b := fun b hb => ⟨hb.1, fun m k o l g1 g2 => by
    obtain ⟨_, o0, q1, _⟩ := live m k o g1
    exact hb.2 m k o0 l q1 g2⟩
  have hpu : ∀ b, prot' b → unowned ψ (⟨env, objs⟩ : St).obj w b := fun b hb => by
    rcases hb with hb | hb
    · exact hun b (h2.pr b hb)
    · refine ⟨hor.inside b hb, fun m k o l g1 g2 g3 => ?_⟩
      obtain ⟨q0, o0, q1, _⟩ := live m k o g1
      exact h2.inj n m kk k _ o0 loc l hn q1 (Ne.symm q0) hl g2 b hb g3
  have hmono : ∀ b, prot b → prot' b := fun b hb => .inl hb
  have hown : ∀ u, VRel ψ prot w (.own n kk es.length) u → VRel ψ prot' w (.ro es) u := fun u hu => by
    obtain ⟨loc', hv, hψ⟩ := hu.own_inv
    rw [hl] at hψ; injection hψ with hψ; subst hψ
    obtain ⟨xs, g3, g4, g5⟩ := loc_of_own hor
    rw [hv]
    cases hb : loc.block with
    | none =>
      obtain ⟨q1, q2⟩ := g5 hb
      obtain rfl : es = [] := List.eq_nil_of_length_eq_zero q1
      rw [q2]; exact .roNil _ _ fun _ => rfl
    | some b =>
      obtain ⟨ys, k1, k2⟩ := hor
      refine .ro es xs b 0 loc.cap ?_ (.inr hb) g3.1 (fun i v hi => ?_) fun i x v hx hi => (g3.2 i x v hx hi).mono (fun _ _ _ h => h) fun b hb => ⟨hmono b hb, rfl⟩
      · rw [hb] at k1
        rcases k1.2 with ⟨h, _⟩ | ⟨g, c, cur, h, _, _, hle, _⟩
        · cases h
        · injection h with _ _ e3; rw [e3]; exact hle
      · obtain ⟨ad, q1, q2⟩ := g4 i v hi
        rw [hb] at q1
        simp only [Option.map_some, Option.some.injEq] at q1
        subst q1
        rwa [addr_add0] at q2
  refine h a w ⟨hd, hs, ψ, prot', ⟨h1.os, h1.tape, h1.output, h1.size, h1.gh, fun b hb => .inl (h1.pr b hb), fun b hb => ⟨hun b (h1.un b hb).1, (h1.un b hb).2⟩, fun b hb => ?_⟩, ⟨fun m k o g => ?_, fun m m' k k' o o' l l' g g' hne => ?_, hpu⟩, h3, fun t' => ?_⟩
  · rcases hb with hb | hb
    · exact h1.new b hb
    · exact .inr fun hu => (h1.un b hu).1.2 n kk _ loc hn hl hb
  · obtain ⟨_, o0, q1, q2⟩ := live m k o g
    obtain ⟨l, g1, g2⟩ := h2.live m k o0 q1
    exact ⟨l, g1, q2.rel hmono hown g2⟩
  · obtain ⟨_, o0, q1, _⟩ := live m k o g
    obtain ⟨_, o1, q1', _⟩ := live m' k' o' g'
    exact h2.inj m m' k k' o0 o1 l l' q1 q1' hne
  · cases hlk : env.lookup t' with
    | none =>
      have : (⟨env, objs⟩ : St).get t' = .any := by simp [St.get, hlk]
      rw [this]; exact .any _
    | some v =>
      have h5 := he.mem _ (lookup_mem hlk)
      have : (⟨env, objs⟩ : St).get t' = v := by simp [St.get, hlk]
      rw [this]
      exact h5.rel hmono hown (h4 t')
end Go.Proofs.YtboddbheljenhaaGreatDoor
namespace Go.Proofs.YtboddbheljenhaaGreatDoor
open Go.RowKit
end Go.Proofs.YtboddbheljenhaaGreatDoor
namespace Go.Proofs.YtboddbheljenhaaGreatDoor
open Go.RowKit
section
variable {P : Program}
theorem vrels_zeros {ψ : Ghost} {prot : Nat → Prop} {w : World} (K : IntKind) (xs : List Int) : VRels ψ prot w (ints K xs) (xs.map (Value.int K)) := by
  have := VRels.vals (ψ := ψ) (prot := prot) (w := w) (vs := xs.map (Value.int K))
  simpa [ints, Function.comp_def] using this
variable {k : Nat} {ops : Array Oper} {N : Nat} {draw : Bool} {K : St → Prop} {o : Oper} {os : List Oper} {env : List (Nat × AVal)} {objs : Writes} {acc : List Tr} {d : Nat}
end
end Go.Proofs.YtboddbheljenhaaGreatDoor
namespace Go.Proofs.YtboddbheljenhaaGreatDoor
open Go.RowKit
inductive ValsAre : List AVal → List Value → Prop where
  | nil : ValsAre [] []
  | cons {v : Value} {xs : List AVal} {vs : List Value} (t : ValsAre xs vs) : ValsAre (.val v :: xs) (v :: vs)
theorem ValsAre.eq : ∀ {xs : List AVal} {vs : List Value}, ValsAre xs vs → xs = vs.map .val := by
  intro xs vs h
  induction h with
  | nil => rfl
  | cons _ ih => rw [ih]; rfl
section
variable {P : Program} {k : Nat} {st : St} {o : Oper}
theorem opok_binA {op : BinOp} {t yt : TypeId} {x y : Operand} {as bs : List AVal} {us vs : List Value} {cv : Value} (ho : o.op = .binOp op t x y yt) (hx : st.aop x = .agg as) (ha : ValsAre as us) (hy : st.aop y = .agg bs) (hb : ValsAre bs vs)
    (h : ∀ w, (do eqGuard op t x y (.agg us.toArray) (.agg vs.toArray); binOp op t (.agg us.toArray) (.agg vs.toArray) : Sem Value).run P w = .ok cv w) : OpOk P k st o ⟨.val cv, [], [], []⟩ :=
  opok_quiet fun ψ prot obj w ρ _ hr _ => by
    rw [ha.eq] at hx; rw [hb.eq] at hy
    have h1 := (hx ▸ hr x (by simp [ho, Op.operands]) : VRel ψ prot w (.agg (us.map .val)) (ρ x)).agg_vals
    have h2 := (hy ▸ hr y (by simp [ho, Op.operands]) : VRel ψ prot w (.agg (vs.map .val)) (ρ y)).agg_vals
    refine ⟨cv, ?_, .val _⟩
    have := h w
    simp only [Sem.run_bind] at this
    simp only [execOp, ho, h1, h2, Sem.run_bind, Sem.run_pure]
    rw [this]; rfl
theorem opok_min {x y : Operand} {t t' : TypeId} {a b : Int} (ho : o.op = .call { callee := .builtin .min, args := #[x, y], argTypes := #[t, t'] }) (hx : st.aop x = .val (.int .i64 a)) (hy : st.aop y = .val (.int .i64 b)) : OpOk P k st o ⟨.val (.int .i64 (min a b)), [], [], []⟩ :=
  opok_quiet fun ψ prot obj w ρ _ hr _ => by
    have h1 := (hx ▸ hr x (by simp [ho, Op.operands, Call.operands]) : VRel ψ prot w (.val (.int .i64 a)) (ρ x)).val_eq
    have h2 := (hy ▸ hr y (by simp [ho, Op.operands, Call.operands]) : VRel ψ prot w (.val (.int .i64 b)) (ρ y)).val_eq
    refine ⟨_, ?_, .val _⟩
    simp [execOp, ho, resolve, invoke, builtin, h1, h2, Builtin.min_, Builtin.min2, go_sem]
    try (by_cases h : b < a <;> simp [h] <;> omega)
theorem opok_max {x y : Operand} {t t' : TypeId} {a b : Int} (ho : o.op = .call { callee := .builtin .max, args := #[x, y], argTypes := #[t, t'] }) (hx : st.aop x = .val (.int .i64 a)) (hy : st.aop y = .val (.int .i64 b)) : OpOk P k st o ⟨.val (.int .i64 (max a b)), [], [], []⟩ :=
  opok_quiet fun ψ prot obj w ρ _ hr _ => by
    have h1 := (hx ▸ hr x (by simp [ho, Op.operands, Call.operands]) : VRel ψ prot w (.val (.int .i64 a)) (ρ x)).val_eq
    have h2 := (hy ▸ hr y (by simp [ho, Op.operands, Call.operands]) : VRel ψ prot w (.val (.int .i64 b)) (ρ y)).val_eq
    refine ⟨_, ?_, .val _⟩
    simp [execOp, ho, resolve, invoke, builtin, h1, h2, Builtin.max_, Builtin.max2, go_sem]
    try (split <;> omega)
theorem res_cell2 {fn : Func} {a u : Nat} {t : TypeId} {n kk : Nat} {bt : TypeId} {cs : List AVal} {y : AVal} (hr : fn.results = #[.cell a t, .tmp u]) (ha : st.get a = .ptr n kk 0) (hn : st.obj n = some (kk, .box bt cs)) (hu : st.get u = y) (ht : aggType P t = true) (hs : sizeIs P t cs.length) : ResOk P fn st (.tuple [.agg cs, y]) := fun ψ prot w tmps r h => by
  have h1 := h a
  have hy := h u
  rw [ha] at h1
  rw [hu] at hy
  obtain ⟨b, cap, hv, h2⟩ := h1.ptr_inv
  obtain ⟨loc, h3, h4⟩ := r.live n kk _ hn
  rw [h2] at h3; injection h3 with h3; subst h3
  obtain ⟨b', vs, h0, hh, h5⟩ := h4
  injection h0 with h0; subst h0
  have hsz : (P.info? t).map (·.size) = some vs.toArray.size := by have := hs; unfold sizeIs at this; rw [this]; simp [h5.1]
  have hf : VRel ψ prot w (.tuple [.agg cs, y]) (.tuple #[.agg vs.toArray, tmps.getD u undef]) := .tuple _ _ rfl fun i z v e1 e2 => by
    match i with
    | 0 => simp at e1 e2; subst e1; subst e2; exact VRels.agg (by simpa using h5)
    | 1 => simp at e1 e2; subst e1; rw [← e2]; simpa using hy
    | i + 2 => simp at e1
  refine ⟨_, ?_, hf⟩
  rw [results_cell_tmp hr, hv]
  have q : (loadVar t ⟨b, 0, none⟩).run P w = .ok (.agg vs.toArray) w := by
    rcases aggType_spec ht with ⟨fs, hu⟩ | ⟨m, e, hu⟩
    · exact run_loadVar_row w b bt t vs.toArray (0, 0) _ hh hu rfl hsz
    · exact run_loadVar_row w b bt t vs.toArray (0, 0) _ hh hu rfl hsz
  simp only [asAddr, Sem.run_pure, Result.andThen_ok, q]
end
end Go.Proofs.YtboddbheljenhaaGreatDoor
namespace Go.Proofs.YtboddbheljenhaaGreatDoor
open Go.RowKit
end Go.Proofs.YtboddbheljenhaaGreatDoor
namespace Go.Proofs.YtboddbheljenhaaGreatDoor
open Go.RowKit
section
variable {P : Program} {k : Nat} {st : St} {o : Oper}
theorem opok_set {t e : TypeId} {p x : Operand} {n kk off : Nat} {K : IntKind} {xs : List Int} {y : Int} (ho : o.op = .store t p x) (hp : st.aop p = .ptr n kk off) (hn : st.obj n = some (kk, .row e 1 (ints K xs))) (hx : st.aop x = .val (.int K y)) (hs : sizeIs P t 1) (hf : off < xs.length) :
    OpOk P k st o ⟨.any, [(n, some (kk, .row e 1 (ints K (xs.set off y))))], [n], []⟩ := by
  refine ⟨fun m hm => by simpa [Writes.names] using hm, fun ψ prot obj w ρ hob hr r _ => ?_⟩
  have e1 := hp ▸ hr p (by simp [ho, Op.operands])
  have e2 := (hx ▸ hr x (by simp [ho, Op.operands]) : VRel ψ prot w (.val (.int K y)) (ρ x)).val_eq
  have hnn := (hob n (by simp)).trans hn
  obtain ⟨loc, h2, h3⟩ := r.live n kk _ hnn
  obtain ⟨b, cap, hpv, h⟩ := e1.ptr_inv
  rw [h2] at h; injection h with h; subst h
  obtain ⟨zs, g1, g2⟩ := h3
  have hz : zs = xs.map (Value.int K) := by
    rw [flat_ints] at g2
    apply List.ext_getElem
    · have := g2.1; simpa using this
    · intro i q1 q2
      have hi : i < xs.length := by simpa using q2
      have := (g2.2 i (.val (.int K xs[i])) zs[i] (by rw [ints_get]; simp [hi]) (List.getElem?_eq_getElem q1)).val_eq
      simp [this]
  subst hz
  simp only [length_ints, Option.map_some] at g1
  rcases g1.2 with ⟨q, _⟩ | ⟨g, c, cur, q, hb0, hg, hnc, hcm, hcs, htake⟩
  · cases q
  injection q with q1 q2 q3
  simp only [Option.some.injEq, Addr.mk.injEq, and_true] at q1
  subst q1; subst q3
  have hlt : off < cur.toList.length := by simp only [Array.length_toList, hcs]; omega
  have hrun := run_storeVar_at (P := P) (t := t) (off := off) (v := ρ x) (vs := cur.toList) (b := b) (w := w) (t' := e) (by simpa using hg) (by rw [e2]; exact hs) (by rw [e2]; exact hlt) (by rw [e2]; intro u hu; simp [Value.cells] at hu; subst hu; rfl)
  have hset : cur.toList.take off ++ (ρ x).cells.toList ++ cur.toList.drop (off + (ρ x).cells.size) = cur.toList.set off (.int K y) := by
    rw [e2, List.set_eq_take_append_cons_drop, if_pos hlt]
    simp [Value.cells]
  rw [hset] at hrun
  have hr' : (execOp ρ o).run P w = .ok .skip (w.setRow b (cur.toList.set off (.int K y)).toArray) := by
    simp only [execOp, ho, hpv, Instr.storeAt, Instr.sureAddr, Sem.run_bind, Sem.run_pure, Result.andThen_ok, hrun]
  rw [hr']
  have hoth : ∀ c, c < w.heap.size → (some b : Option Nat) ≠ some c → (w.setRow b (cur.toList.set off (.int K y)).toArray).heap[c]? = w.heap[c]? := fun c _ hc => setRow_other w b c _ (fun e => hc (by rw [e]))
  have hbn : ¬ prot b := fun hpb => (r.pr b hpb).2 n kk _ _ hnn h2 rfl
  obtain ⟨k1, k2⟩ := evolve_store (w' := w.setRow b (cur.toList.set off (.int K y)).toArray) r.toRH n kk _ (.row e 1 (ints K (xs.set off y))) _ hnn h2 rfl rfl rfl (by simp [World.setRow]) hoth
    ⟨(xs.set off y).map (Value.int K), ⟨by simp, .inr ⟨b, cap, (cur.toList.set off (.int K y)).toArray, by simp, hb0, setRow_heap w b _ _ _ _ hg, by simpa using hnc, hcm, by simpa using hcs, by
      simp only [length_ints, List.length_set, Nat.mul_one] at htake ⊢
      rw [List.take_set, htake, List.map_set]⟩⟩, by rw [flat_ints]; exact vrels_zeros K _⟩
  exact ⟨ψ, prot, k1, k2, .any _, fun m j hne => .inl hne⟩
variable {ops : Array Oper} {N : Nat} {draw : Bool} {K : St → Prop} {os : List Oper} {env : List (Nat × AVal)} {objs : Writes} {acc : List Tr}
theorem runk_set {t e : TypeId} {p x : Operand} {n kk off : Nat} {J : IntKind} {xs : List Int} {y : Int} (hg : o.guard = none) (hd : o.dst = none) (ho : o.op = .store t p x) (hp : (⟨env, objs⟩ : St).aop p = .ptr n kk off) (hx : (⟨env, objs⟩ : St).aop x = .val (.int J y)) (hn : (⟨env, objs⟩ : St).obj n = some (kk, .row e 1 (ints J xs))) (hs : sizeIs P t 1) (hf : off < xs.length)
    (t : RunK P k ops N draw os ⟨env, (n, some (kk, .row e 1 (ints J (xs.set off y)))) :: objs⟩ (⟨.any, [(n, some (kk, .row e 1 (ints J (xs.set off y))))], [n], []⟩ :: acc) K) : RunK P k ops N draw (o :: os) ⟨env, objs⟩ acc K :=
  runkN hg hd (opok_set ho hp hn hx hs hf) t
end
end Go.Proofs.YtboddbheljenhaaGreatDoor
namespace Go.Proofs.YtboddbheljenhaaGreatDoor
open Go.RowKit
end Go.Proofs.YtboddbheljenhaaGreatDoor
