/-
  Helps for walks by states: lists of numbers, literals, how a function ends. No program is named here.
-/
import Derived.Test.YtojapodjlpffdaaAbsRun
namespace Go.Proofs.Ytojapodjlpffdaa
open Go.RowKit
section
variable (k : IntKind) (xs ys : List Int)
@[simp] theorem length_ints : (ints k xs).length = xs.length := by simp [ints]
theorem flat_ints : (ints k xs).flatMap AVal.flat = ints k xs := by induction xs with | nil => rfl | cons x xs ih => simpa [ints, AVal.flat] using ih
@[simp] theorem widths_ints : widths 1 (ints k xs) = true := by simp [widths, ints, AVal.flat]
@[simp] theorem one_ints : ((ints k xs).flatMap AVal.flat).all AVal.one = true := by rw [flat_ints]; simp [ints, AVal.one]
@[simp] theorem pures_ints : AVal.pures (ints k xs) = true := AVal.pures_of fun x hx => by
  simp only [ints, List.mem_map] at hx
  obtain ⟨y, -, rfl⟩ := hx; rfl
@[simp] theorem ints_append : ints k xs ++ ints k ys = ints k (xs ++ ys) := by simp [ints]
theorem ints_cons (x : Int) : ints k (x :: xs) = .val (.int k x) :: ints k xs := rfl
theorem ints_nil : ints k [] = [] := rfl
theorem ints_get (i : Nat) : (ints k xs)[i]? = (xs[i]?).map fun x => .val (.int k x) := by simp [ints]
end
def nodupB : List Nat → Bool
  | [] => true
  | n :: l => !l.contains n && nodupB l
theorem nodupB_spec : ∀ {l : List Nat}, nodupB l = true → l.Nodup
  | [], _ => List.nodup_nil
  | n :: l, h => by
    simp only [nodupB, Bool.and_eq_true, Bool.not_eq_true'] at h
    refine List.nodup_cons.2 ⟨fun hm => ?_, nodupB_spec h.2⟩
    have : l.contains n = true := by simpa using hm
    rw [this] at h; cases h.1

section
variable {P : Program} {fn : Func} {st : St} {v0 v : AVal} {objs' : Writes}
theorem updW_live : ∀ {wr : Writes} {n : Nat}, (wr.map (·.1)).Nodup → updW (fun _ => none) (wr.filter fun x => x.2.isSome) n = updW (fun _ => none) wr n := fun {wr n} hn => by
  simp only [updW]
  cases h : wr.lookup n with
  | none =>
    have : n ∉ Writes.names (wr.filter fun x => x.2.isSome) := fun hm => by
      simp only [Writes.names, List.mem_map, List.mem_filter] at hm
      obtain ⟨⟨m, y⟩, ⟨h1, _⟩, rfl⟩ := hm
      rw [lookup_of_mem hn h1] at h; cases h
    rw [lookup_none_of_not_mem this]
  | some y =>
    have hm := lookup_mem h
    cases y with
    | none =>
      have : n ∉ Writes.names (wr.filter fun x => x.2.isSome) := fun hm' => by
        simp only [Writes.names, List.mem_map, List.mem_filter] at hm'
        obtain ⟨⟨m, y⟩, ⟨h1, h2⟩, rfl⟩ := hm'
        rw [lookup_of_mem hn h1] at h
        simp only [Option.some.injEq] at h
        subst h; cases h2
      rw [lookup_none_of_not_mem this]
    | some z =>
      have h1 : (n, some z) ∈ wr.filter fun x => x.2.isSome := List.mem_filter.2 ⟨hm, rfl⟩
      have h2 : ((wr.filter fun x => x.2.isSome).map (·.1)).Nodup := List.Sublist.nodup ((List.filter_sublist).map _) hn
      rw [lookup_of_mem h2 h1]
/-- The end: the objects that are handed back are listed: (new name, name, version, object). -/
theorem ends (keep : List (Nat × Nat × Nat × AObj)) (hres : ResOk P fn st v0) (hren : RenT (keep.map fun x => (x.2.1, x.2.2.1, x.1, 0)) v0 v) (hobj : ∀ x ∈ keep, st.obj x.2.1 = some (x.2.2.1, x.2.2.2))
    (hout : (objs'.filter fun x => x.2.isSome) = keep.map fun x => (x.1, some (0, x.2.2.2))) (hn : nodupB (objs'.map (·.1)) = true) (hn2 : nodupB (keep.map (·.2.1)) = true) (hp : ∀ x ∈ keep, x.2.2.2.pure = true)
    (hid : (keep.all fun x => x.1 == 1000 || (x.2.1 == x.1 && x.2.2.1 == 0)) = true) {e : Exit} (he : e = .ret ∨ e = .normal) : Ends P fn v objs' e st := by
  have hnd := nodupB_spec hn
  have hk1 : (keep.map (·.1)).Nodup := by
    have := List.Sublist.nodup ((List.filter_sublist (p := fun x => x.2.isSome) (l := objs')).map (·.1)) hnd
    rw [hout] at this
    simpa [Function.comp_def] using this
  refine ⟨he, v0, keep.map fun x => (x.1, x.2.1, x.2.2.1), hres, ?_, fun n => ?_, fun x hx => ?_, ?_, ?_, fun x hx => ?_⟩
  · simpa [Function.comp_def] using hren
  · rw [← updW_live hnd, hout]
    have e1 : (keep.map fun x => (x.1, x.2.1, x.2.2.1)).lookup n = (keep.lookup n).map fun y => (y.1, y.2.1) := mem_lookup_map (f := fun y : Nat × Nat × AObj => (y.1, y.2.1)) (l := keep) (n := n)
    have e2 : (keep.map fun x => (x.1, (some (0, x.2.2.2) : Option (Nat × AObj)))).lookup n = (keep.lookup n).map fun y => (some (0, y.2.2) : Option (Nat × AObj)) := mem_lookup_map (f := fun y : Nat × Nat × AObj => (some (0, y.2.2) : Option (Nat × AObj))) (l := keep) (n := n)
    simp only [updW, e1, e2]
    cases hl : keep.lookup n with
    | none => rfl
    | some y =>
      have := hobj _ (lookup_mem hl)
      simp only [Option.map_some]
      simp only at this
      rw [this]; rfl
  · obtain ⟨y, hy, rfl⟩ := List.mem_map.1 hx
    exact ⟨y.2.2.2, hobj y hy, hp y hy⟩
  · have := nodupB_spec hn2
    simpa [Function.comp_def] using this
  · simpa [Function.comp_def] using hk1
  · obtain ⟨y, hy, rfl⟩ := List.mem_map.1 hx
    have := (List.all_eq_true.1 hid) y hy
    simpa using this
/-- Nothing of the caller's is handed back but a value. -/
theorem ends_pure (hres : ResOk P fn st v0) (hv : v0 = v) (hp : v.pure = true) (hout : (objs'.filter fun x => x.2.isSome) = []) (hn : nodupB (objs'.map (·.1)) = true) {e : Exit} (he : e = .ret ∨ e = .normal) : Ends P fn v objs' e st :=
  ends (v0 := v0) [] hres (hv ▸ .one (.pure _ (hv ▸ hp))) (fun x h => by cases h) hout hn rfl (fun x h => by cases h) rfl he
/-- A row is handed back. -/
theorem ends_own {a n k len len' : Nat} {o o' : AObj} (hr : fn.results = #[.tmp a]) (ha : st.get a = .own n k len) (hobj : st.obj n = some (k, o)) (hout : (objs'.filter fun x => x.2.isSome) = [(1000, some (0, o'))]) (hl : len = len') (ho : o = o') (hp : o'.pure = true)
    (hn : nodupB (objs'.map (·.1)) = true) {e : Exit} (he : e = .ret ∨ e = .normal) : Ends P fn (.own 1000 0 len') objs' e st := by
  subst ho
  exact ends [(1000, n, k, o)] (res_one hr ha) (.one (.own _ _ _ _ _ _ hl List.mem_cons_self)) (fun x h => by simp at h; subst h; exact hobj) hout hn rfl (fun x h => by simp at h; subst h; exact hp) rfl he
/-- A row and a value are handed back. -/
theorem ends_own2 {a b n k len len' : Nat} {o o' : AObj} {x x' : AVal} (hr : fn.results = #[.tmp a, .tmp b]) (ha : st.get a = .own n k len) (hb : st.get b = x) (hobj : st.obj n = some (k, o)) (hout : (objs'.filter fun x => x.2.isSome) = [(1000, some (0, o'))]) (hl : len = len') (ho : o = o') (hx : x = x') (hp : o'.pure = true) (hpx : x'.pure = true)
    (hn : nodupB (objs'.map (·.1)) = true) {e : Exit} (he : e = .ret ∨ e = .normal) : Ends P fn (.tuple [.own 1000 0 len', x']) objs' e st := by
  subst ho; subst hx
  exact ends [(1000, n, k, o)] (res_two hr ha hb) (.tuple (.cons (.own _ _ _ _ _ _ hl List.mem_cons_self) (.cons (.pure _ hpx) .nil))) (fun x h => by simp at h; subst h; exact hobj) hout hn rfl (fun x h => by simp at h; subst h; exact hp) rfl he
/-- Parts of a literal. -/
inductive PartsAre (st : St) : List (Nat × Operand) → Nat → List AVal → Prop where
  | nil (i : Nat) : PartsAre st [] i []
  | cons {x : Operand} {v : AVal} {ps : List (Nat × Operand)} {i : Nat} {vs : List AVal} (h : st.aop x = v) (t : PartsAre st ps (i + 1) vs) : PartsAre st ((i, x) :: ps) i (v :: vs)
theorem PartsAre.spec : ∀ {ps : List (Nat × Operand)} {i : Nat} {vs : List AVal}, PartsAre st ps i vs → ps.map (·.1) = List.range' i ps.length ∧ ps.map (fun x => st.aop x.2) = vs := by
  intro ps i vs h
  induction h with
  | nil => exact ⟨rfl, rfl⟩
  | cons h _ ih => exact ⟨by simp [ih.1, List.range'_succ], by simp [ih.2, h]⟩
variable {k : Nat} {o : Oper}
theorem opok_lit {t e : TypeId} {len : Nat} {parts : Array (Nat × Operand)} (d : Nat) {z : Value} {sz bytes : Nat} {es : List AVal} (ho : o.op = .buildSlice t len parts) (ht : P.underlying t = some (.slice e)) (hi : (P.info? e).map (fun i => (i.zero, i.size, i.bytes)) = some (some z, sz, bytes))
    (hsz : Nat.ble 1 sz = true) (h0 : Nat.ble 1 len = true) (hlen : Nat.ble (len * sz) 16777216 = true) (hpl : parts.toList.length = len) (hp : PartsAre st parts.toList 0 es) (hk : es.all AVal.known = true) (hw : widths sz es = true) : OpOk P k st o ⟨.own d k len, [(d, some (k, .row e sz es))], [d], [d]⟩ := by
  obtain ⟨h1, h2⟩ := hp.spec
  exact opok_buildSlice d ho ht hi (Nat.le_of_ble_eq_true hsz) (Nat.le_of_ble_eq_true h0) (Nat.le_of_ble_eq_true hlen) (by rw [h1, hpl, List.range_eq_range']) h2 hk hw
theorem opok_app {t e : TypeId} {s x : Operand} (d : Nat) {sv xv : AVal} {z : Value} {sz bytes : Nat} {kl tl : List Nat} {es1 es2 es : List AVal} (ho : o.op = .call { callee := .builtin .append, args := #[s, x], argTypes := #[t, t] })
    (hs : st.aop s = sv) (hx : st.aop x = xv) (ht : P.underlying t = some (.slice e)) (hi : (P.info? e).map (fun i => (i.zero, i.size, i.bytes)) = some (some z, sz, bytes)) (hz : Nat.beq z.cells.size sz = true) (hsz : Nat.ble 1 sz = true) (hby : Nat.ble bytes 140 = true)
    (hb : BaseIs st e sz sv kl es1) (hsrc : SrcIs st xv tl es2) (hw : widths sz es2 = true) (h1 : (es2.flatMap AVal.flat).all AVal.one = true) (hN : es1.length + es2.length ≤ 1000000000000) (hes : es1 ++ es2 = es) :
    OpOk P k st o ⟨.own d k es.length, (d, some (k, .row e sz es)) :: kl.map (fun n => (n, none)), d :: (kl ++ tl), [d]⟩ :=
  opok_append d ho hs hx ht hi (Nat.eq_of_beq_eq_true hz) (Nat.le_of_ble_eq_true hsz) (Nat.le_of_ble_eq_true hby) hb hsrc hw h1 hN hes
/-- A variable of the call's own, in a box. -/
theorem aop_tmp {env : List (Nat × AVal)} {objs : Writes} (t : Nat) : (⟨env, objs⟩ : St).aop (.tmp t) = (⟨env, objs⟩ : St).get t := rfl
end
end Go.Proofs.Ytojapodjlpffdaa
