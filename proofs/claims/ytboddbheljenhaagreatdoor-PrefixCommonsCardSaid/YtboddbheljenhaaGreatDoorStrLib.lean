/-
  strconv.Itoa, strconv.Atoi, strings.Join, strings.Split, as contracts on values.
-/
import Derived.Test.YtboddbheljenhaaGreatDoorStr2
import Derived.Test.YtboddbheljenhaaGreatDoorG15
import Derived.Test.YtboddbheljenhaaGreatDoorShelf
import Derived.Lib.AppendIntMem
namespace Go.Proofs.YtboddbheljenhaaGreatDoor
open Go.RowKit Go.Sort
theorem vars_pow10 {prot : Nat → Prop} {w : World} (h : VarsOk prot w) : Lib.TabIs Tryz.prog w "internal/strconv.uint64pow10" .u64 Lib.pow10Tab := by
  obtain ⟨-, cs, t, fr, h2, h3⟩ := h (1, fun cs => cs = (Lib.pow10Tab.map fun z => Value.int .u64 z).toArray) (by simp [varWants])
  have hg : Tryz.prog.globalNamed "internal/strconv.uint64pow10" = some 1 := by kernel_rfl
  show (Tryz.prog.globalNamed _).bind _ = _
  rw [hg]
  simp only [Option.bind_some, h2]
  exact congrArg some h3
theorem vars_syntax {prot : Nat → Prop} {w : World} (h : VarsOk prot w) : ∃ tp p, w.var? Tryz.prog "strconv.ErrSyntax" = some #[.iface tp p] := by
  obtain ⟨-, cs, t, fr, h2, te, pe, h3⟩ := h (2, fun cs => ∃ te pe, cs = #[.iface te pe]) (by simp [varWants])
  have hg : Tryz.prog.globalNamed "strconv.ErrSyntax" = some 2 := by kernel_rfl
  refine ⟨te, pe, ?_⟩
  show (Tryz.prog.globalNamed _).bind _ = _
  rw [hg]
  simp only [Option.bind_some, h2, h3]
theorem vars_range {prot : Nat → Prop} {w : World} (h : VarsOk prot w) : ∃ tp p, w.var? Tryz.prog "strconv.ErrRange" = some #[.iface tp p] := by
  obtain ⟨-, cs, t, fr, h2, te, pe, h3⟩ := h (3, fun cs => ∃ te pe, cs = #[.iface te pe]) (by simp [varWants])
  have hg : Tryz.prog.globalNamed "strconv.ErrRange" = some 3 := by kernel_rfl
  refine ⟨te, pe, ?_⟩
  show (Tryz.prog.globalNamed _).bind _ = _
  rw [hg]
  simp only [Option.bind_some, h2, h3]
theorem vars_maxlen {prot : Nat → Prop} {w : World} (h : VarsOk prot w) : ∃ m, w.cell? ⟨0, 0, none⟩ = some (.int .i64 m) := by
  obtain ⟨-, cs, t, fr, h2, m, h3⟩ := h (0, fun cs => ∃ m, cs = #[.int .i64 m]) (by simp [varWants])
  exact ⟨m, by simp only [World.cell?, h2, h3]; rfl⟩
/-- strconv.Itoa. -/
theorem itoa_spec (n : Int) (h0 : -9223372036854775808 ≤ n) (h1 : n ≤ 9223372036854775807) : Spec Tryz.prog 53 [.val (.int .i64 n)] [] (.val (bstr (Lib.itoa n))) [] :=
  spec_belowV (timeless_val _) fun ψ prot w cargs hV hk hsz hargs => by
    obtain rfl := one_arg hsz hargs
    refine (Tryz.strconv_Itoa n h0 h1 w (vars_pow10 hV)).mono ?_
    rintro e w' ⟨rfl, k, os, rfl⟩
    exact ⟨_, rfl, .val _, Lib.below_grow _ w (Nat.le_refl _) k os⟩
theorem vrel_two {ψ : Ghost} {prot : Nat → Prop} {w : World} {x y : AVal} {u v : Value} (h1 : VRel ψ prot w x u) (h2 : VRel ψ prot w y v) : VRel ψ prot w (.tuple [x, y]) (.tuple #[u, v]) :=
  .tuple _ _ rfl fun i z q e1 e2 => by
    match i, e1, e2 with
    | 0, e1, e2 => cases e1; cases e2; exact h1
    | 1, e1, e2 => cases e1; cases e2; exact h2
    | _ + 2, e1, e2 => cases e1
theorem timeless_two {x y : AVal} (h1 : Timeless x) (h2 : Timeless y) : Timeless (.tuple [x, y]) := timeless_tuple fun v hv => by
  simp only [List.mem_cons, List.not_mem_nil, or_false] at hv
  rcases hv with rfl | rfl
  · exact h1
  · exact h2
theorem two_args {ψ : Ghost} {prot : Nat → Prop} {w : World} {cargs : Array Value} {x : AVal} {u : Value} (hsz : cargs.size = [x, AVal.val u].length) (h : ∀ (i : Nat) (y : AVal) (v : Value), [x, AVal.val u][i]? = some y → cargs[i]? = some v → VRel ψ prot w y v) : ∃ v, cargs = #[v, u] ∧ VRel ψ prot w x v := by
  have hs : cargs.size = 2 := hsz
  have h0 := h 0 x cargs[0] rfl (by simp [hs])
  have h1 := (h 1 (.val u) cargs[1] rfl (by simp [hs])).val_eq
  refine ⟨cargs[0], ?_, h0⟩
  apply Array.ext
  · simpa using hs
  · intro i h2 h3
    have : i = 0 ∨ i = 1 := by simp at h3; omega
    rcases this with rfl | rfl
    · rfl
    · simpa using h1
/-- strings.Join. -/
theorem join_spec (ls : List (List UInt8)) (sep : List UInt8) (hN : ls.length ≤ 140737488355328) (hlen : (Lib.join ls sep).length ≤ 140737488355328) : Spec Tryz.prog 89 [.ro (strL ls), .val (bstr sep)] [] (.val (bstr (Lib.join ls sep))) [] :=
  spec_belowV (timeless_val _) fun ψ prot w cargs hV hk hsz hargs => by
    obtain ⟨v, rfl, hv⟩ := two_args hsz hargs
    rcases ro_strL hv hk with ⟨rfl, a, c, rfl⟩ | ⟨b, o, c, rfl, hb, hc, hcl⟩
    · refine (Tryz.strings_Join_none a c ⟨sep.toArray⟩ w).mono ?_
      rintro e w' ⟨rfl, rfl⟩
      exact ⟨_, rfl, .val _, Below.refl _ _⟩
    · have hm : (ls.map fun l => (⟨l.toArray⟩ : ByteArray)).map (·.data.toList) = ls := by
        rw [List.map_map]
        exact (List.map_congr_left (g := id) fun l _ => rfl).trans (List.map_id ls)
      have h := Tryz.strings_Join b o c (ls.map fun l => ⟨l.toArray⟩) ⟨sep.toArray⟩ w (fun j x hj => by
        rw [List.getElem?_map] at hj
        cases hx : ls[j]? with
        | none => rw [hx] at hj; cases hj
        | some y => rw [hx] at hj; cases hj; exact hcl j y hx) hb (by simpa using hN) (by simpa using hc) (by rw [hm]; exact hlen)
      rw [hm, List.length_map] at h
      refine h.mono ?_
      rintro e w' ⟨rfl, hw⟩
      exact ⟨_, rfl, .val _, hw⟩
/-- strings.Split at one byte. -/
theorem split_spec (l : List UInt8) (c : UInt8) (hl : l.length < 4294967281) : Spec Tryz.prog 97 [.val (bstr l), .val (bstr [c])] [] (.ro (strL (splitC c l))) [] :=
  spec_fresh fun ψ prot w cargs hV hk hsz hargs => by
    obtain ⟨v, rfl, hv⟩ := two_args hsz hargs
    obtain rfl := hv.val_eq
    obtain ⟨m, hm⟩ := vars_maxlen hV
    refine (Tryz.strings_Split ⟨l.toArray⟩ ⟨#[c]⟩ m w hl hm (Nat.le_refl 1)).mono ?_
    rintro e w' ⟨rfl, rfl⟩
    have hd := Lib.splitB_data ⟨#[c]⟩ 0 (Lib.countB ⟨l.toArray⟩ ⟨#[c]⟩) ⟨l.toArray⟩
    have hlen := Lib.splitB_all ⟨#[c]⟩ (Nat.le_refl 1) 0 _ ⟨l.toArray⟩ rfl
    have e1 : Lib.splitK [c] 0 (Lib.countB ⟨l.toArray⟩ ⟨#[c]⟩) l = splitC c l := split_one c l
    have hd2 : (Lib.splitB ⟨#[c]⟩ 0 (Lib.countB ⟨l.toArray⟩ ⟨#[c]⟩) ⟨l.toArray⟩).map (·.data.toList) = splitC c l := hd.trans e1
    have hn : (splitC c l).length = Lib.countB ⟨l.toArray⟩ ⟨#[c]⟩ + 1 := by rw [← hd2, List.length_map, hlen]
    refine ⟨_, rfl, ?_, Below.alloc (Below.refl _ _) (Nat.le_refl _) _⟩
    have hh : (w.alloc (.cells ((Lib.splitB ⟨#[c]⟩ 0 (Lib.countB ⟨l.toArray⟩ ⟨#[c]⟩) ⟨l.toArray⟩).map Value.string).toArray 9)).heap[w.heap.size]? = some (.cells ((Lib.splitB ⟨#[c]⟩ 0 (Lib.countB ⟨l.toArray⟩ ⟨#[c]⟩) ⟨l.toArray⟩).map Value.string).toArray 9) := by
      show (w.heap.push _)[w.heap.size]? = _
      simp
    have hsz2 : (w.alloc (.cells ((Lib.splitB ⟨#[c]⟩ 0 (Lib.countB ⟨l.toArray⟩ ⟨#[c]⟩) ⟨l.toArray⟩).map Value.string).toArray 9)).heap.size = w.heap.size + 1 := by
      show (w.heap.push _).size = _
      simp
    rw [← hn]
    exact vrel_new_strL (.inr ⟨Nat.le_refl _, by rw [hsz2]; exact Nat.lt_succ_self _⟩) hh (by
      rw [← hd2, List.map_map]
      congr 1) (Nat.le_refl _)
end Go.Proofs.YtboddbheljenhaaGreatDoor
