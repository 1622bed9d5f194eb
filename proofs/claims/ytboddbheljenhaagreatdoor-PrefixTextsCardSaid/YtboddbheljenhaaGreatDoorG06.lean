/-
  Texts cut at a byte and joined again; decimal numerals. No program is named here, and no model is run.
-/
import Derived.Test.YtboddbheljenhaaGreatDoorG02
import Derived.Lib.SplitLaws
import Derived.Lib.Join
import Derived.Lib.AtoiAllCases
import Derived.Lib.AtoiTie
import Derived.Lib.ItoaLen
import Derived.Lib.ItoaMem
import Derived.Lib.IndexBytes
import Derived.Test.YtboddbheljenhaaGreatDoorG05
import Derived.Test.YtboddbheljenhaaGreatDoorShelf
import Derived.Lib.AppendIntMem
namespace Go.Proofs.YtboddbheljenhaaGreatDoor
open Go.RowKit
def splitC (c : UInt8) : List UInt8 → List (List UInt8)
  | [] => [[]]
  | x :: r => if x = c then [] :: splitC c r else match splitC c r with
    | w :: ws => (x :: w) :: ws
    | [] => [[x]]
theorem splitC_ne (c : UInt8) : ∀ l, splitC c l ≠ []
  | [] => by simp [splitC]
  | x :: r => by
    unfold splitC
    split
    · simp
    · split <;> simp
theorem splitC_none {c : UInt8} : ∀ {l : List UInt8}, c ∉ l → splitC c l = [l]
  | [], _ => rfl
  | x :: r, h => by
    have h1 : x ≠ c := fun e => h (by rw [e]; exact List.mem_cons_self)
    have h2 := splitC_none (c := c) (l := r) fun hm => h (List.mem_cons_of_mem _ hm)
    unfold splitC
    rw [if_neg h1, h2]
theorem splitC_cut {c : UInt8} : ∀ {a : List UInt8} (b : List UInt8), c ∉ a → splitC c (a ++ c :: b) = a :: splitC c b
  | [], b, _ => by
    rw [List.nil_append]
    conv => lhs; unfold splitC
    rw [if_pos rfl]
  | x :: r, b, h => by
    have h1 : x ≠ c := fun e => h (by rw [e]; exact List.mem_cons_self)
    have h2 := splitC_cut (c := c) (a := r) b fun hm => h (List.mem_cons_of_mem _ hm)
    rw [List.cons_append]
    conv => lhs; unfold splitC
    rw [if_neg h1, h2]
theorem splitK_one (c : UInt8) : ∀ (n : Nat) (l : List UInt8), l.length ≤ n → Lib.splitK [c] 0 (Lib.count l [c]) l = splitC c l
  | n, l, hl => by
    have hb := Lib.indexByte_ge l c
    rw [← Lib.index_one] at hb
    by_cases h : Lib.index l [c] = -1
    · rw [Lib.count_miss h]
      have hn : c ∉ l := fun hm => by
        obtain ⟨k, hk⟩ := List.mem_iff_getElem?.1 hm
        exact Lib.indexByte_none (by rw [← Lib.index_one]; exact h) k hk
      rw [splitC_none hn]; rfl
    · obtain ⟨i, hi⟩ : ∃ i : Nat, Lib.index l [c] = i := ⟨(Lib.index l [c]).toNat, by omega⟩
      obtain ⟨h1, h2⟩ := Lib.indexByte_some (l := l) (c := c) (o := i) (by rw [← Lib.index_one]; exact hi)
      have hlt : i < l.length := (List.getElem?_eq_some_iff.1 h1).1
      have hc : l[i] = c := (List.getElem?_eq_some_iff.1 h1).2
      have hl2 : l = l.take i ++ c :: l.drop (i + 1) := by
        conv => lhs; rw [← List.take_append_drop i l, List.drop_eq_getElem_cons hlt, hc]
      have hno : c ∉ l.take i := fun hm => by
        obtain ⟨k, hk⟩ := List.mem_iff_getElem?.1 hm
        rw [List.getElem?_take] at hk
        split at hk
        · rename_i hki; exact h2 k hki hk
        · cases hk
      rw [Lib.count_hit (by simp) hi, Nat.add_comm]
      unfold Lib.splitK
      have hm : ¬ (Lib.index l [c] == -1) = true := fun e => h (beq_iff_eq.1 e)
      rw [if_neg hm, hi]
      simp only [Int.toNat_natCast, Nat.add_zero, List.length_cons, List.length_nil, Nat.zero_add]
      match n, hl with
      | 0, hl => omega
      | n + 1, hl =>
        rw [splitK_one c n (l.drop (i + 1)) (by simp; omega)]
        conv => rhs; rw [hl2]
        rw [splitC_cut _ hno]
theorem split_one (c : UInt8) (l : List UInt8) : Lib.split l [c] = splitC c l := splitK_one c l.length l (Nat.le_refl _)
def joinC (c : UInt8) : List (List UInt8) → List UInt8
  | [] => []
  | [w] => w
  | w :: v :: ws => w ++ c :: joinC c (v :: ws)
theorem joinC_cons (c : UInt8) (w : List UInt8) {ws : List (List UInt8)} (h : ws ≠ []) : joinC c (w :: ws) = w ++ c :: joinC c ws := by
  cases ws with
  | nil => exact absurd rfl h
  | cons v ws => rfl
theorem join_one (c : UInt8) : ∀ ws : List (List UInt8), Lib.join ws [c] = joinC c ws
  | [] => rfl
  | [w] => Lib.join_one w [c]
  | w :: v :: ws => by
    rw [joinC, ← join_one c (v :: ws), Lib.join_cons, Lib.join_cons]
    simp [Lib.joinTail]
theorem joinC_split (c : UInt8) : ∀ l : List UInt8, joinC c (splitC c l) = l
  | [] => rfl
  | x :: r => by
    have ih := joinC_split c r
    have hne := splitC_ne c r
    unfold splitC
    split
    · rename_i h
      rw [joinC_cons c [] hne, ih, h, List.nil_append]
    · split
      · rename_i w ws e
        rw [e] at ih
        cases ws with
        | nil => simp only [joinC] at ih ⊢; rw [ih]
        | cons v ws => simp only [joinC] at ih ⊢; rw [List.cons_append, ih]
      · rename_i e; exact absurd e hne
theorem splitC_join (c : UInt8) : ∀ {ws : List (List UInt8)}, ws ≠ [] → (∀ w ∈ ws, c ∉ w) → splitC c (joinC c ws) = ws
  | [], h, _ => absurd rfl h
  | [w], _, h => splitC_none (h w List.mem_cons_self)
  | w :: v :: ws, _, h => by
    rw [joinC, splitC_cut _ (h w List.mem_cons_self), splitC_join c (by simp) fun x hx => h x (List.mem_cons_of_mem _ hx)]
theorem splitC_len (c : UInt8) : ∀ l : List UInt8, (splitC c l).length ≤ l.length + 1
  | [] => by simp [splitC]
  | x :: r => by
    have ih := splitC_len c r
    unfold splitC
    split
    · simpa using ih
    · split
      · rename_i w ws e; rw [e] at ih; simp at ih ⊢; omega
      · simp
theorem splitC_word (c : UInt8) : ∀ (l : List UInt8), ∀ w ∈ splitC c l, w.length ≤ l.length
  | [], w, h => by simp [splitC] at h; subst h; simp
  | x :: r, w, h => by
    have ih := splitC_word c r
    unfold splitC at h
    split at h
    · rcases List.mem_cons.1 h with rfl | h
      · simp
      · have := ih w h; simp; omega
    · split at h
      · rename_i v vs e
        rw [e] at ih
        rcases List.mem_cons.1 h with rfl | h
        · have := ih v List.mem_cons_self; simp; omega
        · have := ih w (List.mem_cons_of_mem _ h); simp; omega
      · simp only [List.mem_singleton] at h
        subst h; simp
/-! ### Decimal numerals -/
def isDig (x : UInt8) : Bool := decide (48 ≤ x.toNat) && decide (x.toNat ≤ 57)
theorem dig_toNat {d : Nat} (h : d < 10) : (UInt8.ofNat (48 + d)).toNat = 48 + d := by
  simp; omega
theorem isDig_dig {d : Nat} (h : d < 10) : isDig (UInt8.ofNat (48 + d)) = true := by
  simp only [isDig, dig_toNat h, Bool.and_eq_true, decide_eq_true_eq]
  omega
theorem decDigits_step {u : Nat} (h : ¬ u < 10) : Lib.decDigits u = Lib.decDigits (u / 10) ++ [UInt8.ofNat (48 + u % 10)] := by
  rw [Lib.decDigits, dif_neg h]
theorem decDigits_dig (u : Nat) : ∀ x ∈ Lib.decDigits u, isDig x = true := by
  induction u using Nat.strongRecOn with
  | ind u ih =>
    intro x hx
    by_cases h : u < 10
    · rw [Lib.decDigits_one h] at hx
      simp only [List.mem_singleton] at hx
      subst hx
      exact isDig_dig h
    · rw [decDigits_step h, List.mem_append] at hx
      rcases hx with hx | hx
      · exact ih (u / 10) (by omega) x hx
      · simp only [List.mem_singleton] at hx
        subst hx
        exact isDig_dig (by omega)
theorem decDigits_ne (u : Nat) : Lib.decDigits u ≠ [] := by
  by_cases h : u < 10
  · rw [Lib.decDigits_one h]; simp
  · rw [decDigits_step h]; simp
def numOf (acc : Nat) (l : List UInt8) : Nat := l.foldl (fun n x => n * 10 + (x.toNat - 48)) acc
theorem numOf_append (acc : Nat) (a b : List UInt8) : numOf acc (a ++ b) = numOf (numOf acc a) b := by simp [numOf]
theorem numOf_cons (acc : Nat) (x : UInt8) (l : List UInt8) : numOf acc (x :: l) = numOf (acc * 10 + (x.toNat - 48)) l := by unfold numOf; rw [List.foldl_cons]
theorem numOf_ge (l : List UInt8) : ∀ acc, acc ≤ numOf acc l := by
  induction l with
  | nil => intro acc; exact Nat.le_refl _
  | cons x l ih => intro acc; rw [numOf_cons]; have := ih (acc * 10 + (x.toNat - 48)); omega
theorem parse_digits : ∀ (l : List UInt8) (acc : Nat), (∀ x ∈ l, isDig x = true) → numOf acc l < 18446744073709551616 → Lib.parseUint10 acc l = .ok (numOf acc l)
  | [], acc, _, _ => rfl
  | x :: l, acc, hd, hlt => by
    have h1 := hd x List.mem_cons_self
    simp only [isDig, Bool.and_eq_true, decide_eq_true_eq] at h1
    rw [numOf_cons] at hlt
    have hge := numOf_ge l (acc * 10 + (x.toNat - 48))
    unfold Lib.parseUint10
    rw [if_pos ⟨h1.1, h1.2⟩, if_neg (by omega), if_neg (by omega), parse_digits l _ (fun y hy => hd y (List.mem_cons_of_mem _ hy)) hlt]
    rfl
theorem itoa_ne (n : Int) : Lib.itoa n ≠ [] := by
  unfold Lib.itoa
  split
  · simp
  · exact decDigits_ne _
end Go.Proofs.YtboddbheljenhaaGreatDoor
namespace Go.Proofs.YtboddbheljenhaaGreatDoor
open Go.RowKit Go.Sort
theorem vars_pow10 {prot : Nat → Prop} {w : World} (h : VarsOk prot w) : Lib.TabIs Tryz.prog w "internal/strconv.uint64pow10" .u64 Lib.pow10Tab := by
  obtain ⟨-, cs, t, fr, h2, h3⟩ := h (1, fun cs => cs = (Lib.pow10Tab.map fun z => Value.int .u64 z).toArray) (by simp [varWants])
  have hg : Tryz.prog.globalNamed "internal/strconv.uint64pow10" = some 1 := by kernel_rfl
  show (Tryz.prog.globalNamed _).bind _ = _
  rw [hg]
  simp only [Option.bind_some, h2]
  exact congrArg some h3
theorem vars_syntax {prot : Nat → Prop} {w : World} (h : VarsOk prot w) : ∃ tp p, w.var? Tryz.prog "strconv.ErrSyntax" = some #[.iface tp p] := by
  obtain ⟨-, cs, t, fr, h2, te, pe, h3⟩ := h (2, fun cs => ∃ te pe, cs = #[.iface te pe]) (by simp [varWants])
  have hg : Tryz.prog.globalNamed "strconv.ErrSyntax" = some 2 := by kernel_rfl
  refine ⟨te, pe, ?_⟩
  show (Tryz.prog.globalNamed _).bind _ = _
  rw [hg]
  simp only [Option.bind_some, h2, h3]
theorem vars_range {prot : Nat → Prop} {w : World} (h : VarsOk prot w) : ∃ tp p, w.var? Tryz.prog "strconv.ErrRange" = some #[.iface tp p] := by
  obtain ⟨-, cs, t, fr, h2, te, pe, h3⟩ := h (3, fun cs => ∃ te pe, cs = #[.iface te pe]) (by simp [varWants])
  have hg : Tryz.prog.globalNamed "strconv.ErrRange" = some 3 := by kernel_rfl
  refine ⟨te, pe, ?_⟩
  show (Tryz.prog.globalNamed _).bind _ = _
  rw [hg]
  simp only [Option.bind_some, h2, h3]
theorem vars_maxlen {prot : Nat → Prop} {w : World} (h : VarsOk prot w) : ∃ m, w.cell? ⟨0, 0, none⟩ = some (.int .i64 m) := by
  obtain ⟨-, cs, t, fr, h2, m, h3⟩ := h (0, fun cs => ∃ m, cs = #[.int .i64 m]) (by simp [varWants])
  exact ⟨m, by simp only [World.cell?, h2, h3]; rfl⟩
theorem itoa_spec (n : Int) (h0 : -9223372036854775808 ≤ n) (h1 : n ≤ 9223372036854775807) : Spec Tryz.prog 53 [.val (.int .i64 n)] [] (.val (bstr (Lib.itoa n))) [] :=
  spec_belowV (timeless_val _) fun ψ prot w cargs hV hk hsz hargs => by
    obtain rfl := one_arg hsz hargs
    refine (Tryz.strconv_Itoa n h0 h1 w (vars_pow10 hV)).mono ?_
    rintro e w' ⟨rfl, k, os, rfl⟩
    exact ⟨_, rfl, .val _, Lib.below_grow _ w (Nat.le_refl _) k os⟩
theorem vrel_two {ψ : Ghost} {prot : Nat → Prop} {w : World} {x y : AVal} {u v : Value} (h1 : VRel ψ prot w x u) (h2 : VRel ψ prot w y v) : VRel ψ prot w (.tuple [x, y]) (.tuple #[u, v]) :=
  .tuple _ _ rfl fun i z q e1 e2 => by
    match i, e1, e2 with
    | 0, e1, e2 => cases e1; cases e2; exact h1
    | 1, e1, e2 => cases e1; cases e2; exact h2
    | _ + 2, e1, e2 => cases e1
theorem timeless_two {x y : AVal} (h1 : Timeless x) (h2 : Timeless y) : Timeless (.tuple [x, y]) := timeless_tuple fun v hv => by
  simp only [List.mem_cons, List.not_mem_nil, or_false] at hv
  rcases hv with rfl | rfl
  · exact h1
  · exact h2
theorem two_args {ψ : Ghost} {prot : Nat → Prop} {w : World} {cargs : Array Value} {x : AVal} {u : Value} (hsz : cargs.size = [x, AVal.val u].length) (h : ∀ (i : Nat) (y : AVal) (v : Value), [x, AVal.val u][i]? = some y → cargs[i]? = some v → VRel ψ prot w y v) : ∃ v, cargs = #[v, u] ∧ VRel ψ prot w x v := by
  have hs : cargs.size = 2 := hsz
  have h0 := h 0 x cargs[0] rfl (by simp [hs])
  have h1 := (h 1 (.val u) cargs[1] rfl (by simp [hs])).val_eq
  refine ⟨cargs[0], ?_, h0⟩
  apply Array.ext
  · simpa using hs
  · intro i h2 h3
    have : i = 0 ∨ i = 1 := by simp at h3; omega
    rcases this with rfl | rfl
    · rfl
    · simpa using h1
theorem join_spec (ls : List (List UInt8)) (sep : List UInt8) (hN : ls.length ≤ 140737488355328) (hlen : (Lib.join ls sep).length ≤ 140737488355328) : Spec Tryz.prog 89 [.ro (strL ls), .val (bstr sep)] [] (.val (bstr (Lib.join ls sep))) [] :=
  spec_belowV (timeless_val _) fun ψ prot w cargs hV hk hsz hargs => by
    obtain ⟨v, rfl, hv⟩ := two_args hsz hargs
    rcases ro_strL hv hk with ⟨rfl, a, c, rfl⟩ | ⟨b, o, c, rfl, hb, hc, hcl⟩
    · refine (Tryz.strings_Join_none a c ⟨sep.toArray⟩ w).mono ?_
      rintro e w' ⟨rfl, rfl⟩
      exact ⟨_, rfl, .val _, Below.refl _ _⟩
    · have hm : (ls.map fun l => (⟨l.toArray⟩ : ByteArray)).map (·.data.toList) = ls := by
        rw [List.map_map]
        exact (List.map_congr_left (g := id) fun l _ => rfl).trans (List.map_id ls)
      have h := Tryz.strings_Join b o c (ls.map fun l => ⟨l.toArray⟩) ⟨sep.toArray⟩ w (fun j x hj => by
        rw [List.getElem?_map] at hj
        cases hx : ls[j]? with
        | none => rw [hx] at hj; cases hj
        | some y => rw [hx] at hj; cases hj; exact hcl j y hx) hb (by simpa using hN) (by simpa using hc) (by rw [hm]; exact hlen)
      rw [hm, List.length_map] at h
      refine h.mono ?_
      rintro e w' ⟨rfl, hw⟩
      exact ⟨_, rfl, .val _, hw⟩
theorem split_spec (l : List UInt8) (c : UInt8) (hl : l.length < 4294967281) : Spec Tryz.prog 97 [.val (bstr l), .val (bstr [c])] [] (.ro (strL (splitC c l))) [] :=
  spec_fresh fun ψ prot w cargs hV hk hsz hargs => by
    obtain ⟨v, rfl, hv⟩ := two_args hsz hargs
    obtain rfl := hv.val_eq
    obtain ⟨m, hm⟩ := vars_maxlen hV
    refine (Tryz.strings_Split ⟨l.toArray⟩ ⟨#[c]⟩ m w hl hm (Nat.le_refl 1)).mono ?_
    rintro e w' ⟨rfl, rfl⟩
    have hd := Lib.splitB_data ⟨#[c]⟩ 0 (Lib.countB ⟨l.toArray⟩ ⟨#[c]⟩) ⟨l.toArray⟩
    have hlen := Lib.splitB_all ⟨#[c]⟩ (Nat.le_refl 1) 0 _ ⟨l.toArray⟩ rfl
    have e1 : Lib.splitK [c] 0 (Lib.countB ⟨l.toArray⟩ ⟨#[c]⟩) l = splitC c l := split_one c l
    have hd2 : (Lib.splitB ⟨#[c]⟩ 0 (Lib.countB ⟨l.toArray⟩ ⟨#[c]⟩) ⟨l.toArray⟩).map (·.data.toList) = splitC c l := hd.trans e1
    have hn : (splitC c l).length = Lib.countB ⟨l.toArray⟩ ⟨#[c]⟩ + 1 := by rw [← hd2, List.length_map, hlen]
    refine ⟨_, rfl, ?_, Below.alloc (Below.refl _ _) (Nat.le_refl _) _⟩
    have hh : (w.alloc (.cells ((Lib.splitB ⟨#[c]⟩ 0 (Lib.countB ⟨l.toArray⟩ ⟨#[c]⟩) ⟨l.toArray⟩).map Value.string).toArray 9)).heap[w.heap.size]? = some (.cells ((Lib.splitB ⟨#[c]⟩ 0 (Lib.countB ⟨l.toArray⟩ ⟨#[c]⟩) ⟨l.toArray⟩).map Value.string).toArray 9) := by
      show (w.heap.push _)[w.heap.size]? = _
      simp
    have hsz2 : (w.alloc (.cells ((Lib.splitB ⟨#[c]⟩ 0 (Lib.countB ⟨l.toArray⟩ ⟨#[c]⟩) ⟨l.toArray⟩).map Value.string).toArray 9)).heap.size = w.heap.size + 1 := by
      show (w.heap.push _).size = _
      simp
    rw [← hn]
    exact vrel_new_strL (.inr ⟨Nat.le_refl _, by rw [hsz2]; exact Nat.lt_succ_self _⟩) hh (by
      rw [← hd2, List.map_map]
      congr 1) (Nat.le_refl _)
end Go.Proofs.YtboddbheljenhaaGreatDoor
