/-
  strconv.Itoa, strconv.Atoi, strings.Join, strings.Split, as contracts on values.
-/
import Derived.Test.YtmbmodeiikhnkaaDoorStr2
import Derived.Test.YtmbmodeiikhnkaaDoorTxt
import Derived.Test.YtmbmodeiikhnkaaDoorShelf
import Derived.Lib.AppendIntMem
import Derived.Test.YtmbmodeiikhnkaaDoorShelfSeven7
namespace Go.Proofs.YtmbmodeiikhnkaaDoor
open Go.RowKit Go.Sort
theorem vars_pow10 {prot : Nat → Prop} {w : World} (h : VarsOk prot w) : Lib.TabIs Tryd.prog w "internal/strconv.uint64pow10" .u64 Lib.pow10Tab := by
  obtain ⟨-, cs, t, fr, h2, h3⟩ := h (6, fun cs => cs = (Lib.pow10Tab.map fun z => Value.int .u64 z).toArray) (by simp [varWants])
  have hg : Tryd.prog.globalNamed "internal/strconv.uint64pow10" = some 6 := by kernel_rfl
  show (Tryd.prog.globalNamed _).bind _ = _
  rw [hg]
  simp only [Option.bind_some, h2]
  exact congrArg some h3
theorem vars_syntax {prot : Nat → Prop} {w : World} (h : VarsOk prot w) : ∃ tp p, w.var? Tryd.prog "strconv.ErrSyntax" = some #[.iface tp p] := by
  obtain ⟨-, cs, t, fr, h2, te, pe, h3⟩ := h (4, fun cs => ∃ te pe, cs = #[.iface te pe]) (by simp [varWants])
  have hg : Tryd.prog.globalNamed "strconv.ErrSyntax" = some 4 := by kernel_rfl
  refine ⟨te, pe, ?_⟩
  show (Tryd.prog.globalNamed _).bind _ = _
  rw [hg]
  simp only [Option.bind_some, h2, h3]
theorem vars_range {prot : Nat → Prop} {w : World} (h : VarsOk prot w) : ∃ tp p, w.var? Tryd.prog "strconv.ErrRange" = some #[.iface tp p] := by
  obtain ⟨-, cs, t, fr, h2, te, pe, h3⟩ := h (5, fun cs => ∃ te pe, cs = #[.iface te pe]) (by simp [varWants])
  have hg : Tryd.prog.globalNamed "strconv.ErrRange" = some 5 := by kernel_rfl
  refine ⟨te, pe, ?_⟩
  show (Tryd.prog.globalNamed _).bind _ = _
  rw [hg]
  simp only [Option.bind_some, h2, h3]
theorem vars_maxlen {prot : Nat → Prop} {w : World} (h : VarsOk prot w) : ∃ m, w.cell? ⟨0, 0, none⟩ = some (.int .i64 m) := by
  obtain ⟨-, cs, t, fr, h2, m, h3⟩ := h (0, fun cs => ∃ m, cs = #[.int .i64 m]) (by simp [varWants])
  exact ⟨m, by simp only [World.cell?, h2, h3]; rfl⟩
/-- strconv.Itoa. -/
theorem itoa_spec (n : Int) (h0 : -9223372036854775808 ≤ n) (h1 : n ≤ 9223372036854775807) : Spec Tryd.prog 58 [.val (.int .i64 n)] [] (.val (bstr (Lib.itoa n))) [] :=
  spec_belowV (timeless_val _) fun ψ prot w cargs hV hk hsz hargs => by
    obtain rfl := one_arg hsz hargs
    refine (Tryd.strconv_Itoa n h0 h1 w (vars_pow10 hV)).mono ?_
    rintro e w' ⟨rfl, k, os, rfl⟩
    exact ⟨_, rfl, .val _, Lib.below_grow _ w (Nat.le_refl _) k os⟩
theorem vrel_two {ψ : Ghost} {prot : Nat → Prop} {w : World} {x y : AVal} {u v : Value} (h1 : VRel ψ prot w x u) (h2 : VRel ψ prot w y v) : VRel ψ prot w (.tuple [x, y]) (.tuple #[u, v]) :=
  .tuple _ _ rfl fun i z q e1 e2 => by
    match i, e1, e2 with
    | 0, e1, e2 => cases e1; cases e2; exact h1
    | 1, e1, e2 => cases e1; cases e2; exact h2
    | _ + 2, e1, e2 => cases e1
theorem timeless_two {x y : AVal} (h1 : Timeless x) (h2 : Timeless y) : Timeless (.tuple [x, y]) := timeless_tuple fun v hv => by
  simp only [List.mem_cons, List.not_mem_nil, or_false] at hv
  rcases hv with rfl | rfl
  · exact h1
  · exact h2
theorem two_args {ψ : Ghost} {prot : Nat → Prop} {w : World} {cargs : Array Value} {x : AVal} {u : Value} (hsz : cargs.size = [x, AVal.val u].length) (h : ∀ (i : Nat) (y : AVal) (v : Value), [x, AVal.val u][i]? = some y → cargs[i]? = some v → VRel ψ prot w y v) : ∃ v, cargs = #[v, u] ∧ VRel ψ prot w x v := by
  have hs : cargs.size = 2 := hsz
  have h0 := h 0 x cargs[0] rfl (by simp [hs])
  have h1 := (h 1 (.val u) cargs[1] rfl (by simp [hs])).val_eq
  refine ⟨cargs[0], ?_, h0⟩
  apply Array.ext
  · simpa using hs
  · intro i h2 h3
    have : i = 0 ∨ i = 1 := by simp at h3; omega
    rcases this with rfl | rfl
    · rfl
    · simpa using h1
/-- strings.Join. -/
theorem join_spec (ls : List (List UInt8)) (sep : List UInt8) (hN : ls.length ≤ 140737488355328) (hlen : (Lib.join ls sep).length ≤ 140737488355328) : Spec Tryd.prog 41 [.ro (strL ls), .val (bstr sep)] [] (.val (bstr (Lib.join ls sep))) [] :=
  spec_belowV (timeless_val _) fun ψ prot w cargs hV hk hsz hargs => by
    obtain ⟨v, rfl, hv⟩ := two_args hsz hargs
    rcases ro_strL hv hk with ⟨rfl, a, c, rfl⟩ | ⟨b, o, c, rfl, hb, hc, hcl⟩
    · refine (Tryd.strings_Join_none a c ⟨sep.toArray⟩ w).mono ?_
      rintro e w' ⟨rfl, rfl⟩
      exact ⟨_, rfl, .val _, Below.refl _ _⟩
    · have hm : (ls.map fun l => (⟨l.toArray⟩ : ByteArray)).map (·.data.toList) = ls := by
        rw [List.map_map]
        exact (List.map_congr_left (g := id) fun l _ => rfl).trans (List.map_id ls)
      have h := Tryd.strings_Join b o c (ls.map fun l => ⟨l.toArray⟩) ⟨sep.toArray⟩ w (fun j x hj => by
        rw [List.getElem?_map] at hj
        cases hx : ls[j]? with
        | none => rw [hx] at hj; cases hj
        | some y => rw [hx] at hj; cases hj; exact hcl j y hx) hb (by simpa using hN) (by simpa using hc) (by rw [hm]; exact hlen)
      rw [hm, List.length_map] at h
      refine h.mono ?_
      rintro e w' ⟨rfl, hw⟩
      exact ⟨_, rfl, .val _, hw⟩
/-- strings.Split at one byte. -/
theorem split_spec (l : List UInt8) (c : UInt8) (hl : l.length < 4294967281) : Spec Tryd.prog 29 [.val (bstr l), .val (bstr [c])] [] (.ro (strL (splitC c l))) [] :=
  spec_fresh fun ψ prot w cargs hV hk hsz hargs => by
    obtain ⟨v, rfl, hv⟩ := two_args hsz hargs
    obtain rfl := hv.val_eq
    obtain ⟨m, hm⟩ := vars_maxlen hV
    refine (Tryd.strings_Split ⟨l.toArray⟩ ⟨#[c]⟩ m w hl hm (Nat.le_refl 1)).mono ?_
    rintro e w' ⟨rfl, rfl⟩
    have hd := Lib.splitB_data ⟨#[c]⟩ 0 (Lib.countB ⟨l.toArray⟩ ⟨#[c]⟩) ⟨l.toArray⟩
    have hlen := Lib.splitB_all ⟨#[c]⟩ (Nat.le_refl 1) 0 _ ⟨l.toArray⟩ rfl
    have e1 : Lib.splitK [c] 0 (Lib.countB ⟨l.toArray⟩ ⟨#[c]⟩) l = splitC c l := split_one c l
    have hd2 : (Lib.splitB ⟨#[c]⟩ 0 (Lib.countB ⟨l.toArray⟩ ⟨#[c]⟩) ⟨l.toArray⟩).map (·.data.toList) = splitC c l := hd.trans e1
    have hn : (splitC c l).length = Lib.countB ⟨l.toArray⟩ ⟨#[c]⟩ + 1 := by rw [← hd2, List.length_map, hlen]
    refine ⟨_, rfl, ?_, Below.alloc (Below.refl _ _) (Nat.le_refl _) _⟩
    have hh : (w.alloc (.cells ((Lib.splitB ⟨#[c]⟩ 0 (Lib.countB ⟨l.toArray⟩ ⟨#[c]⟩) ⟨l.toArray⟩).map Value.string).toArray 9)).heap[w.heap.size]? = some (.cells ((Lib.splitB ⟨#[c]⟩ 0 (Lib.countB ⟨l.toArray⟩ ⟨#[c]⟩) ⟨l.toArray⟩).map Value.string).toArray 9) := by
      show (w.heap.push _)[w.heap.size]? = _
      simp
    have hsz2 : (w.alloc (.cells ((Lib.splitB ⟨#[c]⟩ 0 (Lib.countB ⟨l.toArray⟩ ⟨#[c]⟩) ⟨l.toArray⟩).map Value.string).toArray 9)).heap.size = w.heap.size + 1 := by
      show (w.heap.push _).size = _
      simp
    rw [← hn]
    exact vrel_new_strL (.inr ⟨Nat.le_refl _, by rw [hsz2]; exact Nat.lt_succ_self _⟩) hh (by
      rw [← hd2, List.map_map]
      congr 1) (Nat.le_refl _)
end Go.Proofs.YtmbmodeiikhnkaaDoor
namespace Go.Proofs.YtmbmodeiikhnkaaDoor
open Go.RowKit Go.Sort
theorem vars_bruijn {prot : Nat → Prop} {w : World} (h : VarsOk prot w) : w.cell? ⟨8, 15, none⟩ = some (.int .u8 4) := by
  obtain ⟨-, cs, t, fr, h2, h3⟩ := h (8, fun cs => cs[15]? = some (.int .u8 4)) (by simp [varWants])
  simp only [World.cell?, h2]
  exact h3
theorem tz64_16 : Spec Tryd.prog 109 [.val (.int .u64 16)] [] (.val (.int .i64 4)) [] :=
  spec_belowV (timeless_val _) fun ψ prot w cargs hV hk hsz hargs => by
    obtain rfl := one_arg hsz hargs
    refine (Any7.tz64_core (ρ := Tryd.lays7_27_ren) { Tryd.lays7_27 with } 16 4 15 w rfl (by decide +kernel) (by omega) (by omega) (vars_bruijn hV)).mono ?_
    rintro e w' ⟨rfl, rfl⟩
    exact ⟨_, rfl, .val _, Below.refl _ _⟩
set_option maxHeartbeats 4000000 in
set_option maxRecDepth 100000 in
theorem tz_16 : Spec Tryd.prog 107 [.val (.int .u64 16)] [] (.val (.int .i64 4)) [] := by
  have s := tz64_16
  refine spec_of_awp Tryd.func107 rfl (Nat.le_of_ble_eq_true rfl) fun ini => ?_
  simp only [Tryd.ntmps107]
  (repeat (first | refine awp_reg_seq rfl fun k => ?_ | refine awp_seq ?_ | refine awp_false rfl ?_ | refine awp_skip (?_ : Awp _ _ _ _ _ _) | (refine awp_ret ?_; (apply ends_pure ?_ ?_ ?_ ?_ ?_ (.inl rfl); rotate_left 1; (· first | exact res_one rfl rfl | exact res_two rfl rfl rfl | exact res_none rfl | exact res_three rfl rfl rfl rfl | exact res_cell rfl rfl rfl rfl rfl | exact res_cell2 rfl rfl rfl rfl rfl rfl | exact res3 rfl (rv_cell rfl rfl rfl rfl) (rv_tmp rfl) (rv_tmp rfl) | exact res3 rfl (rv_cell rfl rfl rfl rfl) (rv_cell rfl rfl rfl rfl) (rv_cell rfl rfl rfl rfl)); (· first | rfl | ((conv => (lhs; whnf)); first | rfl | (simp; done))); (· first | rfl | (simp; done) | (simp [AVal.pure, AVal.pures, AObj.pure]; done)); (· rfl); (· rfl))) | (apply runk_pure rfl rfl rfl ?_ ?_ ?_ ?_ ?_ ?_ ?_ ?_; rotate_left 6; (· (conv => (lhs; whnf))); (· exact Tryd.func109); (· rfl); (· rfl); (· exact (s)); (· (repeat (first | exact Rens.nil | (refine Rens.cons ?_ ?_; (· first | exact Ren.own _ _ _ _ _ _ rfl List.mem_cons_self | exact Ren.own _ _ _ _ _ _ rfl (List.mem_cons_of_mem _ List.mem_cons_self) | (refine (Ren.own _ _ _ _ _ _ ?_ List.mem_cons_self); first | rfl | (simp; done)) | (refine (Ren.own _ _ _ _ _ _ ?_ (List.mem_cons_of_mem _ List.mem_cons_self)); first | rfl | (simp; done)) | exact Ren.ptr _ _ _ _ _ List.mem_cons_self | (refine Ren.pureR ?_ rfl; (first | rfl | (simp; done) | (simp [AVal.pure, AVal.pures, AObj.pure]; done)))))))); (· first | rfl | (simp; done) | simp [AVal.pure, AVal.pures, AObj.pure])) | (apply runk0 rfl rfl (opok_move rfl ?_) ?_; rotate_left 1; (· (conv => (lhs; whnf)))) | (apply runk0 rfl rfl (opok_assign rfl ?_) ?_; rotate_left 1; (· (conv => (lhs; whnf)))) | refine runk_end (by kernel_rfl) ?_))
set_option maxHeartbeats 4000000 in
set_option maxRecDepth 100000 in
theorem pow2_16 : Spec Tryd.prog 106 [.val (.int .i64 16)] [] (.val (.bool true)) [] := by
  refine spec_of_awp Tryd.func106 rfl (Nat.le_of_ble_eq_true rfl) fun ini => ?_
  simp only [Tryd.ntmps106]
  (repeat (first | refine awp_reg_seq rfl fun k => ?_ | (refine awp_ret ?_; (apply ends_pure ?_ ?_ ?_ ?_ ?_ (.inl rfl); rotate_left 1; (· first | exact res_one rfl rfl | exact res_two rfl rfl rfl | exact res_none rfl | exact res_three rfl rfl rfl rfl | exact res_cell rfl rfl rfl rfl rfl | exact res_cell2 rfl rfl rfl rfl rfl rfl | exact res3 rfl (rv_cell rfl rfl rfl rfl) (rv_tmp rfl) (rv_tmp rfl) | exact res3 rfl (rv_cell rfl rfl rfl rfl) (rv_cell rfl rfl rfl rfl) (rv_cell rfl rfl rfl rfl)); (· first | rfl | ((conv => (lhs; whnf)); first | rfl | (simp; done))); (· first | rfl | (simp; done) | (simp [AVal.pure, AVal.pures, AObj.pure]; done)); (· rfl); (· rfl))) | (apply runk0 rfl rfl (opok_move rfl ?_) ?_; rotate_left 1; (· (conv => (lhs; whnf)))) | (apply runk0 rfl rfl (opok_assign rfl ?_) ?_; rotate_left 1; (· (conv => (lhs; whnf)))) | (apply runk0 rfl rfl (opok_bin rfl ?_ ?_ ?_) ?_; rotate_left 3; (· (conv => (lhs; whnf))); (· (conv => (lhs; whnf))); (· (intro w; go_simp; first | done | rfl))) | refine runk_end (by kernel_rfl) ?_))
end Go.Proofs.YtmbmodeiikhnkaaDoor
namespace Go.Proofs.YtmbmodeiikhnkaaDoor
open Go.RowKit Go.Sort
theorem vrel_three {ψ : Ghost} {prot : Nat → Prop} {w : World} {x y z : AVal} {u v t : Value} (h1 : VRel ψ prot w x u) (h2 : VRel ψ prot w y v) (h3 : VRel ψ prot w z t) : VRel ψ prot w (.tuple [x, y, z]) (.tuple #[u, v, t]) :=
  .tuple _ _ rfl fun i z q e1 e2 => by
    match i, e1, e2 with
    | 0, e1, e2 => cases e1; cases e2; exact h1
    | 1, e1, e2 => cases e1; cases e2; exact h2
    | 2, e1, e2 => cases e1; cases e2; exact h3
    | _ + 3, e1, e2 => cases e1
theorem timeless_three {x y z : AVal} (h1 : Timeless x) (h2 : Timeless y) (h3 : Timeless z) : Timeless (.tuple [x, y, z]) := timeless_tuple fun v hv => by
  simp only [List.mem_cons, List.not_mem_nil, or_false] at hv
  rcases hv with rfl | rfl | rfl
  · exact h1
  · exact h2
  · exact h3
theorem two_vals {ψ : Ghost} {prot : Nat → Prop} {w : World} {cargs : Array Value} {x u : Value} (hsz : cargs.size = [AVal.val x, AVal.val u].length) (h : ∀ (i : Nat) (y : AVal) (v : Value), [AVal.val x, AVal.val u][i]? = some y → cargs[i]? = some v → VRel ψ prot w y v) : cargs = #[x, u] := by
  obtain ⟨v, rfl, hv⟩ := two_args hsz h
  rw [hv.val_eq]
theorem three_vals {ψ : Ghost} {prot : Nat → Prop} {w : World} {cargs : Array Value} {x y z : Value} (hsz : cargs.size = [AVal.val x, AVal.val y, AVal.val z].length) (h : ∀ (i : Nat) (a : AVal) (v : Value), [AVal.val x, AVal.val y, AVal.val z][i]? = some a → cargs[i]? = some v → VRel ψ prot w a v) : cargs = #[x, y, z] := by
  have hs : cargs.size = 3 := hsz
  have h0 := (h 0 (.val x) cargs[0] rfl (by simp [hs])).val_eq
  have h1 := (h 1 (.val y) cargs[1] rfl (by simp [hs])).val_eq
  have h2 := (h 2 (.val z) cargs[2] rfl (by simp [hs])).val_eq
  apply Array.ext
  · simpa using hs
  · intro i q1 q2
    have : i = 0 ∨ i = 1 ∨ i = 2 := by simp at q2; omega
    rcases this with rfl | rfl | rfl
    · simpa using h0
    · simpa using h1
    · simpa using h2
/-- Whether a byte stands in a text. -/
def hasB (l : List UInt8) (c : UInt8) : Bool := decide (0 ≤ Lib.indexByte l c)
theorem contains_spec (l : List UInt8) (c : UInt8) : Spec Tryd.prog 28 [.val (bstr l), .val (bstr [c])] [] (.val (.bool (hasB l c))) [] :=
  spec_belowV (timeless_val _) fun ψ prot w cargs hV hk hsz hargs => by
    obtain rfl := two_vals hsz hargs
    refine (Tryd.strings_Contains_one ⟨l.toArray⟩ c w).mono ?_
    rintro e w' ⟨rfl, rfl⟩
    exact ⟨_, rfl, .val _, Below.refl _ _⟩
theorem cut_spec (l sep : List UInt8) (hl : l.length < 4294967281) : Spec Tryd.prog 56 [.val (bstr l), .val (bstr sep)] [] (.tuple [.val (bstr (Lib.cut l sep).1), .val (bstr (Lib.cut l sep).2.1), .val (.bool (Lib.cut l sep).2.2)]) [] :=
  spec_belowV (timeless_three (timeless_val _) (timeless_val _) (timeless_val _)) fun ψ prot w cargs hV hk hsz hargs => by
    obtain rfl := two_vals hsz hargs
    obtain ⟨m, hm⟩ := vars_maxlen hV
    refine (Tryd.strings_Cut ⟨l.toArray⟩ ⟨sep.toArray⟩ m w hl hm).mono ?_
    rintro e w' ⟨rfl, n, rfl⟩
    exact ⟨_, rfl, vrel_three (.val _) (.val _) (.val _), ⟨rfl, rfl, rfl, Nat.le_refl _, fun _ _ => rfl⟩⟩
/-- What strconv.ParseUint(l, 10, 8) answers. -/
def pu8V (l : List UInt8) (t : TypeId) : AVal := match Lib.parseUintB 8 l with
  | .ok v => .tuple [.val (.int .u64 v), .val .nilIface]
  | .syntax => .tuple [.val (.int .u64 0), .ifc t]
  | .range => .tuple [.val (.int .u64 255), .ifc t]
theorem pu8_spec (l : List UInt8) (hl : l.length ≤ 281474976710656) : Spec Tryd.prog 54 [.val (bstr l), .val (.int .i64 10), .val (.int .i64 8)] [] (pu8V l 127) [] := by
  have hsz : (⟨l.toArray⟩ : ByteArray).size = l.length := rfl
  unfold pu8V
  cases h : Lib.parseUintB 8 l with
  | ok v =>
    exact spec_belowV (timeless_two (timeless_val _) (timeless_val _)) fun ψ prot w cargs hV hk hs hargs => by
      obtain rfl := three_vals hs hargs
      refine (Tryd.strconv_ParseUint_10_at8_ok ⟨l.toArray⟩ (by rw [hsz]; omega) v h w).mono ?_
      rintro e w' ⟨rfl, hw⟩
      refine ⟨_, rfl, vrel_two (.val _) (.val _), ?_⟩
      rcases hw with rfl | rfl
      · exact Below.refl _ _
      · exact Lib.bytesWorld_below w _ _
  | «syntax» =>
    exact spec_belowV (timeless_two (timeless_val _) (timeless_ifc _)) fun ψ prot w cargs hV hk hs hargs => by
      obtain rfl := three_vals hs hargs
      obtain ⟨tp, p, hv⟩ := vars_syntax hV
      refine (Tryd.strconv_ParseUint_10_at8_syntax_var ⟨l.toArray⟩ (by rw [hsz]; exact hl) h tp p w hv).mono ?_
      rintro e w' ⟨N, rfl, -, -, hb⟩
      exact ⟨_, rfl, vrel_two (.val _) (.ifc _ _), hb⟩
  | range =>
    exact spec_belowV (timeless_two (timeless_val _) (timeless_ifc _)) fun ψ prot w cargs hV hk hs hargs => by
      obtain rfl := three_vals hs hargs
      obtain ⟨tp, p, hv⟩ := vars_range hV
      refine (Tryd.strconv_ParseUint_10_at8_range_var ⟨l.toArray⟩ (by rw [hsz]; exact hl) h tp p w hv).mono ?_
      rintro e w' ⟨N, rfl, -, -, hb⟩
      exact ⟨_, rfl, vrel_two (.val _) (.ifc _ _), hb⟩
theorem small_spec (i : Nat) (h : i < 100) : Spec Tryd.prog 91 [.val (.int .i64 i)] [] (.val (bstr (Lib.decDigits i))) [] :=
  spec_belowV (timeless_val _) fun ψ prot w cargs hV hk hsz hargs => by
    obtain rfl := one_arg hsz hargs
    refine (Tryd.internal_strconv_small i h w).mono ?_
    rintro e w' ⟨rfl, rfl⟩
    exact ⟨_, rfl, .val _, Below.refl _ _⟩
end Go.Proofs.YtmbmodeiikhnkaaDoor
