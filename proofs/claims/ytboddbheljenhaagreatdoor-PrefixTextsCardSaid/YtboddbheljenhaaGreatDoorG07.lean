/-
  math/bits.TrailingZeros of 16.
-/
import Derived.Test.YtboddbheljenhaaGreatDoorG06
import Derived.Test.YtboddbheljenhaaGreatDoorShelfSeven7
import Derived.Test.YtboddbheljenhaaGreatDoorG05
namespace Go.Proofs.YtboddbheljenhaaGreatDoor
open Go.RowKit Go.Sort
theorem vars_bruijn {prot : Nat → Prop} {w : World} (h : VarsOk prot w) : w.cell? ⟨5, 15, none⟩ = some (.int .u8 4) := by
  obtain ⟨-, cs, t, fr, h2, h3⟩ := h (5, fun cs => cs[15]? = some (.int .u8 4)) (by simp [varWants])
  simp only [World.cell?, h2]
  exact h3
theorem tz64_16 : Spec Tryz.prog 126 [.val (.int .u64 16)] [] (.val (.int .i64 4)) [] :=
  spec_belowV (timeless_val _) fun ψ prot w cargs hV hk hsz hargs => by
    obtain rfl := one_arg hsz hargs
    refine (Any7.tz64_core (ρ := Tryz.lays7_27_ren) { Tryz.lays7_27 with } 16 4 15 w rfl (by decide +kernel) (by omega) (by omega) (vars_bruijn hV)).mono ?_
    rintro e w' ⟨rfl, rfl⟩
    exact ⟨_, rfl, .val _, Below.refl _ _⟩
set_option maxHeartbeats 4000000 in
set_option maxRecDepth 100000 in
theorem tz_16 : Spec Tryz.prog 113 [.val (.int .u64 16)] [] (.val (.int .i64 4)) [] := by
  have s := tz64_16
  refine spec_of_awp Tryz.func113 rfl (Nat.le_of_ble_eq_true rfl) fun ini => ?_
  simp only [Tryz.ntmps113]
  (repeat (first | refine awp_reg_seq rfl fun k => ?_ | refine awp_seq ?_ | refine awp_false rfl ?_ | refine awp_skip (?_ : Awp _ _ _ _ _ _) | (refine awp_ret ?_; (apply ends_pure ?_ ?_ ?_ ?_ ?_ (.inl rfl); rotate_left 1; (· (exact res_one rfl rfl)); (· rfl); (· rfl); (· rfl); (· rfl))) | (apply runk_pure rfl rfl rfl ?_ ?_ ?_ ?_ ?_ ?_ ?_ ?_; rotate_left 6; (· (conv => (lhs; whnf))); (· exact Tryz.func126); (· rfl); (· rfl); (· exact (s)); (· (repeat (first | exact Rens.nil | (refine Rens.cons ?_ ?_; (· ((refine Ren.pureR ?_ rfl; (rfl)))))))); (· rfl)) | (apply runk0 rfl rfl (opok_move rfl ?_) ?_; rotate_left 1; (· (conv => (lhs; whnf)))) | (apply runk0 rfl rfl (opok_assign rfl ?_) ?_; rotate_left 1; (· (conv => (lhs; whnf)))) | refine runk_end (by kernel_rfl) ?_))
set_option maxHeartbeats 4000000 in
set_option maxRecDepth 100000 in
theorem pow2_16 : Spec Tryz.prog 112 [.val (.int .i64 16)] [] (.val (.bool true)) [] := by
  refine spec_of_awp Tryz.func112 rfl (Nat.le_of_ble_eq_true rfl) fun ini => ?_
  simp only [Tryz.ntmps112]
  (repeat (first | refine awp_reg_seq rfl fun k => ?_ | (refine awp_ret ?_; (apply ends_pure ?_ ?_ ?_ ?_ ?_ (.inl rfl); rotate_left 1; (· (exact res_one rfl rfl)); (· rfl); (· rfl); (· rfl); (· rfl))) | (apply runk0 rfl rfl (opok_move rfl ?_) ?_; rotate_left 1; (· (conv => (lhs; whnf)))) | (apply runk0 rfl rfl (opok_assign rfl ?_) ?_; rotate_left 1; (· (conv => (lhs; whnf)))) | (apply runk0 rfl rfl (opok_bin rfl ?_ ?_ ?_) ?_; rotate_left 3; (· (conv => (lhs; whnf))); (· (conv => (lhs; whnf))); (· (intro w; go_simp; rfl))) | refine runk_end (by kernel_rfl) ?_))
end Go.Proofs.YtboddbheljenhaaGreatDoor
namespace Go.Proofs.YtboddbheljenhaaGreatDoor
open Go.RowKit Go.Sort
theorem vrel_three {ψ : Ghost} {prot : Nat → Prop} {w : World} {x y z : AVal} {u v t : Value} (h1 : VRel ψ prot w x u) (h2 : VRel ψ prot w y v) (h3 : VRel ψ prot w z t) : VRel ψ prot w (.tuple [x, y, z]) (.tuple #[u, v, t]) :=
  .tuple _ _ rfl fun i z q e1 e2 => by
    match i, e1, e2 with
    | 0, e1, e2 => cases e1; cases e2; exact h1
    | 1, e1, e2 => cases e1; cases e2; exact h2
    | 2, e1, e2 => cases e1; cases e2; exact h3
    | _ + 3, e1, e2 => cases e1
theorem timeless_three {x y z : AVal} (h1 : Timeless x) (h2 : Timeless y) (h3 : Timeless z) : Timeless (.tuple [x, y, z]) := timeless_tuple fun v hv => by
  simp only [List.mem_cons, List.not_mem_nil, or_false] at hv
  rcases hv with rfl | rfl | rfl
  · exact h1
  · exact h2
  · exact h3
theorem two_vals {ψ : Ghost} {prot : Nat → Prop} {w : World} {cargs : Array Value} {x u : Value} (hsz : cargs.size = [AVal.val x, AVal.val u].length) (h : ∀ (i : Nat) (y : AVal) (v : Value), [AVal.val x, AVal.val u][i]? = some y → cargs[i]? = some v → VRel ψ prot w y v) : cargs = #[x, u] := by
  obtain ⟨v, rfl, hv⟩ := two_args hsz h
  rw [hv.val_eq]
theorem three_vals {ψ : Ghost} {prot : Nat → Prop} {w : World} {cargs : Array Value} {x y z : Value} (hsz : cargs.size = [AVal.val x, AVal.val y, AVal.val z].length) (h : ∀ (i : Nat) (a : AVal) (v : Value), [AVal.val x, AVal.val y, AVal.val z][i]? = some a → cargs[i]? = some v → VRel ψ prot w a v) : cargs = #[x, y, z] := by
  have hs : cargs.size = 3 := hsz
  have h0 := (h 0 (.val x) cargs[0] rfl (by simp [hs])).val_eq
  have h1 := (h 1 (.val y) cargs[1] rfl (by simp [hs])).val_eq
  have h2 := (h 2 (.val z) cargs[2] rfl (by simp [hs])).val_eq
  apply Array.ext
  · simpa using hs
  · intro i q1 q2
    have : i = 0 ∨ i = 1 ∨ i = 2 := by simp at q2; omega
    rcases this with rfl | rfl | rfl
    · simpa using h0
    · simpa using h1
    · simpa using h2
def hasB (l : List UInt8) (c : UInt8) : Bool := decide (0 ≤ Lib.indexByte l c)
theorem contains_spec (l : List UInt8) (c : UInt8) : Spec Tryz.prog 75 [.val (bstr l), .val (bstr [c])] [] (.val (.bool (hasB l c))) [] :=
  spec_belowV (timeless_val _) fun ψ prot w cargs hV hk hsz hargs => by
    obtain rfl := two_vals hsz hargs
    refine (Tryz.strings_Contains_one ⟨l.toArray⟩ c w).mono ?_
    rintro e w' ⟨rfl, rfl⟩
    exact ⟨_, rfl, .val _, Below.refl _ _⟩
theorem cut_spec (l sep : List UInt8) (hl : l.length < 4294967281) : Spec Tryz.prog 57 [.val (bstr l), .val (bstr sep)] [] (.tuple [.val (bstr (Lib.cut l sep).1), .val (bstr (Lib.cut l sep).2.1), .val (.bool (Lib.cut l sep).2.2)]) [] :=
  spec_belowV (timeless_three (timeless_val _) (timeless_val _) (timeless_val _)) fun ψ prot w cargs hV hk hsz hargs => by
    obtain rfl := two_vals hsz hargs
    obtain ⟨m, hm⟩ := vars_maxlen hV
    refine (Tryz.strings_Cut ⟨l.toArray⟩ ⟨sep.toArray⟩ m w hl hm).mono ?_
    rintro e w' ⟨rfl, n, rfl⟩
    exact ⟨_, rfl, vrel_three (.val _) (.val _) (.val _), ⟨rfl, rfl, rfl, Nat.le_refl _, fun _ _ => rfl⟩⟩
def pu8V (l : List UInt8) (t : TypeId) : AVal := match Lib.parseUintB 8 l with
  | .ok v => .tuple [.val (.int .u64 v), .val .nilIface]
  | .syntax => .tuple [.val (.int .u64 0), .ifc t]
  | .range => .tuple [.val (.int .u64 255), .ifc t]
theorem pu8_spec (l : List UInt8) (hl : l.length ≤ 281474976710656) : Spec Tryz.prog 98 [.val (bstr l), .val (.int .i64 10), .val (.int .i64 8)] [] (pu8V l 128) [] := by
  have hsz : (⟨l.toArray⟩ : ByteArray).size = l.length := rfl
  unfold pu8V
  cases h : Lib.parseUintB 8 l with
  | ok v =>
    exact spec_belowV (timeless_two (timeless_val _) (timeless_val _)) fun ψ prot w cargs hV hk hs hargs => by
      obtain rfl := three_vals hs hargs
      refine (Tryz.strconv_ParseUint_10_at8_ok ⟨l.toArray⟩ (by rw [hsz]; omega) v h w).mono ?_
      rintro e w' ⟨rfl, hw⟩
      refine ⟨_, rfl, vrel_two (.val _) (.val _), ?_⟩
      rcases hw with rfl | rfl
      · exact Below.refl _ _
      · exact Lib.bytesWorld_below w _ _
  | «syntax» =>
    exact spec_belowV (timeless_two (timeless_val _) (timeless_ifc _)) fun ψ prot w cargs hV hk hs hargs => by
      obtain rfl := three_vals hs hargs
      obtain ⟨tp, p, hv⟩ := vars_syntax hV
      refine (Tryz.strconv_ParseUint_10_at8_syntax_var ⟨l.toArray⟩ (by rw [hsz]; exact hl) h tp p w hv).mono ?_
      rintro e w' ⟨N, rfl, -, -, hb⟩
      exact ⟨_, rfl, vrel_two (.val _) (.ifc _ _), hb⟩
  | range =>
    exact spec_belowV (timeless_two (timeless_val _) (timeless_ifc _)) fun ψ prot w cargs hV hk hs hargs => by
      obtain rfl := three_vals hs hargs
      obtain ⟨tp, p, hv⟩ := vars_range hV
      refine (Tryz.strconv_ParseUint_10_at8_range_var ⟨l.toArray⟩ (by rw [hsz]; exact hl) h tp p w hv).mono ?_
      rintro e w' ⟨N, rfl, -, -, hb⟩
      exact ⟨_, rfl, vrel_two (.val _) (.ifc _ _), hb⟩
theorem small_spec (i : Nat) (h : i < 100) : Spec Tryz.prog 92 [.val (.int .i64 i)] [] (.val (bstr (Lib.decDigits i))) [] :=
  spec_belowV (timeless_val _) fun ψ prot w cargs hV hk hsz hargs => by
    obtain rfl := one_arg hsz hargs
    refine (Tryz.internal_strconv_small i h w).mono ?_
    rintro e w' ⟨rfl, rfl⟩
    exact ⟨_, rfl, .val _, Below.refl _ _⟩
end Go.Proofs.YtboddbheljenhaaGreatDoor
namespace Go.Proofs.YtboddbheljenhaaGreatDoor
open Go.RowKit
def hexDig (d : Nat) : UInt8 := if d < 10 then UInt8.ofNat (48 + d) else UInt8.ofNat (87 + d)
def hexL (u : Nat) : List UInt8 := if h : u < 16 then [hexDig u] else hexL (u / 16) ++ [hexDig (u % 16)]
termination_by u
decreasing_by omega
theorem hexL_small {u : Nat} (h : u < 16) : hexL u = [hexDig u] := by rw [hexL, dif_pos h]
theorem hexL_big {u : Nat} (h : ¬ u < 16) : hexL u = hexL (u / 16) ++ [hexDig (u % 16)] := by rw [hexL, dif_neg h]
theorem hexDig_toNat {d : Nat} (h : d < 16) : (hexDig d).toNat = if d < 10 then 48 + d else 87 + d := by
  unfold hexDig
  split
  · simp; omega
  · simp; omega
def hexV (c : UInt8) : Option Nat :=
  if 48 ≤ c.toNat ∧ c.toNat ≤ 57 then some (c.toNat - 48)
  else if 97 ≤ c.toNat ∧ c.toNat ≤ 102 then some (c.toNat - 87)
  else if 65 ≤ c.toNat ∧ c.toNat ≤ 70 then some (c.toNat - 55)
  else none
theorem hexV_lt {c : UInt8} {d : Nat} (h : hexV c = some d) : d < 16 := by
  unfold hexV at h
  split at h
  · injection h with h; omega
  · split at h
    · injection h with h; omega
    · split at h
      · injection h with h; omega
      · cases h
theorem hexV_dig {d : Nat} (h : d < 16) : hexV (hexDig d) = some d := by
  have e := hexDig_toNat h
  unfold hexV
  by_cases h1 : d < 10
  · rw [if_pos h1] at e
    rw [if_pos (by omega), e]
    congr 1; omega
  · rw [if_neg h1] at e
    rw [if_neg (by omega), if_pos (by omega), e]
    congr 1; omega
def hexN : Nat → List UInt8 → Option Nat
  | acc, [] => some acc
  | acc, c :: r => match hexV c with
    | some d => hexN (acc * 16 + d) r
    | none => none
theorem hexN_append : ∀ (a b : List UInt8) (acc : Nat), hexN acc (a ++ b) = (hexN acc a).bind fun n => hexN n b
  | [], b, acc => rfl
  | c :: a, b, acc => by
    simp only [List.cons_append, hexN]
    cases hexV c with
    | none => rfl
    | some d => exact hexN_append a b _
theorem hexN_hexL (u : Nat) : hexN 0 (hexL u) = some u := by
  induction u using Nat.strongRecOn with
  | ind u ih =>
    by_cases h : u < 16
    · rw [hexL_small h]
      simp only [hexN, hexV_dig h]
      congr 1; omega
    · rw [hexL_big h, hexN_append, ih (u / 16) (by omega)]
      simp only [Option.bind_some, hexN, hexV_dig (show u % 16 < 16 by omega)]
      congr 1; omega
theorem hexN_lt : ∀ (l : List UInt8) (acc n : Nat), hexN acc l = some n → n < (acc + 1) * 16 ^ l.length
  | [], acc, n, h => by
    simp only [hexN] at h
    injection h with h
    simp; omega
  | c :: r, acc, n, h => by
    simp only [hexN] at h
    cases hc : hexV c with
    | none => rw [hc] at h; cases h
    | some d =>
      rw [hc] at h
      have h1 := hexV_lt hc
      have h2 := hexN_lt r _ n h
      refine Nat.lt_of_lt_of_le h2 ?_
      rw [List.length_cons, Nat.pow_succ]
      have h3 : acc * 16 + d + 1 ≤ (acc + 1) * 16 := by omega
      calc (acc * 16 + d + 1) * 16 ^ r.length ≤ ((acc + 1) * 16) * 16 ^ r.length := Nat.mul_le_mul_right _ h3
        _ = (acc + 1) * (16 ^ r.length * 16) := by rw [Nat.mul_assoc, Nat.mul_comm 16]
theorem hexL_len (k : Nat) : ∀ u, u < 16 ^ (k + 1) → (hexL u).length ≤ k + 1 := by
  induction k with
  | zero => intro u hu; rw [hexL_small (by simpa using hu)]; simp
  | succ k ih =>
    intro u hu
    by_cases h : u < 16
    · rw [hexL_small h]; simp
    · have := ih (u / 16) (by rw [Nat.pow_succ] at hu; omega)
      rw [hexL_big h, List.length_append, List.length_singleton]
      omega
theorem hexL_ne (u : Nat) : hexL u ≠ [] := by
  by_cases h : u < 16
  · rw [hexL_small h]; simp
  · rw [hexL_big h]; simp
theorem hexL_bytes (u : Nat) : ∀ x ∈ hexL u, ∃ d, d < 16 ∧ x = hexDig d := by
  induction u using Nat.strongRecOn with
  | ind u ih =>
    intro x hx
    by_cases h : u < 16
    · rw [hexL_small h] at hx
      simp only [List.mem_singleton] at hx
      exact ⟨u, h, hx⟩
    · rw [hexL_big h, List.mem_append] at hx
      rcases hx with hx | hx
      · exact ih (u / 16) (by omega) x hx
      · simp only [List.mem_singleton] at hx
        exact ⟨u % 16, by omega, hx⟩
end Go.Proofs.YtboddbheljenhaaGreatDoor
namespace Go.Proofs.YtboddbheljenhaaGreatDoor
open Go.RowKit
inductive FrzB (n kk : Nat) (cs : List AVal) : AVal → AVal → Prop where
  | any (x : AVal) : FrzB n kk cs x .any
  | same (x : AVal) : FrzB n kk cs x x
  | ptr (off : Nat) : FrzB n kk cs (.ptr n kk off) (.rref (cs.drop off))
inductive EnvFrzB (n kk : Nat) (cs : List AVal) (st : St) : List (Nat × AVal) → Prop where
  | nil : EnvFrzB n kk cs st []
  | cons {t : Nat} {v v' : AVal} {env : List (Nat × AVal)} (h : st.get t = v) (f : FrzB n kk cs v v') (r : EnvFrzB n kk cs st env) : EnvFrzB n kk cs st ((t, v') :: env)
inductive ObjsFrzB (n : Nat) (st : St) : Writes → Prop where
  | nil : ObjsFrzB n st []
  | cons {m k : Nat} {o : AObj} {objs : Writes} (h : st.obj m = some (k, o)) (hm : (m != n) = true) (r : ObjsFrzB n st objs) : ObjsFrzB n st ((m, some (k, o)) :: objs)
theorem EnvFrzB.mem {n kk : Nat} {cs : List AVal} {st : St} {env : List (Nat × AVal)} (h : EnvFrzB n kk cs st env) : ∀ p ∈ env, FrzB n kk cs (st.get p.1) p.2 := by
  induction h with
  | nil => intro p hp; cases hp
  | cons h f _ ih =>
    intro p hp
    rcases List.mem_cons.1 hp with rfl | hp
    · rw [h]; exact f
    · exact ih p hp
theorem ObjsFrzB.mem {n : Nat} {st : St} {objs : Writes} (h : ObjsFrzB n st objs) : ∀ p ∈ objs, ∃ k o, p.2 = some (k, o) ∧ st.obj p.1 = some (k, o) ∧ p.1 ≠ n := by
  induction h with
  | nil => intro p hp; cases hp
  | cons h hm _ ih =>
    intro p hp
    rcases List.mem_cons.1 hp with rfl | hp
    · exact ⟨_, _, rfl, h, by simpa using hm⟩
    · exact ih p hp
theorem awp_frzB {P : Program} {N : Nat} {ini : Ini} {Q : Exit → St → Prop} {st : St} {c : Code} (n kk : Nat) {t : TypeId} (cs : List AVal) (env : List (Nat × AVal)) (objs : Writes) (hn : st.obj n = some (kk, .box t cs)) (he : EnvFrzB n kk cs st env) (ho : ObjsFrzB n st objs) (h : Awp P N ini c Q ⟨env, objs⟩) : Awp P N ini c Q st := by
  rintro a w ⟨hd, hs, ψ, prot, h1, h2, h3, h4⟩
  obtain ⟨loc, hl, hor⟩ := h2.live n kk _ hn
  have live : ∀ m k o', (⟨env, objs⟩ : St).obj m = some (k, o') → m ≠ n ∧ st.obj m = some (k, o') := fun m k o' h => by
    simp only [St.obj, updW] at h
    cases hlk : objs.lookup m with
    | none => rw [hlk] at h; cases h
    | some y =>
      rw [hlk] at h
      simp only at h
      subst h
      obtain ⟨k', o, q1, q2, q3⟩ := ho.mem _ (lookup_mem hlk)
      simp only [Option.some.injEq, Prod.mk.injEq] at q1
      obtain ⟨rfl, rfl⟩ := q1
      exact ⟨q3, q2⟩
  let prot' : Nat → Prop := fun b => prot b ∨ loc.block = some b
  have hun : ∀ b, unowned ψ st.obj w b → unowned ψ (⟨env, objs⟩ : St).obj w b := fun b hb => ⟨hb.1, fun m k o l g1 g2 => by
    obtain ⟨_, q1⟩ := live m k o g1
    exact hb.2 m k o l q1 g2⟩
  have hpu : ∀ b, prot' b → unowned ψ (⟨env, objs⟩ : St).obj w b := fun b hb => by
    rcases hb with hb | hb
    · exact hun b (h2.pr b hb)
    · refine ⟨hor.inside b hb, fun m k o l g1 g2 g3 => ?_⟩
      obtain ⟨q0, q1⟩ := live m k o g1
      exact h2.inj n m kk k _ o loc l hn q1 (Ne.symm q0) hl g2 b hb g3
  have hmono : ∀ b, prot b → prot' b := fun b hb => .inl hb
  have hptr : ∀ off u, VRel ψ prot w (.ptr n kk off) u → VRel ψ prot' w (.rref (cs.drop off)) u := fun off u hu => by
    obtain ⟨b, cap, hv, hψ⟩ := hu.ptr_inv
    rw [hl] at hψ; injection hψ with hψ; subst hψ
    obtain ⟨vs, g1, g2⟩ := hor.cell (b := b) rfl
    rw [hv]
    have g11 : vs.length = cs.length := g1.1
    refine .rref _ (vs.drop off) b off (.inr rfl) (by rw [List.length_drop, List.length_drop, g11]) (fun i v hi => ?_) fun i x v hx hi => ?_
    · rw [List.getElem?_drop] at hi
      exact g2 (off + i) v hi
    · rw [List.getElem?_drop] at hx hi
      exact (g1.2 (off + i) x v hx hi).mono (fun _ _ _ h => h) fun b hb => ⟨hmono b hb, rfl⟩
  refine h a w ⟨hd, hs, ψ, prot', ⟨h1.os, h1.tape, h1.output, h1.size, h1.gh, fun b hb => .inl (h1.pr b hb), fun b hb => ⟨hun b (h1.un b hb).1, (h1.un b hb).2⟩, fun b hb => ?_⟩, ⟨fun m k o g => ?_, fun m m' k k' o o' l l' g g' hne => ?_, hpu⟩, h3, fun t' => ?_⟩
  · rcases hb with hb | hb
    · exact h1.new b hb
    · exact .inr fun hu => (h1.un b hu).1.2 n kk _ loc hn hl hb
  · obtain ⟨_, q1⟩ := live m k o g
    obtain ⟨l, g1, g2⟩ := h2.live m k o q1
    exact ⟨l, g1, g2.mono (fun _ _ _ h => h) (fun b hb => ⟨hmono b hb, rfl⟩) fun _ _ => rfl⟩
  · obtain ⟨_, q1⟩ := live m k o g
    obtain ⟨_, q1'⟩ := live m' k' o' g'
    exact h2.inj m m' k k' o o' l l' q1 q1' hne
  · cases hlk : env.lookup t' with
    | none =>
      have : (⟨env, objs⟩ : St).get t' = .any := by simp [St.get, hlk]
      rw [this]; exact .any _
    | some v =>
      have e : (⟨env, objs⟩ : St).get t' = v := by simp [St.get, hlk]
      rw [e]
      have hf : FrzB n kk cs (st.get t') v := he.mem _ (lookup_mem hlk)
      have h5 := h4 t'
      generalize st.get t' = x at hf h5
      cases hf with
      | any => exact .any _
      | same => exact h5.mono (fun _ _ _ h => h) fun b hb => ⟨hmono b hb, rfl⟩
      | ptr off => exact hptr off _ h5
end Go.Proofs.YtboddbheljenhaaGreatDoor
namespace Go.Proofs.YtboddbheljenhaaGreatDoor
open Go.RowKit
section
variable {P : Program} {k : Nat} {st : St} {o : Oper}
theorem opok_arrRoN {t e : TypeId} {n : Nat} {x y : Operand} {kd : IntKind} {hi : Nat} {cs : List AVal} (ho : o.op = .slice t x none (some y) none) (hx : st.aop x = .rref cs) (hy : st.aop y = .val (.int kd hi)) (hu : P.underlying t = some (.array n e)) (hs : sizeIs P e 1) (hn : cs.length = n) (hf : (cs.take hi).flatMap AVal.flat = cs.take hi) (hh : hi ≤ n) : OpOk P k st o ⟨.ro (cs.take hi), [], [], []⟩ :=
  opok_quiet fun ψ prot obj w ρ _ hr _ => by
    have e1 := hx ▸ hr x (by simp [ho, Op.operands])
    have e2 := (hy ▸ hr y (by simp [ho, Op.operands]) : VRel ψ prot w (.val (.int kd hi)) (ρ y)).val_eq
    obtain ⟨vs, b, off, hpv, hpr, ⟨hl, hv⟩, hcc⟩ := e1.rref_inv
    subst hn
    have hlt : (cs.take hi).length = hi := by rw [List.length_take]; omega
    refine ⟨.slice (some ⟨b, off, none⟩) (cs.take hi).length cs.length, ?_, .ro (cs.take hi) (vs.take hi) b off cs.length (by rw [hlt]; exact hh) hpr (by rw [hf, List.length_take, List.length_take, hl]) (fun i v h => ?_) (fun i x v h1 h2 => ?_)⟩
    · have ea : (⟨b, off, none⟩ : Addr).add 0 = ⟨b, off, none⟩ := by rw [addr_add0]; rfl
      rw [hlt]
      simp [execOp, ho, hpv, e2, Instr.sliceAt, Instr.sliceBounds, Instr.sureAddr, run_underlying hu, run_sizeIs hs, ea, go_sem, asIntOf, hh]
    · rw [List.getElem?_take] at h
      split at h
      · exact hcc i v h
      · cases h
    · rw [hf, List.getElem?_take] at h1
      rw [List.getElem?_take] at h2
      split at h1
      · rename_i hlt2
        rw [if_pos hlt2] at h2
        exact hv i x v h1 h2
      · cases h1
variable {ops : Array Oper} {N : Nat} {draw : Bool} {K : St → Prop} {os : List Oper} {env : List (Nat × AVal)} {objs : Writes} {acc : List Tr} {d : Nat}
end
end Go.Proofs.YtboddbheljenhaaGreatDoor
namespace Go.Proofs.YtboddbheljenhaaGreatDoor
open Go.RowKit
section
variable {P : Program} {k : Nat} {st : St} {o : Oper}
def bints (l : List UInt8) : List Int := l.map fun b => (b.toNat : Int)
variable {ops : Array Oper} {N : Nat} {draw : Bool} {K : St → Prop} {os : List Oper} {env : List (Nat × AVal)} {objs : Writes} {acc : List Tr}
end
end Go.Proofs.YtboddbheljenhaaGreatDoor
namespace Go.Proofs.YtboddbheljenhaaGreatDoor
open Go.RowKit
theorem strOf_bints (l : List UInt8) : Value.string (strOfNums (bints l)) = bstr l := by
  unfold strOfNums bstr bints
  simp only [List.map_map]
  have : (l.map ((fun n : Int => UInt8.ofNat n.toNat) ∘ fun b : UInt8 => (b.toNat : Int))) = l := by
    conv => rhs; rw [← List.map_id l]
    refine List.map_congr_left fun b _ => ?_
    simp
  rw [this]
section
variable {P : Program} {k : Nat} {st : St} {o : Oper}
theorem opok_arrRoF {t e : TypeId} {n : Nat} {x y : Operand} {kd : IntKind} {lo : Nat} {cs : List AVal} (ho : o.op = .slice t x (some y) none none) (hx : st.aop x = .rref cs) (hy : st.aop y = .val (.int kd lo)) (hu : P.underlying t = some (.array n e)) (hs : sizeIs P e 1) (hn : cs.length = n) (hf : (cs.drop lo).flatMap AVal.flat = cs.drop lo) (hh : lo < n) : OpOk P k st o ⟨.ro (cs.drop lo), [], [], []⟩ :=
  opok_quiet fun ψ prot obj w ρ _ hr _ => by
    have e1 := hx ▸ hr x (by simp [ho, Op.operands])
    have e2 := (hy ▸ hr y (by simp [ho, Op.operands]) : VRel ψ prot w (.val (.int kd lo)) (ρ y)).val_eq
    obtain ⟨vs, b, off, hpv, hpr, ⟨hl, hv⟩, hcc⟩ := e1.rref_inv
    subst hn
    have hlt : (cs.drop lo).length = cs.length - lo := by rw [List.length_drop]
    have hle := Nat.le_of_lt hh
    have hne : ¬ cs.length = lo := by omega
    refine ⟨.slice (some ⟨b, off + lo, none⟩) (cs.drop lo).length (cs.length - lo), ?_, .ro (cs.drop lo) (vs.drop lo) b (off + lo) (cs.length - lo) (by rw [hlt]; exact Nat.le_refl _) hpr (by rw [hf, List.length_drop, List.length_drop, hl]) (fun i v h => ?_) (fun i x v h1 h2 => ?_)⟩
    · have ea : (⟨b, off, none⟩ : Addr).add lo = ⟨b, off + lo, none⟩ := by simp [Addr.add]
      rw [hlt]
      simp [execOp, ho, hpv, e2, Instr.sliceAt, Instr.sliceBounds, Instr.sureAddr, run_underlying hu, run_sizeIs hs, ea, go_sem, asIntOf, hle, hne]
    · rw [List.getElem?_drop] at h
      have := hcc (lo + i) v h
      rw [Nat.add_assoc]; exact this
    · rw [hf, List.getElem?_drop] at h1
      rw [List.getElem?_drop] at h2
      exact hv _ x v h1 h2
theorem drop_ints (k : IntKind) (xs : List Int) (n : Nat) : (ints k xs).drop n = ints k (xs.drop n) := by simp [ints, List.map_drop]
theorem opok_arrRoI {t e : TypeId} {n : Nat} {x y : Operand} {kd ke : IntKind} {lo : Nat} {xs ys : List Int} (ho : o.op = .slice t x (some y) none none) (hx : st.aop x = .rref (ints ke xs)) (hy : st.aop y = .val (.int kd lo)) (hu : P.underlying t = some (.array n e)) (hs : sizeIs P e 1) (hn : xs.length = n) (hh : lo < n) (hys : xs.drop lo = ys) : OpOk P k st o ⟨.ro (ints ke ys), [], [], []⟩ := by
  have h := opok_arrRoF (k := k) ho hx hy hu hs (by rw [length_ints, hn]) (by rw [drop_ints, flat_ints]) hh
  rw [drop_ints, hys] at h
  exact h
end
end Go.Proofs.YtboddbheljenhaaGreatDoor
