/-
  addr.parse6 of any text.
-/
import Derived.Test.YtmbmodeiikhnkaaGreatDoorPGg
import Derived.Test.YtmbmodeiikhnkaaGreatDoorG11
import Derived.Test.YtmbmodeiikhnkaaGreatDoorG03
import Derived.Test.YtmbmodeiikhnkaaGreatDoorG04
import Derived.Test.YtmbmodeiikhnkaaGreatDoorAbsC
namespace Go.Proofs.YtmbmodeiikhnkaaGreatDoor
open Go.RowKit
theorem pgF_len : ∀ (e : Bool) (ps : List (List UInt8)) (xs : List Nat), pgF e ps = some xs → xs.length ≤ ps.length + 1
  | e, [], xs, h => by cases h; simp
  | e, p :: r, xs, h => by
    unfold pgF at h
    by_cases c : (e && r.isEmpty && hasB p 46) = true
    · rw [if_pos c] at h
      cases e4 : p4N p with
      | none => rw [e4] at h; cases h
      | some n => rw [e4] at h; cases h; simp
    · rw [if_neg c] at h
      cases e4 : grpN p with
      | none => rw [e4] at h; cases h
      | some n =>
        rw [e4] at h
        cases e5 : pgF e r with
        | none => rw [e5] at h; cases h
        | some ys =>
          rw [e5] at h
          cases h
          have := pgF_len e r ys e5
          simp
          omega
theorem pgN_len {e : Bool} {l : List UInt8} {xs : List Nat} (h : pgN e l = some xs) : xs.length ≤ l.length + 2 := by
  unfold pgN at h
  by_cases c : l = []
  · rw [if_pos c] at h; cases h; simp
  · rw [if_neg c] at h
    have := pgF_len e _ xs h
    have := splitC_len 58 l
    omega
/-- What parseGroups answers. -/
def pgV (e : Bool) (l : List UInt8) : AVal := match pgN e l with
  | some xs => .tuple [.ro (ints .u16 (nats xs)), .val (.bool true)]
  | none => .tuple [.val (.slice none 0 0), .val (.bool false)]
set_option maxHeartbeats 16000000 in
set_option maxRecDepth 100000 in
theorem pgs_nil (e : Bool) : Spec Tryz.prog 57 [.val (bstr []), .val (.bool e)] [] (.tuple [.val (.slice none 0 0), .val (.bool true)]) [] := by
  have d : (([] : List UInt8) == []) = true := rfl
  refine spec_of_awp Tryz.func57 rfl (Nat.le_of_ble_eq_true rfl) fun ini => ?_
  simp only [Tryz.ntmps57]
  (repeat (first | refine awp_reg_seq rfl fun k => ?_ | refine awp_seq ?_ | refine awp_true rfl ?_ | (refine awp_ret ?_; (apply ends_pure ?_ ?_ ?_ ?_ ?_ (.inl rfl); rotate_left 1; (· (exact res_two rfl rfl rfl)); (· rfl); (· rfl); (· rfl); (· rfl))) | (((((apply runk0 rfl rfl (opok_seql rfl ?_ ?_) ?_; rotate_left 2; (· ((conv => (lhs; whnf)); try exact rfl)); (· ((conv => (lhs; whnf)); try exact rfl))))))) | (apply runk0 rfl rfl (opok_move rfl ?_) ?_; rotate_left 1; (· (conv => (lhs; whnf)))) | (apply runk0 rfl rfl (opok_assign rfl ?_) ?_; rotate_left 1; (· (conv => (lhs; whnf)))) | refine runk_end (by kernel_rfl) ?_))
theorem pgs_spec (l : List UInt8) (e : Bool) (hl : l.length ≤ 100000) : Spec Tryz.prog 57 [.val (bstr l), .val (.bool e)] [] (pgV e l) [] := by
  unfold pgV
  by_cases c : l = []
  · subst c
    exact (pgs_nil e).weak (.tuple (.cons (.one .nil) (.cons (.one (.same _)) .nil)))
  · have hp : pgN e l = pgF e (splitC 58 l) := by unfold pgN; rw [if_neg c]
    rw [hp]
    cases h : pgF e (splitC 58 l) with
    | none => exact pgs_no l e hl c h
    | some xs => exact (pgs_ok l e hl c h).frz2 (by simp [nats])
/-- What parse6 answers. -/
def p6N (l : List UInt8) : Option (List Nat) :=
  if (Lib.cut l [58, 58]).2.2 = true then
    (pgN false (Lib.cut l [58, 58]).1).bind fun a => (pgN true (Lib.cut l [58, 58]).2.1).bind fun b => if a.length + b.length < 8 then some (a ++ List.replicate (8 - a.length - b.length) 0 ++ b) else none
  else (pgN true l).bind fun xs => if xs.length = 8 then some xs else none
def p6V (l : List UInt8) : AVal := match p6N l with
  | some xs => .tuple [.agg (ints .u16 (nats xs)), .val (.bool true)]
  | none => .tuple [.agg (ints .u16 [0, 0, 0, 0, 0, 0, 0, 0]), .val (.bool false)]
theorem zeros_drop {p : Nat} (h : p ≤ 8) : ([0, 0, 0, 0, 0, 0, 0, 0] : List Int).drop p = List.replicate (8 - p) 0 := by
  have : p = 0 ∨ p = 1 ∨ p = 2 ∨ p = 3 ∨ p = 4 ∨ p = 5 ∨ p = 6 ∨ p = 7 ∨ p = 8 := by omega
  rcases this with rfl | rfl | rfl | rfl | rfl | rfl | rfl | rfl | rfl <;> rfl
theorem cut_le (l : List UInt8) : (Lib.cut l [58, 58]).1.length ≤ l.length ∧ (Lib.cut l [58, 58]).2.1.length ≤ l.length := by
  unfold Lib.cut
  split
  · simp; omega
  · simp
theorem list8 {α : Type} {l : List α} (h : l.length = 8) : ∃ a b c d e f g i, l = [a, b, c, d, e, f, g, i] := by
  match l, h with
  | [a, b, c, d, e, f, g, i], _ => exact ⟨a, b, c, d, e, f, g, i, rfl⟩
theorem nats_app (a b : List Nat) : nats (a ++ b) = nats a ++ nats b := by simp [nats]
theorem nats_zeros (k : Nat) : nats (List.replicate k 0) = List.replicate k 0 := by simp [nats]
end Go.Proofs.YtmbmodeiikhnkaaGreatDoor
namespace Go.Proofs.YtmbmodeiikhnkaaGreatDoor
open Go.RowKit
def jn (a b c d : Nat) : Nat := ((a * 65536 + b) * 65536 + c) * 65536 + d
theorem or16_u64 (a b : Nat) (h2 : a < 281474976710656) (h4 : b < 65536) : bits .or .u64 ((a : Int) * 65536) (b : Int) = ((a * 65536 + b : Nat) : Int) := by
  have e := bits_or_u64_nat (a * 65536) b (by omega) (by omega)
  rw [show ((a * 65536 : Nat) : Int) = (a : Int) * 65536 by omega] at e
  rw [e]
  congr 1
  have h := Nat.two_pow_add_eq_or_of_lt (i := 16) (b := b) (by simpa using h4) a
  rw [show (2 : Nat) ^ 16 = 65536 by decide] at h
  rw [Nat.mul_comm a 65536, ← h]
theorem or16_r (a b r : Nat) (h2 : a < 281474976710656) (h4 : b < 65536) (hr : r = a * 65536 + b) : bits .or .u64 ((a : Int) * 65536) (b : Int) = (r : Int) := by
  rw [hr]
  exact or16_u64 a b h2 h4
set_option maxHeartbeats 16000000 in
set_option maxRecDepth 100000 in
theorem join_spec8 (a b c d e f g h : Nat) (ha : a < 65536) (hb : b < 65536) (hc : c < 65536) (hd : d < 65536) (he : e < 65536) (hf : f < 65536) (hg : g < 65536) (hh : h < 65536) :
    Spec Tryz.prog 35 [.agg [.val (.int .u16 (a : Int)), .val (.int .u16 (b : Int)), .val (.int .u16 (c : Int)), .val (.int .u16 (d : Int)), .val (.int .u16 (e : Int)), .val (.int .u16 (f : Int)), .val (.int .u16 (g : Int)), .val (.int .u16 (h : Int))]] [] (.agg [.val (.bool true), .val (.int .u64 (jn a b c d : Int)), .val (.int .u64 (jn e f g h : Int))]) [] := by
  obtain ⟨A2, hA2⟩ : ∃ r, r = a * 65536 + b := ⟨_, rfl⟩
  obtain ⟨A3, hA3⟩ : ∃ r, r = A2 * 65536 + c := ⟨_, rfl⟩
  obtain ⟨A4, hA4⟩ : ∃ r, r = A3 * 65536 + d := ⟨_, rfl⟩
  obtain ⟨E2, hE2⟩ : ∃ r, r = e * 65536 + f := ⟨_, rfl⟩
  obtain ⟨E3, hE3⟩ : ∃ r, r = E2 * 65536 + g := ⟨_, rfl⟩
  obtain ⟨E4, hE4⟩ : ∃ r, r = E3 * 65536 + h := ⟨_, rfl⟩
  have j1 : jn a b c d = A4 := by unfold jn; omega
  have j2 : jn e f g h = E4 := by unfold jn; omega
  rw [j1, j2]
  have o1 := or16_r 0 a a (by omega) ha (by omega)
  have p1 := or16_r 0 e e (by omega) he (by omega)
  rw [show ((0 : Nat) : Int) * 65536 = 0 by decide] at o1 p1
  have oA2 := or16_r a b A2 (by omega) hb hA2
  have wA2 : IntKind.u64.wrap ((a : Int) * 65536) = (a : Int) * 65536 := by rw [IntKind.wrap_u64]; omega
  have oA3 := or16_r A2 c A3 (by omega) hc hA3
  have wA3 : IntKind.u64.wrap ((A2 : Int) * 65536) = (A2 : Int) * 65536 := by rw [IntKind.wrap_u64]; omega
  have oA4 := or16_r A3 d A4 (by omega) hd hA4
  have wA4 : IntKind.u64.wrap ((A3 : Int) * 65536) = (A3 : Int) * 65536 := by rw [IntKind.wrap_u64]; omega
  have wa : IntKind.u64.wrap (a : Int) = (a : Int) := by rw [IntKind.wrap_u64]; omega
  have wb : IntKind.u64.wrap (b : Int) = (b : Int) := by rw [IntKind.wrap_u64]; omega
  have wc : IntKind.u64.wrap (c : Int) = (c : Int) := by rw [IntKind.wrap_u64]; omega
  have wd : IntKind.u64.wrap (d : Int) = (d : Int) := by rw [IntKind.wrap_u64]; omega
  have oE2 := or16_r e f E2 (by omega) hf hE2
  have wE2 : IntKind.u64.wrap ((e : Int) * 65536) = (e : Int) * 65536 := by rw [IntKind.wrap_u64]; omega
  have oE3 := or16_r E2 g E3 (by omega) hg hE3
  have wE3 : IntKind.u64.wrap ((E2 : Int) * 65536) = (E2 : Int) * 65536 := by rw [IntKind.wrap_u64]; omega
  have oE4 := or16_r E3 h E4 (by omega) hh hE4
  have wE4 : IntKind.u64.wrap ((E3 : Int) * 65536) = (E3 : Int) * 65536 := by rw [IntKind.wrap_u64]; omega
  have we : IntKind.u64.wrap (e : Int) = (e : Int) := by rw [IntKind.wrap_u64]; omega
  have wf : IntKind.u64.wrap (f : Int) = (f : Int) := by rw [IntKind.wrap_u64]; omega
  have wg : IntKind.u64.wrap (g : Int) = (g : Int) := by rw [IntKind.wrap_u64]; omega
  have wh : IntKind.u64.wrap (h : Int) = (h : Int) := by rw [IntKind.wrap_u64]; omega
  have w0 : IntKind.u64.wrap 0 = 0 := by decide
  clear hA2 hA3 hA4 hE2 hE3 hE4 j1 j2
  have x1 : IntKind.i64.wrap 1 = 1 := by decide
  have x2 : IntKind.i64.wrap 2 = 2 := by decide
  have x3 : IntKind.i64.wrap 3 = 3 := by decide
  have x4 : IntKind.i64.wrap 4 = 4 := by decide
  have x5 : IntKind.i64.wrap 5 = 5 := by decide
  have x6 : IntKind.i64.wrap 6 = 6 := by decide
  have x7 : IntKind.i64.wrap 7 = 7 := by decide
  refine spec_of_awp Tryz.func35 rfl (Nat.le_of_ble_eq_true rfl) fun ini => ?_
  simp only [Tryz.ntmps35]
  (repeat (first | refine awp_reg_seq rfl fun k => ?_ | refine awp_seq ?_ | refine awp_block ?_ | (apply runk0 rfl rfl (opok_move rfl ?_) ?_; rotate_left 1; (· (conv => (lhs; whnf)))) | (apply runk0 rfl rfl (opok_build rfl ?_ ?_ ?_ ?_ ?_) ?_; rotate_left 5; (· (conv => (lhs; whnf; arg 1; whnf))); (· (conv => (lhs; whnf; arg 1; repeat (whnf; arg 2)))); (· (conv => (lhs; whnf; arg 1; whnf))); (· (repeat (first | exact PartsOf.nil | (apply PartsOf.cons; (· (conv => (lhs; whnf))))))); (· (conv => (lhs; whnf; arg 1; repeat (whnf; arg 2))))) | (apply runk_box rfl rfl rfl ?_ ?_ ?_ ?_; rotate_left 2; (· (conv => (lhs; whnf))); (· rfl); (· (conv => (lhs; whnf)))) | (apply runk_alloc rfl rfl rfl ?_ ?_ ?_; rotate_left 2; (· (conv => (lhs; whnf; arg 1; whnf))); (· (conv => (lhs; whnf)))) | (apply runk_store rfl rfl rfl ?_ ?_ ?_ ?_ ?_ ?_ ?_ ?_ ?_ ?_ ?_; rotate_left 9; (· (conv => (lhs; whnf))); (· (conv => (lhs; whnf))); (· (conv => (lhs; whnf; arg 1; whnf; arg 2; whnf))); (· rfl); (· (conv => (lhs; whnf))); (· rfl); (· (unfold sizeIs; conv => (lhs; whnf; arg 1; whnf))); (· rfl); (· rfl); (· (conv => (lhs; repeat (whnf; arg 2))))) | refine runk_end (by kernel_rfl) ?_))
  refine awp_rounds 5 ?_
  (repeat (first | refine awp_reg_seq rfl fun k => ?_ | refine awp_reg rfl fun k => ?_ | refine awp_seq ?_ | refine awp_true rfl ?_ | refine awp_false rfl ?_ | refine awp_skip (?_ : Awp _ _ _ _ _ _) | refine awp_block ?_ | refine awp_exit (?_ : Awp _ _ _ _ _ _) | (refine awp_ret ?_; (apply ends_pure ?_ ?_ ?_ ?_ ?_ (.inl rfl); rotate_left 1; (· (exact res_cell rfl rfl rfl rfl rfl)); (· rfl); (· rfl); (· rfl); (· rfl))) | (((apply runk0 rfl rfl (opok_indexP rfl ?_ ?_ rfl ?_ ?_ ?_) ?_; rotate_left 6; (· (conv => (lhs; whnf))); (· (conv => (lhs; whnf))); (· (unfold sizeIs; conv => (lhs; whnf; arg 1; whnf))); (· omega); (· omega)))) | (((apply runk_storeI rfl rfl rfl ?_ ?_ ?_ ?_ ?_ ?_ ?_ ?_ ?_; rotate_left 7; (· (conv => (lhs; whnf))); (· rfl); (· (conv => (lhs; whnf))); (· rfl); (· rfl); (· (unfold sizeIs; conv => (lhs; whnf; arg 1; whnf))); (· ((simp; done))); (· rfl)))) | (apply runk0 rfl rfl (opok_move rfl ?_) ?_; rotate_left 1; (· (conv => (lhs; whnf)))) | (apply runk0 rfl rfl (opok_assign rfl ?_) ?_; rotate_left 1; (· (conv => (lhs; whnf)))) | (apply runk_fa rfl rfl rfl ?_ rfl rfl ?_ ?_ ?_ ?_; rotate_left 5; (· (conv => (lhs; whnf))); (· (unfold sizeIs; conv => (lhs; whnf; arg 1; whnf))); (· rfl); (· (conv => (lhs; whnf)))) | (((apply runk0 rfl rfl (opok_load rfl ?_ ?_ ?_ ?_) ?_; rotate_left 5; (· (conv => (lhs; whnf))); (· (conv => (lhs; whnf; arg 1; whnf; arg 2; whnf))); (· rfl); (· (conv => (lhs; whnf; arg 1; whnf)))))) | (apply runk0 rfl rfl (opok_loadA rfl ?_ ?_ ?_ ?_ ?_ ?_) ?_; rotate_left 6; (· (conv => (lhs; whnf))); (· (conv => (lhs; whnf; arg 1; whnf; arg 2; whnf))); (· rfl); (· (unfold sizeIs; conv => (lhs; whnf; arg 1; whnf))); (· (conv => (lhs; repeat (whnf; arg 2)))); (· rfl)) | (apply runk0 rfl rfl (opok_bin rfl ?_ ?_ ?_) ?_; rotate_left 3; (· (conv => (lhs; whnf))); (· (conv => (lhs; whnf))); (· (intro w; go_simp; rfl))) | (apply runk0 rfl rfl (opok_conv rfl ?_ ?_) ?_; rotate_left 2; (· (conv => (lhs; whnf))); (· (intro w; go_simp; rfl))) | (apply runk_store rfl rfl rfl ?_ ?_ ?_ ?_ ?_ ?_ ?_ ?_ ?_ ?_ ?_; rotate_left 9; (· (conv => (lhs; whnf))); (· (conv => (lhs; whnf))); (· (conv => (lhs; whnf; arg 1; whnf; arg 2; whnf))); (· rfl); (· (conv => (lhs; whnf))); (· rfl); (· (unfold sizeIs; conv => (lhs; whnf; arg 1; whnf))); (· rfl); (· rfl); (· (conv => (lhs; repeat (whnf; arg 2))))) | refine runk_end (by kernel_rfl) ?_))
end Go.Proofs.YtmbmodeiikhnkaaGreatDoor
namespace Go.Proofs.YtmbmodeiikhnkaaGreatDoor
open Go.RowKit
end Go.Proofs.YtmbmodeiikhnkaaGreatDoor
namespace Go.Proofs.YtmbmodeiikhnkaaGreatDoor
open Go.RowKit
section
variable {ψ : Ghost} {prot : Nat → Prop} {w : World}
theorem VRel.win_inv {n k len : Nat} {v : Value} (h : VRel ψ prot w (.win n k len) v) : ∃ b o cap, v = .slice (some ⟨b, o, none⟩) len cap ∧ cap < 9223372036854775808 ∧ ψ n k = some ⟨some b, o * 9223372036854775808 + cap⟩ := by
  cases h with
  | win n k len b o cap hc h => exact ⟨b, o, cap, rfl, hc, h⟩
theorem VRel.wptr_inv {n k i : Nat} {v : Value} (h : VRel ψ prot w (.wptr n k i) v) : ∃ b o cap, v = .pointer (some ⟨b, o + i, none⟩) ∧ cap < 9223372036854775808 ∧ ψ n k = some ⟨some b, o * 9223372036854775808 + cap⟩ := by
  cases h with
  | wptr n k i b o cap hc h => exact ⟨b, o, cap, rfl, hc, h⟩
theorem ORel.que_at {t : TypeId} {sz : Nat} {es : List AVal} {b o cap : Nat} (h : ORel ψ prot w ⟨some b, o * 9223372036854775808 + cap⟩ (.que t sz es)) (hc : cap < 9223372036854775808) :
    ∃ (cur : Array Value) (xs : List Value), cap ≤ maxLen ∧ w.heap[b]? = some (.cells cur t (0, 0)) ∧ es.length ≤ cap ∧ (cap = 0 ∨ o + cap * sz ≤ cur.size) ∧ xs.length = es.length * sz ∧ (∀ (i : Nat) (v : Value), xs[i]? = some v → cur[o + i]? = some v) ∧ VRels ψ prot w (es.flatMap AVal.flat) xs := by
  obtain ⟨b', o', cap', cur, xs, h0, h1, h2, h3, h4, h5, h6, h7⟩ := h
  injection h0 with e1 e2
  injection e1 with e1
  have hm : cap' < 9223372036854775808 := by unfold maxLen at h1; omega
  have e3 : o = o' := by omega
  have e4 : cap = cap' := by omega
  subst e1; subst e3; subst e4
  exact ⟨cur, xs, h1, h2, h3, h4, h5, h6, h7⟩
end
theorem run_append_roomAt {P : Program} (w : World) (t ty e : TypeId) (i : TypeInfo) (ht : P.underlying t = some (.slice e)) (hi : P.info? e = some i)
    (g o sLen sCap : Nat) (cur : Array Value) (hg : w.heap[g]? = some (.cells cur e (0, 0)))
    (a : Addr) (m c : Nat) (news : List Value) (hl : news.length = m * i.size) (hnews : ∀ j u, news[j]? = some u → w.cell? (a.add j) = some u) (h1 : ∀ u ∈ news, u.oneCell' = true)
    (hroom : sLen + m ≤ sCap) (hfit : o + sLen * i.size + news.length ≤ cur.size) :
    (Builtin.append_ #[t, t] ty #[.slice (some ⟨g, o, none⟩) sLen sCap, .slice (some a) m c]).run P w =
      .ok (.slice (some ⟨g, o, none⟩) (sLen + m) sCap) (w.setRow g (cur.toList.take (o + sLen * i.size) ++ news ++ cur.toList.drop (o + sLen * i.size + news.length)).toArray) := by
  have hf := run_firstCells_some (P := P) w i.size m a m c news hl hnews
  have hst := run_storeCells_at P g (o + sLen * i.size) e news 0 cur w hg (by simpa using hfit) h1
  simp only [Nat.add_zero] at hst
  simp [Builtin.append_, run_underlying ht, sizeOf, typeInfo, hi, Builtin.lenOf, hroom, hf, addr_add0, hst]
section
variable {P : Program} {k : Nat} {st : St} {o : Oper}
/-- An element of an array that nobody writes. -/
theorem opok_indexPR {t e : TypeId} {x ix : Operand} {cs : List AVal} {N sz : Nat} {kd : IntKind} {i : Int} (ho : o.op = .indexAddr t x ix) (hx : st.aop x = .rref cs) (hi : st.aop ix = .val (.int kd i)) (ht : P.underlying t = some (.array N e)) (hs : sizeIs P e sz) (h0 : 0 ≤ i) (h1 : i < N) : OpOk P k st o ⟨.rref (cs.drop (i.toNat * sz)), [], [], []⟩ :=
  opok_quiet fun ψ prot obj w ρ _ hr _ => by
    have e1 := hx ▸ hr x (by simp [ho, Op.operands])
    have e2 := (hi ▸ hr ix (by simp [ho, Op.operands]) : VRel ψ prot w (.val (.int kd i)) (ρ ix)).val_eq
    obtain ⟨vs, b, off, hpv, hp, h2, h3⟩ := e1.rref_inv
    have h4 := h2.drop (i.toNat * sz)
    refine ⟨.pointer (some ⟨b, off + i.toNat * sz, none⟩), ?_, .rref _ _ b _ hp h4.1 (fun j u hj => ?_) h4.2⟩
    · simp [execOp, ho, hpv, e2, Instr.indexAt, asIntOf, run_underlying ht, Instr.sureAddr, run_sizeIs hs, h0, h1, addr_add0, go_sem]
    · rw [List.getElem?_drop] at hj
      rw [Nat.add_assoc]; exact h3 _ u hj
theorem opok_len_win {x : Operand} {t : TypeId} {n kk len : Nat} {e : TypeId} (ho : o.op = .call { callee := .builtin .len, args := #[x], argTypes := #[t] }) (hx : st.aop x = .win n kk len) (ht : P.underlying t = some (.slice e)) : OpOk P k st o ⟨.val (.int .i64 len), [], [], []⟩ :=
  opok_quiet fun ψ prot obj w ρ _ hr _ => by
    have h1 := hx ▸ hr x (by simp [ho, Op.operands, Call.operands])
    obtain ⟨b, oo, cap, hv, _⟩ := h1.win_inv
    exact ⟨.int .i64 len, by simp [execOp, ho, resolve, invoke, builtin, hv, Builtin.len_, run_underlying ht, goInt, Result.andThen], .val _⟩
theorem opok_index_win {t e : TypeId} {x ix : Operand} {n kk len : Nat} {kd : IntKind} {i : Int} {sz : Nat} (ho : o.op = .indexAddr t x ix) (hx : st.aop x = .win n kk len) (hi : st.aop ix = .val (.int kd i)) (ht : P.underlying t = some (.slice e)) (hs : sizeIs P e sz)
    (h0 : 0 ≤ i) (h1 : i < len) : OpOk P k st o ⟨.wptr n kk (i.toNat * sz), [], [], []⟩ :=
  opok_quiet fun ψ prot obj w ρ _ hr _ => by
    have e1 := hx ▸ hr x (by simp [ho, Op.operands])
    have e2 := (hi ▸ hr ix (by simp [ho, Op.operands]) : VRel ψ prot w (.val (.int kd i)) (ρ ix)).val_eq
    obtain ⟨b, oo, cap, hv, hc, hψ⟩ := e1.win_inv
    exact ⟨.pointer (some ⟨b, oo + i.toNat * sz, none⟩), by simp only [execOp, ho, hv, e2, run_index w ht hs h0 h1, Sem.run_bind, Sem.run_pure, Result.andThen_ok], .wptr n kk _ b oo cap hc hψ⟩
theorem opok_load_wptr {t t' : TypeId} {p : Operand} {n kk i sz : Nat} {es : List AVal} {x : AVal} (ho : o.op = .load t p) (hp : st.aop p = .wptr n kk i) (hn : st.obj n = some (kk, .que t' sz es)) (ht : plainType P t = true) (hc : (es.flatMap AVal.flat)[i]? = some x) : OpOk P k st o ⟨x, [], [n], []⟩ :=
  opok_quiet fun ψ prot obj w ρ hob hr r => by
    have h1 := hp ▸ hr p (by simp [ho, Op.operands])
    obtain ⟨loc, h2, h3⟩ := r.live n kk _ ((hob n (by simp)).trans hn)
    obtain ⟨b, oo, cap, hpv, hcap, h⟩ := h1.wptr_inv
    rw [h2] at h; injection h with h; subst h
    obtain ⟨cur, xs, q1, q2, q3, q4, q5, q6, q7⟩ := h3.que_at hcap
    have hlt : i < xs.length := by rw [q7.1]; exact (List.getElem?_eq_some_iff.1 hc).1
    have hv : xs[i]? = some xs[i] := List.getElem?_eq_getElem hlt
    have hcell : w.cell? ⟨b, oo + i, none⟩ = some xs[i] := by rw [cell_of_row w b (oo + i) cur t' (0, 0) q2]; exact q6 i _ hv
    exact ⟨xs[i], by simp only [execOp, ho, hpv, Instr.loadAt, Instr.sureAddr, run_loadVar1 ht hcell, Sem.run_bind, Sem.run_pure, Result.andThen_ok], q7.2 i x _ hc hv⟩
end
section
variable {P : Program} {k : Nat} {ops : Array Oper} {N : Nat} {draw : Bool} {K : St → Prop} {o : Oper} {os : List Oper} {env : List (Nat × AVal)} {objs : Writes} {acc : List Tr} {d : Nat}
end
end Go.Proofs.YtmbmodeiikhnkaaGreatDoor
