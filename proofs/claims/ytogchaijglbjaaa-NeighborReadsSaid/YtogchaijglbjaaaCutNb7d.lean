/-
  Layer 7: Encode, by states.
-/
import Derived.Test.YtogchaijglbjaaaCutNb7b
import Derived.Test.YtogchaijglbjaaaCutAbsH
namespace Go.Proofs.Ytogchaijglbjaaa
open Go.RowKit
def putN (xs : List Int) (off : Nat) (ys : List Int) : List Int := xs.take off ++ ys ++ xs.drop (off + ys.length)
theorem putN_length (xs : List Int) (off : Nat) (ys : List Int) (h : off + ys.length ≤ xs.length) : (putN xs off ys).length = xs.length := by
  simp [putN]; omega
theorem putN_bytes {xs : List Int} (off : Nat) {ys : List Int} (hx : Bytes xs) (hy : Bytes ys) : Bytes (putN xs off ys) := by
  intro z hz
  simp only [putN, List.mem_append] at hz
  rcases hz with (hz | hz) | hz
  · exact hx z (List.mem_of_mem_take hz)
  · exact hy z hz
  · exact hx z (List.mem_of_mem_drop hz)
theorem set_bytes {xs : List Int} (i : Nat) {y : Int} (hx : Bytes xs) (hy : 0 ≤ y ∧ y < 256) : Bytes (xs.set i y) := by
  intro z hz
  rcases List.mem_or_eq_of_mem_set hz with h | rfl
  · exact hx z h
  · exact hy
def fixN (k : Int) : Nat := (4 + fixZ k).toNat
theorem fixN_cases (k : Int) : (k = 133 ∧ fixN k = 8) ∨ (k = 134 ∧ fixN k = 16) ∨ (k = 137 ∧ fixN k = 40) ∨ (k ≠ 133 ∧ k ≠ 134 ∧ k ≠ 137 ∧ fixN k = 24) := by
  unfold fixN fixZ
  by_cases h1 : k = 133
  · left; subst h1; exact ⟨rfl, rfl⟩
  · by_cases h2 : k = 134
    · right; left; subst h2; exact ⟨rfl, rfl⟩
    · by_cases h3 : k = 137
      · right; right; left; subst h3; exact ⟨rfl, rfl⟩
      · right; right; right
        rw [if_neg h1, if_neg h2, if_neg h3]
        exact ⟨h1, h2, h3, rfl⟩
def NK.b0 (n : NK) : List Int := ((List.replicate (fixN n.kind) 0).set 0 n.kind).set 4 (n.flags * 32)
def NK.b1 (n : NK) : List Int := bif hasT n.kind then putN n.b0 8 (a16 n.th n.tl) else n.b0
def NK.b2 (n : NK) : List Int := if n.kind = 137 then putN n.b1 24 (a16 n.th n.tl) else n.b1
def NK.b3 (n : NK) : List Int := bif n.has then n.b2 ++ [optZ n.kind, 1] ++ n.link else n.b2
def sgn (h l h2 l2 : Int) (xs : List Int) : List Int := (xs.set 2 (sumOf (chkL h l h2 l2 58 xs) / 256)).set 3 (sumOf (chkL h l h2 l2 58 xs) % 256)
theorem NK.ok_facts {n : NK} (h : n.ok = true) : 133 ≤ n.kind ∧ n.kind ≤ 137 ∧ 0 ≤ n.flags ∧ n.flags ≤ 7 ∧ (n.flags = 0 ∨ n.kind = 136) ∧ (hasT n.kind = true → n.tv = true ∧ grp n.th = false) ∧ (hasT n.kind = false → n.tv = false ∧ n.th = 0 ∧ n.tl = 0) ∧ (n.has = false → n.link = [0, 0, 0, 0, 0, 0]) := by
  simp only [NK.ok, Bool.and_eq_true, decide_eq_true_eq, Bool.or_eq_true, beq_iff_eq] at h
  obtain ⟨⟨⟨⟨h1, h2⟩, h3⟩, h4⟩, h5⟩ := h
  refine ⟨h1, h2, by omega, by omega, by omega, fun e => ?_, fun e => ?_, fun e => ?_⟩
  · rw [e] at h5; simpa using h5
  · rw [e] at h5; simpa using h5
  · rw [e] at h3; simpa using h3
theorem NK.b0_length (n : NK) : n.b0.length = fixN n.kind := by simp [NK.b0]
theorem hasT_fix {k : Int} (h : hasT k = true) : 24 ≤ fixN k := by
  have h' : 135 ≤ k ∧ k ≤ 137 := by simpa [hasT] using h
  have := fixN_cases k
  omega
theorem NK.b1_length (n : NK) : n.b1.length = fixN n.kind := by
  unfold NK.b1
  cases h : hasT n.kind
  · exact n.b0_length
  · show (putN n.b0 8 (a16 n.th n.tl)).length = _
    rw [putN_length _ _ _ (by rw [a16_length, n.b0_length]; exact hasT_fix h), n.b0_length]
theorem NK.b2_length (n : NK) : n.b2.length = fixN n.kind := by
  unfold NK.b2
  split
  · rename_i h
    rw [putN_length _ _ _ (by rw [a16_length, n.b1_length, h]; decide), n.b1_length]
  · exact n.b1_length
theorem NK.b3_length (n : NK) : n.b3.length = fixN n.kind + (bif n.has then 8 else 0) := by
  unfold NK.b3
  cases n.has
  · exact n.b2_length
  · simp [n.b2_length, NK.link]
theorem rep_bytes (m : Nat) : Bytes (List.replicate m (0 : Int)) := fun z hz => by obtain ⟨-, rfl⟩ := List.mem_replicate.1 hz; decide
theorem NK.b3_bytes {n : NK} (h : n.ok = true) (hl : Bytes n.link) : Bytes n.b3 := by
  obtain ⟨h1, h2, h3, h4, -⟩ := NK.ok_facts h
  have e0 : Bytes n.b0 := set_bytes _ (set_bytes _ (rep_bytes _) (by omega)) (by omega)
  have e1 : Bytes n.b1 := by
    unfold NK.b1
    cases hasT n.kind
    · exact e0
    · exact putN_bytes _ e0 (a16_bytes _ _)
  have e2 : Bytes n.b2 := by
    unfold NK.b2
    split
    · exact putN_bytes _ e1 (a16_bytes _ _)
    · exact e1
  unfold NK.b3
  cases n.has
  · exact e2
  · refine bytes_app (bytes_app e2 ?_) hl
    intro z hz
    simp only [List.mem_cons, List.not_mem_nil, or_false, optZ] at hz
    rcases hz with rfl | rfl
    · split <;> omega
    · omega
def encN (n : NK) (h l h2 l2 : Int) : PK := ⟨true, h, l, true, h2, l2, 58, 255, sgn h l h2 l2 n.b3⟩
theorem sumOf_range (xs : List Int) : 0 ≤ sumOf xs ∧ sumOf xs < 65536 := by
  have := fold_bd (words xs)
  unfold sumOf
  omega
set_option maxHeartbeats 32000000 in
set_option maxRecDepth 100000 in
theorem nenc_ok (n : NK) (hok : n.ok = true) (hlb : Bytes n.link) (h l h2 l2 : Int) : Spec Try.prog 10 [.agg n.A, .agg [.val (.bool true), .val (.int .u64 h), .val (.int .u64 l)], .agg [.val (.bool true), .val (.int .u64 h2), .val (.int .u64 l2)]] [] (.tuple [.agg (encN n h l h2 l2).A, .val (.int .i64 0)]) [] := by
  have sv := nvalid_spec n
  rw [hok] at sv
  obtain ⟨q1, q2, q3, q4, q5, q6, q7, q8⟩ := NK.ok_facts hok
  have hb3 := NK.b3_bytes hok hlb
  have hlen3 := n.b3_length
  have hl3 : n.b3.length ≤ 48 := by
    have := fixN_cases n.kind
    rw [hlen3]
    cases n.has <;> simp <;> omega
  have hl3b : 8 ≤ n.b3.length := by
    have := fixN_cases n.kind
    rw [hlen3]
    cases n.has <;> simp <;> omega
  have sc := spec_lendN (t := 5) [.agg [.val (.bool true), .val (.int .u64 h), .val (.int .u64 l)], .agg [.val (.bool true), .val (.int .u64 h2), .val (.int .u64 l2)], .val (.int .i64 58)] 3 rfl rfl (check_spec h l h2 l2 58 n.b3 hb3 (by omega))
  have hsr := sumOf_range (chkL h l h2 l2 58 n.b3)
  have hE : encN n h l h2 l2 = ⟨true, h, l, true, h2, l2, 58, 255, (n.b3.set 2 (sumOf (chkL h l h2 l2 58 n.b3) / 256)).set 3 (sumOf (chkL h l h2 l2 58 n.b3) % 256)⟩ := rfl
  rw [hE]
  clear hE
  generalize sumOf (chkL h l h2 l2 58 n.b3) = s at sc hsr ⊢
  have hB3 : (n.has = true → n.b3 = n.b2 ++ [optZ n.kind, 1] ++ n.link) ∧ (n.has = false → n.b3 = n.b2) := ⟨fun e => by rw [NK.b3, e]; rfl, fun e => by rw [NK.b3, e]; rfl⟩
  generalize n.b3 = B3 at *
  have hB2 : (n.kind = 137 → n.b2 = putN n.b1 24 (a16 n.th n.tl)) ∧ (n.kind ≠ 137 → n.b2 = n.b1) := ⟨fun e => by rw [NK.b2, if_pos e], fun e => by rw [NK.b2, if_neg e]⟩
  have hlen2 := n.b2_length
  generalize n.b2 = B2 at *
  have hB1 : (hasT n.kind = true → n.b1 = putN n.b0 8 (a16 n.th n.tl)) ∧ (hasT n.kind = false → n.b1 = n.b0) := ⟨fun e => by rw [NK.b1, e]; rfl, fun e => by rw [NK.b1, e]; rfl⟩
  have hlen1 := n.b1_length
  generalize n.b1 = B1 at *
  have hB0 : n.b0 = ((List.replicate (fixN n.kind) 0).set 0 n.kind).set 4 (n.flags * 32) := rfl
  have hlen0 := n.b0_length
  generalize n.b0 = B0 at *
  obtain ⟨kind, flags, tv, th, tl, has, l0, l1, l2', l3, l4, l5⟩ := n
  dsimp only [NK.link] at *
  have sf := fix_spec kind
  have st := hasT_spec kind
  have so := opt_spec kind
  have sb := (abytes_v6 th tl).frzW (by simp [a16_length])
  have hal := a16_length th tl
  have hfc := fixN_cases kind
  have hfz : fixZ kind = (fixN kind : Int) - 4 := by unfold fixN fixZ; split <;> (try split) <;> (try split) <;> rfl
  have hfT : hasT kind = true → 24 ≤ fixN kind := hasT_fix
  rw [hfz] at sf
  have wf : IntKind.i64.wrap (4 + ((fixN kind : Int) - 4)) = (fixN kind : Int) := by rw [IntKind.wrap_i64]; omega
  have hf8 : 8 ≤ fixN kind ∧ fixN kind ≤ 40 := by omega
  have hf37 : kind = 137 → fixN kind = 40 := by omega
  generalize fixN kind = m at *
  clear hfz hfc
  have wk : IntKind.u8.wrap kind = kind := by rw [IntKind.wrap_u8]; omega
  have wl : IntKind.u8.wrap (flags * 32) = flags * 32 := by rw [IntKind.wrap_u8]; omega
  have ws : IntKind.i64.wrap (flags * 32) = flags * 32 := by rw [IntKind.wrap_i64]; omega
  have w1 : IntKind.u8.wrap (s / 256) = s / 256 := by rw [IntKind.wrap_u8]; omega
  have w2 : IntKind.u8.wrap s = s % 256 := by rw [IntKind.wrap_u8]
  unfold NK.A at *
  dsimp only at sv
  refine spec_of_awp Try.func10 rfl (Nat.le_of_ble_eq_true rfl) fun ini => ?_
  simp only [Try.ntmps10]
  unfold PK.A
  dsimp only
  (repeat (first | refine awp_reg_seq rfl fun k => ?_ | (apply runk0 rfl rfl (opok_box_ro rfl ?_ ?_ ?_) ?_; rotate_left 2; (· (conv => (lhs; whnf))); (· rfl); (· (conv => (lhs; whnf)))) | (apply runk0 rfl rfl (opok_assign rfl ?_) ?_; rotate_left 1; (· (conv => (lhs; whnf)))) | (apply runk_alloc rfl rfl rfl ?_ ?_ ?_; rotate_left 2; (· (conv => (lhs; whnf; arg 1; whnf))); (· (conv => (lhs; whnf)))) | refine runk_end (by kernel_rfl) ?_))
  refine awp_seq ?_
  (repeat (first | refine awp_reg_seq rfl fun k => ?_ | refine awp_false rfl ?_ | refine awp_skip (?_ : Awp _ _ _ _ _ _) | (apply runk_pure rfl rfl rfl ?_ ?_ ?_ ?_ ?_ ?_ ?_ ?_; rotate_left 6; (· (conv => (lhs; whnf))); (· exact Try.func12); (· rfl); (· rfl); (· exact (sv)); (· (repeat (first | exact Rens.nil | (refine Rens.cons ?_ ?_; (· first | exact Ren.own _ _ _ _ _ _ rfl List.mem_cons_self | exact Ren.own _ _ _ _ _ _ rfl (List.mem_cons_of_mem _ List.mem_cons_self) | (refine (Ren.own _ _ _ _ _ _ ?_ List.mem_cons_self); first | rfl | (simp; done)) | (refine (Ren.own _ _ _ _ _ _ ?_ (List.mem_cons_of_mem _ List.mem_cons_self)); first | rfl | (simp; done)) | exact Ren.ptr _ _ _ _ _ List.mem_cons_self | (refine Ren.pureR ?_ rfl; (first | rfl | (simp; done) | (simp [AVal.pure, AVal.pures, AObj.pure]; done)))))))); (· first | rfl | (simp; done) | simp [AVal.pure, AVal.pures, AObj.pure])) | (apply runk_pure rfl rfl rfl ?_ ?_ ?_ ?_ ?_ ?_ ?_ ?_; rotate_left 6; (· (conv => (lhs; whnf))); (· exact Try.func26); (· rfl); (· rfl); (· exact (sf)); (· (repeat (first | exact Rens.nil | (refine Rens.cons ?_ ?_; (· first | exact Ren.own _ _ _ _ _ _ rfl List.mem_cons_self | exact Ren.own _ _ _ _ _ _ rfl (List.mem_cons_of_mem _ List.mem_cons_self) | (refine (Ren.own _ _ _ _ _ _ ?_ List.mem_cons_self); first | rfl | (simp; done)) | (refine (Ren.own _ _ _ _ _ _ ?_ (List.mem_cons_of_mem _ List.mem_cons_self)); first | rfl | (simp; done)) | exact Ren.ptr _ _ _ _ _ List.mem_cons_self | (refine Ren.pureR ?_ rfl; (first | rfl | (simp; done) | (simp [AVal.pure, AVal.pures, AObj.pure]; done)))))))); (· first | rfl | (simp; done) | simp [AVal.pure, AVal.pures, AObj.pure])) | (first | refine runk_ung rfl rfl rfl rfl ?_ | refine runk_ung rfl rfl rfl (by assumption) ?_) | (apply runk0 rfl rfl (opok_move rfl ?_) ?_; rotate_left 1; (· (conv => (lhs; whnf)))) | (apply runk_assignOwn rfl rfl rfl ?_ ?_ ?_; rotate_left 4; (· (conv => (lhs; whnf))); (· (conv => (lhs; whnf; arg 1; whnf)))) | (first | (apply runk0 rfl rfl (opok_load rfl ?_ ?_ ?_ ?_) ?_; rotate_left 5; (· (conv => (lhs; whnf))); (· (conv => (lhs; whnf; arg 1; whnf; arg 2; whnf))); (· rfl); (· (conv => (lhs; whnf; arg 1; whnf)))) | (apply runk0 rfl rfl (opok_loadR rfl ?_ ?_ ?_) ?_; rotate_left 2; (· (conv => (lhs; whnf))); (· rfl); (· (conv => (lhs; whnf; arg 1; whnf))))) | (apply runk0 rfl rfl (opok_bin rfl ?_ ?_ ?_) ?_; rotate_left 3; (· (conv => (lhs; whnf))); (· (conv => (lhs; whnf))); (· (intro w; go_simp; first | done | rfl))) | (apply runk0 rfl rfl (opok_conv rfl ?_ ?_) ?_; rotate_left 2; (· (conv => (lhs; whnf))); (· (intro w; go_simp; first | done | rfl))) | (apply runk0 rfl rfl (opok_un rfl ?_ ?_) ?_; rotate_left 2; (· (conv => (lhs; whnf))); (· (intro w; go_simp; first | done | rfl))) | (apply runk0 rfl rfl (opok_pick rfl ?_ ?_) ?_; rotate_left 2; (· (conv => (lhs; whnf))); (· first | exact pick_or | exact pick_and | (conv => (lhs; whnf)))) | (apply runk0 rfl rfl (opok_index_own rfl ?_ ?_ ?_ ?_ ?_ ?_ ?_ ?_) ?_; rotate_left 10; (· (conv => (lhs; whnf))); (· (conv => (lhs; whnf; arg 1; whnf; arg 2; whnf))); (· (conv => (lhs; whnf))); (· (conv => (lhs; whnf; arg 1; whnf))); (· (unfold sizeIs; conv => (lhs; whnf; arg 1; whnf))); (· first | omega | (simp; done) | (simp; omega)); (· first | omega | (simp; done) | (simp; omega)); (· first | rfl | (simp; done) | (simp; omega))) | refine runk_end (by kernel_rfl) ?_ | (apply runk0 rfl rfl (opok_faR rfl ?_ rfl rfl ?_ ?_ ?_) ?_; rotate_left 3; (· (conv => (lhs; whnf))); (· (unfold sizeIs; conv => (lhs; whnf; arg 1; whnf))); (· rfl); (· (conv => (lhs; (repeat (whnf; arg 2)); whnf)))) | (apply runk0 rfl rfl (opok_loadRA2 rfl ?_ ?_ ?_ ?_) ?_; rotate_left 2; (· (conv => (lhs; whnf))); (· rfl); (· (unfold sizeIs; conv => (lhs; whnf; arg 1; whnf))); (· rfl)) | (apply runk_setN rfl rfl rfl ?_ ?_ ?_ ?_ ?_ ?_ ?_; rotate_left 8; (· (conv => (lhs; whnf))); (· (conv => (lhs; whnf))); (· rfl); (· (unfold sizeIs; conv => (lhs; whnf; arg 1; whnf))); (· first | (simp only [Int.toNat_natCast, Nat.mul_one, Int.reduceToNat]; done) | (simp only [Int.toNat_natCast, Nat.mul_one, Int.reduceToNat]; rfl) | rfl); (· first | omega | (simp; done) | (simp; omega))) | (apply runk_make rfl rfl rfl ?_ ?_ ?_ ?_ ?_ ?_ ?_ ?_ ?_; rotate_left 3; (· (conv => (lhs; whnf))); (· (conv => (lhs; whnf))); (· (conv => (lhs; whnf; arg 1; whnf))); (· (unfold sizeIs; conv => (lhs; whnf; arg 1; whnf))); (· (conv => (lhs; whnf; arg 1; whnf))); (· (conv => (lhs; whnf; arg 1; whnf))); (· first | omega | (simp; done) | (simp; omega)); (· first | omega | (simp; done) | (simp; omega)))))
  rename_i ka kb kc kd
  have htn : (m : Int).toNat = m := by omega
  refine awp_less (st' := ⟨[(3, .rref [.val (.int .i64 kind), .val (.int .i64 flags), .val (.bool tv), .val (.int .u64 th), .val (.int .u64 tl), .val (.bool has), .val (.int .u8 l0), .val (.int .u8 l1), .val (.int .u8 l2'), .val (.int .u8 l3), .val (.int .u8 l4), .val (.int .u8 l5)]), (4, .rref [.val (.bool true), .val (.int .u64 h), .val (.int .u64 l)]), (5, .rref [.val (.bool true), .val (.int .u64 h2), .val (.int .u64 l2)]), (6, .ptr 6 ka 0), (8, .own 8 kc m)], [(6, some (ka, .box 39 [.val (.bool false), .val (.int .u64 0), .val (.int .u64 0), .val (.bool false), .val (.int .u64 0), .val (.int .u64 0), .val (.int .i64 0), .val (.int .i64 0), .val (.slice none 0 0)])), (8, some (kc, .row 5 1 (ints .u8 B0)))]⟩) ?_ ?_
  · (refine leB_of ?_ ?_; (· (repeat (first | exact EnvIs.nil | (refine EnvIs.cons ?_ ?_; (· first | rfl | ((conv => (lhs; whnf)); first | (simp [ints, hB0]; done) | (simp [ints, hB0]; omega))))))); (· (repeat (first | exact ObjsAre.nil | (refine ObjsAre.cons ?_ ?_; (· first | rfl | ((conv => (lhs; whnf)); first | (simp [ints, hB0]; done) | (simp [ints, hB0]; omega))))))))
  refine awp_to (fun _ : Unit => ⟨[(3, .rref [.val (.int .i64 kind), .val (.int .i64 flags), .val (.bool tv), .val (.int .u64 th), .val (.int .u64 tl), .val (.bool has), .val (.int .u8 l0), .val (.int .u8 l1), .val (.int .u8 l2'), .val (.int .u8 l3), .val (.int .u8 l4), .val (.int .u8 l5)]), (4, .rref [.val (.bool true), .val (.int .u64 h), .val (.int .u64 l)]), (5, .rref [.val (.bool true), .val (.int .u64 h2), .val (.int .u64 l2)]), (6, .ptr 6 ka 0), (8, .own 8 kc m)], [(6, some (ka, .box 39 [.val (.bool false), .val (.int .u64 0), .val (.int .u64 0), .val (.bool false), .val (.int .u64 0), .val (.int .u64 0), .val (.int .i64 0), .val (.int .i64 0), .val (.slice none 0 0)])), (8, some (kc, .row 5 1 (ints .u8 B1)))]⟩) ?_ fun _ => ?_
  · (repeat (first | refine awp_reg_seq rfl fun k => ?_ | (apply runk_pure rfl rfl rfl ?_ ?_ ?_ ?_ ?_ ?_ ?_ ?_; rotate_left 6; (· (conv => (lhs; whnf))); (· exact Try.func27); (· rfl); (· rfl); (· exact (st)); (· (repeat (first | exact Rens.nil | (refine Rens.cons ?_ ?_; (· first | exact Ren.own _ _ _ _ _ _ rfl List.mem_cons_self | exact Ren.own _ _ _ _ _ _ rfl (List.mem_cons_of_mem _ List.mem_cons_self) | (refine (Ren.own _ _ _ _ _ _ ?_ List.mem_cons_self); first | rfl | (simp; done)) | (refine (Ren.own _ _ _ _ _ _ ?_ (List.mem_cons_of_mem _ List.mem_cons_self)); first | rfl | (simp; done)) | exact Ren.ptr _ _ _ _ _ List.mem_cons_self | (refine Ren.pureR ?_ rfl; (first | rfl | (simp; done) | (simp [AVal.pure, AVal.pures, AObj.pure]; done)))))))); (· first | rfl | (simp; done) | simp [AVal.pure, AVal.pures, AObj.pure])) | (first | (apply runk0 rfl rfl (opok_load rfl ?_ ?_ ?_ ?_) ?_; rotate_left 5; (· (conv => (lhs; whnf))); (· (conv => (lhs; whnf; arg 1; whnf; arg 2; whnf))); (· rfl); (· (conv => (lhs; whnf; arg 1; whnf)))) | (apply runk0 rfl rfl (opok_loadR rfl ?_ ?_ ?_) ?_; rotate_left 2; (· (conv => (lhs; whnf))); (· rfl); (· (conv => (lhs; whnf; arg 1; whnf))))) | refine runk_end (by kernel_rfl) ?_ | (apply runk0 rfl rfl (opok_faR rfl ?_ rfl rfl ?_ ?_ ?_) ?_; rotate_left 3; (· (conv => (lhs; whnf))); (· (unfold sizeIs; conv => (lhs; whnf; arg 1; whnf))); (· rfl); (· (conv => (lhs; (repeat (whnf; arg 2)); whnf))))))
    refine awp_if rfl (fun hc => ?_) (fun hc => ?_)
    · obtain ⟨rfl, -⟩ := q6 hc
      have hm24 := hfT hc
      have e := hB1.1 hc
      clear hB2 hB3 hB1
      subst e
      (repeat (first | refine awp_reg rfl fun k => ?_ | (apply runk_pure rfl rfl rfl ?_ ?_ ?_ ?_ ?_ ?_ ?_ ?_; rotate_left 6; (· (conv => (lhs; whnf))); (· exact Try.func28); (· rfl); (· rfl); (· exact (sb)); (· (repeat (first | exact Rens.nil | (refine Rens.cons ?_ ?_; (· first | exact Ren.own _ _ _ _ _ _ rfl List.mem_cons_self | exact Ren.own _ _ _ _ _ _ rfl (List.mem_cons_of_mem _ List.mem_cons_self) | (refine (Ren.own _ _ _ _ _ _ ?_ List.mem_cons_self); first | rfl | (simp; done)) | (refine (Ren.own _ _ _ _ _ _ ?_ (List.mem_cons_of_mem _ List.mem_cons_self)); first | rfl | (simp; done)) | exact Ren.ptr _ _ _ _ _ List.mem_cons_self | (refine Ren.pureR ?_ rfl; (first | rfl | (simp; done) | (simp [AVal.pure, AVal.pures, AObj.pure]; done)))))))); (· first | rfl | (simp; done) | simp [AVal.pure, AVal.pures, AObj.pure])) | (apply runk0 rfl rfl (opok_move rfl ?_) ?_; rotate_left 1; (· (conv => (lhs; whnf)))) | refine runk_end (by kernel_rfl) ?_ | (apply runk0 rfl rfl (opok_faR rfl ?_ rfl rfl ?_ ?_ ?_) ?_; rotate_left 3; (· (conv => (lhs; whnf))); (· (unfold sizeIs; conv => (lhs; whnf; arg 1; whnf))); (· rfl); (· (conv => (lhs; (repeat (whnf; arg 2)); whnf)))) | (apply runk0 rfl rfl (opok_loadRA2 rfl ?_ ?_ ?_ ?_) ?_; rotate_left 2; (· (conv => (lhs; whnf))); (· rfl); (· (unfold sizeIs; conv => (lhs; whnf; arg 1; whnf))); (· rfl)) | (apply runk0 rfl rfl (opok_slice_sub rfl ?_ ?_ ?_ ?_ ?_ ?_ ?_ ?_) ?_; rotate_left 10; (· (conv => (lhs; whnf))); (· (conv => (lhs; whnf; arg 1; whnf; arg 2; whnf))); (· first | rfl | (conv => (lhs; whnf))); (· (conv => (lhs; whnf; arg 1; whnf))); (· (unfold sizeIs; conv => (lhs; whnf; arg 1; whnf))); (· first | rfl | (simp; done) | (simp; omega)); (· first | omega | (simp; done) | (simp; omega)); (· first | omega | (simp; done) | (simp; omega))) | (apply runk_copy rfl rfl rfl ?_ ?_ ?_ rfl ?_ ?_ ?_ ?_ ?_ ?_; rotate_left 9; (· (conv => (lhs; whnf))); (· (conv => (lhs; whnf))); (· rfl); (· (unfold sizeIs; conv => (lhs; whnf; arg 1; whnf))); (· first | omega | (simp; done) | (simp; omega)); (· first | omega | (simp; done) | (simp; omega)); (· first | omega | (simp; done) | (simp; omega)); (· first | rfl | simp))))
      refine ⟨(), ?_⟩
      (refine leB_of ?_ ?_; (· (repeat (first | exact EnvIs.nil | (refine EnvIs.cons ?_ ?_; (· first | rfl | ((conv => (lhs; whnf)); first | (simp [ints, putN]; done) | (simp [ints, putN]; omega))))))); (· (repeat (first | exact ObjsAre.nil | (refine ObjsAre.cons ?_ ?_; (· first | rfl | ((conv => (lhs; whnf)); first | (simp [ints, putN]; done) | (simp [ints, putN]; omega))))))))
    · have e := hB1.2 hc
      clear hB2 hB3 hB1
      subst e
      refine awp_skip ?_
      refine ⟨(), ?_⟩
      (refine leB_of ?_ ?_; (· (repeat (first | exact EnvIs.nil | (refine EnvIs.cons ?_ ?_; (· first | rfl | ((conv => (lhs; whnf)); first | (simp [ints]; done) | (simp [ints]; omega))))))); (· (repeat (first | exact ObjsAre.nil | (refine ObjsAre.cons ?_ ?_; (· first | rfl | ((conv => (lhs; whnf)); first | (simp [ints]; done) | (simp [ints]; omega))))))))
  refine awp_to (fun _ : Unit => ⟨[(3, .rref [.val (.int .i64 kind), .val (.int .i64 flags), .val (.bool tv), .val (.int .u64 th), .val (.int .u64 tl), .val (.bool has), .val (.int .u8 l0), .val (.int .u8 l1), .val (.int .u8 l2'), .val (.int .u8 l3), .val (.int .u8 l4), .val (.int .u8 l5)]), (4, .rref [.val (.bool true), .val (.int .u64 h), .val (.int .u64 l)]), (5, .rref [.val (.bool true), .val (.int .u64 h2), .val (.int .u64 l2)]), (6, .ptr 6 ka 0), (8, .own 8 kc m)], [(6, some (ka, .box 39 [.val (.bool false), .val (.int .u64 0), .val (.int .u64 0), .val (.bool false), .val (.int .u64 0), .val (.int .u64 0), .val (.int .i64 0), .val (.int .i64 0), .val (.slice none 0 0)])), (8, some (kc, .row 5 1 (ints .u8 B2)))]⟩) ?_ fun _ => ?_
  · (repeat (first | refine awp_reg_seq rfl fun k => ?_ | (first | (apply runk0 rfl rfl (opok_load rfl ?_ ?_ ?_ ?_) ?_; rotate_left 5; (· (conv => (lhs; whnf))); (· (conv => (lhs; whnf; arg 1; whnf; arg 2; whnf))); (· rfl); (· (conv => (lhs; whnf; arg 1; whnf)))) | (apply runk0 rfl rfl (opok_loadR rfl ?_ ?_ ?_) ?_; rotate_left 2; (· (conv => (lhs; whnf))); (· rfl); (· (conv => (lhs; whnf; arg 1; whnf))))) | (apply runk0 rfl rfl (opok_bin rfl ?_ ?_ ?_) ?_; rotate_left 3; (· (conv => (lhs; whnf))); (· (conv => (lhs; whnf))); (· (intro w; go_simp; first | done | rfl))) | refine runk_end (by kernel_rfl) ?_ | (apply runk0 rfl rfl (opok_faR rfl ?_ rfl rfl ?_ ?_ ?_) ?_; rotate_left 3; (· (conv => (lhs; whnf))); (· (unfold sizeIs; conv => (lhs; whnf; arg 1; whnf))); (· rfl); (· (conv => (lhs; (repeat (whnf; arg 2)); whnf))))))
    refine awp_if rfl (fun hc => ?_) (fun hc => ?_)
    · have hc1 : kind = 137 := by simpa using hc
      obtain ⟨rfl, -⟩ := q6 (by rw [hc1]; rfl)
      have hm40 := hf37 hc1
      have e := hB2.1 hc1
      clear hB2 hB3 hB1
      subst e
      (repeat (first | refine awp_reg rfl fun k => ?_ | (apply runk_pure rfl rfl rfl ?_ ?_ ?_ ?_ ?_ ?_ ?_ ?_; rotate_left 6; (· (conv => (lhs; whnf))); (· exact Try.func28); (· rfl); (· rfl); (· exact (sb)); (· (repeat (first | exact Rens.nil | (refine Rens.cons ?_ ?_; (· first | exact Ren.own _ _ _ _ _ _ rfl List.mem_cons_self | exact Ren.own _ _ _ _ _ _ rfl (List.mem_cons_of_mem _ List.mem_cons_self) | (refine (Ren.own _ _ _ _ _ _ ?_ List.mem_cons_self); first | rfl | (simp; done)) | (refine (Ren.own _ _ _ _ _ _ ?_ (List.mem_cons_of_mem _ List.mem_cons_self)); first | rfl | (simp; done)) | exact Ren.ptr _ _ _ _ _ List.mem_cons_self | (refine Ren.pureR ?_ rfl; (first | rfl | (simp; done) | (simp [AVal.pure, AVal.pures, AObj.pure]; done)))))))); (· first | rfl | (simp; done) | simp [AVal.pure, AVal.pures, AObj.pure])) | (apply runk0 rfl rfl (opok_move rfl ?_) ?_; rotate_left 1; (· (conv => (lhs; whnf)))) | refine runk_end (by kernel_rfl) ?_ | (apply runk0 rfl rfl (opok_faR rfl ?_ rfl rfl ?_ ?_ ?_) ?_; rotate_left 3; (· (conv => (lhs; whnf))); (· (unfold sizeIs; conv => (lhs; whnf; arg 1; whnf))); (· rfl); (· (conv => (lhs; (repeat (whnf; arg 2)); whnf)))) | (apply runk0 rfl rfl (opok_loadRA2 rfl ?_ ?_ ?_ ?_) ?_; rotate_left 2; (· (conv => (lhs; whnf))); (· rfl); (· (unfold sizeIs; conv => (lhs; whnf; arg 1; whnf))); (· rfl)) | (apply runk0 rfl rfl (opok_slice_sub rfl ?_ ?_ ?_ ?_ ?_ ?_ ?_ ?_) ?_; rotate_left 10; (· (conv => (lhs; whnf))); (· (conv => (lhs; whnf; arg 1; whnf; arg 2; whnf))); (· first | rfl | (conv => (lhs; whnf))); (· (conv => (lhs; whnf; arg 1; whnf))); (· (unfold sizeIs; conv => (lhs; whnf; arg 1; whnf))); (· first | rfl | (simp; done) | (simp; omega)); (· first | omega | (simp; done) | (simp; omega)); (· first | omega | (simp; done) | (simp; omega))) | (apply runk_copy rfl rfl rfl ?_ ?_ ?_ rfl ?_ ?_ ?_ ?_ ?_ ?_; rotate_left 9; (· (conv => (lhs; whnf))); (· (conv => (lhs; whnf))); (· rfl); (· (unfold sizeIs; conv => (lhs; whnf; arg 1; whnf))); (· first | omega | (simp; done) | (simp; omega)); (· first | omega | (simp; done) | (simp; omega)); (· first | omega | (simp; done) | (simp; omega)); (· first | rfl | simp))))
      refine ⟨(), ?_⟩
      (refine leB_of ?_ ?_; (· (repeat (first | exact EnvIs.nil | (refine EnvIs.cons ?_ ?_; (· first | rfl | ((conv => (lhs; whnf)); first | (simp [ints, putN]; done) | (simp [ints, putN]; omega))))))); (· (repeat (first | exact ObjsAre.nil | (refine ObjsAre.cons ?_ ?_; (· first | rfl | ((conv => (lhs; whnf)); first | (simp [ints, putN]; done) | (simp [ints, putN]; omega))))))))
    · have hc1 : kind ≠ 137 := by simpa using hc
      have e := hB2.2 hc1
      clear hB2 hB3 hB1
      subst e
      refine awp_skip ?_
      refine ⟨(), ?_⟩
      (refine leB_of ?_ ?_; (· (repeat (first | exact EnvIs.nil | (refine EnvIs.cons ?_ ?_; (· first | rfl | ((conv => (lhs; whnf)); first | (simp [ints]; done) | (simp [ints]; omega))))))); (· (repeat (first | exact ObjsAre.nil | (refine ObjsAre.cons ?_ ?_; (· first | rfl | ((conv => (lhs; whnf)); first | (simp [ints]; done) | (simp [ints]; omega))))))))
  refine awp_to (fun i : Nat => ⟨[(3, .rref [.val (.int .i64 kind), .val (.int .i64 flags), .val (.bool tv), .val (.int .u64 th), .val (.int .u64 tl), .val (.bool has), .val (.int .u8 l0), .val (.int .u8 l1), .val (.int .u8 l2'), .val (.int .u8 l3), .val (.int .u8 l4), .val (.int .u8 l5)]), (4, .rref [.val (.bool true), .val (.int .u64 h), .val (.int .u64 l)]), (5, .rref [.val (.bool true), .val (.int .u64 h2), .val (.int .u64 l2)]), (6, .ptr 6 ka 0), (8, .own 8 i B3.length)], [(6, some (ka, .box 39 [.val (.bool false), .val (.int .u64 0), .val (.int .u64 0), .val (.bool false), .val (.int .u64 0), .val (.int .u64 0), .val (.int .i64 0), .val (.int .i64 0), .val (.slice none 0 0)])), (8, some (i, .row 5 1 (ints .u8 B3)))]⟩) ?_ fun ki => ?_
  · (repeat (first | refine awp_reg_seq rfl fun k => ?_ | (first | (apply runk0 rfl rfl (opok_load rfl ?_ ?_ ?_ ?_) ?_; rotate_left 5; (· (conv => (lhs; whnf))); (· (conv => (lhs; whnf; arg 1; whnf; arg 2; whnf))); (· rfl); (· (conv => (lhs; whnf; arg 1; whnf)))) | (apply runk0 rfl rfl (opok_loadR rfl ?_ ?_ ?_) ?_; rotate_left 2; (· (conv => (lhs; whnf))); (· rfl); (· (conv => (lhs; whnf; arg 1; whnf))))) | refine runk_end (by kernel_rfl) ?_ | (apply runk0 rfl rfl (opok_faR rfl ?_ rfl rfl ?_ ?_ ?_) ?_; rotate_left 3; (· (conv => (lhs; whnf))); (· (unfold sizeIs; conv => (lhs; whnf; arg 1; whnf))); (· rfl); (· (conv => (lhs; (repeat (whnf; arg 2)); whnf))))))
    refine awp_if rfl (fun hc => ?_) (fun hc => ?_)
    · have e := hB3.1 hc
      clear hB3
      (repeat (first | refine awp_reg_seq rfl fun k => ?_ | refine awp_reg rfl fun k => ?_ | (apply runk_pure rfl rfl rfl ?_ ?_ ?_ ?_ ?_ ?_ ?_ ?_; rotate_left 6; (· (conv => (lhs; whnf))); (· exact Try.func29); (· rfl); (· rfl); (· exact (so)); (· (repeat (first | exact Rens.nil | (refine Rens.cons ?_ ?_; (· first | exact Ren.own _ _ _ _ _ _ rfl List.mem_cons_self | exact Ren.own _ _ _ _ _ _ rfl (List.mem_cons_of_mem _ List.mem_cons_self) | (refine (Ren.own _ _ _ _ _ _ ?_ List.mem_cons_self); first | rfl | (simp; done)) | (refine (Ren.own _ _ _ _ _ _ ?_ (List.mem_cons_of_mem _ List.mem_cons_self)); first | rfl | (simp; done)) | exact Ren.ptr _ _ _ _ _ List.mem_cons_self | (refine Ren.pureR ?_ rfl; (first | rfl | (simp; done) | (simp [AVal.pure, AVal.pures, AObj.pure]; done)))))))); (· first | rfl | (simp; done) | simp [AVal.pure, AVal.pures, AObj.pure])) | (apply runk0 rfl rfl (opok_move rfl ?_) ?_; rotate_left 1; (· (conv => (lhs; whnf)))) | (apply runk_assignOwn rfl rfl rfl ?_ ?_ ?_; rotate_left 4; (· (conv => (lhs; whnf))); (· (conv => (lhs; whnf; arg 1; whnf)))) | (first | (apply runk0 rfl rfl (opok_load rfl ?_ ?_ ?_ ?_) ?_; rotate_left 5; (· (conv => (lhs; whnf))); (· (conv => (lhs; whnf; arg 1; whnf; arg 2; whnf))); (· rfl); (· (conv => (lhs; whnf; arg 1; whnf)))) | (apply runk0 rfl rfl (opok_loadR rfl ?_ ?_ ?_) ?_; rotate_left 2; (· (conv => (lhs; whnf))); (· rfl); (· (conv => (lhs; whnf; arg 1; whnf))))) | (apply runk_lit rfl rfl rfl ?_ ?_ ?_ ?_ ?_ ?_ ?_ ?_ ?_ ?_ ?_; rotate_left 4; (· (conv => (lhs; whnf; arg 1; whnf))); (· (unfold sizeIs; conv => (lhs; whnf; arg 1; whnf))); (· (conv => (lhs; whnf; arg 1; whnf))); (· rfl); (· rfl); (· rfl); (· rfl); (· (repeat (first | exact PartsAre.nil _ | (apply PartsAre.cons; (· (conv => (lhs; whnf))))))); (· first | rfl | exact one_ints _ _ | exact widths_ints _ _ | simp); (· first | rfl | exact one_ints _ _ | exact widths_ints _ _ | simp)) | refine runk_end (by kernel_rfl) ?_ | (apply runk0 rfl rfl (opok_faR rfl ?_ rfl rfl ?_ ?_ ?_) ?_; rotate_left 3; (· (conv => (lhs; whnf))); (· (unfold sizeIs; conv => (lhs; whnf; arg 1; whnf))); (· rfl); (· (conv => (lhs; (repeat (whnf; arg 2)); whnf)))) | (apply runk0 rfl rfl (opok_arrRo rfl ?_ ?_ ?_ ?_ ?_) ?_; rotate_left 3; (· (conv => (lhs; whnf))); (· (conv => (lhs; whnf; arg 1; whnf))); (· (unfold sizeIs; conv => (lhs; whnf; arg 1; whnf))); (· rfl); (· rfl)) | (apply runk_app rfl rfl rfl ?_ ?_ ?_ ?_ ?_ ?_ ?_ ?_ ?_ ?_ ?_ ?_ ?_ ?_ ?_ ?_; rotate_left 11; (· (conv => (lhs; whnf))); (· (conv => (lhs; whnf))); (· (conv => (lhs; whnf; arg 1; whnf))); (· (unfold sizeIs; conv => (lhs; whnf; arg 1; whnf))); (· (conv => (lhs; whnf; arg 1; whnf))); (· (conv => (lhs; whnf; arg 1; whnf))); (· rfl); (· rfl); (· rfl); (· first | exact .nil | (refine .own _ _ _ _ rfl ?_; first | rfl | (simp; done)) | (refine .pre _ _ _ _ rfl ?_ ?_; (· first | omega | (simp; done) | (simp; omega)); (· first | exact widths_ints _ _ | rfl | (simp; done)))); (· first | exact .ro _ | (refine .own _ _ _ _ _ _ rfl ?_; first | rfl | (simp; done)) | exact .nil | (refine .pre _ _ _ _ _ _ rfl ?_ ?_; (· first | omega | (simp; done) | (simp; omega)); (· first | exact widths_ints _ _ | rfl | (simp; done))) | (refine .sub _ _ _ _ _ _ _ rfl ?_ ?_; (· first | omega | (simp; done) | (simp; omega)); (· first | exact widths_ints _ _ | rfl | (simp; done)))); (· first | rfl | exact one_ints _ _ | exact widths_ints _ _ | (simp only [ints_takeR, ints_dropR]; first | exact one_ints _ _ | exact widths_ints _ _) | simp); (· first | rfl | exact one_ints _ _ | exact widths_ints _ _ | (simp only [ints_takeR, ints_dropR]; first | exact one_ints _ _ | exact widths_ints _ _) | simp); (· first | omega | (simp; done) | (simp; omega)); (· first | (simp only [List.nil_append, ints_takeR, ints_dropR, ints_one, ints_consR, ints_append]; done) | (simp only [List.nil_append, ints_takeR, ints_dropR, ints_one, ints_consR, ints_append]; rfl) | rfl))))
      have e4 : List.take m B2 = B2 := List.take_of_length_le (by omega)
      subst e
      refine ⟨k, ?_⟩
      (refine leB_of ?_ ?_; (· (repeat (first | exact EnvIs.nil | (refine EnvIs.cons ?_ ?_; (· first | rfl | ((conv => (lhs; whnf)); first | (simp [ints, e4]; done) | (simp [ints, e4]; omega))))))); (· (repeat (first | exact ObjsAre.nil | (refine ObjsAre.cons ?_ ?_; (· first | rfl | ((conv => (lhs; whnf)); first | (simp [ints, e4]; done) | (simp [ints, e4]; omega))))))))
    · have e := hB3.2 hc
      clear hB2 hB3 hB1
      subst e
      refine awp_skip ?_
      refine ⟨kc, ?_⟩
      (refine leB_of ?_ ?_; (· (repeat (first | exact EnvIs.nil | (refine EnvIs.cons ?_ ?_; (· first | rfl | ((conv => (lhs; whnf)); first | (simp [ints, hlen2]; done) | (simp [ints, hlen2]; omega))))))); (· (repeat (first | exact ObjsAre.nil | (refine ObjsAre.cons ?_ ?_; (· first | rfl | ((conv => (lhs; whnf)); first | (simp [ints, hlen2]; done) | (simp [ints, hlen2]; omega))))))))
  refine awp_reg_seq rfl fun k13 => ?_
  (repeat (first | (apply runk0 rfl rfl (opok_move rfl ?_) ?_; rotate_left 1; (· (conv => (lhs; whnf)))) | (apply runk0 rfl rfl (opok_loadRA2 rfl ?_ ?_ ?_ ?_) ?_; rotate_left 2; (· (conv => (lhs; whnf))); (· rfl); (· (unfold sizeIs; conv => (lhs; whnf; arg 1; whnf))); (· rfl))))
  (apply runk_withJ rfl rfl rfl ?_ ?_ ?_ ?_ ?_ ?_ ?_ ?_ ?_ ?_ ?_ ?_; rotate_left 11; (· (conv => (lhs; whnf))); (· exact Try.func30); (· rfl); (· rfl); (· exact (sc)); (· (repeat (first | exact Rens.nil | (refine Rens.cons ?_ ?_; (· first | exact Ren.own _ _ _ _ _ _ rfl List.mem_cons_self | exact Ren.own _ _ _ _ _ _ rfl (List.mem_cons_of_mem _ List.mem_cons_self) | (refine (Ren.own _ _ _ _ _ _ ?_ List.mem_cons_self); first | rfl | (simp; done)) | (refine (Ren.own _ _ _ _ _ _ ?_ (List.mem_cons_of_mem _ List.mem_cons_self)); first | rfl | (simp; done)) | exact Ren.ptr _ _ _ _ _ List.mem_cons_self | (refine Ren.pureR ?_ rfl; (first | rfl | (simp; done) | (simp [AVal.pure, AVal.pures, AObj.pure]; done)))))))); (· rfl); (· first | rfl | (simp; done) | simp [AVal.pure, AVal.pures, AObj.pure]); (· first | rfl | (simp; done) | simp [AVal.pure, AVal.pures, AObj.pure]); (· first | rfl | (simp; done) | simp [AVal.pure, AVal.pures, AObj.pure]); (· simp))
  (repeat (first | (apply runk0 rfl rfl (opok_assign rfl ?_) ?_; rotate_left 1; (· (conv => (lhs; whnf)))) | refine runk_end (by kernel_rfl) ?_))
  refine awp_reg_seq rfl fun k14 => ?_
  (repeat (first | (apply runk0 rfl rfl (opok_move rfl ?_) ?_; rotate_left 1; (· (conv => (lhs; whnf)))) | (apply runk0 rfl rfl (opok_bin rfl ?_ ?_ ?_) ?_; rotate_left 3; (· (conv => (lhs; whnf))); (· (conv => (lhs; whnf))); (· (intro w; go_simp; first | done | rfl))) | (apply runk0 rfl rfl (opok_conv rfl ?_ ?_) ?_; rotate_left 2; (· (conv => (lhs; whnf))); (· (intro w; go_simp; first | done | rfl))) | (apply runk0 rfl rfl (opok_index_own rfl ?_ ?_ ?_ ?_ ?_ ?_ ?_ ?_) ?_; rotate_left 10; (· (conv => (lhs; whnf))); (· (conv => (lhs; whnf; arg 1; whnf; arg 2; whnf))); (· (conv => (lhs; whnf))); (· (conv => (lhs; whnf; arg 1; whnf))); (· (unfold sizeIs; conv => (lhs; whnf; arg 1; whnf))); (· first | omega | (simp; done) | (simp; omega)); (· first | omega | (simp; done) | (simp; omega)); (· first | rfl | (simp; done) | (simp; omega))) | refine runk_end (by kernel_rfl) ?_ | (apply runk_setN rfl rfl rfl ?_ ?_ ?_ ?_ ?_ ?_ ?_; rotate_left 8; (· (conv => (lhs; whnf))); (· (conv => (lhs; whnf))); (· rfl); (· (unfold sizeIs; conv => (lhs; whnf; arg 1; whnf))); (· first | (simp only [Int.toNat_natCast, Nat.mul_one, Int.reduceToNat]; done) | (simp only [Int.toNat_natCast, Nat.mul_one, Int.reduceToNat]; rfl) | rfl); (· first | omega | (simp; done) | (simp; omega)))))
  have eL : (ints .u8 ((B3.set 2 (s / 256)).set 3 (s % 256))).length = B3.length := by simp
  refine awp_less (st' := ⟨[(4, .rref [.val (.bool true), .val (.int .u64 h), .val (.int .u64 l)]), (5, .rref [.val (.bool true), .val (.int .u64 h2), .val (.int .u64 l2)]), (6, .ptr 6 ka 0), (8, .own 8 ki B3.length)], [(6, some (ka, .box 39 [.val (.bool false), .val (.int .u64 0), .val (.int .u64 0), .val (.bool false), .val (.int .u64 0), .val (.int .u64 0), .val (.int .i64 0), .val (.int .i64 0), .val (.slice none 0 0)])), (8, some (ki, .row 5 1 (ints .u8 ((B3.set 2 (s / 256)).set 3 (s % 256)))))]⟩) ?_ ?_
  · (refine leB_of ?_ ?_; (· (repeat (first | exact EnvIs.nil | (refine EnvIs.cons ?_ ?_; (· first | rfl | ((conv => (lhs; whnf)); first | (simp [ints]; done) | (simp [ints]; omega))))))); (· (repeat (first | exact ObjsAre.nil | (refine ObjsAre.cons ?_ ?_; (· first | rfl | ((conv => (lhs; whnf)); first | (simp [ints]; done) | (simp [ints]; omega))))))))
  rw [← eL]
  (refine awp_frz 8 ki (ints .u8 ((B3.set 2 (s / 256)).set 3 (s % 256))) ([(4, .rref [.val (.bool true), .val (.int .u64 h), .val (.int .u64 l)]), (5, .rref [.val (.bool true), .val (.int .u64 h2), .val (.int .u64 l2)]), (6, .ptr 6 ka 0), (8, .ro (ints .u8 ((B3.set 2 (s / 256)).set 3 (s % 256))))]) ([(6, some (ka, .box 39 [.val (.bool false), .val (.int .u64 0), .val (.int .u64 0), .val (.bool false), .val (.int .u64 0), .val (.int .u64 0), .val (.int .i64 0), .val (.int .i64 0), .val (.slice none 0 0)]))]) rfl ?_ ?_ ?_; (· (repeat (first | exact EnvFrz.nil | (refine EnvFrz.cons rfl ?_ ?_; (· first | exact .one (.same _) | (refine .one (.own _ ?_); first | rfl | (simp; done) | (simp only [length_ints]; omega)) | (refine .agg ?_; (repeat (first | exact Frzs.nil | (refine Frzs.cons ?_ ?_; (· first | exact Frz1.same _ | (refine Frz1.own _ ?_; first | rfl | (simp; done) | (simp only [length_ints]; omega)) | exact Frz1.any _))))) | (refine .tuple ?_; (repeat (first | exact Frzs.nil | (refine Frzs.cons ?_ ?_; (· first | exact Frz1.same _ | (refine Frz1.own _ ?_; first | rfl | (simp; done) | (simp only [length_ints]; omega)) | exact Frz1.any _)))))))))); (· (repeat (first | exact ObjsFrz.nil | (refine ObjsFrz.cons rfl rfl ?_ ?_; (· first | exact .same _ | (refine .box ?_; (repeat (first | exact Frzs.nil | (refine Frzs.cons ?_ ?_; (· first | exact Frz1.same _ | (refine Frz1.own _ ?_; first | rfl | (simp; done) | (simp only [length_ints]; omega)) | exact Frz1.any _))))) | (refine .row ?_ rfl; (repeat (first | exact Frzs.nil | (refine Frzs.cons ?_ ?_; (· first | exact Frz1.same _ | (refine Frz1.own _ ?_; first | rfl | (simp; done) | (simp only [length_ints]; omega)) | exact Frz1.any _)))))))))))
  (repeat (first | refine awp_reg_seq rfl fun k => ?_ | (refine awp_ret ?_; (apply ends_pure ?_ ?_ ?_ ?_ ?_ (.inl rfl); rotate_left 1; (· first | exact res_one rfl rfl | exact res_two rfl rfl rfl | exact res_none rfl | exact res_three rfl rfl rfl rfl | exact res_cell rfl rfl rfl rfl rfl | exact res_cell2 rfl rfl rfl rfl rfl rfl | exact res3 rfl (rv_cell rfl rfl rfl rfl) (rv_tmp rfl) (rv_tmp rfl) | exact res3 rfl (rv_cell rfl rfl rfl rfl) (rv_cell rfl rfl rfl rfl) (rv_cell rfl rfl rfl rfl)); (· first | rfl | ((conv => (lhs; whnf)); first | rfl | (simp; done))); (· first | rfl | (simp; done) | (simp [AVal.pure, AVal.pures, AObj.pure]; done)); (· rfl); (· rfl))) | (apply runk0 rfl rfl (opok_move rfl ?_) ?_; rotate_left 1; (· (conv => (lhs; whnf)))) | (apply runk0 rfl rfl (opok_assign rfl ?_) ?_; rotate_left 1; (· (conv => (lhs; whnf)))) | (apply runk0 rfl rfl (opok_build rfl ?_ ?_ ?_ ?_ ?_) ?_; rotate_left 5; (· (conv => (lhs; whnf; arg 1; whnf))); (· (conv => (lhs; whnf; arg 1; repeat (whnf; arg 2)))); (· (conv => (lhs; whnf; arg 1; whnf))); (· (repeat (first | exact PartsOf.nil | (apply PartsOf.cons; (· (conv => (lhs; whnf))))))); (· (conv => (lhs; whnf; arg 1; repeat (whnf; arg 2))))) | (apply runk_store rfl rfl rfl ?_ ?_ ?_ ?_ ?_ ?_ ?_ ?_ ?_ ?_ ?_; rotate_left 9; (· (conv => (lhs; whnf))); (· (conv => (lhs; whnf))); (· (conv => (lhs; whnf; arg 1; whnf; arg 2; whnf))); (· rfl); (· (conv => (lhs; whnf))); (· rfl); (· (unfold sizeIs; conv => (lhs; whnf; arg 1; whnf))); (· rfl); (· rfl); (· (conv => (lhs; repeat (whnf; arg 2))))) | refine runk_end (by kernel_rfl) ?_ | (apply runk0 rfl rfl (opok_loadRA2 rfl ?_ ?_ ?_ ?_) ?_; rotate_left 2; (· (conv => (lhs; whnf))); (· rfl); (· (unfold sizeIs; conv => (lhs; whnf; arg 1; whnf))); (· rfl))))
end Go.Proofs.Ytogchaijglbjaaa
