/-
  ArpBack (layer 5): the walk.
-/
import Derived.Test.YtghhidpggnbfgaaArpDecode
import Derived.Test.YtghhidpggnbfgaaAwake5
import Derived.Test.YtghhidpggnbfgaaMsg
import Derived.Deep.DeepCutAuto
namespace Go.Proofs.Ytghhidpggnbfgaa
open Go.RowKit
theorem stays_below {D : Nat} {w w1 w2 : World} (hb : Below w.heap.size w w1) (hs : Stays (· = D) w1 w2) (hD : w.heap.size ≤ D) : Below w.heap.size w w2 :=
  ⟨hs.os.trans hb.os, hs.tape.trans hb.tape, hs.output.trans hb.output, Nat.le_trans hb.size hs.size, fun k hk => (hs.block k (Nat.lt_of_lt_of_le hk hb.size) (by omega)).trans (hb.block k hk)⟩
theorem head_yes (t : List Int) : headB ([0, 1, 8, 0, 6, 4] ++ t) = true := by simp [headB, Lib.hasPrefix, Lib.bytesOf, List.isPrefixOf]
theorem acc_be (l : Int) (h0 : 0 ≤ l) (h1 : l ≤ 4294967295) : acc4 (l / 16777216 % 256) (l / 65536 % 256) (l / 256 % 256) (l % 256) 4 = l := by simp only [acc4]; omega
theorem be4_at (l : Int) : ∀ z ∈ be4 l, 0 ≤ z ∧ z < 256 := by
  intro z hz
  simp only [be4, List.mem_cons, List.not_mem_nil, or_false] at hz
  omega
theorem arp_back (op : Int) (a0 a1 a2 a3 a4 a5 : Int) (l : Int) (b0 b1 b2 b3 b4 b5 : Int) (r : Int) (more : List Int) (hl : 0 ≤ l ∧ l ≤ 4294967295) (hr : 0 ≤ r ∧ r ≤ 4294967295) :
    arpOf (arpBytes op [a0, a1, a2, a3, a4, a5] l [b0, b1, b2, b3, b4, b5] r ++ more) op = #[.int .i64 op, .int .u8 a0, .int .u8 a1, .int .u8 a2, .int .u8 a3, .int .u8 a4, .int .u8 a5, .bool false, .int .u64 0, .int .u64 l, .int .u8 b0, .int .u8 b1, .int .u8 b2, .int .u8 b3, .int .u8 b4, .int .u8 b5, .bool false, .int .u64 0, .int .u64 r] := by
  simp only [arpOf, arpBytes, be4, List.cons_append, List.nil_append, List.getD_cons_succ, List.getD_cons_zero]
  rw [acc_be l hl.1 hl.2, acc_be r hr.1 hr.2]
set_option maxHeartbeats 1000000 in
theorem decode_back (op : Int) (a0 a1 a2 a3 a4 a5 : Int) (l : Int) (b0 b1 b2 b3 b4 b5 : Int) (r : Int) (more : List Int) (base : Nat) (v : Value) (n : Nat) (w : World) (hl : 0 ≤ l ∧ l ≤ 4294967295) (hr : 0 ≤ r ∧ r ≤ 4294967295) (h12 : op = 1 ∨ op = 2) (hm : ∀ z ∈ more, 0 ≤ z ∧ z < 256)
    (ha : ∀ z ∈ [a0, a1, a2, a3, a4, a5], 0 ≤ z ∧ z < 256) (hb : ∀ z ∈ [b0, b1, b2, b3, b4, b5], 0 ≤ z ∧ z < 256) (hn : n = 28 + more.length)
    (hown : w.ownsRow base 5 1 v n ((arpBytes op [a0, a1, a2, a3, a4, a5] l [b0, b1, b2, b3, b4, b5] r ++ more).map (Value.int .u8))) :
    Calls Try.prog 16 #[v] w fun e w' => e = .returned (.tuple #[.agg #[.int .i64 op, .int .u8 a0, .int .u8 a1, .int .u8 a2, .int .u8 a3, .int .u8 a4, .int .u8 a5, .bool false, .int .u64 0, .int .u64 l, .int .u8 b0, .int .u8 b1, .int .u8 b2, .int .u8 b3, .int .u8 b4, .int .u8 b5, .bool false, .int .u64 0, .int .u64 r], .int .i64 0]) ∧ Below w.heap.size w w' := by
  obtain ⟨g, cap, rfl, -, hg⟩ := hown.form (by omega)
  obtain ⟨A, c, hv, h1, h2, h3, h4⟩ := own_open hown
  injection hv with e1 e2 e3
  subst e1 e3
  unfold maxLen at h2
  have hback := arp_back op a0 a1 a2 a3 a4 a5 l b0 b1 b2 b3 b4 b5 r more hl hr
  have hlen : (arpBytes op [a0, a1, a2, a3, a4, a5] l [b0, b1, b2, b3, b4, b5] r ++ more).length = n := by simpa using h3
  have hz : ∀ z ∈ arpBytes op [a0, a1, a2, a3, a4, a5] l [b0, b1, b2, b3, b4, b5] r ++ more, 0 ≤ z ∧ z < 256 := by
    intro z hz
    simp only [arpBytes, List.mem_append] at hz
    rcases hz with (((((hz | hz) | hz) | hz) | hz) | hz) | hz
    · simp at hz; omega
    · simp at hz; omega
    · exact ha z hz
    · exact be4_at l z hz
    · exact hb z hz
    · exact be4_at r z hz
    · exact hm z hz
  have hhead : headB (arpBytes op [a0, a1, a2, a3, a4, a5] l [b0, b1, b2, b3, b4, b5] r ++ more) = true := by
    unfold arpBytes
    simp only [List.append_assoc]
    exact head_yes _
  have hop : (arpBytes op [a0, a1, a2, a3, a4, a5] l [b0, b1, b2, b3, b4, b5] r ++ more).getD 6 0 * 256 + (arpBytes op [a0, a1, a2, a3, a4, a5] l [b0, b1, b2, b3, b4, b5] r ++ more).getD 7 0 = op := by
    simp [arpBytes]
  generalize arpBytes op [a0, a1, a2, a3, a4, a5] l [b0, b1, b2, b3, b4, b5] r ++ more = bs at *
  rw [← hback]
  refine decode5_good g 0 n cap bs op w hlen hz (by omega) h1 (by omega) hg (fun i hi => ?_) hhead hop h12
  obtain ⟨a, ha1, -, ha2⟩ := h4.int (k := i) (by omega)
  injection ha1 with ha1
  subst ha1
  rwa [Go.WideShapes.add_plain] at ha2
set_option maxHeartbeats 400000 in
theorem short_any (A : Option Addr) (n c : Nat) (w : World) : Calls Try.prog 6 #[.slice A n c] w fun e w' => e = .returned (.bool (decide ((n : Int) ≤ 600))) ∧ w = w' := by
  go_enter Try.func6, Try.ntmps6
  go_wp2
  go_ret
  exact ⟨rfl, rfl⟩
set_option maxRecDepth 100000 in
set_option maxHeartbeats 2000000 in
theorem arpBack_any (A0 : Option Addr) (n0 c0 : Nat) (zs : List Int) (A1 : Option Addr) (n1 c1 : Nat) (bs : List Int) (w : World) (hi : Ints .i64 w A0 n0 c0 zs) (hj : Ints .u8 w A1 n1 c1 bs) :
    Calls Try.prog 4 #[.slice A0 n0 c0, .slice A1 n1 c1] w fun e w' => e = .returned (.bool true) ∧ Below w.heap.size w w' := by
  have hmx : n0 ≤ 9223372036854775807 := by have h1 := hi.cap; have h2 := hi.max; unfold maxLen at h2; omega
  have HL := Lib.hid hi.lies
  have HN := Lib.hid hi.len
  have KL := Lib.hid hj.lies
  have KN := Lib.hid hj.len
  have KW := Lib.hid hj.wf
  have KO := Lib.hid hj.nil
  clear hi hj
  by_cases h6 : (n1 : Int) ≤ 600
  · have hd : decide ((n1 : Int) ≤ 600) = true := by simpa using h6
    go_enter Try.func4, Try.ntmps4
    go_wp2_with fail
    refine (short_any A1 n1 c1 _).mono ?_
    rintro e w1 ⟨rfl, rfl⟩
    go_wp2_with fail
    refine (new_any A0 n0 c0 zs _ HN.out hmx HL.out).mono ?_
    rintro e w2 ⟨D, rfl, hD0, hdeck, hb2⟩
    go_wp2_with fail
    refine (message_any D A0 n0 c0 zs _ hdeck).mono ?_
    rintro e w3 ⟨op, a, l, b, r, rfl, ⟨o1, o2⟩, ⟨l1, l2⟩, ⟨r1, r2⟩, hs⟩
    have hb3 := stays_below hb2 hs hD0
    have hbz := Box.made w3 28 #[.int .i64 0, .int .u8 0, .int .u8 0, .int .u8 0, .int .u8 0, .int .u8 0, .int .u8 0, .bool false, .int .u64 0, .int .u64 0, .int .u8 0, .int .u8 0, .int .u8 0, .int .u8 0, .int .u8 0, .int .u8 0, .bool false, .int .u64 0, .int .u64 0]
    go_upto_region 4 with (refine store_box (t := 28) (by kernel_rfl) rfl rfl hbz rfl (by simp [Value.oneCell']) ?_; intro w4 hz ho)
    have b4 : Below w.heap.size w w4 := (ho.stays (X := fun _ => False) (Stays.of_below (hb3.alloc hb3.size _)) hb3.size).below
    have ga2 : 0 ≤ a / 16777216 % 256 ∧ a / 16777216 % 256 < 256 := by omega
    have ga3 : 0 ≤ a / 65536 % 256 ∧ a / 65536 % 256 < 256 := by omega
    have ga4 : 0 ≤ a / 256 % 256 ∧ a / 256 % 256 < 256 := by omega
    have ga5 : 0 ≤ a % 256 ∧ a % 256 < 256 := by omega
    have ge2 : 0 ≤ b / 16777216 % 256 ∧ b / 16777216 % 256 < 256 := by omega
    have ge3 : 0 ≤ b / 65536 % 256 ∧ b / 65536 % 256 < 256 := by omega
    have ge4 : 0 ≤ b / 256 % 256 ∧ b / 256 % 256 < 256 := by omega
    have ge5 : 0 ≤ b % 256 ∧ b % 256 < 256 := by omega
    generalize a / 16777216 % 256 = a2 at hz ga2
    generalize a / 65536 % 256 = a3 at hz ga3
    generalize a / 256 % 256 = a4 at hz ga4
    generalize a % 256 = a5 at hz ga5
    generalize b / 16777216 % 256 = e2 at hz ge2
    generalize b / 65536 % 256 = e3 at hz ge3
    generalize b / 256 % 256 = e4 at hz ge4
    generalize b % 256 = e5 at hz ge5
    obtain ⟨Z1, hZ1⟩ : ∃ x, x = w3.heap.size := ⟨_, rfl⟩
    have hZ1' := hb3.size
    rw [← hZ1] at hz hZ1'
    rw [← hZ1]
    have HE := Lib.hid (fun w => encode5_any op 2 0 a2 a3 a4 a5 l 2 0 e2 e3 e4 e5 r w (by omega) (by omega) (by omega))
    have HQ := Lib.hid (fun w => eq_arp op 2 0 a2 a3 a4 a5 false 0 l 2 0 e2 e3 e4 e5 false 0 r w)
    have HA : ∀ z ∈ [2, 0, a2, a3, a4, a5], 0 ≤ z ∧ z < 256 := by intro z hz; simp at hz; omega
    have HB : ∀ z ∈ [2, 0, e2, e3, e4, e5], 0 ≤ z ∧ z < 256 := by intro z hz; simp at hz; omega
    have HA := Lib.hid HA
    have HB := Lib.hid HB
    clear ho hbz hs hdeck hb2 hD0 hZ1 hb3 ga2 ga3 ga4 ga5 ge2 ge3 ge4 ge5
    go_wp2_with (refine load_box (t := 28) Try.underlying28 rfl (by kernel_rfl) rfl hz ?_)
    go_wp2_with fail
    refine (HE.out _).mono ?_
    rintro e w5 ⟨v5, rfl, hown5, hb5⟩
    have b5 := b4.trans (hb5.mono b4.size)
    have hz5 := hz.under hb5 hz.inside
    obtain ⟨A5, c5, rfl, -, -, -, k5⟩ := own_open hown5
    clear hb5 hz b4
    have own0 := World.ownsRow_nil w5 w5.heap.size 5 1
    go_wp2_with (at_builtin; refine push_all rfl _ _ 29 rfl _ 5 (.int .u8 0) 1 Try.underlying29 infoU8 rfl (by omega) _ _ _ rfl (own0) _ _ _ _ (( arpBytes op [2, 0, a2, a3, a4, a5] l [2, 0, e2, e3, e4, e5] r).map (Value.int .u8)) rfl (by first | rfl | (simp; done) | (simp; omega)) (by omega) ( k5) (by simp [Value.oneCell']) (by first | omega | (simp; done) | (simp; omega)) (by first | omega | (simp; done) | (simp; omega)) ?_)
    intro v6 w6 hown6 hgr6
    have hb6 := grown_nil hgr6
    have b6 := b5.trans (hb6.mono b5.size)
    have hz6 := hz5.under hb6 hz5.inside
    have s56 := hb6.size
    have z5 := hz5.inside
    clear hb6 hgr6 own0 k5 hz5
    have s6 := b6.size
    have kn := KN.out
    go_wp2_with (at_builtin; refine push_any rfl _ _ 29 rfl _ 5 (.int .u8 0) 1 Try.underlying29 infoU8 rfl (by omega) _ _ _ rfl (hown6) _ _ _ _ (( bs).map (Value.int .u8)) rfl (by first | rfl | (simp; done) | (simp; omega)) ( KO.out) ( (KL.out.below b6).more s6) (by simp [Value.oneCell']) (by first | omega | (simp; done) | (simp; omega)) (by first | omega | (simp; done) | (simp; omega)) ?_)
    intro v7 w7 hown7 hgr7
    have b7 := b6.grown hgr7 b6.size (fun j hj => by have := (hown6.lt j hj).1; have := b5.size; omega)
    have hz7 := hz6.grow hgr7 (fun h => by have := (hown6.lt _ h.symm).1; omega)
    have HD := Lib.hid (decode_back op 2 0 a2 a3 a4 a5 l 2 0 e2 e3 e4 e5 r bs w5.heap.size v7 (28 + n1) w7 (by omega) (by omega) (by omega) (fun z hz => (by have := KW.out z hz; simp [Lit.wf, IntKind.min, IntKind.max, IntKind.signed, IntKind.bits] at this; omega)) HA.out HB.out (by omega) (by simpa using hown7))
    clear hown7 hgr7 hz6 hown6 kn HA HB KL KN KW KO
    go_wp2_with fail
    refine HD.out.mono ?_
    rintro e w8 ⟨rfl, hb8⟩
    have b8 := b7.trans (hb8.mono b7.size)
    have hz8 := hz7.under hb8 hz7.inside
    have hy := Box.made w8 28 #[.int .i64 0, .int .u8 0, .int .u8 0, .int .u8 0, .int .u8 0, .int .u8 0, .int .u8 0, .bool false, .int .u64 0, .int .u64 0, .int .u8 0, .int .u8 0, .int .u8 0, .int .u8 0, .int .u8 0, .int .u8 0, .bool false, .int .u64 0, .int .u64 0]
    go_upto_region 6 with (refine store_box (t := 28) (by kernel_rfl) rfl rfl hy rfl (by simp [Value.oneCell']) ?_; intro w9 hy9 ho)
    have b9 : Below w.heap.size w w9 := (ho.stays (X := fun _ => False) (Stays.of_below (b8.alloc b8.size _)) b8.size).below
    have hzi := hz8.inside
    have hz9 : Box Z1 28 #[.int .i64 op, .int .u8 2, .int .u8 0, .int .u8 a2, .int .u8 a3, .int .u8 a4, .int .u8 a5, .bool false, .int .u64 0, .int .u64 l, .int .u8 2, .int .u8 0, .int .u8 e2, .int .u8 e3, .int .u8 e4, .int .u8 e5, .bool false, .int .u64 0, .int .u64 r] w9 := by
      show w9.heap[Z1]? = _
      rw [ho.block Z1 (by omega)]; exact hz8.past _
    clear ho hy hz8 hz7 hb8 HD
    have hq := HQ.out
    go_wp2_with (first | ((with_reducible refine load_box_on (dst := 37) (t := 28) (u := 36) (c := true) ?ha37 ?hb37 ?hc37 Try.underlying28 ?hd37 ?he37 ?hf37 hy9 ?hn37); (case ha37 => kernel_rfl); (case hb37 => rfl); (case hc37 => rfl); (case hd37 => rfl); (case he37 => kernel_rfl); (case hf37 => rfl)) | ((with_reducible refine load_box_on (dst := 38) (t := 28) (u := 36) (c := true) ?ha38 ?hb38 ?hc38 Try.underlying28 ?hd38 ?he38 ?hf38 hz9 ?hn38); (case ha38 => kernel_rfl); (case hb38 => rfl); (case hc38 => rfl); (case hd38 => rfl); (case he38 => kernel_rfl); (case hf38 => rfl)))
    refine (awake5_any _).mono ?_
    rintro e w10 ⟨rfl, hb10⟩
    go_wp2
    go_ret
    exact ⟨rfl, b9.trans (hb10.mono b9.size)⟩
  · have hd : decide ((n1 : Int) ≤ 600) = false := by simpa using h6
    go_enter Try.func4, Try.ntmps4
    go_wp2_with fail
    refine (short_any A1 n1 c1 _).mono ?_
    rintro e w1 ⟨rfl, rfl⟩
    go_wp2_with fail
    refine (awake5_any _).mono ?_
    rintro e w2 ⟨rfl, hb2⟩
    go_wp2
    go_ret
    exact ⟨rfl, hb2⟩
end Go.Proofs.Ytghhidpggnbfgaa
