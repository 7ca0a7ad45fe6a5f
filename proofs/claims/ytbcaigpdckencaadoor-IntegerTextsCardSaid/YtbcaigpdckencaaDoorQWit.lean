/- The walk of IntegerTexts. -/
import Derived.Test.YtbcaigpdckencaaDoorQIp2
import Derived.Test.YtbcaigpdckencaaDoorQId0
import Derived.Deep.RegionHeld3

namespace Go.Proofs.YtbcaigpdckencaaDoor
open Go.RowKit Num

theorem heap_keep {W W' : World} {g : Nat} {o : Obj} (hh : W.heap[g]? = some o) (hb : Below W.heap.size W W') : W'.heap[g]? = some o :=
  (hb.block g (Array.getElem?_eq_some_iff.1 hh).1).trans hh
theorem decT_len {X k : Nat} (h : X < 10 ^ k) (hk : 1 ≤ k) : (decT X).length ≤ k := by
  unfold decT
  split
  · simpa using hk
  · rw [List.length_reverse]; exact decR_length k X h
theorem decT_lt2 (X : Nat) : ∀ b ∈ decT X, b < 256 := by
  intro b hb
  unfold decT at hb
  split at hb
  · simp at hb; omega
  · exact decR_lt X b (List.mem_reverse.1 hb)
theorem decT_dgs (X : Nat) : dgs (decT X) := by
  unfold decT
  split
  · intro b hb; simp at hb; omega
  · exact (decR_spec (X + 1) X (Nat.lt_succ_self X)).2.1
theorem fmtL_lt (z : Int) : ∀ b ∈ fmtL z, b < 256 := by
  intro b hb
  unfold fmtL at hb
  split at hb
  · rcases List.mem_cons.1 hb with h | h
    · omega
    · exact decT_lt2 _ b h
  · exact decT_lt2 _ b hb
theorem iparsed_fmt {z : Int} {k : Nat} (hk : z.natAbs < 10 ^ k) (h1 : 1 ≤ k) (hk2 : k ≤ 4095) : IParsed (fmtL z) z 0 ∧ (fmtL z).length ≤ 9223372036854775807 := by
  have hl := decT_len hk h1
  have hp := parsed_dec hk (by omega : k ≤ 4096)
  unfold fmtL
  by_cases hn : z < 0
  · rw [if_pos hn]
    have e : (45 :: decT z.natAbs).length = (decT z.natAbs).length + 1 := rfl
    exact ⟨Or.inr ⟨by omega, true, decT z.natAbs, z.natAbs, 0, Or.inl ⟨rfl, rfl⟩, hp, Or.inr (Or.inr ⟨rfl, by omega, by rw [iv, if_pos rfl]; omega, rfl⟩)⟩, by omega⟩
  · rw [if_neg hn]
    refine ⟨Or.inr ⟨by omega, false, decT z.natAbs, z.natAbs, 0, Or.inr ⟨rfl, rfl, fun h => ?_⟩, hp, Or.inr (Or.inr ⟨rfl, by simp, by rw [iv, if_neg (by simp)]; omega, rfl⟩)⟩, by omega⟩
    have := decT_dgs z.natAbs 45 (List.mem_of_head? h)
    omega
theorem beq_self_str2 (s : ByteArray) : (s.toList == s.toList) = true := beq_self_eq_true _

set_option maxRecDepth 100000 in
set_option maxHeartbeats 6400000 in
theorem walkIntegerTexts (b : Bool) (aa : Option Addr) (ca : Nat) (xs : List Nat) (s : ByteArray) (w : World) (ha : Rd w aa ca xs) (hs : s.size ≤ 9223372036854775807) :
    Calls Tryd.prog 8 #[.agg #[.bool b, .slice aa xs.length ca], .string s] w (RetB (.bool true) w) := by
  have hla := ha.le
  have hla2 := ha.cm
  obtain ⟨bs, rfl, hb256, hbl⟩ := bstr_of s
  have hsz := bstr_size bs
  have hlen : bs.length ≤ 9223372036854775807 := by omega
  clear hbl hs
  by_cases hx0 : xs.length ≤ 10
  case neg =>
    have hB := below_alloc w (.cells #[.bool b, .slice aa xs.length ca] 43)
    have hx := heap_alloc_at w (.cells #[.bool b, .slice aa xs.length ca] 43)
    have HA := hid (ha.below hB)
    have HB := hid hB
    clear ha hB hb256
    go_enter Tryd.func8, Tryd.ntmps8
    go_wp2_with fail
    obtain ⟨w0, hw0⟩ : ∃ x, x = w.alloc (.cells #[.bool b, .slice aa xs.length ca] 43) := ⟨_, rfl⟩
    rw [← hw0] at hx HA HB ⊢
    clear hw0
    have HC := hid (fun w' (h : Below w0.heap.size w0 w') => pair_cells (w' := w') hx h)
    obtain ⟨s0, s1, _, _⟩ := HC.out w0 (Below.refl _ _)
    have hd := small2_any b aa xs.length ca false w0 (by omega) (by simp; omega)
    refine hd.mono ?_
    rintro e w1 ⟨rfl, f1⟩
    clear s0 s1 hd
    have hk := awake2_any w1
    go_wp2_with fail
    refine hk.mono ?_
    rintro e w2 ⟨rfl, f2⟩
    have hbel := HB.out.trans ((f1.trans (f2.mono f1.size)).mono HB.out.size)
    clear hk hx f1 f2
    go_wp2
    go_ret
    exact ⟨rfl, hbel⟩
  by_cases hx1 : bs.length ≤ 200
  case neg =>
    have hi : (200 : Int) < (bs.length : Int) := by omega
    have hB := below_alloc w (.cells #[.bool b, .slice aa xs.length ca] 43)
    have hx := heap_alloc_at w (.cells #[.bool b, .slice aa xs.length ca] 43)
    have HA := hid (ha.below hB)
    have HB := hid hB
    clear ha hB hb256
    go_enter Tryd.func8, Tryd.ntmps8
    go_wp2_with fail
    obtain ⟨w0, hw0⟩ : ∃ x, x = w.alloc (.cells #[.bool b, .slice aa xs.length ca] 43) := ⟨_, rfl⟩
    rw [← hw0] at hx HA HB ⊢
    clear hw0
    have HC := hid (fun w' (h : Below w0.heap.size w0 w') => pair_cells (w' := w') hx h)
    obtain ⟨s0, s1, _, _⟩ := HC.out w0 (Below.refl _ _)
    have hd := small2_any b aa xs.length ca true w0 (by omega) (by simp; omega)
    refine hd.mono ?_
    rintro e w1 ⟨rfl, f1⟩
    clear s0 s1 hd
    have hk := awake2_any w1
    go_wp2_with fail
    refine hk.mono ?_
    rintro e w2 ⟨rfl, f2⟩
    have hbel := HB.out.trans ((f1.trans (f2.mono f1.size)).mono HB.out.size)
    clear hk hx f1 f2
    go_wp2
    go_ret
    exact ⟨rfl, hbel⟩
  have hi : ¬ ((200 : Int) < (bs.length : Int)) := by omega
  obtain ⟨Z, er, hp⟩ := iparsed_some bs
  have HP := hid (fun w' => And.intro (iparse_any bs w' Z er hb256 (by omega) hp) (riparse_any bs w' Z er hb256 (by omega) hp))
  have hv := val_lt_of ha.dg hx0
  obtain ⟨X, hX⟩ : ∃ X, X = iv b (val xs) := ⟨_, rfl⟩
  have hX100 : X.natAbs < 10 ^ 100 := by rw [hX, iv_abs]; exact Nat.lt_trans hv (by decide)
  obtain ⟨hpx, hpl⟩ := iparsed_fmt hX100 (by omega) (by omega)
  have HF := hid (fun w' (h : Rd w' aa ca xs) => And.intro (iformat_any b aa ca xs w' h (by omega)) (riformat_any b aa ca xs w' h (by omega)))
  have HT := hid (fun w' (h : Rd w' aa ca xs) => rtrim2_any b aa ca xs w' h (by omega))
  have HD := hid (fun w' => iparse_any (fmtL X) w' X 0 (fmtL_lt X) hpl hpx)
  unfold RetFmtZ at HF
  simp only [← hX] at HF HT
  obtain ⟨S, hS⟩ : ∃ S, S = bstr (fmtL X) := ⟨_, rfl⟩
  rw [← hS] at HF HD
  have hee : (er == er) = true := by simp
  have hff := beq_self_str2 S
  clear hb256 hp hv hX hX100 hpx hpl hS
  have hB := below_alloc w (.cells #[.bool b, .slice aa xs.length ca] 43)
  have hx := heap_alloc_at w (.cells #[.bool b, .slice aa xs.length ca] 43)
  have HA := hid (ha.below hB)
  have HB := hid hB
  clear ha hB
  go_enter Tryd.func8, Tryd.ntmps8
  go_wp2_with fail
  obtain ⟨w0, hw0⟩ : ∃ x, x = w.alloc (.cells #[.bool b, .slice aa xs.length ca] 43) := ⟨_, rfl⟩
  rw [← hw0] at hx HA HB ⊢
  clear hw0
  have HC := hid (fun w' (h : Below w0.heap.size w0 w') => pair_cells (w' := w') hx h)
  obtain ⟨s0, s1, _, _⟩ := HC.out w0 (Below.refl _ _)
  have hd := small2_any b aa xs.length ca true w0 (by omega) (by simp; omega)
  refine hd.mono ?_
  rintro e w1 ⟨rfl, f1⟩
  clear s0 s1 hd
  have hx1 := heap_keep hx f1
  have HR := hid (And.intro (HA.out.below f1) (HB.out.trans (f1.mono HB.out.size)))
  clear HA HB HC hx f1
  have c1 := (HP.out w1).1
  go_wp2_with fail
  refine c1.mono ?_
  rintro e w2 ⟨a2, c2, rfl, o2, f2⟩
  have g3 := below_alloc w2 (.cells #[.bool (decide (Z < 0)), .slice a2 (nd Z.natAbs).length c2] 43)
  have y3 := heap_alloc_at w2 (.cells #[.bool (decide (Z < 0)), .slice a2 (nd Z.natAbs).length c2] 43)
  clear c1
  go_upto_region 4 with fail
  obtain ⟨w3, hw3⟩ : ∃ x, x = w2.alloc (.cells #[.bool (decide (Z < 0)), .slice a2 (nd Z.natAbs).length c2] 43) := ⟨_, rfl⟩
  rw [← hw3] at g3 y3 ⊢
  clear hw3
  have f13 := f2.trans (g3.mono f2.size)
  have H3 := hid (And.intro (o2.below g3) (And.intro f13 (And.intro (heap_keep hx1 f13) y3)))
  clear hx1 o2 f2 g3 y3 f13
  have c2 := (HP.out w3).2
  go_wp2_with fail
  refine c2.mono ?_
  rintro e w4 ⟨a4, c4, rfl, o4, f4⟩
  have g5 := below_alloc w4 (.cells #[.bool (decide (Z < 0)), .slice a4 (nd Z.natAbs).length c4] 43)
  have y5 := heap_alloc_at w4 (.cells #[.bool (decide (Z < 0)), .slice a4 (nd Z.natAbs).length c4] 43)
  clear c2
  go_upto_region 5 with fail
  obtain ⟨w5, hw5⟩ : ∃ x, x = w4.alloc (.cells #[.bool (decide (Z < 0)), .slice a4 (nd Z.natAbs).length c4] 43) := ⟨_, rfl⟩
  rw [← hw5] at g5 y5 ⊢
  clear hw5
  have f35 := f4.trans (g5.mono f4.size)
  have HO5 := hid (And.intro (H3.out.1.below f35) (o4.below g5))
  have H5 := hid (And.intro (H3.out.2.1.trans (f35.mono H3.out.2.1.size)) (And.intro (heap_keep H3.out.2.2.1 f35) (And.intro (heap_keep H3.out.2.2.2 f35) y5)))
  clear H3 o4 f4 g5 y5 f35
  obtain ⟨s0, s1, _, _⟩ := pair_cells H5.out.2.1 (Below.refl _ _)
  have c3 := (HF.out w5 (HR.out.1.below H5.out.1)).1
  go_wp2_with fail
  refine c3.mono ?_
  rintro e w6 ⟨rfl, f6⟩
  clear c3 s0 s1
  have c4 := HD.out w6
  go_wp2_with fail
  refine c4.mono ?_
  rintro e w7 ⟨a7, c7, rfl, o7, f7⟩
  have g8 := below_alloc w7 (.cells #[.bool (decide (X < 0)), .slice a7 (nd X.natAbs).length c7] 43)
  have y8 := heap_alloc_at w7 (.cells #[.bool (decide (X < 0)), .slice a7 (nd X.natAbs).length c7] 43)
  clear c4
  go_upto_region 6 with fail
  obtain ⟨w8, hw8⟩ : ∃ x, x = w7.alloc (.cells #[.bool (decide (X < 0)), .slice a7 (nd X.natAbs).length c7] 43) := ⟨_, rfl⟩
  rw [← hw8] at g8 y8 ⊢
  clear hw8
  have f58 := f6.trans ((f7.trans (g8.mono f7.size)).mono f6.size)
  have f18 := H5.out.1.trans (f58.mono H5.out.1.size)
  have HO := hid (And.intro (HR.out.1.below f18) (And.intro (HO5.out.1.below f58) (And.intro (HO5.out.2.below f58) (o7.below g8))))
  have q0 := heap_keep H5.out.2.1 f58
  have q1 := heap_keep H5.out.2.2.1 f58
  have q2 := heap_keep H5.out.2.2.2 f58
  have HQ := hid (fun w' (h : Below w8.heap.size w8 w') => And.intro (pair_cells q0 h) (And.intro (pair_cells q1 h) (And.intro (pair_cells q2 h) (pair_cells y8 h))))
  have HB8 := hid (HR.out.2.trans (f18.mono HR.out.2.size))
  clear H5 HO5 HR o7 f6 f7 g8 y8 f58 f18 q0 q1 q2
  obtain ⟨⟨z00, z01, _, _⟩, ⟨z02, z03, _, _⟩, ⟨z04, z05, _, _⟩, ⟨z06, z07, _, _⟩⟩ := HQ.out w8 (Below.refl _ _)
  have p0 := below_drewI w8.heap.size w8
  have hz0 : (0 : Int) = 0 := rfl
  go_wp2_with fail
  go_region_held3 (fun w' => w'.cell? ⟨w.heap.size, 0, none⟩ = some (.bool b) ∧ w'.cell? ⟨w.heap.size, 1, none⟩ = some (.slice aa xs.length ca) ∧ w'.cell? ⟨w2.heap.size, 0, none⟩ = some (.bool (decide (Z < 0))) ∧ w'.cell? ⟨w2.heap.size, 1, none⟩ = some (.slice a2 (nd Z.natAbs).length c2) ∧ w'.cell? ⟨w4.heap.size, 0, none⟩ = some (.bool (decide (Z < 0))) ∧ w'.cell? ⟨w4.heap.size, 1, none⟩ = some (.slice a4 (nd Z.natAbs).length c4) ∧ w'.cell? ⟨w7.heap.size, 0, none⟩ = some (.bool (decide (X < 0))) ∧ w'.cell? ⟨w7.heap.size, 1, none⟩ = some (.slice a7 (nd X.natAbs).length c7)) (go_keep) (first
    | (go_at_call 35; (with_reducible refine (same2_any (decide (X < 0)) (decide (X < 0)) a7 b5 c7 d5 (nd X.natAbs) (nd X.natAbs) true y5 (HO.out.2.2.2.below p5).rd o5.rd (by simp)).mono ?_); rintro e y6 ⟨rfl, g6⟩; have p6 := p5.trans (g6.mono p5.size); obtain ⟨⟨z60, z61, _, _⟩, ⟨z62, z63, _, _⟩, ⟨z64, z65, _, _⟩, ⟨z66, z67, _, _⟩⟩ := HQ.out y6 p6; clear z50 z51 z52 z53 z54 z55 z56 z57)
    | (go_at_call 49; (with_reducible refine (HT.out y4 (HO.out.1.below p4)).mono ?_); rintro e y5 ⟨b5, d5, rfl, o5, g5⟩; have p5 := p4.trans (g5.mono p4.size); obtain ⟨⟨z50, z51, _, _⟩, ⟨z52, z53, _, _⟩, ⟨z54, z55, _, _⟩, ⟨z56, z57, _, _⟩⟩ := HQ.out y5 p5; clear z40 z41 z42 z43 z44 z45 z46 z47)
    | (go_at_call 48; (with_reducible refine ((HF.out y3 (HO.out.1.below p3)).2).mono ?_); rintro e y4 ⟨rfl, g4⟩; have p4 := p3.trans (g4.mono p3.size); obtain ⟨⟨z40, z41, _, _⟩, ⟨z42, z43, _, _⟩, ⟨z44, z45, _, _⟩, ⟨z46, z47, _, _⟩⟩ := HQ.out y4 p4; clear z30 z31 z32 z33 z34 z35 z36 z37)
    | (go_at_call 47; (with_reducible refine ((HF.out y2 (HO.out.1.below p2)).1).mono ?_); rintro e y3 ⟨rfl, g3⟩; have p3 := p2.trans (g3.mono p2.size); obtain ⟨⟨z30, z31, _, _⟩, ⟨z32, z33, _, _⟩, ⟨z34, z35, _, _⟩, ⟨z36, z37, _, _⟩⟩ := HQ.out y3 p3; clear z20 z21 z22 z23 z24 z25 z26 z27)
    | (go_at_call 35; (with_reducible refine (same2_any (decide (Z < 0)) (decide (Z < 0)) a2 a4 c2 c4 (nd Z.natAbs) (nd Z.natAbs) true y1 (HO.out.2.1.below p1).rd (HO.out.2.2.1.below p1).rd (by simp)).mono ?_); rintro e y2 ⟨rfl, g2⟩; have p2 := p1.trans (g2.mono p1.size); obtain ⟨⟨z20, z21, _, _⟩, ⟨z22, z23, _, _⟩, ⟨z24, z25, _, _⟩, ⟨z26, z27, _, _⟩⟩ := HQ.out y2 p2; clear z10 z11 z12 z13 z14 z15 z16 z17)
    | (go_at_call 32; (with_reducible refine (awake2_any w8.drew).mono ?_); rintro e y1 ⟨rfl, g1⟩; have p1 := p0.trans (g1.mono p0.size); obtain ⟨⟨z10, z11, _, _⟩, ⟨z12, z13, _, _⟩, ⟨z14, z15, _, _⟩, ⟨z16, z17, _, _⟩⟩ := HQ.out y1 p1; clear z00 z01 z02 z03 z04 z05 z06 z07))
  all_goals
    go_wp2
    go_ret
    exact ⟨rfl, HB8.out.trans (p6.mono HB8.out.size)⟩
end Go.Proofs.YtbcaigpdckencaaDoor
