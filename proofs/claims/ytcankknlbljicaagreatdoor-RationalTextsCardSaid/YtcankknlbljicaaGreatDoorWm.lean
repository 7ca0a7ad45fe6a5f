/-  -/
import Derived.Test.YtcankknlbljicaaGreatDoorWl
import Derived.Deep.CutBlock
import Derived.IntWalk
import Derived.Deep.RegionHeld3

set_option linter.unusedVariables false
set_option linter.unusedSimpArgs false
set_option linter.unusedSectionVars false
set_option maxRecDepth 100000
set_option maxHeartbeats 3200000

namespace Go.Proofs.YtcankknlbljicaaGreatDoor
open Go.RowKit Num

theorem shiftN_up (v s : Nat) (h : s ≤ 65536) : shiftN v (s : Int) = v * 2 ^ s := by rw [shiftN, if_neg (by omega), if_pos (by omega)]; simp
theorem shiftN_down (v s : Nat) : shiftN v (-(s : Int)) = v / 2 ^ s := by
 by_cases h : s = 0
 ·subst h; rw [shiftN, if_neg (by omega), if_pos (by omega)]; simp
 ·rw [shiftN, if_neg (by omega), if_neg (by omega)]; simp

set_option maxHeartbeats 40000000 in
theorem rdivmod_long (aa ab : Option Addr) (ca cb n : Nat) (xs ys : List Nat) (w : World) (ha : Rd w aa ca xs) (hb : Rd w ab cb ys) (hv : (nd (val ys)).length = n + 2) (hge : val ys ≤ val xs) (hl1 : xs.length ≤ 4398046511104) (hl2 : ys.length ≤ 4398046511104) :
  Calls Tryz.prog 210 #[.slice aa xs.length ca, .slice ab ys.length cb] w (RetDiv w.heap.size (nd (val xs / val ys)) (nd (val xs % val ys)) 0 w) := by
 have ht1 := rtrim_any aa ca xs w ha (by omega)
 have ht2 := fun w1 (hr : Rd w1 ab cb ys) => rtrim_any ab cb ys w1 hr (by omega)
 have hlx := nd_length_le_of ha.dg
 have hmono := nd_length_mono hge
 have hnv : (nd (val ys)).getD (n + 1) 0 ≠ 0 := by
  rcases nrm_nd (val ys) with h | h
  ·rw [h] at hv; simp at hv
  ·rwa [hv] at h
 obtain ⟨us, hus⟩ : ∃ us, us = nd (val xs) := ⟨_, rfl⟩
 obtain ⟨vs, hvs⟩ : ∃ vs, vs = nd (val ys) := ⟨_, rfl⟩
 have hvu : val us = val xs := by rw [hus, val_nd]
 have hvv : val vs = val ys := by rw [hvs, val_nd]
 have huw : wf us := by rw [hus]; exact wf_nd _
 have hvw : wf vs := by rw [hvs]; exact wf_nd _
 rw [← hus] at ht1 hlx hmono
 rw [← hvs] at hv hmono hnv
 simp only [← hvs] at ht2
 rw [← hvu, ← hvv] at hge ⊢
 have hnu : us.length = (nd (val us)).length := by rw [hus, val_nd]
 clear hus hvs hvu hvv
 obtain ⟨d, hd⟩ : ∃ d, d = vs.getD (n + 1) 0 := ⟨_, rfl⟩
 have hdl : d < 4294967296 := by rw [hd]; exact wf_getD hvw _
 have hbl := blen_u32 hdl
 have hdp : 0 < blen d := blen_pos (by rw [hd]; exact hnv)
 obtain ⟨s, hs⟩ : ∃ s, s + blen d = 32 := ⟨32 - blen d, by omega⟩
 have hsi : (32 : Int) - (blen d : Int) = (s : Int) := by omega
 have hs31 : s ≤ 31 := by omega
 obtain ⟨nv1, nv2, nv3, nv4⟩ := norm_shift (s := s) hvw hv hnv (by rw [← hd]; exact hs)
 have hp2 : 0 < 2 ^ s := Nat.pow_pos (by omega)
 have hV0 : 0 < val vs * 2 ^ s := by have := Nat.mul_pos (pow_pos (n + 1)) hp2; omega
 obtain ⟨V, hV⟩ : ∃ V, V = val vs * 2 ^ s := ⟨_, rfl⟩
 obtain ⟨U, hU⟩ : ∃ U, U = val us * 2 ^ s := ⟨_, rfl⟩
 rw [← hV] at nv1 nv2 nv3 nv4 hV0
 have hVU : V ≤ U := by rw [hV, hU]; exact Nat.mul_le_mul_right _ hge
 obtain ⟨uu, huu⟩ : ∃ uu, uu = nd U := ⟨_, rfl⟩
 obtain ⟨vv, hvv⟩ : ∃ vv, vv = nd V := ⟨_, rfl⟩
 have huvl : vv.length ≤ uu.length := by rw [huu, hvv]; exact nd_length_mono hVU
 rw [← hvv] at nv1 nv2
 obtain ⟨M, hM⟩ : ∃ M, uu.length = M := ⟨_, rfl⟩
 have HM := hid hM
 obtain ⟨N, hN⟩ : ∃ N, N = uu.length + 1 := ⟨_, rfl⟩
 obtain ⟨qn, hqn⟩ : ∃ qn, N = qn + (n + 2) := ⟨uu.length - (n + 1), by omega⟩
 have hUN : U < 4294967296 ^ uu.length := by rw [huu]; exact lt_pow_nd U
 have hul : uu.length ≤ us.length + 1 := by
  rw [huu]
  refine nd_length_le ?_
  have h1 := val_lt huw
  have h3 := Nat.mul_le_mul (Nat.le_of_lt h1) (pow_le31 hs31)
  rw [hU, Nat.pow_succ]
  have := pow_pos us.length
  omega
 have huls : us.length ≤ uu.length := by
  have h1 : (nd (val us)).length ≤ uu.length := by rw [huu]; exact nd_length_mono (by rw [hU]; exact Nat.le_mul_of_pos_right _ hp2)
  omega
 have hUq : U / 4294967296 ^ qn < V := by
  refine Nat.div_lt_of_lt_mul ?_
  rw [show uu.length = qn + (n + 1) by omega, Nat.pow_add] at hUN
  refine Nat.lt_of_lt_of_le hUN (Nat.mul_le_mul_left _ (Nat.le_trans ?_ nv3))
  exact Nat.le_mul_of_pos_right _ hp2
 have HQR := hid (show U / V = val us / val vs ∧ U % V / 2 ^ s = val us % val vs by
  rw [hU, hV, Nat.mul_div_mul_right _ _ hp2, Nat.mul_mod_mul_right, Nat.mul_div_cancel _ hp2]
  exact ⟨rfl, rfl⟩)
 have hb1 : ((vs.length : Int) == 1) = false := beq_eq_false_iff_ne.2 (by omega)
 have hb0 : ((vs.length : Int) == 0) = false := beq_eq_false_iff_ne.2 (by omega)
 obtain ⟨r, hr⟩ : ∃ r, r = cmpN (val us) (val vs) := ⟨_, rfl⟩
 have hr0 : ¬ r < 0 := by rw [hr, cmpN_neg]; omega
 have HT := hid ht2
 have HB := hid hb
 have HR := hid hr
 have HUV := hid (And.intro hU (And.intro hV (And.intro huu hvv)))
 have HN := hid (And.intro hN (And.intro hqn (And.intro nv1 hv)))
 have HD := hid (And.intro hd hs)
 have HV0 := hid hV0
 have HUQ := hid hUq
 have HUN := hid hUN
 have HNV := hid (And.intro nv2 nv4)
 have hvl1 : vs.length ≤ n + 2 := by omega
 have hvl2 : n + 2 ≤ vs.length := by omega
 have hvv1 : vv.length ≤ n + 2 := by omega
 have hvv2 : n + 2 ≤ vv.length := by omega
 have hcs : vs.length - 1 = n + 1 := by omega
 have hM1 : uu.length ≤ M := by omega
 have hM2 : M ≤ uu.length := by omega
 clear hnu hM ht2 ha hb hv hr hU hV huu hvv hN hqn nv1 nv2 nv3 nv4 hd hs hV0 hUq hUN hVU hp2 hge hnv hdp hbl
 go_enter Tryz.func210, Tryz.ntmps210
 go_wp2_with fail
 refine ht1.mono ?_
 rintro e w1 ⟨a1, c1, rfl, ho1, hbe1⟩
 have h2 := HT.out w1 (HB.out.below hbe1)
 clear ht1 HT HB
 go_wp2_with fail
 refine h2.mono ?_
 rintro e w2 ⟨a2, c2, rfl, ho2, hbe2⟩
 have hbe02 := hbe1.trans (hbe2.mono hbe1.size)
 have ho12 := ho1.below hbe2
 have ho22 := ho2.mono hbe1.size
 have hcm := rcompare_any a1 a2 c1 c2 us vs w2 ho12.rd ho2.rd (by omega) (by omega)
 rw [← HR.out] at hcm
 clear h2 ho1 ho2 hbe1 hbe2
 go_wp2_with fail
 refine hcm.mono ?_
 rintro e w3 ⟨rfl, hbe3⟩
 have hbe03 := hbe02.trans (hbe3.mono hbe02.size)
 have ho13 := ho12.below hbe3
 have ho23 := ho22.below hbe3
 clear hcm ho12 ho22 hbe02 hbe3
 obtain ⟨g2, rfl⟩ : ∃ g2, a2 = some ⟨g2, 0, none⟩ := by
  rcases ho23.cases with ⟨_, _, h3⟩ | ⟨g2, cur, h, _⟩
  ·rw [h3] at hvl2; simp at hvl2
  ·exact ⟨g2, h⟩
 have hrd := ho23.rd.drop (n + 1) (by omega)
 have hle := ho23.rd.le
 have hcm2 := ho23.rd.cm
 have hnc : ¬ (c2 = n + 1) := by omega
 have hdrop : vs.drop (n + 1) = [d] := by
  rw [List.drop_eq_getElem_cons (by omega), List.drop_eq_nil_of_le (by omega), HD.out.1]
  simp [List.getD, show n + 1 < vs.length by omega]
 rw [if_neg hnc, hdrop, Option.map_some, Addr.add_lit, Nat.zero_add] at hrd
 have hbl := rbitlen_any _ _ [d] w3 hrd (by simp)
 rw [show val [d] = d by simp [val], show ([d] : List Nat).length = vs.length - (n + 1) by simp; omega] at hbl
 clear hrd hdrop
 go_wp2_with fail
 refine hbl.mono ?_
 rintro e w4 ⟨rfl, hbe4⟩
 have hbe04 := hbe03.trans (hbe4.mono hbe03.size)
 have ho14 := ho13.below hbe4
 have ho24 := ho23.below hbe4
 clear hbl ho13 ho23 hbe03 hbe4
 have hup := rshift_any a1 c1 (s : Int) us w4 ho14.rd (by omega) (by omega) (by omega)
 rw [shiftN_up _ _ (by omega), ← HUV.out.1, ← HUV.out.2.2.1] at hup
 go_wp2_with fail
 refine hup.mono ?_
 rintro e w5 ⟨a5, c5, he, ho5, hbe5⟩
 rw [HM.out] at he
 subst he
 have hbe05 := hbe04.trans (hbe5.mono hbe04.size)
 have ho25 := ho24.below hbe5
 have ho15 := ho14.below hbe5
 have ho55 := ho5.mono hbe04.size
 clear hup ho14 ho24 ho5 hbe04 hbe5
 have hup := rshift_any _ c2 (s : Int) vs w5 ho25.rd (by omega) (by omega) (by omega)
 rw [shiftN_up _ _ (by omega), ← HUV.out.2.1, ← HUV.out.2.2.2] at hup
 go_wp2_with fail
 refine hup.mono ?_
 rintro e w6 ⟨av, cv, he, ho6, hbe6⟩
 rw [HN.out.2.2.1] at he
 subst he
 have hbe06 := hbe05.trans (hbe6.mono hbe05.size)
 have hov := ho6.mono hbe05.size
 have ho5b : ∀ a, a5 = some a → a.block < w5.heap.size := fun a ha => by subst ha; exact ho55.block.2
 have ho56 := ho55.below hbe6
 clear hup ho15 ho25 ho55 hbe05 hbe6
 obtain ⟨g5, rfl⟩ : ∃ g, a5 = some ⟨g, 0, none⟩ := by
  rcases ho56.cases with ⟨_, _, h3⟩ | ⟨g, cur, h, _⟩
  ·rw [h3] at huvl; simp only [List.length_nil] at huvl; omega
  ·exact ⟨g, h⟩
 obtain ⟨gv, rfl⟩ : ∃ g, av = some ⟨g, 0, none⟩ := by
  rcases hov.cases with ⟨_, _, h3⟩ | ⟨g, cur, h, _⟩
  ·rw [h3] at hvv2; simp at hvv2
  ·exact ⟨g, h⟩
 have hgv : gv < w6.heap.size := hov.block.2
 have hgu5 : g5 < gv := by
  have h1 : g5 < w5.heap.size := ho5b _ rfl
  have h2 : w5.heap.size ≤ gv := ho6.block.1
  omega
 have HON := hid (Own.one w6 w6.heap.size 0 (Nat.le_refl _) (by omega))
 have HOU := hid ho56
 have HOV := hid hov
 have HBE := hid hbe06
 have hb35 : M + 1 ≤ 35184372088832 := by omega
 clear ho56 hov hbe06 ho6 ho5b
 go_wp2_with (at_builtin; refine wp_append_o _ rfl _ _ rfl w.heap.size g5 M 1 c5 1 ⟨w6.heap.size, 0, none⟩ uu [0] rfl ?c0 HM.out.symm rfl (HOU.out.below (below_alloc _ _)) ?c1 hb35 ?c3)
 case c0 => go_simp
 case c1 => exact HON.out.rd
 intro gu c7 w7 ho7 hoth7 hbe7 hgu7
 have hba := below_alloc w6 (.cells #[.int .u32 ((0 : Nat) : Int)] 88)
 have hbe07 := (HBE.out.trans (hba.mono HBE.out.size)).trans hbe7
 have hov7 : Own w.heap.size w7 (some ⟨gv, 0, none⟩) cv vv := (HOV.out.below hba).keep fun a ha => by
  cases ha
  exact hoth7 gv (by have h := hba.size; omega) (by omega)
 have hguv : gu ≠ gv := by rcases hgu7 with h | h <;> omega
 have hll : (uu ++ [0]).length = uu.length + 1 := by simp
 have hlist : uu ++ [0] = dig N U := by
  have h := nd_pad (N := N) (v := U) (Nat.lt_of_lt_of_le HUN.out (Nat.pow_le_pow_right (by omega) (by have := HN.out.1; omega)))
  rw [← HUV.out.2.2.1, show N - uu.length = 1 by have := HN.out.1; omega] at h
  exact h
 rw [hlist] at ho7
 have hgu : gu < w7.heap.size := ho7.block.2
 have hNi : (uu.length : Int) + 1 = (N : Int) := by have := HN.out.1; omega
 have hN1 : uu.length + 1 ≤ N := by have := HN.out.1; omega
 have hN2 : N ≤ uu.length + 1 := by have := HN.out.1; omega
 have hq1 : qn + (n + 2) ≤ N := by have := HN.out.2.1; omega
 have hq2 : N ≤ qn + (n + 2) := by have := HN.out.2.1; omega
 have hnl : ¬ ((M : Int) + 1 < (us.length : Int) + 1) := by omega
 have hqi : (M : Int) + 1 - ((n : Int) + 2) = (qn : Int) := by omega
 clear hll hlist hba hbe7 hNi hoth7 hgu7
 go_wp2_with fail
 go_loop [10] (fun uv => uv = .slice (some ⟨gu, 0, none⟩) (M + 1) c7) (fun _ => 0)
 case atStart => rfl
 case round =>
 subst hrel
 go_wp2_with (at_make; refine wp_make _ rfl _ rfl w.heap.size qn _ rfl rfl (by omega) hbe07.size ?_; intro w8 hq8 hbe8 hsz8)
 have hl8 := ho7.below hbe8
 have hv8 := hov7.below hbe8
 have hbe08 : Below w.heap.size w w8 := hbe07.trans (hbe8.mono hbe07.size)
 have hne : gu ≠ w7.heap.size := by omega
 have hgvq : gv ≠ w7.heap.size := by have := hov7.block.2; have h : gv < w7.heap.size := this; omega
 have hcap := hl8.rd.le
 rw [length_dig] at hcap
 have hcap2 := hl8.rd.cm
 have hqi2 : (M : Int) + 1 - ((n : Int) + 2) - 1 = (qn : Int) - 1 := by omega
 clear hbe8 ho7 hov7 hsz8 hbe07
 go_wp2_with fail
 go_loopw [14] (fun iv wr => ∃ j : Nat, j ≤ qn ∧ iv = .int .i64 ((j : Int) - 1) ∧ Own w.heap.size wr (some ⟨gu, 0, none⟩) c7 (dig j U ++ dig (N - j) (U / 4294967296 ^ j % V)) ∧
   Own w.heap.size wr (some ⟨w7.heap.size, 0, none⟩) qn (List.replicate j 0 ++ dig (qn - j) (U / 4294967296 ^ j / V)) ∧ Own w.heap.size wr (some ⟨gv, 0, none⟩) cv vv ∧ Below w.heap.size w wr)
  (fun iv _ => (intOf iv + 1).toNat)
 case atStart =>
  refine ⟨qn, Nat.le_refl _, by first | rfl | exact int_eq (by omega), ?_, ?_, hv8, hbe08⟩
  ·rw [Nat.mod_eq_of_lt HUQ.out, ← dig_append, show qn + (N - qn) = N by omega]; exact hl8
  ·rw [Nat.sub_self, dig, List.append_nil]; exact hq8
 case round =>
  obtain ⟨j, hj, hiv, hl, hq, hv, hb⟩ := hrel
  by_cases hj0 : j = 0
  ·as_aux_lemma =>
    subst hj0
    subst hiv
    simp only [dig, List.replicate_zero, List.nil_append, Nat.pow_zero, Nat.div_one, Nat.sub_zero] at hl hq
    have hvq1 : val (dig qn (U / V)) = U / V := by
     rw [val_dig, Nat.mod_eq_of_lt]
     refine Nat.div_lt_of_lt_mul ?_
     have h1 := Nat.lt_mul_of_div_lt HUQ.out (pow_pos qn)
     rw [Nat.mul_comm]; rw [Nat.mul_comm] at h1; first | exact h1 | (rw [Nat.mul_comm]; exact h1)
    have ht := fun W (hW : Own w.heap.size W (some ⟨w7.heap.size, 0, none⟩) qn (dig qn (U / V))) => (by
     have h := rtrim_any _ _ _ W hW.rd (by rw [length_dig]; omega)
     rw [length_dig, hvq1, HQR.out.1] at h
     exact h : Calls Tryz.prog 160 #[.slice (some ⟨w7.heap.size, 0, none⟩) qn qn] W (RetOwn W.heap.size (nd (val us / val vs)) W))
    have hlt : ((dig N (U % V)).take (n + 2)).length = n + 2 := by rw [List.length_take, length_dig]; omega
    have hvl : val ((dig N (U % V)).take (n + 2)) = U % V := by
     rw [take_dig (by omega), val_dig, Nat.mod_eq_of_lt (Nat.lt_trans (Nat.mod_lt _ HV0.out) HNV.out.2)]
    have hsh := fun W (hW : Own w.heap.size W (some ⟨gu, 0, none⟩) c7 (dig N (U % V))) => rshift_any _ _ (-(s : Int)) _ W (hW.take (n + 2)).rd (by rw [hlt]; omega) (by omega) (by omega)
    simp only [hlt, hvl, shiftN_down, HQR.out.2] at hsh
    have HTR := hid ht
    have HSH := hid hsh
    have hld : Own w.heap.size wr.drew (some ⟨gu, 0, none⟩) c7 (dig N (U % V)) := hl.keep fun _ _ => rfl
    have hqd : Own w.heap.size wr.drew (some ⟨w7.heap.size, 0, none⟩) qn (dig qn (U / V)) := hq.keep fun _ _ => rfl
    have HH := hid (And.intro hld (And.intro hqd hb))
    clear hl hq hld hqd hvq1 ht hlt hvl hsh hv hj hb hl8 hq8 hv8 hbe08
    have hsl1 : n + 2 ≤ c7 := by omega
    have hsl2 : (n : Int) + 2 ≤ (c7 : Int) := by omega
    have hsl3 : 0 ≤ (n : Int) + 2 := by omega
    have hsl4 : ((n : Int) + 2).toNat = n + 2 := by omega
    have hws := IntWalk.i64_in (-(s : Int)) (by omega)
    go_wp2_with fail
    go_region_held3 (fun _ => True) (trivial) (first
     | (go_at_call 160; (with_reducible refine (HTR.out wr.drew HH.out.2.1).mono ?_); rintro e w9 ⟨a9, c9, rfl, ho9, hb9⟩)
     | (go_at_call 233; (with_reducible refine (HSH.out _ (HH.out.1.below hb9)).mono ?_); rintro e w10 ⟨a10, c10, rfl, ho10, hb10⟩))
    all_goals
     clear hws
     have hbd : Below w.heap.size w wr.drew := HH.out.2.2.drew
     have hb09 : Below w.heap.size w w9 := hbd.trans (hb9.mono hbd.size)
     go_wp2
     go_ret3
     exact ⟨_, _, _, _, rfl, (ho9.mono hbd.size).below hb10, ho10.mono hb09.size, hb09.trans (hb10.mono hb09.size)⟩
  ·obtain ⟨i, rfl⟩ : ∃ i, j = i + 1 := ⟨j - 1, by omega⟩
   rw [show ((i + 1 : Nat) : Int) - 1 = (i : Int) by omega] at hiv
   subst hiv
   clear hj0 hl8 hq8 hv8 hbe08
   obtain ⟨u, hu⟩ : ∃ u, u = U / 4294967296 ^ i % 4294967296 := ⟨_, rfl⟩
   obtain ⟨R, hR⟩ : ∃ R, R = U / 4294967296 ^ (i + 1) % V := ⟨_, rfl⟩
   have hul : u < 4294967296 := by rw [hu]; omega
   have hRl : R < V := by rw [hR]; exact Nat.mod_lt _ HV0.out
   have hUi : U / 4294967296 ^ i = u + 4294967296 * (U / 4294967296 ^ (i + 1)) := by
    rw [hu, Nat.pow_succ, ← Nat.div_div_eq_div_mul]; omega
   have hdst := div_step u (U / 4294967296 ^ (i + 1)) V HV0.out
   rw [← hUi, ← hR] at hdst
   obtain ⟨W, hW⟩ : ∃ W, W = 4294967296 * R + u := ⟨_, rfl⟩
   rw [← hW] at hdst
   have hWl : W < 4294967296 * V := by omega
   have hWn : W < 4294967296 ^ (n + 3) := by
    have := HNV.out.2
    rw [show n + 3 = n + 2 + 1 by omega, Nat.pow_succ]; omega
   rw [dig_down (by omega), ← hR, ← hu, show u + 4294967296 * R = W by omega] at hl
   have hql : W / V < 4294967296 := by
    rw [Nat.div_lt_iff_lt_mul HV0.out]; exact hWl
   have hvv : val vv = V := by rw [HUV.out.2.2.2, val_nd]
   have hlen : (dig i U ++ dig (N - i) W).length = N := by simp [length_dig]; omega
   obtain ⟨f, hfe⟩ : ∃ f, f = vv.getD (n + 1) 0 := ⟨_, rfl⟩
   obtain ⟨sc, hse⟩ : ∃ s, s = vv.getD n 0 := ⟨_, rfl⟩
   obtain ⟨t1, ht1⟩ : ∃ t, t = W / 4294967296 ^ (n + 2) % 4294967296 := ⟨_, rfl⟩
   obtain ⟨t0, ht0⟩ : ∃ t, t = W / 4294967296 ^ (n + 1) % 4294967296 := ⟨_, rfl⟩
   obtain ⟨un, hue⟩ : ∃ u, u = W / 4294967296 ^ n % 4294967296 := ⟨_, rfl⟩
   have cell : ∀ k, k ≤ n + 2 → wr.cell? ⟨gu, i + k, none⟩ = some (.int .u32 ((W / 4294967296 ^ k % 4294967296 : Nat) : Int)) := by
    intro k hk
    have h := hl.cell (i + k) (by omega)
    rwa [getD_app (length_dig _ _), getD_dig (by omega)] at h
   have ct := cell (n + 2) (by omega)
   have cm := cell (n + 1) (by omega)
   have cu := cell n (by omega)
   rw [← ht1] at ct
   rw [← ht0] at cm
   rw [← hue] at cu
   have cf := hv.cell (n + 1) (by omega)
   have cs := hv.cell n (by omega)
   rw [← hfe] at cf
   rw [← hse] at cs
   have hfl : f < 4294967296 := by rw [hfe]; exact wf_getD hv.2 _
   have hsl : sc < 4294967296 := by rw [hse]; exact wf_getD hv.2 _
   have ht1l : t1 < 4294967296 := by rw [ht1]; exact Nat.mod_lt _ (by omega)
   have ht0l : t0 < 4294967296 := by rw [ht0]; exact Nat.mod_lt _ (by omega)
   have hunl : un < 4294967296 := by rw [hue]; exact Nat.mod_lt _ (by omega)
   have hff : 2147483648 ≤ f := by rw [hfe]; exact HNV.out.1
   obtain ⟨top, htop⟩ : ∃ top, top = t0 + 4294967296 * t1 % 18446744073709551616 := ⟨_, rfl⟩
   obtain ⟨hor1, htopl, _⟩ := or_dig t1 t0 top ht0l htop
   rw [or_dig_wrap ht1l] at hor1
   have htop2 : top = t1 * 4294967296 + t0 := by omega
   obtain ⟨hg1, hg2, hg3, hg4⟩ := guess_facts hv.2 HN.out.2.2.1 hvv HNV.out.1 hWl hWn hfe hse ht1 ht0 hue htop2
   obtain ⟨Q, hQ⟩ : ∃ Q, Q = W / V := ⟨_, rfl⟩
   rw [← hQ] at hg2 hql
   simp only [← hQ] at hg3 hg4
   have HG3 := hid hg3
   have HG4 := hid hg4
   have htf : top / f < 8589934592 := by rw [Nat.div_lt_iff_lt_mul (by omega)]; have := Nat.mul_le_mul_left 8589934592 hff; omega
   have htr : top % f < 4294967296 := Nat.lt_trans (Nat.mod_lt _ (by omega)) hfl
   have hdm := Nat.div_add_mod top f
   obtain ⟨d0, hd0⟩ : ∃ d, d = top / f := ⟨_, rfl⟩
   obtain ⟨r0, hr0'⟩ : ∃ r, r = top % f := ⟨_, rfl⟩
   have hdi : (top : Int) / (f : Int) = (d0 : Int) := by rw [hd0]; simp
   have hri : (top : Int) % (f : Int) = (r0 : Int) := by rw [hr0']; simp
   rw [← hd0] at htf
   rw [← hr0'] at htr
   have H0 := hid (show d0 * f + r0 = top ∧ Q ≤ d0 by rw [hd0, hr0', Nat.mul_comm]; exact ⟨hdm, by first | exact hg2 | (rw [← hd0]; exact hg2)⟩)
   have HTT := hid htop2
   have HDST := hid hdst
   have HUI := hid (And.intro hu (And.intro hR (And.intro hUi (And.intro hW (And.intro hWl (And.intro hWn (And.intro hvv hQ)))))))
   have HH := hid (And.intro hl (And.intro hq (And.intro hv hb)))
   have HLEN := hid hlen
   clear hd0 hr0' hdm hg2 hg3 hg4 hu hR hUi hW hdst hWl hWn hvv hQ hl hq hv hb hlen htop htop2 hfe hse ht1 ht0 hue cell
   go_wp2_with fail
   go_quiet (fail)
   go_upto_block 4 with fail
   go_cut [16, 17] from 91 to 276 (fun dv _ wx => ∃ D q : Nat, dv = .int .u64 (D : Int) ∧ D < 4294967296 ∧ Hid (Q ≤ D ∧ D ≤ Q + 1) ∧ wx = wr.drewN q)
   case first =>
    as_aux_lemma =>
     obtain ⟨F, hF⟩ : ∃ F : Int, F = (f : Int) := ⟨_, rfl⟩
     have hF0 : 0 ≤ F := by omega
     have hF1 : F < 4294967296 := by omega
     have hF2 : 1 ≤ F := by omega
     rw [← hF] at cf
     have HF := hid hF
     clear hF
     go_wp2_with fail
     go_loopw [16, 17] (fun dv rv wx => ∃ (d r q : Nat) (P : Int), dv = .int .u64 (d : Int) ∧ rv = .int .u64 P ∧ Hid (P = (r : Int)) ∧ 0 ≤ P ∧ P < 4294967296 ∧ d < 8589934592 ∧ Hid (d * f + r = top ∧ Q ≤ d) ∧ wx = wr.drewN q)
      (fun _ rv _ => (8589934592 - intOf rv).toNat)
     case atStart => exact ⟨d0, r0, _, (r0 : Int), by first | rfl | exact int_eq hdi, by first | rfl | exact int_eq hri, rfl, by omega, by omega, htf, H0, rfl⟩
     case round =>
      obtain ⟨d, r, q, P, rfl, rfl, HP, hP0, hP1, hdl, HI, rfl⟩ := hrel
      have hrl : r < 4294967296 := by have := HP.out; omega
      clear htf htr H0 hdi hri
      have hnn1 : (n : Int) < (n : Int) + 2 := by omega
      have hnn2 : n < n + 2 := by omega
      have hin0 : (i : Int) + (n : Int) < (M : Int) + 1 := by omega
      have hin1 : 0 ≤ (i : Int) + (n : Int) := by omega
      have hin2 : ((i : Int) + (n : Int)).toNat = i + n := by omega
      by_cases hdb : d ≤ 4294967295
      ·have hdd : decide ((d : Int) ≥ 4294967296) = false := by simp; omega
       obtain ⟨p, hp⟩ : ∃ p, p = d * sc := ⟨_, rfl⟩
       have hpi : (d : Int) * (sc : Int) = (p : Int) := by rw [hp]; simp
       have hpl : p ≤ 18446744065119617025 := by rw [hp]; exact mul_u32 (by omega) hsl
       obtain ⟨t, ht⟩ : ∃ t, t = un + 4294967296 * r % 18446744073709551616 := ⟨_, rfl⟩
       obtain ⟨hor2, htl, _⟩ := or_dig r un t hunl ht
       rw [or_dig_wrap (by omega), ← HP.out] at hor2
       have ht2 : t = r * 4294967296 + un := by omega
       by_cases hpt : p ≤ t
       ·have HR := hid (HG4.out d r HI.out.1 (by rw [← hp, ← ht2]; exact hpt) (by omega))
        have hnp : decide ((p : Int) > (t : Int)) = false := by simp; omega
        clear hp ht ht2
        have hwn := IntWalk.i64_in (n : Int) (by omega)
        have hwn2 := IntWalk.i64_in ((i : Int) + (n : Int)) (by omega)
        have hwn3 : IntKind.i64.wrap ((i : Int) + ((n : Int) + 2) - 2) = (i : Int) + (n : Int) := by rw [show (i : Int) + ((n : Int) + 2) - 2 = (i : Int) + (n : Int) by omega]; exact hwn2
        go_wp2_with fail
        go_quiet (fail)
        clear hwn hwn2 hwn3
        go_wp2_with fail
        go_meet
        exact ⟨d, _, rfl, by omega, ⟨HI.out.2, HR.out⟩, by first | rfl | exact drewN2 _ _ _⟩
       ·have HR := hid (HG3.out d r HI.out.1 (Or.inr (by rw [← hp, ← ht2]; omega)))
        have hnp : decide ((p : Int) > (t : Int)) = true := by simp; omega
        have hd1 : 1 ≤ d := by have := HR.out; omega
        have HN1 := hid (show (d - 1) * f + (r + f) = top by
         have h := HI.out.1
         obtain ⟨e, rfl⟩ : ∃ e, d = e + 1 := ⟨d - 1, by omega⟩
         rw [Nat.add_sub_cancel]
         rw [Nat.add_mul, Nat.one_mul] at h
         omega)
        clear hp ht ht2
        by_cases hbr : r + f < 4294967296
        ·have hbi : ¬ (4294967296 ≤ P + F) := by have := HP.out; have := HF.out; omega
         have hwn := IntWalk.i64_in (n : Int) (by omega)
         have hwn2 := IntWalk.i64_in ((i : Int) + (n : Int)) (by omega)
         have hwn3 : IntKind.i64.wrap ((i : Int) + ((n : Int) + 2) - 2) = (i : Int) + (n : Int) := by rw [show (i : Int) + ((n : Int) + 2) - 2 = (i : Int) + (n : Int) by omega]; exact hwn2
         go_wp2_with fail
         go_quiet (fail)
         clear hwn hwn2 hwn3
         go_wp2
         have hfin : (∃ (d' r' q' : Nat) (P' : Int), Value.int .u64 ((d : Int) - 1) = .int .u64 (d' : Int) ∧ Value.int .u64 (P + F) = .int .u64 P' ∧ Hid (P' = (r' : Int)) ∧ 0 ≤ P' ∧ P' < 4294967296 ∧ d' < 8589934592 ∧ Hid (d' * f + r' = top ∧ Q ≤ d') ∧ wr.drewN (q + nq) = wr.drewN q') :=
          ⟨d - 1, r + f, _, P + F, int_eq (by omega), rfl, (show _ = _ by rw [HP.out, HF.out]; simp), by omega, by omega, by omega, ⟨HN1.out, by have := HR.out; omega⟩, rfl⟩
         refine ⟨?_, by simp [intOf]; omega⟩
         (repeat apply Exists.intro)
         exact ⟨hfin, rfl⟩
        ·have hbi : 4294967296 ≤ P + F := by have := HP.out; have := HF.out; omega
         have HE := hid (HG4.out (d - 1) (r + f) HN1.out (by
          have h1 := Nat.mul_le_mul (show d - 1 ≤ 4294967295 by omega) (show sc ≤ 4294967295 by omega)
          omega) (by omega))
         have hwn := IntWalk.i64_in (n : Int) (by omega)
         have hwn2 := IntWalk.i64_in ((i : Int) + (n : Int)) (by omega)
         have hwn3 : IntKind.i64.wrap ((i : Int) + ((n : Int) + 2) - 2) = (i : Int) + (n : Int) := by rw [show (i : Int) + ((n : Int) + 2) - 2 = (i : Int) + (n : Int) by omega]; exact hwn2
         go_wp2_with fail
         go_quiet (fail)
         clear hwn hwn2 hwn3
         go_wp2_with fail
         go_meet
         exact ⟨d - 1, _, int_eq (by omega), by omega, ⟨by have := HR.out; omega, HE.out⟩, by first | rfl | exact drewN2 _ _ _⟩
      ·have hdd : decide ((d : Int) ≥ 4294967296) = true := by simp; omega
       have HR := hid (HG3.out d r HI.out.1 (Or.inl (by omega)))
       have hd1 : 1 ≤ d := by omega
       have HN1 := hid (show (d - 1) * f + (r + f) = top by
        have h := HI.out.1
        obtain ⟨e, rfl⟩ : ∃ e, d = e + 1 := ⟨d - 1, by omega⟩
        rw [Nat.add_sub_cancel]
        rw [Nat.add_mul, Nat.one_mul] at h
        omega)
       by_cases hbr : r + f < 4294967296
       ·have hbi : ¬ (4294967296 ≤ P + F) := by have := HP.out; have := HF.out; omega
        go_wp2_with fail
        go_quiet (fail)
        go_wp2
        have hfin : (∃ (d' r' q' : Nat) (P' : Int), Value.int .u64 ((d : Int) - 1) = .int .u64 (d' : Int) ∧ Value.int .u64 (P + F) = .int .u64 P' ∧ Hid (P' = (r' : Int)) ∧ 0 ≤ P' ∧ P' < 4294967296 ∧ d' < 8589934592 ∧ Hid (d' * f + r' = top ∧ Q ≤ d') ∧ wr.drewN (q + nq) = wr.drewN q') :=
         ⟨d - 1, r + f, _, P + F, int_eq (by omega), rfl, (show _ = _ by rw [HP.out, HF.out]; simp), by omega, by omega, by omega, ⟨HN1.out, by have := HR.out; omega⟩, rfl⟩
        refine ⟨?_, by simp [intOf]; omega⟩
        (repeat apply Exists.intro)
        exact ⟨hfin, rfl⟩
       ·have hbi : 4294967296 ≤ P + F := by have := HP.out; have := HF.out; omega
        have hd2 : d ≤ 4294967296 := by
         apply Classical.byContradiction
         intro hgt
         have h1 := HI.out.1
         have h2 := HTT.out
         have h3 := Nat.mul_le_mul_right f (show 4294967297 ≤ d by omega)
         have h4 := Nat.mul_le_mul_right 4294967296 hg1
         omega
        have HE := hid (HG4.out (d - 1) (r + f) HN1.out (by
         have h1 := Nat.mul_le_mul (show d - 1 ≤ 4294967295 by omega) (show sc ≤ 4294967295 by omega)
         omega) (by omega))
        go_wp2_with fail
        go_quiet (fail)
        go_wp2_with fail
        go_meet
        exact ⟨d - 1, _, int_eq (by omega), by omega, ⟨by have := HR.out; omega, HE.out⟩, by first | rfl | exact drewN2 _ _ _⟩
   case rest =>
    obtain ⟨D, q, rfl, hDl, HDQ, rfl⟩ := hcut
    have hl1 := HH.out.1.drewN q
    have hq1 := HH.out.2.1.drewN q
    have hv1 := HH.out.2.2.1.drewN q
    have hb1 : Below w.heap.size w (wr.drewN q) := HH.out.2.2.2.trans ((below_drewN wr q).mono HH.out.2.2.2.size)
    have hgB : w.heap.size ≤ gu := hl1.block.1
    have hqB : w.heap.size ≤ w7.heap.size := hq1.block.1
    generalize wr.drewN q = x1 at hl1 hq1 hv1 hb1 ⊢
    have hVV : val vv = V := HUI.out.2.2.2.2.2.2.1
    have hWn : W < 4294967296 ^ (n + 3) := HUI.out.2.2.2.2.2.1
    have hZ : (dig (N - i) W).length = N - i := length_dig _ _
    have hNi : n + 3 ≤ N - i := by omega
    have hset : ∀ q, q = W / V → (List.replicate (i + 1) 0 ++ dig (qn - (i + 1)) (U / 4294967296 ^ (i + 1) / V)).set i q = List.replicate i 0 ++ dig (qn - i) (U / 4294967296 ^ i / V) := by
     intro q hq
     have h1 : W / V < 4294967296 := by rw [← HUI.out.2.2.2.2.2.2.2]; exact hql
     rw [set_zero (by omega) (by omega), hq]
     congr 2
     exact HDST.out.1.symm
    have hmod : W % V = U / 4294967296 ^ i % V := HDST.out.2.symm
    have hlenq : (List.replicate (i + 1) 0 ++ dig (qn - (i + 1)) (U / 4294967296 ^ (i + 1) / V)).length = qn := by simp [length_dig]; omega
    have HSET := hid hset
    have HMOD := hid hmod
    have HVW := hid (And.intro hVV (And.intro hWn (And.intro hZ hlenq)))
    clear hset hmod hVV hWn hZ hlenq HH cf cs ct cm cu hor1 htf htr H0 hdi hri
    go_wp2_with fail
    go_loopw [18, 19, 20] (fun bv cv' kv wx => ∃ k c b t : Nat, k ≤ n + 2 ∧ bv = .int .u64 (b : Int) ∧ cv' = .int .u64 (c : Int) ∧ kv = .int .i64 (k : Int) ∧ b ≤ 1 ∧ c < 4294967296 ∧ Hid (t < 4294967296 ^ k ∧ t + D * val (vv.take k) = W % 4294967296 ^ k + (c + b) * 4294967296 ^ k) ∧
      Own w.heap.size wx (some ⟨gu, 0, none⟩) c7 (dig i U ++ (dig k t ++ (dig (N - i) W).drop k)) ∧ Own w.heap.size wx (some ⟨w7.heap.size, 0, none⟩) qn (List.replicate (i + 1) 0 ++ dig (qn - (i + 1)) (U / 4294967296 ^ (i + 1) / V)) ∧ Own w.heap.size wx (some ⟨gv, 0, none⟩) cv vv ∧ Below w.heap.size w wx)
     (fun _ _ kv _ => n + 2 - (intOf kv).toNat)
    case atStart => exact ⟨0, 0, 0, 0, Nat.zero_le _, rfl, rfl, rfl, by omega, by omega, ⟨by simp, by simp [val, Nat.mod_one]⟩, by simpa [dig] using hl1, hq1, hv1, hb1⟩
    case round =>
     obtain ⟨k, c, b, t, hk, rfl, rfl, rfl, hbl, hcl, HT, hl, hq, hv, hb⟩ := hrel
     clear hl1 hq1 hv1 hb1
     by_cases hlt : k < n + 2
     ·as_aux_lemma =>
       obtain ⟨x, hx⟩ : ∃ x, x = W / 4294967296 ^ k % 4294967296 := ⟨_, rfl⟩
       obtain ⟨y, hy⟩ : ∃ y, y = vv.getD k 0 := ⟨_, rfl⟩
       have hxl : x < 4294967296 := by rw [hx]; exact Nat.mod_lt _ (by omega)
       have hyl : y < 4294967296 := by rw [hy]; exact wf_getD hv.2 _
       have hlm := length_mid (L := dig i U) (X := dig k t) (Z := dig (N - i) W) (length_dig _ _) (length_dig _ _) (by rw [length_dig]; omega)
       have hcx := hl.cell (k + i) (by rw [hlm, length_dig]; omega)
       rw [getD_mid (length_dig _ _) (length_dig _ _), getD_dig (by omega), ← hx] at hcx
       have hfx := hl.frozen (k + i)
       have hcy := hv.cell k (by omega)
       rw [← hy] at hcy
       obtain ⟨p, hp⟩ : ∃ p, p = D * y := ⟨_, rfl⟩
       have hpl : p ≤ 18446744065119617025 := by rw [hp]; exact mul_u32 hDl hyl
       have hpi : (D : Int) * (y : Int) = (p : Int) := by rw [hp]; simp
       obtain ⟨S, hS⟩ : ∃ S, S = c + p := ⟨_, rfl⟩
       have hSi : (c : Int) + (p : Int) = (S : Int) := by omega
       have hSl : S < 18446744073709551616 := by omega
       have hand := u64_low S hSl
       obtain ⟨l, hl0⟩ : ∃ l, l = S % 4294967296 := ⟨_, rfl⟩
       rw [← hl0] at hand
       have hll : l < 4294967296 := by omega
       obtain ⟨dd, b', hdl', hbl', hdd, hb1, hb0⟩ : ∃ dd b' : Nat, dd < 4294967296 ∧ b' ≤ 1 ∧ dd + (l + b) = x + b' * 4294967296 ∧ (x < l + b → b' = 1) ∧ (¬ x < l + b → b' = 0) := by
        by_cases h : x < l + b
        ·exact ⟨x + 4294967296 - (l + b), 1, by omega, by omega, by omega, fun _ => rfl, fun h2 => absurd h h2⟩
        ·exact ⟨x - (l + b), 0, by omega, by omega, by omega, fun h2 => absurd h2 h, fun _ => rfl⟩
       have HDD2 := hid hdd
       have hnew := sub_mid (P := 4294967296 ^ k) (y := y) (s := S) (d := dd) (b' := b') (i := k) rfl HT.out.2 hx (by rw [hS, hp]) (by rw [← hl0]; exact hdd)
       have HNEW := hid (show t + 4294967296 ^ k * dd < 4294967296 ^ (k + 1) ∧ (t + 4294967296 ^ k * dd) + D * val (vv.take (k + 1)) = W % 4294967296 ^ (k + 1) + (S / 4294967296 + b') * 4294967296 ^ (k + 1) by
        rw [val_take_getD, ← hy, Nat.pow_succ]
        exact ⟨step_lt HT.out.1 hdl', hnew⟩)
       have hst : ∀ v : Int, v = (dd : Int) → Own w.heap.size (wr.setCell ⟨gu, k + i, none⟩ (.int .u32 v)) (some ⟨gu, 0, none⟩) c7 (dig i U ++ (dig (k + 1) (t + 4294967296 ^ k * dd) ++ (dig (N - i) W).drop (k + 1))) := by
        intro v hv
        have h := hl.set (k + i) dd v hv hdl' (by rw [hlm, length_dig]; omega)
        rw [set_mid (length_dig _ _) (length_dig _ _) (by rw [length_dig]; omega)] at h
        rwa [step_dig_succ, Nat.div_eq_of_lt HT.out.1, Nat.zero_add, Nat.mod_eq_of_lt hdl']
       have HST := hid (show ∀ v : Int, v = (dd : Int) → Own w.heap.size (wr.setCell ⟨gu, k + i, none⟩ (.int .u32 v)) (some ⟨gu, 0, none⟩) c7 (dig i U ++ (dig (k + 1) (t + 4294967296 ^ k * dd) ++ (dig (N - i) W).drop (k + 1))) ∧
         Own w.heap.size (wr.setCell ⟨gu, k + i, none⟩ (.int .u32 v)) (some ⟨w7.heap.size, 0, none⟩) qn (List.replicate (i + 1) 0 ++ dig (qn - (i + 1)) (U / 4294967296 ^ (i + 1) / V)) ∧ Own w.heap.size (wr.setCell ⟨gu, k + i, none⟩ (.int .u32 v)) (some ⟨gv, 0, none⟩) cv vv ∧ Below w.heap.size w (wr.setCell ⟨gu, k + i, none⟩ (.int .u32 v)) from
        fun v hv' => ⟨hst v hv', hq.keep fun a ha => by cases ha; exact Below.heap_setCell wr ⟨gu, k + i, none⟩ _ w7.heap.size (fun h => hne h.symm), hv.keep fun a ha => by cases ha; exact Below.heap_setCell wr ⟨gu, k + i, none⟩ _ gv (fun h => hguv h.symm), hb.setCell hgB _⟩)
       have hlt' : (k : Int) < (n : Int) + 2 := by omega
       clear hx hy hp hS hl0 hdd hnew hst hlm hl hq hv hb
       by_cases h3 : x < l + b
       ·obtain rfl := hb1 h3
        have h3i : (x : Int) < (l : Int) + (b : Int) := by omega
        clear hb1 hb0
        go_wp2
        refine ⟨⟨k + 1, S / 4294967296, 1, t + 4294967296 ^ k * dd, by omega, rfl, int_eq (by omega), by simp, by omega, by omega, HNEW.out, HST.out _ (by have := HDD2.out; omega)⟩, by simp [intOf]; omega⟩
       ·obtain rfl := hb0 h3
        have h3i : ¬ ((x : Int) < (l : Int) + (b : Int)) := by omega
        clear hb1 hb0
        go_wp2
        refine ⟨⟨k + 1, S / 4294967296, 0, t + 4294967296 ^ k * dd, by omega, rfl, int_eq (by omega), by simp, by omega, by omega, HNEW.out, HST.out _ (by have := HDD2.out; omega)⟩, by simp [intOf]; omega⟩
     ·obtain rfl : k = n + 2 := by omega
      have hke : ¬ ((n : Int) + 2 < (n : Int) + 2) := by omega
      obtain ⟨x, hx⟩ : ∃ x, x = W / 4294967296 ^ (n + 2) % 4294967296 := ⟨_, rfl⟩
      have hxl : x < 4294967296 := by rw [hx]; exact Nat.mod_lt _ (by omega)
      have hlm := length_mid (L := dig i U) (X := dig (n + 2) t) (Z := dig (N - i) W) (length_dig _ _) (length_dig _ _) (by rw [length_dig]; omega)
      have hcx := hl.cell (n + 2 + i) (by rw [hlm, length_dig]; omega)
      rw [getD_mid (length_dig _ _) (length_dig _ _), getD_dig (by omega), ← hx, Nat.add_comm (n + 2) i] at hcx
      have hfx := hl.frozen (i + (n + 2))
      obtain ⟨dd, b', hdl', hbl', hdd, hb1, hb0⟩ : ∃ dd b' : Nat, dd < 4294967296 ∧ b' ≤ 1 ∧ dd + (c + b) = x + b' * 4294967296 ∧ (x < c + b → b' = 1) ∧ (¬ x < c + b → b' = 0) := by
       by_cases h : x < c + b
       ·exact ⟨x + 4294967296 - (c + b), 1, by omega, by omega, by omega, fun _ => rfl, fun h2 => absurd h h2⟩
       ·exact ⟨x - (c + b), 0, by omega, by omega, by omega, fun h2 => absurd h2 h, fun _ => rfl⟩
      have hTV := HT.out.2
      rw [List.take_of_length_le (by omega), HVW.out.1] at hTV
      have HDD := hid hdd
      have hend := sub_end (W := W) (n := n + 2) (d := dd) (b' := b') HVW.out.2.1 hTV hx hdd
      have hTl : t + 4294967296 ^ (n + 2) * dd < 4294967296 ^ (n + 3) := by rw [Nat.pow_succ _ (n + 2)]; exact step_lt HT.out.1 hdl'
      obtain ⟨T, hT⟩ : ∃ T, T = t + 4294967296 ^ (n + 2) * dd := ⟨_, rfl⟩
      have hst : ∀ v : Int, v = (dd : Int) → Own w.heap.size (wr.setCell ⟨gu, i + (n + 2), none⟩ (.int .u32 v)) (some ⟨gu, 0, none⟩) c7 (dig i U ++ dig (N - i) T) := by
       intro v hv
       have h := hl.set (n + 2 + i) dd v hv hdl' (by rw [hlm, length_dig]; omega)
       rw [set_mid (length_dig _ _) (length_dig _ _) (by rw [length_dig]; omega), mid_fin HVW.out.2.1 HT.out.1 hdl' (by omega), ← hT, Nat.add_comm (n + 2) i] at h
       exact h
      have HST := hid (show ∀ v : Int, v = (dd : Int) → Own w.heap.size (wr.setCell ⟨gu, i + (n + 2), none⟩ (.int .u32 v)) (some ⟨gu, 0, none⟩) c7 (dig i U ++ dig (N - i) T) ∧
        Own w.heap.size (wr.setCell ⟨gu, i + (n + 2), none⟩ (.int .u32 v)) (some ⟨w7.heap.size, 0, none⟩) qn (List.replicate (i + 1) 0 ++ dig (qn - (i + 1)) (U / 4294967296 ^ (i + 1) / V)) ∧ Own w.heap.size (wr.setCell ⟨gu, i + (n + 2), none⟩ (.int .u32 v)) (some ⟨gv, 0, none⟩) cv vv ∧ Below w.heap.size w (wr.setCell ⟨gu, i + (n + 2), none⟩ (.int .u32 v)) from
       fun v hv' => ⟨hst v hv', hq.keep fun a ha => by cases ha; exact Below.heap_setCell wr ⟨gu, i + (n + 2), none⟩ _ w7.heap.size (fun h => hne h.symm), hv.keep fun a ha => by cases ha; exact Below.heap_setCell wr ⟨gu, i + (n + 2), none⟩ _ gv (fun h => hguv h.symm), hb.setCell hgB _⟩)
      rw [← hT] at hend hTl
      have HEND := hid hend
      have HTL := hid hTl
      have hqc := hq.cell i (by rw [HVW.out.2.2.2]; omega)
      have hqf := hq.frozen i
      obtain ⟨z0, hz0⟩ : ∃ z0, z0 = (List.replicate (i + 1) 0 ++ dig (qn - (i + 1)) (U / 4294967296 ^ (i + 1) / V)).getD i 0 := ⟨_, rfl⟩
      rw [← hz0] at hqc
      have hiq : (i : Int) < (qn : Int) := by omega
      clear hz0 hx hlm hdd hTV hend hTl hT hst hl hq hv hb hlt hk HT
      by_cases h3 : x < c + b
      ·as_aux_lemma =>
        obtain rfl := hb1 h3
        have h3i : (x : Int) < (c : Int) + (b : Int) := by omega
        clear hb1 hb0
        obtain ⟨hde, hte⟩ := guess_over HV0.out (by rw [← HUI.out.2.2.2.2.2.2.2]; exact HDQ.out.1) (by rw [← HUI.out.2.2.2.2.2.2.2]; exact HDQ.out.2) HTL.out (by have := HEND.out; rw [Nat.one_mul] at this; exact this)
        have hD1 : 1 ≤ D := by rw [hde]; exact Nat.le_add_left 1 _
        have HDE := hid (And.intro hde hte)
        clear hde hte
        obtain ⟨Rm, hRm⟩ : ∃ Rm, Rm = W % V := ⟨_, rfl⟩
        have hRl' : Rm < 4294967296 ^ (n + 2) := by rw [hRm]; exact Nat.lt_trans (Nat.mod_lt _ HV0.out) HNV.out.2
        have HRM := hid (And.intro hRm hRl')
        clear hRm hRl'
        go_wp2_with fail
        go_loopw [25, 26] (fun cv' kv wx => ∃ k e : Nat, k ≤ n + 2 ∧ cv' = .int .u64 (e : Int) ∧ kv = .int .i64 (k : Int) ∧ e ≤ 1 ∧ Hid ((T % 4294967296 ^ k + val (vv.take k)) / 4294967296 ^ k = e) ∧
          Own w.heap.size wx (some ⟨gu, 0, none⟩) c7 (dig i U ++ (dig k (T % 4294967296 ^ k + val (vv.take k)) ++ (dig (N - i) T).drop k)) ∧ Own w.heap.size wx (some ⟨w7.heap.size, 0, none⟩) qn (List.replicate (i + 1) 0 ++ dig (qn - (i + 1)) (U / 4294967296 ^ (i + 1) / V)) ∧ Own w.heap.size wx (some ⟨gv, 0, none⟩) cv vv ∧ Below w.heap.size w wx)
         (fun _ kv _ => n + 2 - (intOf kv).toNat)
        case atStart =>
         obtain ⟨a1, a2, a3, a4⟩ := HST.out _ (show (x : Int) + 4294967296 - ((c : Int) + (b : Int)) = (dd : Int) by have := HDD.out; omega)
         exact ⟨0, 0, Nat.zero_le _, rfl, rfl, by omega, by simp [Hid, val, Nat.mod_one], by simpa [dig] using a1, a2, a3, a4⟩
        case round =>
         obtain ⟨k, e, hk, rfl, rfl, hel, HC, hl, hq, hv, hb⟩ := hrel
         clear hcx hfx hqc hqf
         by_cases hlt : k < n + 2
         ·obtain ⟨x2, hx⟩ : ∃ x, x = T / 4294967296 ^ k % 4294967296 := ⟨_, rfl⟩
          obtain ⟨y, hy⟩ : ∃ y, y = vv.getD k 0 := ⟨_, rfl⟩
          have hxl2 : x2 < 4294967296 := by rw [hx]; exact Nat.mod_lt _ (by omega)
          have hyl : y < 4294967296 := by rw [hy]; exact wf_getD hv.2 _
          have hlm := length_mid (L := dig i U) (X := dig k (T % 4294967296 ^ k + val (vv.take k))) (Z := dig (N - i) T) (length_dig _ _) (length_dig _ _) (by rw [length_dig]; omega)
          have hcx := hl.cell (k + i) (by rw [hlm, length_dig]; omega)
          rw [getD_mid (length_dig _ _) (length_dig _ _), getD_dig (by omega), ← hx] at hcx
          have hfx := hl.frozen (k + i)
          have hcy := hv.cell k (by omega)
          rw [← hy] at hcy
          obtain ⟨z, hz⟩ : ∃ z, z = e + (x2 + y) := ⟨_, rfl⟩
          have hzi : (e : Int) + ((x2 : Int) + (y : Int)) = (z : Int) := by omega
          obtain ⟨d2, hd2⟩ : ∃ d, d = z % 4294967296 := ⟨_, rfl⟩
          have hd2l : d2 < 4294967296 := by omega
          have hst0 := add_step (x := x2 + y) HC.out hz
          have e1 : T % 4294967296 ^ (k + 1) + val (vv.take (k + 1)) = T % 4294967296 ^ k + val (vv.take k) + 4294967296 ^ k * (x2 + y) := by
           rw [mod_succ, val_take_getD, ← hx, ← hy, Nat.mul_add]; omega
          rw [← e1, ← hd2] at hst0
          have hst : ∀ (q : Nat) (v : Int), v = (d2 : Int) → Own w.heap.size ((wr.drewN q).setCell ⟨gu, k + i, none⟩ (.int .u32 v)) (some ⟨gu, 0, none⟩) c7 (dig i U ++ (dig (k + 1) (T % 4294967296 ^ (k + 1) + val (vv.take (k + 1))) ++ (dig (N - i) T).drop (k + 1))) := by
           intro q v hv
           have h := (hl.drewN q).set (k + i) d2 v hv hd2l (by rw [hlm, length_dig]; omega)
           rw [set_mid (length_dig _ _) (length_dig _ _) (by rw [length_dig]; omega), ← hst0.1] at h
           exact h
          have HNW := hid (show ∀ (q : Nat) (v : Int), v = (d2 : Int) → Own w.heap.size ((wr.drewN q).setCell ⟨gu, k + i, none⟩ (.int .u32 v)) (some ⟨gu, 0, none⟩) c7 (dig i U ++ (dig (k + 1) (T % 4294967296 ^ (k + 1) + val (vv.take (k + 1))) ++ (dig (N - i) T).drop (k + 1))) ∧
            Own w.heap.size ((wr.drewN q).setCell ⟨gu, k + i, none⟩ (.int .u32 v)) (some ⟨w7.heap.size, 0, none⟩) qn (List.replicate (i + 1) 0 ++ dig (qn - (i + 1)) (U / 4294967296 ^ (i + 1) / V)) ∧ Own w.heap.size ((wr.drewN q).setCell ⟨gu, k + i, none⟩ (.int .u32 v)) (some ⟨gv, 0, none⟩) cv vv ∧ Below w.heap.size w ((wr.drewN q).setCell ⟨gu, k + i, none⟩ (.int .u32 v)) from
           fun q v hv' => ⟨hst q v hv', (hq.drewN q).keep fun a ha => by cases ha; exact Below.heap_setCell (wr.drewN q) ⟨gu, k + i, none⟩ _ w7.heap.size (fun h => hne h.symm), (hv.drewN q).keep fun a ha => by cases ha; exact Below.heap_setCell (wr.drewN q) ⟨gu, k + i, none⟩ _ gv (fun h => hguv h.symm), (hb.trans ((below_drewN wr q).mono hb.size)).setCell hgB _⟩)
          have HS0 := hid hst0.2
          have HD2 := hid hd2
          have hlt' : (k : Int) < (n : Int) + 2 := by omega
          clear hx hy hz hd2 hst0 e1 hst hlm hl hq hv hb
          go_wp2_with fail
          go_quiet (fail)
          go_wp2
          refine ⟨⟨k + 1, z / 4294967296, by omega, int_eq (by omega), by simp, by omega, HS0.out, HNW.out _ _ (by have := HD2.out; omega)⟩, by simp [intOf]; omega⟩
         ·obtain rfl : k = n + 2 := by omega
          have hke : ¬ ((n : Int) + 2 < (n : Int) + 2) := by omega
          obtain ⟨x2, hx⟩ : ∃ x, x = T / 4294967296 ^ (n + 2) % 4294967296 := ⟨_, rfl⟩
          have hxl2 : x2 < 4294967296 := by rw [hx]; exact Nat.mod_lt _ (by omega)
          have hcc := HC.out
          rw [List.take_of_length_le (by omega), HVW.out.1] at hcc hl
          have hae := add_end (T := T) (V := V) (R := Rm) (n := n + 2) (z := (x2 + e) % 4294967296) HTL.out HRM.out.2 (by rw [HRM.out.1]; exact HDE.out.2) hcc hx rfl
          have hlm := length_mid (L := dig i U) (X := dig (n + 2) (T % 4294967296 ^ (n + 2) + V)) (Z := dig (N - i) T) (length_dig _ _) (length_dig _ _) (by rw [length_dig]; omega)
          have hcx := hl.cell (n + 2 + i) (by rw [hlm, length_dig]; omega)
          rw [getD_mid (length_dig _ _) (length_dig _ _), getD_dig (by omega), ← hx, Nat.add_comm (n + 2) i] at hcx
          have hfx := hl.frozen (i + (n + 2))
          have hqc := hq.cell i (by rw [HVW.out.2.2.2]; omega)
          have hqf := hq.frozen i
          obtain ⟨z1, hz1⟩ : ∃ z0, z0 = (List.replicate (i + 1) 0 ++ dig (qn - (i + 1)) (U / 4294967296 ^ (i + 1) / V)).getD i 0 := ⟨_, rfl⟩
          rw [← hz1] at hqc
          have hdl := dig_mod (n + 2) (T % 4294967296 ^ (n + 2) + V)
          rw [hae.2] at hdl
          have hnew : ∀ v u : Int, v = 0 → u = ((D - 1 : Nat) : Int) → Own w.heap.size ((wr.setCell ⟨gu, i + (n + 2), none⟩ (.int .u32 v)).setCell ⟨w7.heap.size, i, none⟩ (.int .u32 u)) (some ⟨gu, 0, none⟩) c7 (dig i U ++ dig (N - i) (U / 4294967296 ^ i % V)) ∧
            Own w.heap.size ((wr.setCell ⟨gu, i + (n + 2), none⟩ (.int .u32 v)).setCell ⟨w7.heap.size, i, none⟩ (.int .u32 u)) (some ⟨w7.heap.size, 0, none⟩) qn (List.replicate i 0 ++ dig (qn - i) (U / 4294967296 ^ i / V)) ∧
            Own w.heap.size ((wr.setCell ⟨gu, i + (n + 2), none⟩ (.int .u32 v)).setCell ⟨w7.heap.size, i, none⟩ (.int .u32 u)) (some ⟨gv, 0, none⟩) cv vv ∧ Below w.heap.size w ((wr.setCell ⟨gu, i + (n + 2), none⟩ (.int .u32 v)).setCell ⟨w7.heap.size, i, none⟩ (.int .u32 u)) := by
           intro v u hv0 hu0
           have h := hl.set (n + 2 + i) 0 v hv0 (by omega) (by rw [hlm, length_dig]; omega)
           rw [set_mid (length_dig _ _) (length_dig _ _) (by rw [length_dig]; omega), ← hdl, mid_fin HTL.out HRM.out.2 (by omega) (by omega), Nat.mul_zero, Nat.add_zero, HRM.out.1, HMOD.out, Nat.add_comm (n + 2) i] at h
           have hq2 : Own w.heap.size (wr.setCell ⟨gu, i + (n + 2), none⟩ (.int .u32 v)) (some ⟨w7.heap.size, 0, none⟩) qn (List.replicate (i + 1) 0 ++ dig (qn - (i + 1)) (U / 4294967296 ^ (i + 1) / V)) := hq.keep fun a ha => by cases ha; exact Below.heap_setCell wr ⟨gu, i + (n + 2), none⟩ _ w7.heap.size (fun h => hne h.symm)
           have hv2 : Own w.heap.size (wr.setCell ⟨gu, i + (n + 2), none⟩ (.int .u32 v)) (some ⟨gv, 0, none⟩) cv vv := hv.keep fun a ha => by cases ha; exact Below.heap_setCell wr ⟨gu, i + (n + 2), none⟩ _ gv (fun h => hguv h.symm)
           refine ⟨h.keep fun a ha => by cases ha; exact Below.heap_setCell _ ⟨w7.heap.size, i, none⟩ _ gu hne, ?_, hv2.keep fun a ha => by cases ha; exact Below.heap_setCell _ ⟨w7.heap.size, i, none⟩ _ gv hgvq, (hb.setCell hgB _).setCell hqB _⟩
           have h2 := hq2.set i (D - 1) u hu0 (by omega) (by rw [HVW.out.2.2.2]; omega)
           rwa [HSET.out (D - 1) (by rw [HDE.out.1, Nat.add_sub_cancel])] at h2
          have hwr : IntKind.u32.wrap ((x2 : Int) + (e : Int)) = 0 := by
           rw [show (x2 : Int) + (e : Int) = 4294967296 by have := hae.1; omega]; rfl
          have HNW := hid hnew
          clear hx hcc hae hlm hdl hnew hl hq hv hb hz1 hlt hk
          go_wp2
          refine ⟨⟨i, by omega, int_eq (by omega), HNW.out _ _ (by omega) (by omega)⟩, by simp [intOf]⟩
      ·as_aux_lemma =>
        obtain rfl := hb0 h3
        have h3i : ¬ ((x : Int) < (c : Int) + (b : Int)) := by omega
        clear hb1 hb0
        obtain ⟨hde, hte⟩ := guess_exact (P := 0) HV0.out (by rw [← HUI.out.2.2.2.2.2.2.2]; exact HDQ.out.1) (by have := HEND.out; rw [Nat.zero_mul, Nat.add_zero] at this; exact this)
        have H3 := HST.out
        rw [hte, HMOD.out] at H3
        have hnew : ∀ v : Int, v = (dd : Int) → Own w.heap.size ((wr.setCell ⟨gu, i + (n + 2), none⟩ (.int .u32 v)).setCell ⟨w7.heap.size, i, none⟩ (.int .u32 (D : Int))) (some ⟨gu, 0, none⟩) c7 (dig i U ++ dig (N - i) (U / 4294967296 ^ i % V)) ∧
          Own w.heap.size ((wr.setCell ⟨gu, i + (n + 2), none⟩ (.int .u32 v)).setCell ⟨w7.heap.size, i, none⟩ (.int .u32 (D : Int))) (some ⟨w7.heap.size, 0, none⟩) qn (List.replicate i 0 ++ dig (qn - i) (U / 4294967296 ^ i / V)) ∧
          Own w.heap.size ((wr.setCell ⟨gu, i + (n + 2), none⟩ (.int .u32 v)).setCell ⟨w7.heap.size, i, none⟩ (.int .u32 (D : Int))) (some ⟨gv, 0, none⟩) cv vv ∧ Below w.heap.size w ((wr.setCell ⟨gu, i + (n + 2), none⟩ (.int .u32 v)).setCell ⟨w7.heap.size, i, none⟩ (.int .u32 (D : Int))) := by
         intro v hv
         obtain ⟨a1, a2, a3, a4⟩ := H3 v hv
         refine ⟨a1.keep fun a ha => by cases ha; exact Below.heap_setCell _ ⟨w7.heap.size, i, none⟩ _ gu hne, ?_, a3.keep fun a ha => by cases ha; exact Below.heap_setCell _ ⟨w7.heap.size, i, none⟩ _ gv hgvq, a4.setCell hqB _⟩
         have h := a2.set i D (D : Int) rfl hDl (by rw [HVW.out.2.2.2]; omega)
         rwa [HSET.out D hde] at h
        have HNEW := hid hnew
        clear hnew H3 hde hte
        go_wp2
        refine ⟨⟨i, by omega, int_eq (by omega), HNEW.out _ (by have := HDD.out; omega)⟩, by simp [intOf]⟩
end Go.Proofs.YtcankknlbljicaaGreatDoor

namespace Go.Proofs.YtcankknlbljicaaGreatDoor
open Go.RowKit Num

theorem rdivmod_any (aa ab : Option Addr) (ca cb : Nat) (xs ys : List Nat) (w : World) (ha : Rd w aa ca xs) (hb : Rd w ab cb ys) (h0 : val ys ≠ 0) (hl1 : xs.length ≤ 4398046511104) (hl2 : ys.length ≤ 4398046511104) :
  Calls Tryz.prog 210 #[.slice aa xs.length ca, .slice ab ys.length cb] w (RetDiv w.heap.size (nd (val xs / val ys)) (nd (val xs % val ys)) 0 w) := by
 have hl0 : (nd (val ys)).length ≠ 0 := fun h => h0 (nd_eq_nil.1 (List.eq_nil_of_length_eq_zero h))
 by_cases h1 : (nd (val ys)).length = 1
 ·obtain ⟨d, hd⟩ := List.length_eq_one_iff.1 h1
  exact rdivmod_one aa ab ca cb d xs ys w ha hb hd (by omega) (by omega)
 ·obtain ⟨n, hn⟩ : ∃ n, (nd (val ys)).length = n + 2 := ⟨(nd (val ys)).length - 2, by omega⟩
  by_cases hlt : val xs < val ys
  ·exact rdivmod_less aa ab ca cb n xs ys w ha hb hn hlt (by omega) (by omega)
  ·exact rdivmod_long aa ab ca cb n xs ys w ha hb hn (by omega) hl1 hl2
end Go.Proofs.YtcankknlbljicaaGreatDoor
