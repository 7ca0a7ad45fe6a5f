/- Walks: the reference's DivMod: the short ways. -/
import Derived.Test.YtehmogpahkinfaaDoorRdn
namespace Go.Proofs.YtehmogpahkinfaaDoor
open Go.RowKit Num

set_option maxRecDepth 100000 in
set_option maxHeartbeats 400000 in
theorem rdivmod_zero (aa ab : Option Addr) (ca cb : Nat) (xs ys : List Nat) (w : World) (ha : Rd w aa ca xs) (hb : Rd w ab cb ys) (h0 : val ys = 0) (hl1 : xs.length ≤ 17592186044416) (hl2 : ys.length ≤ 17592186044416) :
    Calls Tryd.prog 14 #[.slice aa xs.length ca, .slice ab ys.length cb] w (RetDiv w.heap.size [] [] 3 w) := by
  have ht1 := rtrim_any aa ca xs w ha hl1
  have ht2 := fun w1 (hr : Rd w1 ab cb ys) => rtrim_any ab cb ys w1 hr hl2
  simp only [h0, nd_zero] at ht2
  have hb0 : ((([] : List Nat).length : Int) == 0) = true := by simp
  have HT := hid ht2
  have HB := hid hb
  clear ht2 h0 ha hb
  go_enter Tryd.func14, Tryd.ntmps14
  go_wp2_with fail
  refine ht1.mono ?_
  rintro e w1 ⟨a1, c1, rfl, ho1, hb1⟩
  have h2 := HT.out w1 (HB.out.below hb1)
  clear ht1 HT HB
  go_wp2_with fail
  refine h2.mono ?_
  rintro e w2 ⟨a2, c2, rfl, ho2, hb2⟩
  go_wp2
  go_ret3
  exact ⟨none, 0, none, 0, rfl, Own.nil _ _, Own.nil _ _, hb1.trans (hb2.mono hb1.size)⟩

set_option maxRecDepth 100000 in
set_option maxHeartbeats 800000 in
theorem rdivmod_one (aa ab : Option Addr) (ca cb d : Nat) (xs ys : List Nat) (w : World) (ha : Rd w aa ca xs) (hb : Rd w ab cb ys) (hv : nd (val ys) = [d]) (hl1 : xs.length ≤ 17592186044416) (hl2 : ys.length ≤ 17592186044416) :
    Calls Tryd.prog 14 #[.slice aa xs.length ca, .slice ab ys.length cb] w (RetDiv w.heap.size (nd (val xs / val ys)) (nd (val xs % val ys)) 0 w) := by
  have hvd : val ys = d := by rw [← val_nd (val ys), hv]; simp [val]
  have hdl : d < 4294967296 := by have := wf_nd (val ys); rw [hv] at this; exact (wf_cons.1 this).1
  have hd0 : 0 < d := by
    have := nrm_nd (val ys)
    rw [hv] at this
    rcases this with h | h
    · cases h
    · simp at h; omega
  have ht1 := rtrim_any aa ca xs w ha hl1
  have ht2 := fun w1 (hr : Rd w1 ab cb ys) => rtrim_any ab cb ys w1 hr hl2
  simp only [hv] at ht2
  have hlx := nd_length_le_of ha.dg
  obtain ⟨us, hus⟩ : ∃ us, us = nd (val xs) := ⟨_, rfl⟩
  have hvu : val us = val xs := by rw [hus, val_nd]
  rw [← hus] at ht1 hlx
  rw [hvd, ← hvu]
  have hb1 : ((([d] : List Nat).length : Int) == 1) = true := by simp
  have hb0 : ((([d] : List Nat).length : Int) == 0) = false := by simp
  have HT := hid ht2
  have HB := hid hb
  clear ht2 ha hb hv hvd hus hvu
  go_enter Tryd.func14, Tryd.ntmps14
  go_wp2_with fail
  refine ht1.mono ?_
  rintro e w1 ⟨a1, c1, rfl, ho1, hbe1⟩
  have h2 := HT.out w1 (HB.out.below hbe1)
  clear ht1 HT HB
  go_wp2_with fail
  refine h2.mono ?_
  rintro e w2 ⟨a2, c2, rfl, ho2, hbe2⟩
  have hbe02 := hbe1.trans (hbe2.mono hbe1.size)
  have ho12 := ho1.below hbe2
  rcases ho2.cases with ⟨_, _, h3⟩ | ⟨g, cur, rfl, hg, _⟩
  · cases h3
  have hc := ho2.cell 0 (by simp)
  simp only [List.getD_cons_zero] at hc
  have hsm := rsmall_any a1 c1 d us w2 ho12.rd (by omega) hdl hd0
  obtain ⟨rr, hrr⟩ : ∃ rr, rr = val us % d := ⟨_, rfl⟩
  have hrl : rr < 4294967296 := by rw [hrr]; exact Nat.lt_of_lt_of_le (Nat.mod_lt _ hd0) (by omega)
  rw [← hrr] at hsm
  have HRR := hid hrr
  clear h2 hg hrr
  go_wp2_with fail
  refine hsm.mono ?_
  rintro e w3 ⟨a3, c3, rfl, ho3, hbe3⟩
  have hbe03 := hbe02.trans (hbe3.mono hbe02.size)
  have hq := (ho3.mono hbe02.size)
  have hone := Own.one w3 w3.heap.size rr (Nat.le_refl _) hrl
  have hba := below_alloc w3 (.cells #[.int .u32 (rr : Int)] 62)
  have htr := rtrim_any _ 1 [rr] _ hone.rd (by simp)
  rw [show val [rr] = rr by simp [val]] at htr
  have hq2 := hq.below hba
  have hbe04 := hbe03.trans (hba.mono hbe03.size)
  have H4 := hid (And.intro hq2 hbe04)
  clear hsm hbe3 ho3 hq hone hba hq2 hbe04 hbe03 hbe02 hc ho2 ho12 hbe2 ho1 hbe1
  go_wp2_with fail
  refine htr.mono ?_
  rintro e w5 ⟨a5, c5, rfl, ho5, hbe5⟩
  go_wp2
  go_ret3
  rw [← HRR.out]
  exact ⟨_, _, _, _, rfl, H4.out.1.below hbe5, ho5.mono H4.out.2.size, H4.out.2.trans (hbe5.mono H4.out.2.size)⟩

set_option maxRecDepth 100000 in
set_option maxHeartbeats 800000 in
theorem rdivmod_less (aa ab : Option Addr) (ca cb n : Nat) (xs ys : List Nat) (w : World) (ha : Rd w aa ca xs) (hb : Rd w ab cb ys) (hv : (nd (val ys)).length = n + 2) (hlt : val xs < val ys) (hl1 : xs.length ≤ 17592186044416) (hl2 : ys.length ≤ 17592186044416) :
    Calls Tryd.prog 14 #[.slice aa xs.length ca, .slice ab ys.length cb] w (RetDiv w.heap.size (nd (val xs / val ys)) (nd (val xs % val ys)) 0 w) := by
  rw [Nat.div_eq_of_lt hlt, Nat.mod_eq_of_lt hlt, nd_zero]
  have ht1 := rtrim_any aa ca xs w ha hl1
  have ht2 := fun w1 (hr : Rd w1 ab cb ys) => rtrim_any ab cb ys w1 hr hl2
  have hlx := nd_length_le_of ha.dg
  have hly := nd_length_le_of hb.dg
  obtain ⟨us, hus⟩ : ∃ us, us = nd (val xs) := ⟨_, rfl⟩
  obtain ⟨vs, hvs⟩ : ∃ vs, vs = nd (val ys) := ⟨_, rfl⟩
  have hvu : val us = val xs := by rw [hus, val_nd]
  have hvv : val vs = val ys := by rw [hvs, val_nd]
  rw [← hus] at ht1 hlx ⊢
  rw [← hvs] at hv hly
  simp only [← hvs] at ht2
  have hb1 : ((vs.length : Int) == 1) = false := beq_eq_false_iff_ne.2 (by omega)
  have hb0 : ((vs.length : Int) == 0) = false := beq_eq_false_iff_ne.2 (by omega)
  obtain ⟨r, hr⟩ : ∃ r, r = cmpN (val us) (val vs) := ⟨_, rfl⟩
  have hr0 : r < 0 := by rw [hr, cmpN_neg, hvu, hvv]; exact hlt
  have HT := hid ht2
  have HB := hid hb
  have HR := hid hr
  clear ht2 ha hb hv hus hvs hvu hvv hlt hr
  go_enter Tryd.func14, Tryd.ntmps14
  go_wp2_with fail
  refine ht1.mono ?_
  rintro e w1 ⟨a1, c1, rfl, ho1, hbe1⟩
  have h2 := HT.out w1 (HB.out.below hbe1)
  clear ht1 HT HB
  go_wp2_with fail
  refine h2.mono ?_
  rintro e w2 ⟨a2, c2, rfl, ho2, hbe2⟩
  have hbe02 := hbe1.trans (hbe2.mono hbe1.size)
  have ho12 := ho1.below hbe2
  have hcm := rcompare_any a1 a2 c1 c2 us vs w2 ho12.rd ho2.rd (by omega) (by omega)
  rw [← HR.out] at hcm
  clear h2 ho1 ho2 hbe1 hbe2
  go_wp2_with fail
  refine hcm.mono ?_
  rintro e w3 ⟨rfl, hbe3⟩
  go_wp2
  go_ret3
  exact ⟨none, 0, _, _, rfl, Own.nil _ _, ho12.below hbe3, hbe02.trans (hbe3.mono hbe02.size)⟩
end Go.Proofs.YtehmogpahkinfaaDoor
