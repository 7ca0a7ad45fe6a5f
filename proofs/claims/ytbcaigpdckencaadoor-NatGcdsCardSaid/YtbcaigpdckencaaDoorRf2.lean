/- Walks: the reference's Normal, Compare. -/
import Derived.Test.YtbcaigpdckencaaDoorRf1
namespace Go.Proofs.YtbcaigpdckencaaDoor
open Go.RowKit Num

set_option maxRecDepth 100000 in
set_option maxHeartbeats 800000 in
theorem rcompare_any (aa ab : Option Addr) (ca cb : Nat) (xs ys : List Nat) (w : World) (ha : Rd w aa ca xs) (hb : Rd w ab cb ys) (hl1 : xs.length ≤ 17592186044416) (hl2 : ys.length ≤ 17592186044416) :
    Calls Tryd.prog 58 #[.slice aa xs.length ca, .slice ab ys.length cb] w (RetB (.int .i64 (cmpN (val xs) (val ys))) w) := by
  have ht1 := rtrim_any aa ca xs w ha hl1
  have ht2 := fun w1 (hr : Rd w1 ab cb ys) => rtrim_any ab cb ys w1 hr hl2
  have hlx := nd_length_le_of ha.dg
  have hly := nd_length_le_of hb.dg
  obtain ⟨us, hus⟩ : ∃ us, us = nd (val xs) := ⟨_, rfl⟩
  obtain ⟨vs, hvs⟩ : ∃ vs, vs = nd (val ys) := ⟨_, rfl⟩
  have hvx : val xs = val us := by rw [hus, val_nd]
  have hvy : val ys = val vs := by rw [hvs, val_nd]
  have hux : us = nd (val us) := by rw [hus, val_nd]
  have huy : vs = nd (val vs) := by rw [hvs, val_nd]
  rw [← hus] at ht1 hlx
  rw [← hvs] at ht2 hly
  obtain ⟨r, hr⟩ : ∃ r, r = cmpN (val xs) (val ys) := ⟨_, rfl⟩
  rw [← hr]
  rw [hvx, hvy] at hr
  have HUX := hid hux
  have HUY := hid huy
  have HT := hid ht2
  have HR := hid hr
  clear hus hvs hvx hvy hux huy ha ht2 hr
  go_enter Tryd.func58, Tryd.ntmps58
  go_wp2_with fail
  refine ht1.mono ?_
  rintro e w1 ⟨a1, c1, rfl, ho1, hb1⟩
  have h2 := HT.out w1 (hb.below hb1)
  clear ht1
  go_wp2_with fail
  refine h2.mono ?_
  rintro e w2 ⟨a2, c2, rfl, ho2, hb2⟩
  have hra := (ho1.below hb2).rd
  have hrb := ho2.rd
  have hb02 := hb1.trans (hb2.mono hb1.size)
  clear h2 ho1 ho2 hb1 hb2 HT hb
  have hfin : ∀ q, Below w.heap.size w (w2.drewN q) := fun q => hb02.trans ((below_drewN w2 q).mono hb02.size)
  have HF := hid hfin
  clear hfin
  by_cases hlen : us.length = vs.length
  · have hne : ((us.length : Int) != (vs.length : Int)) = false := by simp [hlen]
    have hux := hra.dg
    have huy := hrb.dg
    have HLEN := hid hlen
    clear hlen
    go_wp2
    go_loopw [5] (fun iv wr => ∃ k q : Nat, k ≤ us.length ∧ iv = .int .i64 ((k : Int) - 1) ∧ Hid (us.drop k = vs.drop k) ∧ wr = w2.drewN q) (fun iv _ => (intOf iv + 1).toNat)
    case atStart => exact ⟨us.length, 0, Nat.le_refl _, rfl, by have := HLEN.out; simp [Hid, this], rfl⟩
    case round =>
      obtain ⟨k, q, hk, rfl, HD, rfl⟩ := hrel
      by_cases hk0 : k = 0
      · subst hk0
        obtain rfl : r = 0 := by
          have h := HD.out
          simp only [List.drop_zero] at h
          rw [HR.out, h]; simp [cmpN]
        go_wp2
        go_ret
        exact ⟨rfl, HF.out _⟩
      · obtain ⟨m, rfl⟩ : ∃ m, k = m + 1 := ⟨k - 1, by omega⟩
        clear hk0
        rcases hra.lies with h1 | ⟨b1, o1, rfl, hc1⟩
        · simp [h1] at hk
        rcases hrb.lies with h1 | ⟨b2, o2, rfl, hc2⟩
        · have := HLEN.out; simp [h1] at this; simp [this] at hk
        have g1 := hc1 m (by omega)
        have g2 := hc2 m (by have := HLEN.out; omega)
        obtain ⟨x, hx⟩ : ∃ x, x = us.getD m 0 := ⟨_, rfl⟩
        obtain ⟨y, hy⟩ : ∃ y, y = vs.getD m 0 := ⟨_, rfl⟩
        rw [← hx] at g1
        rw [← hy] at g2
        have hml : m < vs.length := by have := HLEN.out; omega
        have hl1 : (m : Int) < (us.length : Int) := by omega
        have hl2 : (m : Int) < (vs.length : Int) := by omega
        have hxl : x < 4294967296 := by rw [hx]; exact wf_getD hux m
        have hyl : y < 4294967296 := by rw [hy]; exact wf_getD huy m
        have HXY := hid (And.intro hx hy)
        clear hc1 hc2 hra hrb hx hy
        by_cases h3 : x < y
        · have hr2 : r = -1 := by
            rw [HR.out, cmpN]
            have := val_lt_top (k := m) hux HLEN.out (by omega) HD.out (by have h1 := HXY.out.1; have h2 := HXY.out.2; omega)
            rw [if_pos this]
          subst hr2
          have hlt : (x : Int) < (y : Int) := by omega
          go_wp2_with fail
          go_quiet (fail)
          go_wp2
          go_ret
          exact ⟨rfl, by simp only [World.drewN_drewN]; exact HF.out _⟩
        · by_cases h4 : y < x
          · have hr2 : r = 1 := by
              rw [HR.out, cmpN]
              have := val_lt_top (k := m) huy HLEN.out.symm (by omega) HD.out.symm (by have h1 := HXY.out.1; have h2 := HXY.out.2; omega)
              rw [if_neg (by omega), if_pos this]
            subst hr2
            have hlt : ¬ (x : Int) < (y : Int) := by omega
            have hgt : (x : Int) > (y : Int) := by omega
            go_wp2_with fail
            go_quiet (fail)
            go_wp2_with fail
            go_quiet (fail)
            go_wp2
            go_ret
            exact ⟨rfl, by simp only [World.drewN_drewN]; exact HF.out _⟩
          · have hlt : ¬ (x : Int) < (y : Int) := by omega
            have hgt : ¬ (x : Int) > (y : Int) := by omega
            have HE := hid (show x = y by omega)
            clear h3 h4
            go_wp2_with fail
            go_quiet (fail)
            go_wp2_with fail
            go_quiet (fail)
            go_wp2
            refine ⟨⟨m, _, by omega, rfl, ?_, rfl⟩, by simp [intOf]⟩
            show us.drop m = vs.drop m
            have := HLEN.out
            rw [List.drop_eq_getElem_cons (by omega), List.drop_eq_getElem_cons hml, HD.out]
            have e1 : us[m]'(by omega) = x := by rw [HXY.out.1]; simp [List.getD, show m < us.length by omega]
            have e2 : vs[m]'hml = y := by rw [HXY.out.2]; simp [List.getD, hml]
            rw [e1, e2, HE.out]
  · have hne : ((us.length : Int) != (vs.length : Int)) = true := by rw [bne_iff_ne]; omega
    by_cases h1 : us.length < vs.length
    · have hr2 : r = -1 := by
        have := nd_length_mono (u := val vs) (v := val us)
        rw [← HUX.out, ← HUY.out] at this
        rw [HR.out, cmpN, if_pos (by omega)]
      subst hr2
      have hlt : (us.length : Int) < (vs.length : Int) := by omega
      clear hlen hra hrb h1
      go_wp2
      go_ret
      exact ⟨rfl, hb02⟩
    · have hr2 : r = 1 := by
        have := nd_length_mono (u := val us) (v := val vs)
        rw [← HUX.out, ← HUY.out] at this
        rw [HR.out, cmpN, if_neg (by omega), if_pos (by omega)]
      subst hr2
      have hlt : ¬ (us.length : Int) < (vs.length : Int) := by omega
      clear hlen hra hrb h1
      go_wp2
      go_ret
      exact ⟨rfl, hb02⟩
end Go.Proofs.YtbcaigpdckencaaDoor
