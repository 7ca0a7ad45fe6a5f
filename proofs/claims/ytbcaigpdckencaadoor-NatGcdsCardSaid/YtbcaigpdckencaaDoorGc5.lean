/- nat.Gcd. -/
import Derived.Test.YtbcaigpdckencaaDoorGc4
namespace Go.Proofs.YtbcaigpdckencaaDoor
open Go.RowKit Num

theorem two_digits {Y : Nat} (h : (nd Y).length ≤ 2) : Y < 18446744073709551616 := by
  have h1 := lt_pow_nd Y
  have h2 : 4294967296 ^ (nd Y).length ≤ 4294967296 ^ 2 := Nat.pow_le_pow_right (by omega) h
  have h3 : (4294967296 : Nat) ^ 2 = 18446744073709551616 := by decide
  omega
theorem gcd_mod' (X Y : Nat) : Nat.gcd Y (X % Y) = Nat.gcd X Y := by rw [Nat.gcd_comm Y, ← Nat.gcd_rec, Nat.gcd_comm]

set_option maxRecDepth 100000 in
set_option maxHeartbeats 3200000 in
theorem gcd_any (aa ab : Option Addr) (ca cb : Nat) (xs ys : List Nat) (w : World) (ha : Rd w aa ca xs) (hb : Rd w ab cb ys) (hl1 : xs.length ≤ 4398046511104) (hl2 : ys.length ≤ 4398046511104) (hT : Tb w) :
    Calls Tryd.prog 22 #[.slice aa xs.length ca, .slice ab ys.length cb] w (RetOwn w.heap.size (nd (Nat.gcd (val xs) (val ys))) w) := by
  have hcx := cut_any aa ca xs w ha
  have hcy := cut_any ab cb ys w hb
  have hx := ha.cutND
  have hy := hb.cutND
  have hlx := Nat.le_trans (nd_length_le_of ha.dg) hl1
  have hly := Nat.le_trans (nd_length_le_of hb.dg) hl2
  obtain ⟨u, hu⟩ : ∃ u, u = val xs := ⟨_, rfl⟩
  obtain ⟨v, hv⟩ : ∃ v, v = val ys := ⟨_, rfl⟩
  rw [← hu] at hcx hx hlx ⊢
  rw [← hv] at hcy hy hly ⊢
  have hcm := compare_any aa ab ca cb (nd u) (nd v) w hx hy
  rw [val_nd, val_nd] at hcm
  obtain ⟨c, hc⟩ : ∃ c, c = cmpN u v := ⟨_, rfl⟩
  rw [← hc] at hcm
  have hcn : c < 0 ↔ u < v := by rw [hc]; exact cmpN_neg
  obtain ⟨G, hG⟩ : ∃ G, G = Nat.gcd u v := ⟨_, rfl⟩
  rw [← hG]
  have HX := hid (And.intro hx (And.intro hy hT))
  have HCM := hid hcm
  have HCX := hid hcx
  have HCY := hid hcy
  clear hu hv hc ha hb hx hy hcm hcx hcy hT hl1 hl2
  by_cases hlt : u < v
  · have hc1 : c < 0 := hcn.2 hlt
    have hle : u ≤ v := by omega
    have HG := hid (show Nat.gcd v u = G by rw [hG, Nat.gcd_comm])
    clear hcn hG hlt
    go_enter Tryd.func22, Tryd.ntmps22
    go_wp2_with fail
    refine HCX.out.mono ?_
    rintro e w' ⟨rfl, rfl⟩
    go_wp2_with fail
    refine HCY.out.mono ?_
    rintro e w' ⟨rfl, rfl⟩
    go_wp2_with fail
    refine HCM.out.mono ?_
    rintro e w' ⟨rfl, qq, rfl⟩
    have hx1 := HX.out.2.1.drewN qq
    have hy1 := HX.out.1.drewN qq
    have hb1 := below_drewN w qq
    have hT1 : Tb (w.drewN qq) := HX.out.2.2.below hb1
    clear HCX HCY HCM HX
    generalize w.drewN qq = w1 at hx1 hy1 hb1 hT1 ⊢
    by_cases hY2 : (nd u).length ≤ 2
    · have hn2 : ¬ ((2 : Int) < ((nd u).length : Int)) := by omega
      have HW := hid (And.intro hb1 (And.intro hx1 (And.intro hy1 hT1)))
      clear hb1 hx1 hy1 hT1
      by_cases hY0 : u = 0
      · have hG1 : G = v := by rw [← HG.out, hY0, Nat.gcd_zero_right]
        have h0 : (nd u).length = 0 := by rw [hY0, nd_zero]; rfl
        have h0i : (((nd u).length : Int) == 0) = true := by rw [h0]; rfl
        have hcl := clone_any ab cb (nd v) w1 HW.out.2.1 (by omega)
        have HCL := hid hcl
        have HB := hid (And.intro hG1 HW.out.1)
        clear hcl hG1 hY0 h0
        go_wp2_with fail
        refine HCL.out.mono ?_
        rintro e wf ⟨af, cf, rfl, of, bf⟩
        go_wp2
        go_ret
        rw [HB.out.1]
        exact ⟨af, cf, rfl, of.mono HB.out.2.size, HB.out.2.trans (bf.mono HB.out.2.size)⟩
      · have h0 : 0 < (nd u).length := Nat.pos_of_ne_zero fun h => hY0 (nd_eq_nil.1 (List.eq_nil_of_length_eq_zero h))
        have h0i : (((nd u).length : Int) == 0) = false := by rw [beq_eq_false_iff_ne]; omega
        have hdm := divmod_any ab aa cb ca (nd v) (nd u) w1 HW.out.2.1 HW.out.2.2.1 (by rw [val_nd]; exact hY0) (by omega)
        rw [val_nd, val_nd] at hdm
        have hYs := two_digits hY2
        have hRl : v % u < u := Nat.mod_lt _ (Nat.pos_of_ne_zero hY0)
        have hR2 : (nd (v % u)).length ≤ 2 := Nat.le_trans (nd_length_mono (Nat.le_of_lt hRl)) hY2
        have hGm : Nat.gcd u (v % u) = G := (gcd_mod' v u).trans HG.out
        have hGs : G < 18446744073709551616 := Nat.lt_of_le_of_lt (by rw [← hGm]; exact Nat.gcd_le_left _ (Nat.pos_of_ne_zero hY0)) hYs
        obtain ⟨q, hq⟩ : ∃ q, q = v / u := ⟨_, rfl⟩
        obtain ⟨r, hr⟩ : ∃ r, r = v % u := ⟨_, rfl⟩
        rw [← hq, ← hr] at hdm
        rw [← hr] at hRl hR2 hGm
        have HDM := hid hdm
        have HB := hid (And.intro HW.out.1 (And.intro HW.out.2.2.1 HW.out.2.2.2))
        have HGM := hid hGm
        have HY := hid hY0
        clear hdm hq hr hGm hY0 h0
        go_wp2_with fail
        refine HDM.out.mono ?_
        rintro e w4 ⟨aq, cq, ar, cr, rfl, oq, or4, b4⟩
        have hb4 := HB.out.1.trans (b4.mono HB.out.1.size)
        have t1 := toUint64_any aa ca (nd u) w4 (HB.out.2.1.below b4) hY2
        have t2 := toUint64_any ar cr (nd r) w4 or4.rd hR2
        rw [val_nd] at t1 t2
        have t3 := smallGcd_any u r w4 HY.out hYs (by omega) (HB.out.2.2.below b4)
        rw [HGM.out] at t3
        have t4 := ofUint64_any G w4 hGs
        have T := hid (And.intro t1 (And.intro t2 (And.intro t3 t4)))
        have HB4 := hid hb4
        clear t1 t2 t3 t4 oq or4 b4 hb4 HDM
        go_wp2_with fail
        (with_reducible refine T.out.1.mono ?_)
        rintro e w' ⟨rfl, rfl⟩
        go_wp2_with fail
        (with_reducible refine T.out.2.1.mono ?_)
        rintro e w' ⟨rfl, rfl⟩
        go_wp2_with fail
        (with_reducible refine T.out.2.2.1.mono ?_)
        rintro e w' ⟨rfl, rfl⟩
        go_wp2_with fail
        (with_reducible refine T.out.2.2.2.mono ?_)
        rintro e wf ⟨af, cf, rfl, of, bf⟩
        go_wp2
        go_ret
        exact ⟨af, cf, rfl, of.mono HB4.out.size, HB4.out.trans (bf.mono HB4.out.size)⟩
    · have hn2 : (2 : Int) < ((nd u).length : Int) := by omega
      have hsh := shorten_any ab aa cb ca (nd v) (nd u) w1 hx1 hy1 (nrm_nd _) (nrm_nd _) (by rw [val_nd, val_nd]; exact hle) (by omega) (nd_length_mono hle) (by omega)
      rw [val_nd, val_nd] at hsh
      have HW := hid (And.intro hb1 hT1)
      clear hb1 hx1 hy1 hT1 hY2
      go_wp2_with fail
      refine hsh.mono ?_
      rintro e w2 ⟨X, Y, a1, a2, c1, c2, rfl, hg2, hYX, hXA, hY2, o1, o2, b2⟩
      have hXl : (nd X).length ≤ 4398046511104 := Nat.le_trans (nd_length_mono hXA) (by omega)
      have HG2 := hid (hg2.trans HG.out)
      have HW2 := hid (And.intro (HW.out.1.trans (b2.mono HW.out.1.size)) (And.intro o1.rd (And.intro o2.rd (HW.out.2.below b2))))
      clear hsh hg2 hYX hXA o1 o2 b2
      by_cases hY0 : Y = 0
      · have hG1 : G = X := by rw [← HG2.out, hY0, Nat.gcd_zero_right]
        have h0 : (nd Y).length = 0 := by rw [hY0, nd_zero]; rfl
        have h0i : (((nd Y).length : Int) == 0) = true := by rw [h0]; rfl
        have hcl := clone_any a1 c1 (nd X) w2 HW2.out.2.1 (by omega)
        have HCL := hid hcl
        have HB := hid (And.intro hG1 HW2.out.1)
        clear hcl hG1 hY0 h0
        go_wp2_with fail
        refine HCL.out.mono ?_
        rintro e wf ⟨af, cf, rfl, of, bf⟩
        go_wp2
        go_ret
        rw [HB.out.1]
        exact ⟨af, cf, rfl, of.mono HB.out.2.size, HB.out.2.trans (bf.mono HB.out.2.size)⟩
      · have h0 : 0 < (nd Y).length := Nat.pos_of_ne_zero fun h => hY0 (nd_eq_nil.1 (List.eq_nil_of_length_eq_zero h))
        have h0i : (((nd Y).length : Int) == 0) = false := by rw [beq_eq_false_iff_ne]; omega
        have hdm := divmod_any a1 a2 c1 c2 (nd X) (nd Y) w2 HW2.out.2.1 HW2.out.2.2.1 (by rw [val_nd]; exact hY0) (by omega)
        rw [val_nd, val_nd] at hdm
        have hYs := two_digits hY2
        have hRl : X % Y < Y := Nat.mod_lt _ (Nat.pos_of_ne_zero hY0)
        have hR2 : (nd (X % Y)).length ≤ 2 := Nat.le_trans (nd_length_mono (Nat.le_of_lt hRl)) hY2
        have hGm : Nat.gcd Y (X % Y) = G := (gcd_mod' X Y).trans HG2.out
        have hGs : G < 18446744073709551616 := Nat.lt_of_le_of_lt (by rw [← hGm]; exact Nat.gcd_le_left _ (Nat.pos_of_ne_zero hY0)) hYs
        obtain ⟨q, hq⟩ : ∃ q, q = X / Y := ⟨_, rfl⟩
        obtain ⟨r, hr⟩ : ∃ r, r = X % Y := ⟨_, rfl⟩
        rw [← hq, ← hr] at hdm
        rw [← hr] at hRl hR2 hGm
        have HDM := hid hdm
        have HB := hid (And.intro HW2.out.1 (And.intro HW2.out.2.2.1 HW2.out.2.2.2))
        have HGM := hid hGm
        have HY := hid hY0
        clear hdm hq hr hGm hY0 h0
        go_wp2_with fail
        refine HDM.out.mono ?_
        rintro e w4 ⟨aq, cq, ar, cr, rfl, oq, or4, b4⟩
        have hb4 := HB.out.1.trans (b4.mono HB.out.1.size)
        have t1 := toUint64_any a2 c2 (nd Y) w4 (HB.out.2.1.below b4) hY2
        have t2 := toUint64_any ar cr (nd r) w4 or4.rd hR2
        rw [val_nd] at t1 t2
        have t3 := smallGcd_any Y r w4 HY.out hYs (by omega) (HB.out.2.2.below b4)
        rw [HGM.out] at t3
        have t4 := ofUint64_any G w4 hGs
        have T := hid (And.intro t1 (And.intro t2 (And.intro t3 t4)))
        have HB4 := hid hb4
        clear t1 t2 t3 t4 oq or4 b4 hb4 HDM
        go_wp2_with fail
        (with_reducible refine T.out.1.mono ?_)
        rintro e w' ⟨rfl, rfl⟩
        go_wp2_with fail
        (with_reducible refine T.out.2.1.mono ?_)
        rintro e w' ⟨rfl, rfl⟩
        go_wp2_with fail
        (with_reducible refine T.out.2.2.1.mono ?_)
        rintro e w' ⟨rfl, rfl⟩
        go_wp2_with fail
        (with_reducible refine T.out.2.2.2.mono ?_)
        rintro e wf ⟨af, cf, rfl, of, bf⟩
        go_wp2
        go_ret
        exact ⟨af, cf, rfl, of.mono HB4.out.size, HB4.out.trans (bf.mono HB4.out.size)⟩
  · have hc1 : ¬ c < 0 := fun h => hlt (hcn.1 h)
    have hle : v ≤ u := by omega
    have HG := hid (show Nat.gcd u v = G by rw [hG])
    clear hcn hG hlt
    go_enter Tryd.func22, Tryd.ntmps22
    go_wp2_with fail
    refine HCX.out.mono ?_
    rintro e w' ⟨rfl, rfl⟩
    go_wp2_with fail
    refine HCY.out.mono ?_
    rintro e w' ⟨rfl, rfl⟩
    go_wp2_with fail
    refine HCM.out.mono ?_
    rintro e w' ⟨rfl, qq, rfl⟩
    have hx1 := HX.out.1.drewN qq
    have hy1 := HX.out.2.1.drewN qq
    have hb1 := below_drewN w qq
    have hT1 : Tb (w.drewN qq) := HX.out.2.2.below hb1
    clear HCX HCY HCM HX
    generalize w.drewN qq = w1 at hx1 hy1 hb1 hT1 ⊢
    by_cases hY2 : (nd v).length ≤ 2
    · have hn2 : ¬ ((2 : Int) < ((nd v).length : Int)) := by omega
      have HW := hid (And.intro hb1 (And.intro hx1 (And.intro hy1 hT1)))
      clear hb1 hx1 hy1 hT1
      by_cases hY0 : v = 0
      · have hG1 : G = u := by rw [← HG.out, hY0, Nat.gcd_zero_right]
        have h0 : (nd v).length = 0 := by rw [hY0, nd_zero]; rfl
        have h0i : (((nd v).length : Int) == 0) = true := by rw [h0]; rfl
        have hcl := clone_any aa ca (nd u) w1 HW.out.2.1 (by omega)
        have HCL := hid hcl
        have HB := hid (And.intro hG1 HW.out.1)
        clear hcl hG1 hY0 h0
        go_wp2_with fail
        refine HCL.out.mono ?_
        rintro e wf ⟨af, cf, rfl, of, bf⟩
        go_wp2
        go_ret
        rw [HB.out.1]
        exact ⟨af, cf, rfl, of.mono HB.out.2.size, HB.out.2.trans (bf.mono HB.out.2.size)⟩
      · have h0 : 0 < (nd v).length := Nat.pos_of_ne_zero fun h => hY0 (nd_eq_nil.1 (List.eq_nil_of_length_eq_zero h))
        have h0i : (((nd v).length : Int) == 0) = false := by rw [beq_eq_false_iff_ne]; omega
        have hdm := divmod_any aa ab ca cb (nd u) (nd v) w1 HW.out.2.1 HW.out.2.2.1 (by rw [val_nd]; exact hY0) (by omega)
        rw [val_nd, val_nd] at hdm
        have hYs := two_digits hY2
        have hRl : u % v < v := Nat.mod_lt _ (Nat.pos_of_ne_zero hY0)
        have hR2 : (nd (u % v)).length ≤ 2 := Nat.le_trans (nd_length_mono (Nat.le_of_lt hRl)) hY2
        have hGm : Nat.gcd v (u % v) = G := (gcd_mod' u v).trans HG.out
        have hGs : G < 18446744073709551616 := Nat.lt_of_le_of_lt (by rw [← hGm]; exact Nat.gcd_le_left _ (Nat.pos_of_ne_zero hY0)) hYs
        obtain ⟨q, hq⟩ : ∃ q, q = u / v := ⟨_, rfl⟩
        obtain ⟨r, hr⟩ : ∃ r, r = u % v := ⟨_, rfl⟩
        rw [← hq, ← hr] at hdm
        rw [← hr] at hRl hR2 hGm
        have HDM := hid hdm
        have HB := hid (And.intro HW.out.1 (And.intro HW.out.2.2.1 HW.out.2.2.2))
        have HGM := hid hGm
        have HY := hid hY0
        clear hdm hq hr hGm hY0 h0
        go_wp2_with fail
        refine HDM.out.mono ?_
        rintro e w4 ⟨aq, cq, ar, cr, rfl, oq, or4, b4⟩
        have hb4 := HB.out.1.trans (b4.mono HB.out.1.size)
        have t1 := toUint64_any ab cb (nd v) w4 (HB.out.2.1.below b4) hY2
        have t2 := toUint64_any ar cr (nd r) w4 or4.rd hR2
        rw [val_nd] at t1 t2
        have t3 := smallGcd_any v r w4 HY.out hYs (by omega) (HB.out.2.2.below b4)
        rw [HGM.out] at t3
        have t4 := ofUint64_any G w4 hGs
        have T := hid (And.intro t1 (And.intro t2 (And.intro t3 t4)))
        have HB4 := hid hb4
        clear t1 t2 t3 t4 oq or4 b4 hb4 HDM
        go_wp2_with fail
        (with_reducible refine T.out.1.mono ?_)
        rintro e w' ⟨rfl, rfl⟩
        go_wp2_with fail
        (with_reducible refine T.out.2.1.mono ?_)
        rintro e w' ⟨rfl, rfl⟩
        go_wp2_with fail
        (with_reducible refine T.out.2.2.1.mono ?_)
        rintro e w' ⟨rfl, rfl⟩
        go_wp2_with fail
        (with_reducible refine T.out.2.2.2.mono ?_)
        rintro e wf ⟨af, cf, rfl, of, bf⟩
        go_wp2
        go_ret
        exact ⟨af, cf, rfl, of.mono HB4.out.size, HB4.out.trans (bf.mono HB4.out.size)⟩
    · have hn2 : (2 : Int) < ((nd v).length : Int) := by omega
      have hsh := shorten_any aa ab ca cb (nd u) (nd v) w1 hx1 hy1 (nrm_nd _) (nrm_nd _) (by rw [val_nd, val_nd]; exact hle) (by omega) (nd_length_mono hle) (by omega)
      rw [val_nd, val_nd] at hsh
      have HW := hid (And.intro hb1 hT1)
      clear hb1 hx1 hy1 hT1 hY2
      go_wp2_with fail
      refine hsh.mono ?_
      rintro e w2 ⟨X, Y, a1, a2, c1, c2, rfl, hg2, hYX, hXA, hY2, o1, o2, b2⟩
      have hXl : (nd X).length ≤ 4398046511104 := Nat.le_trans (nd_length_mono hXA) (by omega)
      have HG2 := hid (hg2.trans HG.out)
      have HW2 := hid (And.intro (HW.out.1.trans (b2.mono HW.out.1.size)) (And.intro o1.rd (And.intro o2.rd (HW.out.2.below b2))))
      clear hsh hg2 hYX hXA o1 o2 b2
      by_cases hY0 : Y = 0
      · have hG1 : G = X := by rw [← HG2.out, hY0, Nat.gcd_zero_right]
        have h0 : (nd Y).length = 0 := by rw [hY0, nd_zero]; rfl
        have h0i : (((nd Y).length : Int) == 0) = true := by rw [h0]; rfl
        have hcl := clone_any a1 c1 (nd X) w2 HW2.out.2.1 (by omega)
        have HCL := hid hcl
        have HB := hid (And.intro hG1 HW2.out.1)
        clear hcl hG1 hY0 h0
        go_wp2_with fail
        refine HCL.out.mono ?_
        rintro e wf ⟨af, cf, rfl, of, bf⟩
        go_wp2
        go_ret
        rw [HB.out.1]
        exact ⟨af, cf, rfl, of.mono HB.out.2.size, HB.out.2.trans (bf.mono HB.out.2.size)⟩
      · have h0 : 0 < (nd Y).length := Nat.pos_of_ne_zero fun h => hY0 (nd_eq_nil.1 (List.eq_nil_of_length_eq_zero h))
        have h0i : (((nd Y).length : Int) == 0) = false := by rw [beq_eq_false_iff_ne]; omega
        have hdm := divmod_any a1 a2 c1 c2 (nd X) (nd Y) w2 HW2.out.2.1 HW2.out.2.2.1 (by rw [val_nd]; exact hY0) (by omega)
        rw [val_nd, val_nd] at hdm
        have hYs := two_digits hY2
        have hRl : X % Y < Y := Nat.mod_lt _ (Nat.pos_of_ne_zero hY0)
        have hR2 : (nd (X % Y)).length ≤ 2 := Nat.le_trans (nd_length_mono (Nat.le_of_lt hRl)) hY2
        have hGm : Nat.gcd Y (X % Y) = G := (gcd_mod' X Y).trans HG2.out
        have hGs : G < 18446744073709551616 := Nat.lt_of_le_of_lt (by rw [← hGm]; exact Nat.gcd_le_left _ (Nat.pos_of_ne_zero hY0)) hYs
        obtain ⟨q, hq⟩ : ∃ q, q = X / Y := ⟨_, rfl⟩
        obtain ⟨r, hr⟩ : ∃ r, r = X % Y := ⟨_, rfl⟩
        rw [← hq, ← hr] at hdm
        rw [← hr] at hRl hR2 hGm
        have HDM := hid hdm
        have HB := hid (And.intro HW2.out.1 (And.intro HW2.out.2.2.1 HW2.out.2.2.2))
        have HGM := hid hGm
        have HY := hid hY0
        clear hdm hq hr hGm hY0 h0
        go_wp2_with fail
        refine HDM.out.mono ?_
        rintro e w4 ⟨aq, cq, ar, cr, rfl, oq, or4, b4⟩
        have hb4 := HB.out.1.trans (b4.mono HB.out.1.size)
        have t1 := toUint64_any a2 c2 (nd Y) w4 (HB.out.2.1.below b4) hY2
        have t2 := toUint64_any ar cr (nd r) w4 or4.rd hR2
        rw [val_nd] at t1 t2
        have t3 := smallGcd_any Y r w4 HY.out hYs (by omega) (HB.out.2.2.below b4)
        rw [HGM.out] at t3
        have t4 := ofUint64_any G w4 hGs
        have T := hid (And.intro t1 (And.intro t2 (And.intro t3 t4)))
        have HB4 := hid hb4
        clear t1 t2 t3 t4 oq or4 b4 hb4 HDM
        go_wp2_with fail
        (with_reducible refine T.out.1.mono ?_)
        rintro e w' ⟨rfl, rfl⟩
        go_wp2_with fail
        (with_reducible refine T.out.2.1.mono ?_)
        rintro e w' ⟨rfl, rfl⟩
        go_wp2_with fail
        (with_reducible refine T.out.2.2.1.mono ?_)
        rintro e w' ⟨rfl, rfl⟩
        go_wp2_with fail
        (with_reducible refine T.out.2.2.2.mono ?_)
        rintro e wf ⟨af, cf, rfl, of, bf⟩
        go_wp2
        go_ret
        exact ⟨af, cf, rfl, of.mono HB4.out.size, HB4.out.trans (bf.mono HB4.out.size)⟩
end Go.Proofs.YtbcaigpdckencaaDoor
