/-  -/
import Derived.Test.YtcankknlbljicaaGreatDoorWg
import Derived.Test.YtcankknlbljicaaGreatDoorWFmt

set_option linter.unusedVariables false
set_option linter.unusedSimpArgs false
set_option linter.unusedSectionVars false
set_option maxRecDepth 100000
set_option maxHeartbeats 3200000

namespace Go.Proofs.YtcankknlbljicaaGreatDoor
open Go.RowKit Num


theorem same_any (aa ab : Option Addr) (ca cb : Nat) (xs ys : List Nat) (b : Bool) (w : World) (ha : Rd w aa ca xs) (hb : Rd w ab cb ys) (hbb : b = true ↔ xs = ys) :
  Calls Tryz.prog 91 #[.slice aa xs.length ca, .slice ab ys.length cb] w (RetQ (.bool b) w) := by
 have hax := ha.le
 have hax2 := ha.cm
 have hay := hb.le
 have hay2 := hb.cm
 by_cases hlen : xs.length = ys.length
 ·have hne : ((xs.length : Int) != (ys.length : Int)) = false := by simp [hlen]
  have HB := hid hbb
  have HLEN := hid hlen
  have hxw := ha.dg
  have hyw := hb.dg
  clear hbb hlen
  go_enter Tryz.func91, Tryz.ntmps91
  go_wp2
  go_loopw [5] (fun iv wr => ∃ k q : Nat, k ≤ xs.length ∧ iv = .int .i64 (k : Int) ∧ Hid (xs.take k = ys.take k) ∧ wr = w.drewN q) (fun iv _ => xs.length - (intOf iv).toNat)
  case atStart => exact ⟨0, 0, Nat.zero_le _, rfl, rfl, rfl⟩
  case round =>
   obtain ⟨k, q, hk, rfl, HT, rfl⟩ := hrel
   by_cases hlt : k < xs.length
   ·rcases ha.lies with h1 | ⟨b1, o1, rfl, hc1⟩
    ·simp [h1] at hlt
    rcases hb.lies with h1 | ⟨b2, o2, rfl, hc2⟩
    ·have := HLEN.out; simp [h1] at this; simp [this] at hlt
    have hky : k < ys.length := by have := HLEN.out; omega
    have g1 := hc1 k hlt
    have g2 := hc2 k hky
    obtain ⟨x, hx⟩ : ∃ x, x = xs.getD k 0 := ⟨_, rfl⟩
    obtain ⟨y, hy⟩ : ∃ y, y = ys.getD k 0 := ⟨_, rfl⟩
    rw [← hx] at g1
    rw [← hy] at g2
    have hl1 : (k : Int) < (xs.length : Int) := by omega
    have hl2 : (k : Int) < (ys.length : Int) := by omega
    have hxl : x < 4294967296 := by rw [hx]; exact wf_getD hxw k
    have hyl : y < 4294967296 := by rw [hy]; exact wf_getD hyw k
    have HXY := hid (And.intro hx hy)
    clear hc1 hc2 ha hb hx hy
    by_cases hxy : x = y
    ·have hb1 : ((x : Int) != (y : Int)) = false := by simp [hxy]
     have HE := hid hxy
     clear hxy
     go_wp2_with fail
     go_quiet (fail)
     go_wp2
     refine ⟨⟨k + 1, q + nq, by omega, by simp, ?_, by simp⟩, by simp [intOf]; omega⟩
     show _ = _
     rw [take_succ_getD hlt, take_succ_getD hky, HT.out, ← HXY.out.1, ← HXY.out.2, HE.out]
    ·have hb1 : ((x : Int) != (y : Int)) = true := by simp; omega
     have hbf : b = false := by
      cases b with
      | false => rfl
      | true =>
       have h := HB.out.1 rfl
       exact absurd (by rw [HXY.out.1, HXY.out.2, h]) hxy
     subst hbf
     clear hxy
     go_wp2_with fail
     go_quiet (fail)
     go_wp2
     go_ret
     exact ⟨rfl, _, drewN2 _ _ _⟩
   ·have hbt : b = true := HB.out.2 (by
     have h := HT.out
     have h2 := HLEN.out
     rwa [List.take_of_length_le (by omega), List.take_of_length_le (by omega)] at h)
    subst hbt
    go_wp2
    go_ret
    exact ⟨rfl, q, rfl⟩
 ·have hne : ((xs.length : Int) != (ys.length : Int)) = true := by rw [bne_iff_ne]; omega
  have hbf : b = false := by
   cases b with
   | false => rfl
   | true => exact absurd (by rw [hbb.1 rfl]) hlen
  subst hbf
  clear hlen hbb ha hb
  go_enter Tryz.func91, Tryz.ntmps91
  go_wp2
  go_ret
  exact ⟨rfl, 0, rfl⟩

theorem rtrim_any (ao : Option Addr) (c : Nat) (xs : List Nat) (w : World) (h : Rd w ao c xs) (hl : xs.length ≤ 17592186044416) :
  Calls Tryz.prog 160 #[.slice ao xs.length c] w (RetOwn w.heap.size (nd (val xs)) w) := by
 have hle := h.le
 have hcm := h.cm
 go_enter Tryz.func160, Tryz.ntmps160
 go_wp2_with fail
 go_loop [3] (fun v => ∃ k : Nat, k ≤ xs.length ∧ Hid (val (xs.take k) = val xs) ∧ v = .int .i64 (k : Int)) (fun v => (intOf v).toNat)
 case atStart => exact ⟨xs.length, Nat.le_refl _, by simp [Hid], rfl⟩
 case round =>
  obtain ⟨k, hk, HV, rfl⟩ := hrel
  have hr := h.take k
  have hlen : (xs.take k).length = k := by simp [hk]
  by_cases hn : nrm (xs.take k)
  ·have HE := hid (show xs.take k = nd (val xs) by rw [← HV.out]; exact (nd_val hr.dg hn).symm)
   have HLE := hid hlen
   have happ : ∀ (W : World) (Q' : Exit → Act → World → Prop), True := fun _ _ => trivial
   clear happ
   by_cases hk0 : k = 0
   ·subst hk0
    clear hlen hn
    have hr0 : Rd w ao c [] := by simpa using hr
    go_wp2_with (at_builtin; refine wp_append _ rfl _ _ rfl w.heap.size _ _ _ _ _ _ [] [] rfl rfl rfl rfl (Own.nil _ _) hr0 (by omega) (Nat.le_refl _) ?_; intro ao' c' w1 hown1 hbel1)
    go_ret
    have := HE.out
    rw [List.take_zero] at this
    rw [← this]
    exact ⟨ao', c', rfl, by simpa using hown1, hbel1⟩
   ·obtain ⟨m, rfl⟩ : ∃ m, k = m + 1 := ⟨k - 1, by omega⟩
    rcases h.lies with h1 | ⟨bl, off, rfl, hcell⟩
    ·simp [h1] at hk
    have hc := hcell m (by omega)
    obtain ⟨d, hd⟩ : ∃ d, d = xs.getD m 0 := ⟨_, rfl⟩
    rw [← hd] at hc
    have hd0 : d ≠ 0 := by
     rcases hn with h2 | h2
     ·rw [h2] at hlen; simp at hlen
     ·rw [hlen] at h2
      rw [hd]
      simpa using h2
    have hb : ((d : Int) == 0) = false := by simp [hd0]
    have hgt : (m : Int) + 1 > 0 := by omega
    clear hlen hn hcell hd hd0 hk0
    have HR := hid hr
    go_wp2_with (at_builtin; refine wp_append _ rfl _ _ rfl w.heap.size _ _ _ _ _ _ [] (xs.take (m + 1)) rfl rfl rfl ?c1 (Own.nil _ _) hr ?c2 (Nat.le_refl _) ?c3)
    case c2 => omega
    intro ao' c' w1 hown1 hbel1
    go_wp2
    go_ret
    rw [← HE.out]
    refine ⟨ao', c', ?_, by simpa using hown1, hbel1⟩
    rw [HLE.out]; simp
  ·obtain ⟨m, rfl⟩ : ∃ m, k = m + 1 := ⟨k - 1, by
    have : k ≠ 0 := by rintro rfl; exact hn (Or.inl (by simp))
    omega⟩
   rcases h.lies with h1 | ⟨bl, off, rfl, hcell⟩
   ·simp [h1] at hk
   have hc := hcell m (by omega)
   obtain ⟨d, hd⟩ : ∃ d, d = xs.getD m 0 := ⟨_, rfl⟩
   rw [← hd] at hc
   have hd0 : d = 0 := by
    apply Classical.byContradiction
    intro h3
    refine hn (Or.inr ?_)
    rw [hlen]
    rw [hd] at h3
    simpa using h3
   have HV2 := hid (show val (xs.take m) = val xs by rw [← val_take_pred (by omega) (by rw [← hd, hd0]), HV.out])
   subst hd0
   have hgt : (m : Int) + 1 > 0 := by omega
   clear hlen hn hcell hd
   go_wp2
   refine ⟨⟨m, by omega, HV2.out, by simp⟩, by simp [intOf]⟩
end Go.Proofs.YtcankknlbljicaaGreatDoor

namespace Go.Proofs.YtcankknlbljicaaGreatDoor
open Go.RowKit Num

theorem wf_one {x : Nat} (h : x < 4294967296) : wf [x] := wf_cons.2 ⟨h, wf_nil⟩
end Go.Proofs.YtcankknlbljicaaGreatDoor

namespace Go.Proofs.YtcankknlbljicaaGreatDoor
open Go.RowKit Num

theorem rcompare_any (aa ab : Option Addr) (ca cb : Nat) (xs ys : List Nat) (w : World) (ha : Rd w aa ca xs) (hb : Rd w ab cb ys) (hl1 : xs.length ≤ 17592186044416) (hl2 : ys.length ≤ 17592186044416) :
  Calls Tryz.prog 188 #[.slice aa xs.length ca, .slice ab ys.length cb] w (RetB (.int .i64 (cmpN (val xs) (val ys))) w) := by
 have ht1 := rtrim_any aa ca xs w ha hl1
 have ht2 := fun w1 (hr : Rd w1 ab cb ys) => rtrim_any ab cb ys w1 hr hl2
 have hlx := nd_length_le_of ha.dg
 have hly := nd_length_le_of hb.dg
 obtain ⟨us, hus⟩ : ∃ us, us = nd (val xs) := ⟨_, rfl⟩
 obtain ⟨vs, hvs⟩ : ∃ vs, vs = nd (val ys) := ⟨_, rfl⟩
 have hvx : val xs = val us := by rw [hus, val_nd]
 have hvy : val ys = val vs := by rw [hvs, val_nd]
 have hux : us = nd (val us) := by rw [hus, val_nd]
 have huy : vs = nd (val vs) := by rw [hvs, val_nd]
 rw [← hus] at ht1 hlx
 rw [← hvs] at ht2 hly
 obtain ⟨r, hr⟩ : ∃ r, r = cmpN (val xs) (val ys) := ⟨_, rfl⟩
 rw [← hr]
 rw [hvx, hvy] at hr
 have HUX := hid hux
 have HUY := hid huy
 have HT := hid ht2
 have HR := hid hr
 clear hus hvs hvx hvy hux huy ha ht2 hr
 go_enter Tryz.func188, Tryz.ntmps188
 go_wp2_with fail
 refine ht1.mono ?_
 rintro e w1 ⟨a1, c1, rfl, ho1, hb1⟩
 have h2 := HT.out w1 (hb.below hb1)
 clear ht1
 go_wp2_with fail
 refine h2.mono ?_
 rintro e w2 ⟨a2, c2, rfl, ho2, hb2⟩
 have hra := (ho1.below hb2).rd
 have hrb := ho2.rd
 have hb02 := hb1.trans (hb2.mono hb1.size)
 clear h2 ho1 ho2 hb1 hb2 HT hb
 have hfin : ∀ q, Below w.heap.size w (w2.drewN q) := fun q => hb02.trans ((below_drewN w2 q).mono hb02.size)
 have HF := hid hfin
 clear hfin
 by_cases hlen : us.length = vs.length
 ·have hne : ((us.length : Int) != (vs.length : Int)) = false := by simp [hlen]
  have hux := hra.dg
  have huy := hrb.dg
  have HLEN := hid hlen
  clear hlen
  go_wp2
  go_loopw [5] (fun iv wr => ∃ k q : Nat, k ≤ us.length ∧ iv = .int .i64 ((k : Int) - 1) ∧ Hid (us.drop k = vs.drop k) ∧ wr = w2.drewN q) (fun iv _ => (intOf iv + 1).toNat)
  case atStart => exact ⟨us.length, 0, Nat.le_refl _, rfl, by have := HLEN.out; simp [Hid, this], rfl⟩
  case round =>
   obtain ⟨k, q, hk, rfl, HD, rfl⟩ := hrel
   by_cases hk0 : k = 0
   ·subst hk0
    obtain rfl : r = 0 := by
     have h := HD.out
     simp only [List.drop_zero] at h
     rw [HR.out, h]; simp [cmpN]
    go_wp2
    go_ret
    exact ⟨rfl, HF.out _⟩
   ·obtain ⟨m, rfl⟩ : ∃ m, k = m + 1 := ⟨k - 1, by omega⟩
    clear hk0
    rcases hra.lies with h1 | ⟨b1, o1, rfl, hc1⟩
    ·simp [h1] at hk
    rcases hrb.lies with h1 | ⟨b2, o2, rfl, hc2⟩
    ·have := HLEN.out; simp [h1] at this; simp [this] at hk
    have g1 := hc1 m (by omega)
    have g2 := hc2 m (by have := HLEN.out; omega)
    obtain ⟨x, hx⟩ : ∃ x, x = us.getD m 0 := ⟨_, rfl⟩
    obtain ⟨y, hy⟩ : ∃ y, y = vs.getD m 0 := ⟨_, rfl⟩
    rw [← hx] at g1
    rw [← hy] at g2
    have hml : m < vs.length := by have := HLEN.out; omega
    have hl1 : (m : Int) < (us.length : Int) := by omega
    have hl2 : (m : Int) < (vs.length : Int) := by omega
    have hxl : x < 4294967296 := by rw [hx]; exact wf_getD hux m
    have hyl : y < 4294967296 := by rw [hy]; exact wf_getD huy m
    have HXY := hid (And.intro hx hy)
    clear hc1 hc2 hra hrb hx hy
    by_cases h3 : x < y
    ·have hr2 : r = -1 := by
      rw [HR.out, cmpN]
      have := val_lt_top (k := m) hux HLEN.out (by omega) HD.out (by have h1 := HXY.out.1; have h2 := HXY.out.2; omega)
      rw [if_pos this]
     subst hr2
     have hlt : (x : Int) < (y : Int) := by omega
     go_wp2_with fail
     go_quiet (fail)
     go_wp2
     go_ret
     exact ⟨rfl, by simp only [World.drewN_drewN]; exact HF.out _⟩
    ·by_cases h4 : y < x
     ·have hr2 : r = 1 := by
       rw [HR.out, cmpN]
       have := val_lt_top (k := m) huy HLEN.out.symm (by omega) HD.out.symm (by have h1 := HXY.out.1; have h2 := HXY.out.2; omega)
       rw [if_neg (by omega), if_pos this]
      subst hr2
      have hlt : ¬ (x : Int) < (y : Int) := by omega
      have hgt : (x : Int) > (y : Int) := by omega
      go_wp2_with fail
      go_quiet (fail)
      go_wp2_with fail
      go_quiet (fail)
      go_wp2
      go_ret
      exact ⟨rfl, by simp only [World.drewN_drewN]; exact HF.out _⟩
     ·have hlt : ¬ (x : Int) < (y : Int) := by omega
      have hgt : ¬ (x : Int) > (y : Int) := by omega
      have HE := hid (show x = y by omega)
      clear h3 h4
      go_wp2_with fail
      go_quiet (fail)
      go_wp2_with fail
      go_quiet (fail)
      go_wp2
      refine ⟨⟨m, _, by omega, rfl, ?_, rfl⟩, by simp [intOf]⟩
      show us.drop m = vs.drop m
      have := HLEN.out
      rw [List.drop_eq_getElem_cons (by omega), List.drop_eq_getElem_cons hml, HD.out]
      have e1 : us[m]'(by omega) = x := by rw [HXY.out.1]; simp [List.getD, show m < us.length by omega]
      have e2 : vs[m]'hml = y := by rw [HXY.out.2]; simp [List.getD, hml]
      rw [e1, e2, HE.out]
 ·have hne : ((us.length : Int) != (vs.length : Int)) = true := by rw [bne_iff_ne]; omega
  by_cases h1 : us.length < vs.length
  ·have hr2 : r = -1 := by
    have := nd_length_mono (u := val vs) (v := val us)
    rw [← HUX.out, ← HUY.out] at this
    rw [HR.out, cmpN, if_pos (by omega)]
   subst hr2
   have hlt : (us.length : Int) < (vs.length : Int) := by omega
   clear hlen hra hrb h1
   go_wp2
   go_ret
   exact ⟨rfl, hb02⟩
  ·have hr2 : r = 1 := by
    have := nd_length_mono (u := val us) (v := val vs)
    rw [← HUX.out, ← HUY.out] at this
    rw [HR.out, cmpN, if_neg (by omega), if_pos (by omega)]
   subst hr2
   have hlt : ¬ (us.length : Int) < (vs.length : Int) := by omega
   clear hlen hra hrb h1
   go_wp2
   go_ret
   exact ⟨rfl, hb02⟩
end Go.Proofs.YtcankknlbljicaaGreatDoor

namespace Go.Proofs.YtcankknlbljicaaGreatDoor
open Go.RowKit Num

theorem val_take_getD (xs : List Nat) (k : Nat) : val (xs.take (k + 1)) = val (xs.take k) + 4294967296 ^ k * xs.getD k 0 := by
 by_cases h : k < xs.length
 ·exact val_take_succ h
 ·rw [List.take_of_length_le (by omega), List.take_of_length_le (by omega), List.getD_eq_getElem?_getD, List.getElem?_eq_none (by omega)]
  simp
theorem add_step {T cy k x z : Nat} (h : T / 4294967296 ^ k = cy) (hz : z = cy + x) :
  dig (k + 1) (T + 4294967296 ^ k * x) = dig k T ++ [z % 4294967296] ∧ (T + 4294967296 ^ k * x) / 4294967296 ^ (k + 1) = z / 4294967296 := by
 have e1 : (T + 4294967296 ^ k * x) / 4294967296 ^ k = z := by rw [Nat.add_mul_div_left _ _ (pow_pos k), h, hz]
 constructor
 ·rw [dig_succ, e1, ← dig_mod k (T + _), Nat.add_mul_mod_self_left, dig_mod]
 ·rw [Nat.pow_succ, ← Nat.div_div_eq_div_mul, e1]

theorem radd_any (aa ab : Option Addr) (ca cb : Nat) (xs ys : List Nat) (w : World) (ha : Rd w aa ca xs) (hb : Rd w ab cb ys) (hl1 : xs.length ≤ 17592186044414) (hl2 : ys.length ≤ 17592186044414) :
  Calls Tryz.prog 151 #[.slice aa xs.length ca, .slice ab ys.length cb] w (RetOwn w.heap.size (nd (val xs + val ys)) w) := by
 have hax := ha.le
 have hax2 := ha.cm
 have hay := hb.le
 have hay2 := hb.cm
 have hxw := ha.dg
 have hyw := hb.dg
 go_enter Tryz.func151, Tryz.ntmps151
 go_wp2
 go_loopw [5, 6, 7] (fun sv cv iv wr => ∃ (k cy : Nat) (ao : Option Addr) (c : Nat), (k ≤ xs.length ∨ k ≤ ys.length) ∧ sv = .slice ao k c ∧ cv = .int .u64 (cy : Int) ∧ iv = .int .i64 (k : Int) ∧ cy ≤ 1 ∧
   Own w.heap.size wr ao c (dig k (val (xs.take k) + val (ys.take k))) ∧ Below w.heap.size w wr ∧ Hid ((val (xs.take k) + val (ys.take k)) / 4294967296 ^ k = cy)) (fun _ _ iv _ => xs.length + ys.length - (intOf iv).toNat)
 case atStart => exact ⟨0, 0, none, 0, Or.inl (Nat.zero_le _), rfl, rfl, rfl, by omega, Own.nil _ _, Below.refl _ _, by simp [Hid, val]⟩
 case round =>
  obtain ⟨k, cy, ao, c, hk, rfl, rfl, rfl, hcy, hown, hbel, HC⟩ := hrel
  by_cases hend : k < xs.length ∨ k < ys.length
  ·obtain ⟨x, hx⟩ : ∃ x, x = xs.getD k 0 := ⟨_, rfl⟩
   obtain ⟨y, hy⟩ : ∃ y, y = ys.getD k 0 := ⟨_, rfl⟩
   have hxl : x < 4294967296 := by rw [hx]; exact wf_getD hxw k
   have hyl : y < 4294967296 := by rw [hy]; exact wf_getD hyw k
   obtain ⟨s, hs⟩ : ∃ s, s = cy + (x + y) := ⟨_, rfl⟩
   obtain ⟨d, hd⟩ : ∃ d, d = s % 4294967296 := ⟨_, rfl⟩
   have hdl : d < 4294967296 := by omega
   have hst := add_step (x := x + y) HC.out hs
   have e1 : val (xs.take (k + 1)) + val (ys.take (k + 1)) = val (xs.take k) + val (ys.take k) + 4294967296 ^ k * (x + y) := by
    rw [val_take_getD, val_take_getD, ← hx, ← hy, Nat.mul_add]; omega
   rw [← e1, ← hd] at hst
   have HST := hid hst
   clear hst e1
   have hra := ha.below hbel
   have hrb := hb.below hbel
   have hdi : (s : Int) % 4294967296 = (d : Int) := by omega
   have hone := Own.one wr wr.heap.size d (Nat.le_refl _) hdl
   have HON := hid hone
   have hk35 : k + 1 ≤ 35184372088832 := by omega
   by_cases h1 : k < xs.length
   ·rcases hra.lies with h9 | ⟨b1, o1, rfl, hc1⟩
    ·simp [h9] at h1
    have g1 := hc1 k h1
    rw [← hx] at g1
    have hl1 : (k : Int) < (xs.length : Int) := by omega
    by_cases h2 : k < ys.length
    ·rcases hrb.lies with h9 | ⟨b2, o2, rfl, hc2⟩
     ·simp [h9] at h2
     have g2 := hc2 k h2
     rw [← hy] at g2
     have hl2 : (k : Int) < (ys.length : Int) := by omega
     have hsi : (cy : Int) + (x : Int) + (y : Int) = (s : Int) := by omega
     have HOWN := hid hown
     have HBEL := hid hbel
     clear hx hy hs hd hc1 hc2 hra hrb hown hbel hone
     go_wp2_with (at_builtin; refine wp_append _ rfl _ _ rfl w.heap.size ao (some ⟨wr.heap.size, 0, none⟩) k 1 c 1 (dig k (val (xs.take k) + val (ys.take k))) [d] rfl ?c0a (length_dig _ _).symm rfl (HOWN.out.below (below_alloc _ _)) ?c1a hk35 ?c2a ?c3a)
     case c0a => go_simp
     case c1a => exact HON.out.rd
     case c2a => exact Nat.le_trans HBEL.out.size (below_alloc _ _).size
     intro a3 c3 w9 ho3 hb3
     have hb9 := (HBEL.out.trans ((below_alloc wr (.cells #[.int .u32 (d : Int)] 88)).mono HBEL.out.size)).trans hb3
     rw [← HST.out.1] at ho3
     have H3 := hid (And.intro ho3 (And.intro hb9 HST.out.2))
     clear ho3 hb3 hb9
     go_wp2
     refine ⟨⟨k + 1, s / 4294967296, a3, c3, by omega, by simp, int_eq (by omega), int_eq (by omega), by omega, H3.out⟩, by simp [intOf]; omega⟩
    ·have hl2 : ¬ (k : Int) < (ys.length : Int) := by omega
     have hy0 : y = 0 := by rw [hy, List.getD_eq_getElem?_getD, List.getElem?_eq_none (by omega)]; rfl
     have hsi : (cy : Int) + (x : Int) = (s : Int) := by omega
     clear hy0
     have HOWN := hid hown
     have HBEL := hid hbel
     clear hx hy hs hd hc1 hra hrb hown hbel hone
     go_wp2_with (at_builtin; refine wp_append _ rfl _ _ rfl w.heap.size ao (some ⟨wr.heap.size, 0, none⟩) k 1 c 1 (dig k (val (xs.take k) + val (ys.take k))) [d] rfl ?c0b (length_dig _ _).symm rfl (HOWN.out.below (below_alloc _ _)) ?c1b hk35 ?c2b ?c3b)
     case c1b => exact HON.out.rd
     case c2b => exact Nat.le_succ_of_le HBEL.out.size
     intro a3 c3 w9 ho3 hb3
     have hb9 := (HBEL.out.trans ((below_alloc wr (.cells #[.int .u32 (d : Int)] 88)).mono HBEL.out.size)).trans hb3
     rw [← HST.out.1] at ho3
     have H3 := hid (And.intro ho3 (And.intro hb9 HST.out.2))
     clear ho3 hb3 hb9
     go_wp2
     refine ⟨⟨k + 1, s / 4294967296, a3, c3, by omega, by simp, int_eq (by omega), int_eq (by omega), by omega, H3.out⟩, by simp [intOf]; omega⟩
   ·have h2 : k < ys.length := by omega
    have hl1 : ¬ (k : Int) < (xs.length : Int) := by omega
    have hl2 : (k : Int) < (ys.length : Int) := by omega
    have hx0 : x = 0 := by rw [hx, List.getD_eq_getElem?_getD, List.getElem?_eq_none (by omega)]; rfl
    rcases hrb.lies with h9 | ⟨b2, o2, rfl, hc2⟩
    ·simp [h9] at h2
    ·have g2 := hc2 k h2
     rw [← hy] at g2
     have hsi : (cy : Int) + (y : Int) = (s : Int) := by omega
     clear hx0
     have HOWN := hid hown
     have HBEL := hid hbel
     clear hx hy hs hd hc2 hra hrb hown hbel hone
     go_wp2_with (at_builtin; refine wp_append _ rfl _ _ rfl w.heap.size ao (some ⟨wr.heap.size, 0, none⟩) k 1 c 1 (dig k (val (xs.take k) + val (ys.take k))) [d] rfl ?c0c (length_dig _ _).symm rfl (HOWN.out.below (below_alloc _ _)) ?c1c hk35 ?c2c ?c3c)
     case c1c => exact HON.out.rd
     case c2c => exact Nat.le_succ_of_le HBEL.out.size
     intro a3 c3 w9 ho3 hb3
     have hb9 := (HBEL.out.trans ((below_alloc wr (.cells #[.int .u32 (d : Int)] 88)).mono HBEL.out.size)).trans hb3
     rw [← HST.out.1] at ho3
     have H3 := hid (And.intro ho3 (And.intro hb9 HST.out.2))
     clear ho3 hb3 hb9
     go_wp2
     refine ⟨⟨k + 1, s / 4294967296, a3, c3, by omega, by simp, int_eq (by omega), int_eq (by omega), by omega, H3.out⟩, by simp [intOf]; omega⟩
  ·have hl1 : ¬ (k : Int) < (xs.length : Int) := by omega
   have hl2 : ¬ (k : Int) < (ys.length : Int) := by omega
   have hT : val (xs.take k) + val (ys.take k) = val xs + val ys := by rw [val_take_of_ge (by omega), val_take_of_ge (by omega)]
   obtain ⟨T, hTT⟩ : ∃ T, T = val xs + val ys := ⟨_, rfl⟩
   have hdig : val (dig k T ++ [cy]) = T := by
    have h := HC.out
    rw [hT, ← hTT] at h
    rw [val_snoc, val_dig, length_dig, ← h]; exact Nat.mod_add_div _ _
   rw [hT, ← hTT] at hown
   have HTT := hid hTT
   have hk35 : k + 1 ≤ 35184372088832 := by omega
   have hci : (cy : Int) % 4294967296 = (cy : Int) := by omega
   have HON := hid (Own.one wr wr.heap.size cy (Nat.le_refl _) (by omega))
   have HOWN := hid hown
   have HBEL := hid hbel
   have HD := hid hdig
   clear hown hbel hdig hT hTT
   go_wp2_with (at_builtin; refine wp_append _ rfl _ _ rfl w.heap.size ao (some ⟨wr.heap.size, 0, none⟩) k 1 c 1 (dig k T) [cy] rfl ?c0d (length_dig _ _).symm rfl (HOWN.out.below (below_alloc _ _)) ?c1d hk35 ?c2d ?c3d)
   case c1d => exact HON.out.rd
   case c2d => exact Nat.le_succ_of_le HBEL.out.size
   intro a3 c3 w9 ho3 hb3
   have hb9 := (HBEL.out.trans ((below_alloc wr (.cells #[.int .u32 (cy : Int)] 88)).mono HBEL.out.size)).trans hb3
   have hll : (dig k T ++ [cy]).length = k + 1 := by rw [List.length_append, length_dig]; rfl
   have ht := rtrim_any a3 c3 (dig k T ++ [cy]) w9 ho3.rd (by rw [hll]; omega)
   rw [HD.out, hll, HTT.out] at ht
   clear ho3 hb3 hll
   go_wp2_with fail
   refine ht.mono ?_
   rintro e w10 ⟨a4, c4, rfl, ho4, hb4⟩
   go_wp2
   go_ret
   exact ⟨a4, c4, rfl, ho4.mono hb9.size, hb9.trans (hb4.mono hb9.size)⟩
end Go.Proofs.YtcankknlbljicaaGreatDoor

namespace Go.Proofs.YtcankknlbljicaaGreatDoor
open Go.RowKit Num

theorem rsub_any (aa ab : Option Addr) (ca cb : Nat) (xs ys : List Nat) (w : World) (ha : Rd w aa ca xs) (hb : Rd w ab cb ys) (hl1 : xs.length ≤ 17592186044414) (hl2 : ys.length ≤ 17592186044414) :
  Calls Tryz.prog 189 #[.slice aa xs.length ca, .slice ab ys.length cb] w (RetOwn w.heap.size (nd (val xs - val ys)) w) := by
 have hcm := rcompare_any aa ab ca cb xs ys w ha hb (by omega) (by omega)
 obtain ⟨r, hr⟩ : ∃ r, r = cmpN (val xs) (val ys) := ⟨_, rfl⟩
 rw [← hr] at hcm
 by_cases hlt : val xs < val ys
 ·have hr0 : r < 0 := by rw [hr, cmpN_neg]; exact hlt
  have e0 : val xs - val ys = 0 := by omega
  rw [e0, nd_zero]
  clear hr hlt e0 ha hb
  go_enter Tryz.func189, Tryz.ntmps189
  go_wp2_with fail
  refine hcm.mono ?_
  rintro e w1 ⟨rfl, hb1⟩
  go_wp2
  go_ret
  exact ⟨none, 0, rfl, Own.nil _ _, hb1⟩
 ·have hr0 : ¬ r < 0 := by rw [hr, cmpN_neg]; exact hlt
  have hlx := nd_length_le_of ha.dg
  have hly := nd_length_le_of hb.dg
  have hmono : (nd (val ys)).length ≤ (nd (val xs)).length := nd_length_mono (by omega)
  obtain ⟨us, hus⟩ : ∃ us, us = nd (val xs) := ⟨_, rfl⟩
  obtain ⟨vs, hvs⟩ : ∃ vs, vs = nd (val ys) := ⟨_, rfl⟩
  have hvu : val us = val xs := by rw [hus, val_nd]
  have hvv : val vs = val ys := by rw [hvs, val_nd]
  have hge : val vs ≤ val us := by omega
  have HV := hid (And.intro hvu (And.intro hvv hge))
  have HUS := hid hus
  have HVS := hid hvs
  rw [← hus] at hlx hmono
  rw [← hvs] at hly hmono
  clear hr hlt hus hvs hvu hvv hge
  go_enter Tryz.func189, Tryz.ntmps189
  go_wp2_with fail
  refine hcm.mono ?_
  rintro e w1 ⟨rfl, hb1⟩
  have ht := rtrim_any ab cb ys w1 (hb.below hb1) (by omega)
  rw [← HVS.out] at ht
  clear hcm
  go_wp2_with fail
  refine ht.mono ?_
  rintro e w2 ⟨a2, c2, rfl, ho2, hb2⟩
  have hb02 := hb1.trans (hb2.mono hb1.size)
  have ht2 := rtrim_any aa ca xs w2 (ha.below hb02) (by omega)
  rw [← HUS.out] at ht2
  clear ht hb1 hb2
  go_wp2_with fail
  refine ht2.mono ?_
  rintro e w3 ⟨ao, c, rfl, ho3, hb3⟩
  clear ht2
  have hux := ho3.2
  have hvx := ho2.2
  go_wp2_with fail
  go_loopw [6, 7] (fun bv iv wr => ∃ k cy t : Nat, k ≤ us.length ∧ bv = .int .u64 (cy : Int) ∧ iv = .int .i64 (k : Int) ∧ cy ≤ 1 ∧ Hid (t < 4294967296 ^ k ∧ t + val (vs.take k) = val (us.take k) + cy * 4294967296 ^ k) ∧
    Own w2.heap.size wr ao c (dig k t ++ us.drop k) ∧ Below w2.heap.size w2 wr) (fun _ iv _ => us.length - (intOf iv).toNat)
  case atStart => exact ⟨0, 0, 0, Nat.zero_le _, rfl, rfl, by omega, by simp [Hid, val], by simpa [dig] using ho3, hb3⟩
  case round =>
   obtain ⟨k, cy, t, hk, rfl, rfl, hcl, HC, hown, hbel⟩ := hrel
   by_cases hk2 : k < us.length
   ·obtain ⟨x, hx⟩ : ∃ x, x = us.getD k 0 := ⟨_, rfl⟩
    obtain ⟨y, hy⟩ : ∃ y, y = vs.getD k 0 := ⟨_, rfl⟩
    have hxl : x < 4294967296 := by rw [hx]; exact wf_getD hux k
    have hyl : y < 4294967296 := by rw [hy]; exact wf_getD hvx k
    have HX := hid (And.intro hx hy)
    have hll : (dig k t ++ us.drop k).length = us.length := length_snoc (length_dig k t) (by omega)
    rcases hown.cases with ⟨_, _, h3⟩ | ⟨g, cur, rfl, hg, _⟩
    ·rw [h3] at hll; simp at hll; omega
    have hcell := hown.cell k (by omega)
    rw [getD_snoc (length_dig k t), ← hx] at hcell
    have hfr := hown.frozen k
    have hrv := (ho2.below hbel).rd
    have hli : (k : Int) < (us.length : Int) := by omega
    have HOWN := hid hown
    have HLL := hid hll
    clear hown hll
    by_cases hky : k < vs.length
    ·rcases hrv.lies with h9 | ⟨b2, o2, rfl, hc2⟩
     ·simp [h9] at hky
     have g2 := hc2 k hky
     rw [← hy] at g2
     have hlj : (k : Int) < (vs.length : Int) := by omega
     clear hc2 hrv
     by_cases h3 : x < y + cy
     ·have h3i : (x : Int) < (cy : Int) + (y : Int) := by omega
      have hds := sub_digit x y cy hxl hyl hcl
      obtain ⟨dd, hdd⟩ : ∃ dd, dd = (x + 8589934592 - y - cy) % 4294967296 := ⟨_, rfl⟩
      rw [← hdd, if_pos h3] at hds
      have hnew : ∀ v : Int, v = (dd : Int) → Own w2.heap.size (wr.setCell ⟨g, k, none⟩ (.int .u32 v)) (some ⟨g, 0, none⟩) c (dig (k + 1) (t + 4294967296 ^ k * dd) ++ us.drop (k + 1)) := by
       intro v hv
       have h := HOWN.out.set k dd v hv hds.2.1 (by rw [HLL.out]; exact hk2)
       rw [set_snoc (length_dig k t) hk2] at h
       rwa [step_dig_succ, Nat.div_eq_of_lt HC.out.1, Nat.zero_add, Nat.mod_eq_of_lt hds.2.1]
      have HD := hid hds
      have HN := hid hnew
      clear hds hdd hnew hx hy h3
      go_wp2
      have hds := HD.out
      refine ⟨⟨k + 1, 1, t + 4294967296 ^ k * dd, by omega, rfl, by simp, by omega, ⟨?_, ?_⟩, HN.out _ (by omega), Below.setCell hbel hg _⟩, by simp [intOf]; omega⟩
      ·rw [Nat.pow_succ]; exact step_lt HC.out.1 hds.2.1
      ·rw [val_take_getD, val_take_getD, ← HX.out.1, ← HX.out.2, Nat.pow_succ]; exact sub_step HC.out.2 hds.1
     ·have h3i : ¬ (x : Int) < (cy : Int) + (y : Int) := by omega
      have hds := sub_digit x y cy hxl hyl hcl
      obtain ⟨dd, hdd⟩ : ∃ dd, dd = (x + 8589934592 - y - cy) % 4294967296 := ⟨_, rfl⟩
      rw [← hdd, if_neg h3] at hds
      have hnew : ∀ v : Int, v = (dd : Int) → Own w2.heap.size (wr.setCell ⟨g, k, none⟩ (.int .u32 v)) (some ⟨g, 0, none⟩) c (dig (k + 1) (t + 4294967296 ^ k * dd) ++ us.drop (k + 1)) := by
       intro v hv
       have h := HOWN.out.set k dd v hv hds.2.1 (by rw [HLL.out]; exact hk2)
       rw [set_snoc (length_dig k t) hk2] at h
       rwa [step_dig_succ, Nat.div_eq_of_lt HC.out.1, Nat.zero_add, Nat.mod_eq_of_lt hds.2.1]
      have HD := hid hds
      have HN := hid hnew
      clear hds hdd hnew hx hy h3
      go_wp2
      have hds := HD.out
      refine ⟨⟨k + 1, 0, t + 4294967296 ^ k * dd, by omega, rfl, by simp, by omega, ⟨?_, ?_⟩, HN.out _ (by omega), Below.setCell hbel hg _⟩, by simp [intOf]; omega⟩
      ·rw [Nat.pow_succ]; exact step_lt HC.out.1 hds.2.1
      ·rw [val_take_getD, val_take_getD, ← HX.out.1, ← HX.out.2, Nat.pow_succ]; exact sub_step HC.out.2 hds.1
    ·have hlj : ¬ (k : Int) < (vs.length : Int) := by omega
     have hy0 : y = 0 := by rw [hy, List.getD_eq_getElem?_getD, List.getElem?_eq_none (by omega)]; rfl
     have HY0 := hid hy0
     clear hrv
     by_cases h3 : x < y + cy
     ·have h3i : (x : Int) < (cy : Int) := by omega
      have hds := sub_digit x y cy hxl hyl hcl
      obtain ⟨dd, hdd⟩ : ∃ dd, dd = (x + 8589934592 - y - cy) % 4294967296 := ⟨_, rfl⟩
      rw [← hdd, if_pos h3] at hds
      have hnew : ∀ v : Int, v = (dd : Int) → Own w2.heap.size (wr.setCell ⟨g, k, none⟩ (.int .u32 v)) (some ⟨g, 0, none⟩) c (dig (k + 1) (t + 4294967296 ^ k * dd) ++ us.drop (k + 1)) := by
       intro v hv
       have h := HOWN.out.set k dd v hv hds.2.1 (by rw [HLL.out]; exact hk2)
       rw [set_snoc (length_dig k t) hk2] at h
       rwa [step_dig_succ, Nat.div_eq_of_lt HC.out.1, Nat.zero_add, Nat.mod_eq_of_lt hds.2.1]
      have HD := hid hds
      have HN := hid hnew
      clear hds hdd hnew hx hy h3 hy0
      go_wp2
      have hds := HD.out
      refine ⟨⟨k + 1, 1, t + 4294967296 ^ k * dd, by omega, rfl, by simp, by omega, ⟨?_, ?_⟩, HN.out _ (by have := HY0.out; omega), Below.setCell hbel hg _⟩, by simp [intOf]; omega⟩
      ·rw [Nat.pow_succ]; exact step_lt HC.out.1 hds.2.1
      ·rw [val_take_getD, val_take_getD, ← HX.out.1, ← HX.out.2, Nat.pow_succ]; exact sub_step HC.out.2 hds.1
     ·have h3i : ¬ (x : Int) < (cy : Int) := by omega
      have hds := sub_digit x y cy hxl hyl hcl
      obtain ⟨dd, hdd⟩ : ∃ dd, dd = (x + 8589934592 - y - cy) % 4294967296 := ⟨_, rfl⟩
      rw [← hdd, if_neg h3] at hds
      have hnew : ∀ v : Int, v = (dd : Int) → Own w2.heap.size (wr.setCell ⟨g, k, none⟩ (.int .u32 v)) (some ⟨g, 0, none⟩) c (dig (k + 1) (t + 4294967296 ^ k * dd) ++ us.drop (k + 1)) := by
       intro v hv
       have h := HOWN.out.set k dd v hv hds.2.1 (by rw [HLL.out]; exact hk2)
       rw [set_snoc (length_dig k t) hk2] at h
       rwa [step_dig_succ, Nat.div_eq_of_lt HC.out.1, Nat.zero_add, Nat.mod_eq_of_lt hds.2.1]
      have HD := hid hds
      have HN := hid hnew
      clear hds hdd hnew hx hy h3 hy0
      go_wp2
      have hds := HD.out
      refine ⟨⟨k + 1, 0, t + 4294967296 ^ k * dd, by omega, rfl, by simp, by omega, ⟨?_, ?_⟩, HN.out _ (by have := HY0.out; omega), Below.setCell hbel hg _⟩, by simp [intOf]; omega⟩
      ·rw [Nat.pow_succ]; exact step_lt HC.out.1 hds.2.1
      ·rw [val_take_getD, val_take_getD, ← HX.out.1, ← HX.out.2, Nat.pow_succ]; exact sub_step HC.out.2 hds.1
   ·obtain rfl : k = us.length := by omega
    have hke : ¬ ((us.length : Int) < (us.length : Int)) := by omega
    have hT : val (dig us.length t ++ us.drop us.length) = val xs - val ys := by
     have h1 := HC.out.2
     have h0 := HC.out.1
     rw [val_take_of_ge (Nat.le_refl _), val_take_of_ge hmono] at h1
     have h2 := HV.out
     have h4 := val_lt hux
     rw [List.drop_length, List.append_nil, val_dig, Nat.mod_eq_of_lt h0]
     rcases (by omega : cy = 0 ∨ cy = 1) with rfl | rfl <;> omega
    have hll : (dig us.length t ++ us.drop us.length).length = us.length := length_snoc (length_dig _ t) (by omega)
    have ht := rtrim_any ao c (dig us.length t ++ us.drop us.length) wr hown.rd (by rw [hll]; omega)
    rw [hT, hll] at ht
    have hbr := hb02.trans (hbel.mono hb02.size)
    clear hown hbel hT hll hke hk2
    go_wp2_with fail
    refine ht.mono ?_
    rintro e w5 ⟨a5, c5, rfl, ho5, hb5⟩
    go_wp2
    go_ret
    exact ⟨a5, c5, rfl, ho5.mono hbr.size, hbr.trans (hb5.mono hbr.size)⟩
end Go.Proofs.YtcankknlbljicaaGreatDoor
