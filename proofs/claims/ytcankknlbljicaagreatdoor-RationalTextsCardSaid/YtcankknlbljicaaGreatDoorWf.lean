/-  -/
import Derived.Test.YtcankknlbljicaaGreatDoorWe

set_option linter.unusedVariables false
set_option linter.unusedSimpArgs false
set_option linter.unusedSectionVars false
set_option maxRecDepth 100000
set_option maxHeartbeats 3200000

namespace Go.Proofs.YtcankknlbljicaaGreatDoor
open Go.RowKit Num

def RetGuess (w : World) (W V : Nat) (e : Ending) (w' : World) : Prop := ∃ d q : Nat, e = .returned (.int .u32 (d : Int)) ∧ d < 4294967296 ∧ W / V ≤ d ∧ d ≤ W / V + 1 ∧ w' = w.drewN q

theorem guessDigit_any (aw ab : Option Addr) (cw cb n : Nat) (ws vs : List Nat) (w : World) (hw : Rd w aw cw ws) (hv : Rd w ab cb vs) (hlv : vs.length = n + 2) (hlw : ws.length = n + 3)
  (hf : 2147483648 ≤ vs.getD (n + 1) 0) (hlt : val ws < 4294967296 * val vs) :
  Calls Tryz.prog 247 #[.slice aw ws.length cw, .slice ab vs.length cb] w (RetGuess w (val ws) (val vs)) := by
 have hwl := hw.le
 have hwm := hw.cm
 have hvl := hv.le
 have hvm := hv.cm
 rcases hw.lies with h1 | ⟨b1, o1, rfl, hc1⟩
 ·rw [h1] at hlw; simp at hlw
 rcases hv.lies with h1 | ⟨b2, o2, rfl, hc2⟩
 ·rw [h1] at hlv; simp at hlv
 have cf := hc2 (n + 1) (by omega)
 have cs := hc2 n (by omega)
 have ct := hc1 (n + 2) (by omega)
 have cm := hc1 (n + 1) (by omega)
 have cu := hc1 n (by omega)
 have tv := top_two hv.dg hlv
 have tw := top_three hw.dg hlw
 obtain ⟨f, hfe⟩ : ∃ f, f = vs.getD (n + 1) 0 := ⟨_, rfl⟩
 obtain ⟨s, hse⟩ : ∃ s, s = vs.getD n 0 := ⟨_, rfl⟩
 obtain ⟨t1, ht1⟩ : ∃ t, t = ws.getD (n + 2) 0 := ⟨_, rfl⟩
 obtain ⟨t0, ht0⟩ : ∃ t, t = ws.getD (n + 1) 0 := ⟨_, rfl⟩
 obtain ⟨u, hue⟩ : ∃ u, u = ws.getD n 0 := ⟨_, rfl⟩
 have hfl : f < 4294967296 := by rw [hfe]; exact wf_getD hv.dg _
 have hsl : s < 4294967296 := by rw [hse]; exact wf_getD hv.dg _
 have ht1l : t1 < 4294967296 := by rw [ht1]; exact wf_getD hw.dg _
 have ht0l : t0 < 4294967296 := by rw [ht0]; exact wf_getD hw.dg _
 have hul : u < 4294967296 := by rw [hue]; exact wf_getD hw.dg _
 rw [← hfe] at cf hf
 rw [← hse] at cs
 rw [← ht1] at ct
 rw [← ht0] at cm
 rw [← hue] at cu
 rw [← hfe, ← hse] at tv
 rw [← ht1, ← ht0, ← hue] at tw
 obtain ⟨top, htop⟩ : ∃ top, top = t0 + 4294967296 * t1 % 18446744073709551616 := ⟨_, rfl⟩
 obtain ⟨hor1, htopl, _⟩ := or_dig t1 t0 top ht0l htop
 rw [or_dig_wrap ht1l] at hor1
 have htop2 : top = t1 * 4294967296 + t0 := by omega
 rw [← htop2] at tw
 have hV0 : 0 < val vs := by omega
 have hP := pow_pos n
 -- t1 is at most f
 have ht1f : t1 ≤ f := by
  apply Classical.byContradiction
  intro hgt
  have h1 : (t1 * 4294967296 ^ 2) * 4294967296 ^ n ≤ val ws := by
   rw [tw.1, htop2]
   refine Nat.le_trans (Nat.mul_le_mul_right _ ?_) (Nat.le_add_right _ _)
   rw [show (4294967296 : Nat) ^ 2 = 4294967296 * 4294967296 from rfl]; omega
  have h2 : 4294967296 * val vs < 4294967296 * ((f + 1) * 4294967296 * 4294967296 ^ n) := by
   refine Nat.mul_lt_mul_of_pos_left ?_ (by omega)
   rw [tv.1]
   have := Nat.mul_le_mul_right (4294967296 ^ n) (show f * 4294967296 + s + 1 ≤ (f + 1) * 4294967296 by omega)
   rw [Nat.add_mul _ 1] at this
   omega
  have h3 : 4294967296 * ((f + 1) * 4294967296 * 4294967296 ^ n) ≤ (t1 * 4294967296 ^ 2) * 4294967296 ^ n := by
   have := Nat.mul_le_mul_right (4294967296 * 4294967296 * 4294967296 ^ n) (show f + 1 ≤ t1 by omega)
   rw [show (4294967296 : Nat) ^ 2 = 4294967296 * 4294967296 from rfl]
   calc 4294967296 * ((f + 1) * 4294967296 * 4294967296 ^ n) = (f + 1) * (4294967296 * 4294967296 * 4294967296 ^ n) := by grind
    _ ≤ _ := this
    _ = _ := by grind
  omega
 have hstart := guess_start tv.1 tw.1 tw.2 hul (by omega) hV0
 have hdown := fun d r => guess_down (d := d) (r := r) tv.1 tw.1 tw.2 hlt hV0
 have hend := fun d r => guess_end (d := d) (r := r) tv.1 tv.2 tw.1 hV0
 obtain ⟨Q, hQ⟩ : ∃ Q, Q = val ws / val vs := ⟨_, rfl⟩
 have hgoal : ∀ e w', (∃ d q : Nat, e = .returned (.int .u32 (d : Int)) ∧ d < 4294967296 ∧ Q ≤ d ∧ d ≤ Q + 1 ∧ w' = w.drewN q) → RetGuess w (val ws) (val vs) e w' := by
  intro e w' h; rw [hQ] at h; exact h
 rw [← hQ] at hstart
 simp only [← hQ] at hdown hend
 have HD := hid hdown
 have HE := hid hend
 have HS := hid hstart
 have HG := hid hgoal
 have htf : top / f < 8589934592 := by rw [Nat.div_lt_iff_lt_mul (by omega)]; have := Nat.mul_le_mul_left 8589934592 hf; omega
 have htr : top % f < 4294967296 := Nat.lt_trans (Nat.mod_lt _ (by omega)) hfl
 have hdm := Nat.div_add_mod top f
 obtain ⟨d0, hd0⟩ : ∃ d, d = top / f := ⟨_, rfl⟩
 obtain ⟨r0, hr0⟩ : ∃ r, r = top % f := ⟨_, rfl⟩
 have hdi : (top : Int) / (f : Int) = (d0 : Int) := by rw [hd0]; simp
 have hri : (top : Int) % (f : Int) = (r0 : Int) := by rw [hr0]; simp
 rw [← hd0] at htf
 rw [← hr0] at htr
 have H0 := hid (show d0 * f + r0 = top ∧ Q ≤ d0 by rw [hd0, hr0, Nat.mul_comm]; exact ⟨hdm, hstart⟩)
 have HT := hid htop2
 have hn1 : (vs.length : Int) - 1 = ((n + 1 : Nat) : Int) := by omega
 have hn2 : (vs.length : Int) - 2 = (n : Int) := by omega
 have hlw1 : ws.length ≤ n + 3 := by omega
 have hlw2 : n + 3 ≤ ws.length := by omega
 have hlv1 : vs.length ≤ n + 2 := by omega
 have hlv2 : n + 2 ≤ vs.length := by omega
 clear hd0 hr0 hdm hQ hstart hdown hend hgoal tv tw htop hfe hse ht1 ht0 hue hc1 hc2 hw hv htop2 hlt hP hlw
 clear hV0
 rw [← hlv] at ct
 have HLV := hid hlv
 clear hlv
 go_enter Tryz.func247, Tryz.ntmps247
 go_wp2_with fail
 go_quiet (fail)
 go_wp2_with fail
 go_quiet (fail)
 go_wp2_with fail
 go_quiet (fail)
 go_wp2_with fail
 go_loopw [9, 10] (fun dv rv wr => ∃ d r q : Nat, dv = .int .u64 (d : Int) ∧ rv = .int .u64 (r : Int) ∧ d < 8589934592 ∧ r < 8589934592 ∧ Hid (d * f + r = top ∧ Q ≤ d) ∧ wr = w.drewN q)
  (fun _ rv _ => (8589934592 - intOf rv).toNat)
 case atStart => exact ⟨d0, r0, _, by first | rfl | exact int_eq hdi, by first | rfl | exact int_eq hri, htf, by omega, H0, drewN3 _ _ _ _⟩
 case round =>
  obtain ⟨d, r, q, rfl, rfl, hdl, hrl, HI, rfl⟩ := hrel
  clear htf htr H0 hdi hri
  by_cases hrb : r ≤ 4294967295
  ·obtain ⟨t, ht⟩ : ∃ t, t = u + 4294967296 * r % 18446744073709551616 := ⟨_, rfl⟩
   obtain ⟨hor2, htl, _⟩ := or_dig r u t hul ht
   rw [or_dig_wrap (by omega)] at hor2
   have ht2 : t = r * 4294967296 + u := by omega
   clear ht
   have hrd : decide ((r : Int) ≤ 4294967295) = true := by simp; omega
   by_cases hdb : d ≤ 4294967295
   ·have hdd : decide ((d : Int) ≤ 4294967295) = true := by simp; omega
    obtain ⟨p, hp⟩ : ∃ p, p = d * s := ⟨_, rfl⟩
    have hpi : (d : Int) * (s : Int) = (p : Int) := by rw [hp]; simp
    have hpl : p ≤ 18446744065119617025 := by rw [hp]; exact mul_u32 (by omega) hsl
    by_cases hpt : p ≤ t
    ·have HR := hid (HE.out d r HI.out.1 (by rw [← hp, ← ht2]; exact hpt) (by omega) (by omega))
     clear hp ht2
     go_wp2
     go_ret
     refine HG.out _ _ ⟨d, _, ?_, by omega, HI.out.2, HR.out, rfl⟩
     exact congrArg Ending.returned (int_eq (by omega))
    ·have HR := hid (HD.out d r HI.out.1 (Or.inr (by rw [← hp, ← ht2]; omega)))
     have hd0 : 1 ≤ d := by have := HR.out; omega
     have hnp : decide ((p : Int) ≤ (t : Int)) = false := by simp; omega
     clear hp ht2
     go_wp2
     refine ⟨⟨d - 1, r + f, q, int_eq (by omega), int_eq (by omega), by omega, by omega, ⟨?_, by have := HR.out; omega⟩, rfl⟩, by simp [intOf]; omega⟩
     have h := HI.out.1
     obtain ⟨e, rfl⟩ : ∃ e, d = e + 1 := ⟨d - 1, by omega⟩
     rw [Nat.add_sub_cancel]
     rw [Nat.add_mul, Nat.one_mul] at h
     omega
   ·have hdd : decide ((d : Int) ≤ 4294967295) = false := by simp; omega
    have HR := hid (HD.out d r HI.out.1 (Or.inl (by omega)))
    have hd0 : 1 ≤ d := by omega
    clear ht2
    go_wp2
    refine ⟨⟨d - 1, r + f, q, int_eq (by omega), int_eq (by omega), by omega, by omega, ⟨?_, by have := HR.out; omega⟩, rfl⟩, by simp [intOf]; omega⟩
    have h := HI.out.1
    obtain ⟨e, rfl⟩ : ∃ e, d = e + 1 := ⟨d - 1, by omega⟩
    rw [Nat.add_sub_cancel]
    rw [Nat.add_mul, Nat.one_mul] at h
    omega
  ·have hrd : decide ((r : Int) ≤ 4294967295) = false := by simp; omega
   have hdl2 : d < 4294967296 := by
    apply Classical.byContradiction
    intro hge
    have h1 := HI.out.1
    have h2 := HT.out
    have h3 := Nat.mul_le_mul_right f (show 4294967296 ≤ d by omega)
    have h4 := Nat.mul_le_mul_right 4294967296 ht1f
    omega
   have HR := hid (HE.out d r HI.out.1 (by
    have h1 := Nat.mul_le_mul (show d ≤ 4294967295 by omega) (show s ≤ 4294967295 by omega)
    omega) hdl2 (by omega))
   go_wp2
   go_ret
   refine HG.out _ _ ⟨d, _, ?_, hdl2, HI.out.2, HR.out, rfl⟩
   exact congrArg Ending.returned (int_eq (by omega))

def RetTwo (B : Nat) (xs ys : List Nat) (w : World) (e : Ending) (w' : World) : Prop :=
 ∃ ax cx ay cy, e = .returned (.tuple #[.slice ax xs.length cx, .slice ay ys.length cy]) ∧ Own B w' ax cx xs ∧ Own B w' ay cy ys ∧ Below w.heap.size w w'

theorem left_put {B gl m i k U W X c : Nat} {w : World} (h : Own B w (some ⟨gl, 0, none⟩) c (dig i U ++ dig (m - i) W)) (hk : i + k ≤ m) (hW : W < 4294967296 ^ k) (hX : X < 4294967296 ^ k) :
  Own B (wput w gl i (dig k X)) (some ⟨gl, 0, none⟩) c (dig i U ++ dig (m - i) X) := by
 have h1 := h.put_at i (dig k X) (by simp [length_dig]; omega) (wf_dig _ _)
 have e : (dig i U ++ dig (m - i) W).take i ++ dig k X ++ (dig i U ++ dig (m - i) W).drop (i + (dig k X).length) = dig i U ++ dig (m - i) X := by
  rw [List.take_left' (length_dig _ _), length_dig, ← List.drop_drop, List.drop_left' (length_dig _ _), drop_dig (by omega), Nat.div_eq_of_lt hW, List.append_assoc]
  congr 1
  rw [show m - i = k + (m - i - k) by omega, dig_append, Nat.div_eq_of_lt hX, show k + (m - i - k) - k = m - i - k by omega]
 rw [e] at h1
 exact h1
theorem left_win {B gl m i k U W c : Nat} {w : World} (h : Own B w (some ⟨gl, 0, none⟩) c (dig i U ++ dig (m - i) W)) (hk : i + k ≤ m) : Wr w gl i (dig k W) := by
 have hwin := (h.wr.take (i + k)).drop i
 have hwl : ((dig i U ++ dig (m - i) W).take (i + k)).drop i = dig k W := by
  rw [List.take_append, length_dig, List.take_of_length_le (by rw [length_dig]; omega), List.drop_left' (length_dig _ _), show i + k - i = k by omega, take_dig (by omega)]
 rwa [hwl, Nat.zero_add] at hwin
theorem guess_exact {W V d t P : Nat} (hV : 0 < V) (h1 : W / V ≤ d) (h2 : t + d * V = W) : d = W / V ∧ t = W % V := by
 have h3 : d ≤ W / V := by rw [Nat.le_div_iff_mul_le hV]; omega
 have h4 : d = W / V := by omega
 have h5 := Nat.div_add_mod W V
 subst h4
 rw [Nat.mul_comm] at h2
 exact ⟨rfl, by omega⟩
theorem guess_over {W V d t P : Nat} (hV : 0 < V) (h1 : W / V ≤ d) (h2 : d ≤ W / V + 1) (ht : t < P) (h3 : t + d * V = W + P) : d = W / V + 1 ∧ t + V = P + W % V := by
 have h4 := Nat.div_add_mod W V
 have h5 : d ≠ W / V := by
  rintro rfl
  rw [Nat.mul_comm] at h3
  omega
 have h6 : d = W / V + 1 := by omega
 subst h6
 rw [Nat.add_mul, Nat.one_mul, Nat.mul_comm] at h3
 exact ⟨rfl, by omega⟩

theorem longDivision_any (aa ab : Option Addr) (ca cb n : Nat) (xs ys : List Nat) (w : World) (ha : Rd w aa ca xs) (hb : Rd w ab cb ys) (hly : ys.length = n + 2) (hny : ys.getD (n + 1) 0 ≠ 0) (hlen : ys.length ≤ xs.length) (hlx : xs.length ≤ 4398046511104) :
  Calls Tryz.prog 227 #[.slice aa xs.length ca, .slice ab ys.length cb] w (RetTwo w.heap.size (nd (val xs / val ys)) (nd (val xs % val ys)) w) := by
 have hax := ha.le
 have hax2 := ha.cm
 have hay := hb.le
 have hay2 := hb.cm
 have hxw := ha.dg
 obtain ⟨d, hd⟩ : ∃ d, d = ys.getD (n + 1) 0 := ⟨_, rfl⟩
 have hdl : d < 4294967296 := by rw [hd]; exact wf_getD hb.dg _
 have hbl := blen_u32 hdl
 have hdp : 0 < blen d := blen_pos (by rw [hd]; exact hny)
 obtain ⟨s, hs⟩ : ∃ s, s + blen d = 32 := ⟨32 - blen d, by omega⟩
 have hsi : (32 : Int) - (blen d : Int) = (s : Int) := by omega
 have hs31 : s ≤ 31 := by omega
 obtain ⟨nv1, nv2, nv3, nv4⟩ := norm_shift (s := s) hb.dg hly hny (by rw [← hd]; exact hs)
 have hV0 : 0 < val ys * 2 ^ s := by
  have := Nat.mul_pos (pow_pos (n + 1)) (Nat.pow_pos (n := s) (show 0 < 2 by omega)); omega
 have hy0 : 0 < val ys := Nat.pos_of_mul_pos_right hV0
 obtain ⟨V, hV⟩ : ∃ V, V = val ys * 2 ^ s := ⟨_, rfl⟩
 obtain ⟨U, hU⟩ : ∃ U, U = val xs * 2 ^ s := ⟨_, rfl⟩
 obtain ⟨m, hm⟩ : ∃ m, m = xs.length + 1 := ⟨_, rfl⟩
 obtain ⟨qn, hqn⟩ : ∃ qn, m = qn + (n + 2) := ⟨xs.length - (n + 1), by omega⟩
 have hUm : U < 4294967296 ^ m := by
  have h1 := val_lt hxw
  have h3 := Nat.mul_le_mul (Nat.le_of_lt h1) (pow_le31 hs31)
  rw [hU, hm, Nat.pow_succ]
  have := pow_pos xs.length
  omega
 have hUq : U / 4294967296 ^ qn < V := by
  refine Nat.div_lt_of_lt_mul ?_
  have h1 := Nat.mul_lt_mul_of_pos_right (val_lt hxw) (Nat.pow_pos (n := s) (show 0 < 2 by omega))
  rw [← hU, show xs.length = qn + (n + 1) by omega, Nat.pow_add, Nat.mul_assoc] at h1
  exact Nat.lt_of_lt_of_le h1 (Nat.mul_le_mul_left _ (by rw [hV]; exact nv3))
 have HQR := hid (show U / V = val xs / val ys ∧ U % V / 2 ^ s = val xs % val ys by
  have hp : 0 < 2 ^ s := Nat.pow_pos (by omega)
  rw [hU, hV, Nat.mul_div_mul_right _ _ hp, Nat.mul_mod_mul_right, Nat.mul_div_cancel _ hp]
  exact ⟨rfl, rfl⟩)
 rw [← hV] at nv1 nv2 nv4 hV0
 have hcs : ys.length - 1 = n + 1 := by omega
 rcases hb.lies with h1 | ⟨b2, o2, rfl, hc2⟩
 ·rw [h1] at hly; simp at hly
 have cd := hc2 (n + 1) (by omega)
 rw [← hd, ← hcs] at cd
 have hlz := fun w => lz32_any d w hdl
 have hup := shiftUp_any (some ⟨b2, o2, none⟩) cb s ys w hb (by omega) (by omega)
 rw [← hV] at hup
 obtain ⟨vs, hvs⟩ : ∃ vs, vs = nd V := ⟨_, rfl⟩
 rw [← hvs] at hup nv1 nv2
 have hvv : val vs = V := by rw [hvs, val_nd]
 have HV := hid hvv
 have HVL := hid nv1
 have hvl1 : vs.length ≤ n + 2 := by omega
 have hvl2 : n + 2 ≤ vs.length := by omega
 have hvl3 : vs.length ≤ xs.length := by omega
 have hmi : (xs.length : Int) + 1 = (m : Int) := by omega
 have hm1 : xs.length + 1 ≤ m := by omega
 have hm2 : m ≤ xs.length + 1 := by omega
 have hqi : (xs.length : Int) - (vs.length : Int) + 1 = (qn : Int) := by omega
 have hq1 : qn + (n + 2) ≤ m := by omega
 have hq2 : m ≤ qn + (n + 2) := by omega
 have HUV := hid (And.intro hU hV)
 have HM := hid hm
 have HQN := hid hqn
 have HUM := hid hUm
 have HUQ := hid hUq
 have HV0 := hid hV0
 have HNV4 := hid nv4
 have hyl2 : n + 2 ≤ ys.length := by omega
 clear hvs hvv nv1 hd hs nv3 hV hU hm hqn hUm hUq hV0 nv4 hc2 hb hny hly hcs hlen
 go_enter Tryz.func227, Tryz.ntmps227
 go_wp2_with (first
  | (go_at_call 244; refine (hlz _).mono ?_; rintro e w' ⟨rfl, rfl⟩)
  | (go_at_call 216; refine hup.mono ?_; rintro e w1 ⟨av, cv, rfl, hv1, hb1⟩)
  | (at_make; refine wp_make _ rfl _ rfl w.heap.size m _ rfl rfl (by omega) hb1.size ?_; intro w2 hl2 hb2 hsz2))
 -- the dividend, shifted
 have hoa : Off w1.heap.size aa xs := ha.lt_size hb1.size
 have hb02 : Below w.heap.size w w2 := hb1.trans (hb2.mono hb1.size)
 have hsd := shiftDigits_any aa w1.heap.size 0 m ca s (List.replicate m 0) xs w2 hl2.wr (wf_replicate _) (ha.below hb02) hoa (by simp; omega) (by omega) hs31
 rw [List.length_replicate, ← HUV.out.1] at hsd
 have hl3 := hl2.put (ys := dig m U) (by rw [length_dig, List.length_replicate]) (wf_dig _ _)
 have hb03 := below_put hb02 hb1.size 0 (dig m U)
 have hv2 := hv1.below hb2
 have hv3 := hv2.keep_put (g := w1.heap.size) (fun a ha => by subst ha; have := hv1.block; omega) 0 (dig m U)
 have hs3 := wput_size w2 w1.heap.size 0 (dig m U)
 refine hsd.mono ?_
 rintro e w' ⟨rfl, rfl⟩
 have hs3' : w1.heap.size < (wput w2 w1.heap.size 0 (dig m U)).heap.size := by omega
 obtain ⟨gl, hgl⟩ : ∃ gl, gl = w1.heap.size := ⟨_, rfl⟩
 rw [← hgl] at hl3 hb03 hv3 hs3' ⊢
 have hgle : w.heap.size ≤ gl := by rw [hgl]; exact hb1.size
 have hvb : ∀ a, av = some a → a.block < gl := fun a ha => by subst ha; rw [hgl]; exact hv1.block.2
 clear hsd hl2 hb02 hv2 hb2 hsz2 hs3 hoa hup hlz hv1 hgl
 generalize wput w2 gl 0 (dig m U) = w3 at hl3 hb03 hv3 hs3' ⊢
 go_wp2_with (at_make; refine wp_make _ rfl _ rfl w.heap.size qn _ rfl rfl (by omega) hb03.size ?_; intro w4 hq4 hb4 hsz4)
 have hl4 := hl3.below hb4
 have hv4 := hv3.below hb4
 have hb04 : Below w.heap.size w w4 := hb03.trans (hb4.mono hb03.size)
 obtain ⟨gq, hgq⟩ : ∃ gq, gq = w3.heap.size := ⟨_, rfl⟩
 rw [← hgq] at hq4 ⊢
 have hglq : gl < gq := by rw [hgq]; exact hs3'
 have hvq : ∀ a, av = some a → a.block ≠ gq := fun a ha => by have := hvb a ha; omega
 have hvl : ∀ a, av = some a → a.block ≠ gl := fun a ha => by have := hvb a ha; omega
 clear hb4 hl3 hv3 hsz4 hs3' hgq hb03
 go_loopw [8, 10] (fun iv _ wr => ∃ j : Nat, j ≤ qn ∧ iv = .int .i64 ((j : Int) - 1) ∧ Own w.heap.size wr (some ⟨gl, 0, none⟩) m (dig j U ++ dig (m - j) (U / 4294967296 ^ j % V)) ∧
   Own w.heap.size wr (some ⟨gq, 0, none⟩) qn (List.replicate j 0 ++ dig (qn - j) (U / 4294967296 ^ j / V)) ∧ Own w.heap.size wr av cv vs ∧ Below w.heap.size w wr)
  (fun iv _ _ => (intOf iv + 1).toNat)
 case atStart =>
  refine ⟨qn, Nat.le_refl _, rfl, ?_, ?_, hv4, hb04⟩
  ·rw [Nat.mod_eq_of_lt HUQ.out, ← dig_append, show qn + (m - qn) = m by omega]; exact hl4
  ·rw [Nat.sub_self, dig, List.append_nil]; exact hq4
 case round =>
  obtain ⟨j, hj, rfl, hl, hq, hv, hb⟩ := hrel
  by_cases hj0 : j = 0
  ·subst hj0
   simp only [dig, List.replicate_zero, List.nil_append, Nat.pow_zero, Nat.div_one, Nat.sub_zero] at hl hq
   have hcq := cut_any _ _ _ _ hq.rd
   have hcl := cut_any _ _ _ _ hl.rd
   have hq2 := hq.cutND
   have hl2 := hl.cutND
   have hvq1 : val (dig qn (U / V)) = U / V := by
    rw [val_dig, Nat.mod_eq_of_lt]
    refine Nat.div_lt_of_lt_mul ?_
    have h1 := Nat.lt_mul_of_div_lt HUQ.out (pow_pos qn)
    rw [Nat.mul_comm]; rw [Nat.mul_comm] at h1; first | exact h1 | (rw [Nat.mul_comm]; exact h1)
   have hvl1 : val (dig m (U % V)) = U % V := by
    rw [val_dig, Nat.mod_eq_of_lt (Nat.lt_of_le_of_lt (Nat.mod_le _ _) HUM.out)]
   rw [length_dig, hvq1, HQR.out.1] at hcq
   rw [length_dig, hvl1] at hcl
   rw [hvq1, HQR.out.1] at hq2
   rw [hvl1] at hl2
   have hll : (nd (U % V)).length ≤ m := by
    have := nd_length_le (Nat.lt_of_le_of_lt (Nat.mod_le U V) HUM.out); exact this
   have hsd := shiftDown_any _ _ s _ _ hl2.rd (by omega) (by omega)
   rw [val_nd, HQR.out.2] at hsd
   clear hl hq hvq1 hvl1
   go_wp2_with fail
   refine hcq.mono ?_
   rintro e w' ⟨rfl, rfl⟩
   go_wp2_with fail
   refine hcl.mono ?_
   rintro e w' ⟨rfl, rfl⟩
   go_wp2_with fail
   refine hsd.mono ?_
   rintro e w8 ⟨ar, cr, rfl, hr8, hb8⟩
   go_wp2
   go_ret2
   exact ⟨_, _, _, _, rfl, hq2.below hb8, hr8.mono hb.size, hb.trans (hb8.mono hb.size)⟩
  ·obtain ⟨i, rfl⟩ : ∃ i, j = i + 1 := ⟨j - 1, by omega⟩
   clear hj0 hl4 hq4 hv4 hb04
   obtain ⟨u, hu⟩ : ∃ u, u = U / 4294967296 ^ i % 4294967296 := ⟨_, rfl⟩
   obtain ⟨R, hR⟩ : ∃ R, R = U / 4294967296 ^ (i + 1) % V := ⟨_, rfl⟩
   have hul : u < 4294967296 := by rw [hu]; omega
   have hRl : R < V := by rw [hR]; exact Nat.mod_lt _ HV0.out
   have hUi : U / 4294967296 ^ i = u + 4294967296 * (U / 4294967296 ^ (i + 1)) := by
    rw [hu, Nat.pow_succ, ← Nat.div_div_eq_div_mul]; omega
   have hdst := div_step u (U / 4294967296 ^ (i + 1)) V HV0.out
   rw [← hUi, ← hR] at hdst
   obtain ⟨W, hW⟩ : ∃ W, W = 4294967296 * R + u := ⟨_, rfl⟩
   rw [← hW] at hdst
   have hWl : W < 4294967296 * V := by omega
   have hWn : W < 4294967296 ^ (n + 3) := by
    have := HNV4.out
    rw [show n + 3 = n + 2 + 1 by omega, Nat.pow_succ]; omega
   rw [dig_down (by omega), ← hR, ← hu, show u + 4294967296 * R = W by omega] at hl
   -- the window
   have hwl : ((dig i U ++ dig (m - i) W).take (i + (n + 3))).drop i = dig (n + 3) W := by
    rw [List.take_append, length_dig, List.take_of_length_le (by rw [length_dig]; omega), List.drop_left' (length_dig _ _), show i + (n + 3) - i = n + 3 by omega, take_dig (by omega)]
   have hwin := (hl.wr.take (i + (n + 3))).drop i
   rw [hwl, Nat.zero_add] at hwin
   have hvd : val (dig (n + 3) W) = W := by rw [val_dig, Nat.mod_eq_of_lt hWn]
   have hvl4 : vs.length + 1 = n + 3 := by have := HVL.out; omega
   have hgs := guessDigit_any (some ⟨gl, i, none⟩) av (m - i) cv n (dig (n + 3) W) vs wr (hwin.rd (by rw [length_dig]; omega) (by omega) (wf_dig _ _)) hv.rd HVL.out (length_dig _ _) nv2 (by rw [hvd, HV.out]; exact hWl)
   rw [length_dig, hvd, HV.out, ← hvl4] at hgs
   have hoffv : Off gl av vs := Or.inr hvl
   have hdec := fun q D hD => decreaseBy_any av gl i (m - i) cv D (dig (n + 3) W) vs (wr.drewN q) hwin (wf_dig _ _) (hv.rd.drewN q) hoffv (by rw [length_dig]; omega) (by omega) hD
   rw [length_dig, hvd, HV.out, ← hvl4] at hdec
   have hnk : ¬ (m = i) := by omega
   have HDST := hid hdst
   have HUI := hid (And.intro hu (And.intro hR (And.intro hUi hW)))
   have HDEC := hid hdec
   have HH := hid (And.intro hl (And.intro hq hv))
   have hlen3 : i + vs.length + 1 - i = vs.length + 1 := by omega
   clear hu hR hUi hW hdst hdec hwin hwl hvd hl hq hv hvl4
   go_wp2_with fail
   refine hgs.mono ?_
   rintro e w' ⟨dd, q1, rfl, hddl, hdd1, hdd2, rfl⟩
   go_wp2_with fail
   refine (HDEC.out q1 dd hddl).mono ?_
   rintro e w6 ⟨b, t, rfl, htl, hteq, hw6⟩
   have hVn : W % V < 4294967296 ^ (vs.length + 1) := Nat.lt_of_le_of_lt (Nat.mod_le _ _) (by rw [show vs.length + 1 = n + 3 by have := HVL.out; omega]; exact hWn)
   have hWn' : W < 4294967296 ^ (vs.length + 1) := by rw [show vs.length + 1 = n + 3 by have := HVL.out; omega]; exact hWn
   have hdst := HDST.out
   have hUi := HUI.out
   have hql : W / V < 4294967296 := by
    have := div_step_lt (u := u) (v := R) hul HV0.out
    rw [Nat.mod_eq_of_lt hRl, ← hUi.2.2.2] at this; exact this
   have hl5 := HH.out.1.drewN q1
   have hq5 := HH.out.2.1.drewN q1
   have hv5 := HH.out.2.2.drewN q1
   have hb5 : Below w.heap.size w (wr.drewN q1) := hb.trans ((below_drewN wr q1).mono hb.size)
   have hglq2 : ∀ a, (some (⟨gq, 0, none⟩ : Addr)) = some a → a.block ≠ gl := fun a ha => by cases ha; show gq ≠ gl; omega
   have hq6 := hq5.keep_put hglq2 i (dig (vs.length + 1) t)
   have hv6 := hv5.keep_put hvl i (dig (vs.length + 1) t)
   have hb6 := below_put hb5 hgle i (dig (vs.length + 1) t)
   have hl6 := left_put (k := vs.length + 1) (X := t) hl5 (by omega) hWn' htl
   rw [← hw6.out] at hq6 hv6 hb6 hl6
   have hset : ∀ q, q = W / V → (List.replicate (i + 1) 0 ++ dig (qn - (i + 1)) (U / 4294967296 ^ (i + 1) / V)).set i q = List.replicate i 0 ++ dig (qn - i) (U / 4294967296 ^ i / V) := by
    intro q hq
    rw [set_zero (by omega) (by omega), hq]
    congr 2
    exact hdst.1.symm
   have hmod : W % V = U / 4294967296 ^ i % V := hdst.2.symm
   have hlenq : (List.replicate (i + 1) 0 ++ dig (qn - (i + 1)) (U / 4294967296 ^ (i + 1) / V)).length = qn := by simp [length_dig]; omega
   cases b with
   | false =>
    obtain ⟨hde, hte⟩ := guess_exact (P := 0) HV0.out hdd1 (by simpa using hteq)
    rw [hte, hmod] at hl6
    have hqc := hq6.cell i (by omega)
    have hqf := hq6.frozen i
    obtain ⟨z0, hz0⟩ : ∃ z0, z0 = (List.replicate (i + 1) 0 ++ dig (qn - (i + 1)) (U / 4294967296 ^ (i + 1) / V)).getD i 0 := ⟨_, rfl⟩
    rw [← hz0] at hqc
    have hq7 := hq6.set i dd (dd : Int) rfl hddl (by omega)
    rw [hset dd hde] at hq7
    have hl7 : Own w.heap.size (w6.setCell ⟨gq, i, none⟩ (.int .u32 (dd : Int))) (some ⟨gl, 0, none⟩) m (dig i U ++ dig (m - i) (U / 4294967296 ^ i % V)) := hl6.keep fun a ha => by cases ha; exact Below.heap_setCell w6 ⟨gq, i, none⟩ _ gl (show gl ≠ gq by omega)
    have hv7 : Own w.heap.size (w6.setCell ⟨gq, i, none⟩ (.int .u32 (dd : Int))) av cv vs := hv6.keep fun a ha => Below.heap_setCell _ _ _ _ (hvq a ha)
    have hb7 : Below w.heap.size w (w6.setCell ⟨gq, i, none⟩ (.int .u32 (dd : Int))) := hb6.setCell (by show w.heap.size ≤ gq; omega) _
    have H7 := hid (And.intro hl7 (And.intro hq7 (And.intro hv7 hb7)))
    clear hq7 hl7 hv7 hb7 hl6 hq6 hv6 hb6 hset hmod hz0 hte hteq hdst hUi hl5 hq5 hv5 hb5 hlenq hde hw6
    go_wp2
    refine ⟨⟨i, by omega, int_eq (by omega), H7.out⟩, by simp [intOf]⟩
   | true =>
    obtain ⟨hde, hte⟩ := guess_over HV0.out hdd1 hdd2 htl (by simpa using hteq)
    have hqW : W / V + 1 = dd := hde.symm
    obtain ⟨dq, hdq⟩ : ∃ dq, dq = W / V := ⟨_, rfl⟩
    rw [← hdq] at hqW
    subst hqW
    have hX : dig (vs.length + 1) (val (dig (vs.length + 1) t) + val vs) = dig (vs.length + 1) (W % V) := by
     rw [val_dig, Nat.mod_eq_of_lt htl, HV.out, hte, Nat.add_comm (4294967296 ^ (vs.length + 1))]
     have := step_dig (vs.length + 1) (W % V) 1
     rw [Nat.mul_one] at this
     exact this
    have hinc := increase_any (some ⟨gl, i, none⟩) av gl i (m - i) cv (dig (vs.length + 1) t) vs w6 (fun _ => rfl) (left_win hl6 (by omega)) (wf_dig _ _) hv6.rd hoffv (by rw [length_dig]; omega) (by rw [length_dig]; omega)
    rw [length_dig, hX] at hinc
    have hl7 := left_put (k := vs.length + 1) (X := W % V) hl6 (by omega) htl hVn
    have hq7 := hq6.keep_put hglq2 i (dig (vs.length + 1) (W % V))
    have hv7 := hv6.keep_put hvl i (dig (vs.length + 1) (W % V))
    have hb7 := below_put hb6 hgle i (dig (vs.length + 1) (W % V))
    generalize wput w6 gl i (dig (vs.length + 1) (W % V)) = w7 at hinc hl7 hq7 hv7 hb7
    rw [hmod] at hl7
    have hqc := hq7.cell i (by omega)
    have hqf := hq7.frozen i
    obtain ⟨z0, hz0⟩ : ∃ z0, z0 = (List.replicate (i + 1) 0 ++ dig (qn - (i + 1)) (U / 4294967296 ^ (i + 1) / V)).getD i 0 := ⟨_, rfl⟩
    rw [← hz0] at hqc
    have hq8 := hq7.set i dq (dq : Int) rfl (by omega) (by omega)
    rw [hset dq hdq] at hq8
    have hl8 : Own w.heap.size (w7.setCell ⟨gq, i, none⟩ (.int .u32 (dq : Int))) (some ⟨gl, 0, none⟩) m (dig i U ++ dig (m - i) (U / 4294967296 ^ i % V)) := hl7.keep fun a ha => by cases ha; exact Below.heap_setCell w7 ⟨gq, i, none⟩ _ gl (show gl ≠ gq by omega)
    have hv8 : Own w.heap.size (w7.setCell ⟨gq, i, none⟩ (.int .u32 (dq : Int))) av cv vs := hv7.keep fun a ha => Below.heap_setCell _ _ _ _ (hvq a ha)
    have hb8 : Below w.heap.size w (w7.setCell ⟨gq, i, none⟩ (.int .u32 (dq : Int))) := hb7.setCell (by show w.heap.size ≤ gq; omega) _
    have H8 := hid (And.intro hl8 (And.intro hq8 (And.intro hv8 hb8)))
    clear hq8 hl8 hv8 hb8 hl7 hq7 hv7 hb7 hl6 hq6 hv6 hb6 hset hmod hz0 hte hteq hdst hUi hl5 hq5 hv5 hb5 hlenq hde hw6 hX hdq
    go_wp2_with (go_at_call 239; refine hinc.mono ?_; rintro e w' ⟨rfl, rfl⟩)
    refine ⟨⟨i, by omega, int_eq (by omega), H8.out⟩, by simp [intOf]⟩
end Go.Proofs.YtcankknlbljicaaGreatDoor

namespace Go.Proofs.YtcankknlbljicaaGreatDoor
open Go.RowKit Num

def valOf (v : Value) (w : World) : Nat := match v with
 | .slice (some a) n _ => val ((List.range n).map fun i => match w.cell? ⟨a.block, a.off + i, none⟩ with | some (.int _ q) => q.toNat | _ => 0)
 | _ => 0
theorem Rd.valOf {w : World} {ao : Option Addr} {c : Nat} {xs : List Nat} (h : Rd w ao c xs) : valOf (.slice ao xs.length c) w = val xs := by
 rcases h.lies with h1 | ⟨b, off, h1, h2⟩
 ·subst h1; cases ao <;> rfl
 ·subst h1
  show val _ = _
  congr 1
  apply List.ext_getElem
  ·simp
  ·intro i h3 h4
   simp only [List.getElem_map, List.getElem_range]
   rw [h2 i h4]
   simp [List.getD, h4]
def RetDiv (B : Nat) (xs ys : List Nat) (err : Int) (w : World) (e : Ending) (w' : World) : Prop :=
 ∃ ax cx ay cy, e = .returned (.tuple #[.slice ax xs.length cx, .slice ay ys.length cy, .int .i64 err]) ∧ Own B w' ax cx xs ∧ Own B w' ay cy ys ∧ Below w.heap.size w w'

theorem Own.one (w : World) (B x : Nat) (hB : B ≤ w.heap.size) (hx : x < 4294967296) : Own B (w.alloc (.cells #[.int .u32 (x : Int)] 88)) (some ⟨w.heap.size, 0, none⟩) 1 [x] :=
 Own.mk_some (cur := #[.int .u32 (x : Int)]) hB (heap_alloc_at w _) (Nat.le_refl _) (by omega) rfl rfl (wf_cons.2 ⟨hx, wf_nil⟩)

theorem divmod_zero (aa ab : Option Addr) (ca cb : Nat) (xs ys : List Nat) (w : World) (ha : Rd w aa ca xs) (hb : Rd w ab cb ys) (h0 : val ys = 0) :
  Calls Tryz.prog 199 #[.slice aa xs.length ca, .slice ab ys.length cb] w (RetDiv w.heap.size [] [] 3 w) := by
 have hcx := cut_any aa ca xs w ha
 have hcy := cut_any ab cb ys w hb
 rw [h0, nd_zero] at hcy
 have hb0 : ((([] : List Nat).length : Int) == 0) = true := by simp
 clear ha hb h0
 go_enter Tryz.func199, Tryz.ntmps199
 go_wp2_with fail
 refine hcx.mono ?_
 rintro e w' ⟨rfl, rfl⟩
 go_wp2_with fail
 refine hcy.mono ?_
 rintro e w' ⟨rfl, rfl⟩
 go_wp2
 go_ret3
 exact ⟨none, 0, none, 0, rfl, Own.nil _ _, Own.nil _ _, Below.refl _ _⟩

theorem divmod_any (aa ab : Option Addr) (ca cb : Nat) (xs ys : List Nat) (w : World) (ha : Rd w aa ca xs) (hb : Rd w ab cb ys) (h0 : val ys ≠ 0) (hlx : xs.length ≤ 4398046511104) :
  Calls Tryz.prog 199 #[.slice aa xs.length ca, .slice ab ys.length cb] w (RetDiv w.heap.size (nd (val xs / val ys)) (nd (val xs % val ys)) 0 w) := by
 have hcx := cut_any aa ca xs w ha
 have hcy := cut_any ab cb ys w hb
 have hlx2 := nd_length_le_of ha.dg
 have hly := nd_length_le_of hb.dg
 have hra := ha.cutND
 have hrb := hb.cutND
 have hbm := hb.cm
 have hbl := hb.le
 obtain ⟨us, hus⟩ : ∃ us, us = nd (val xs) := ⟨_, rfl⟩
 obtain ⟨vs, hvs⟩ : ∃ vs, vs = nd (val ys) := ⟨_, rfl⟩
 have hvx : val us = val xs := by rw [hus, val_nd]
 have hvy : val vs = val ys := by rw [hvs, val_nd]
 have hlen : val ys ≤ val xs → vs.length ≤ us.length := by rw [hus, hvs]; exact nd_length_mono
 have hnv : nrm vs := by rw [hvs]; exact nrm_nd _
 have HU := hid (show nd (val us) = us by rw [hus, val_nd])
 rw [← hus] at hcx hlx2 hra
 rw [← hvs] at hcy hly hrb
 rw [← hvx, ← hvy]
 rw [← hvx, ← hvy] at hlen
 rw [← hvy] at h0
 clear hus hvs hvx hvy ha hb
 have hvl : vs.length ≠ 0 := by
  intro h; apply h0; rw [List.eq_nil_of_length_eq_zero h]; rfl
 have hb0 : ((vs.length : Int) == 0) = false := beq_eq_false_iff_ne.2 (by omega)
 have hcmp := compare_any aa ab ca cb us vs w hra hrb
 obtain ⟨r, hr⟩ : ∃ r, r = cmpN (val us) (val vs) := ⟨_, rfl⟩
 rw [← hr] at hcmp
 have hrn : r < 0 ↔ val us < val vs := by rw [hr]; exact cmpN_neg
 clear hr
 by_cases hlt : val us < val vs
 ·have hr0 : r < 0 := hrn.2 hlt
  have HQ := hid (And.intro (Nat.div_eq_of_lt hlt) (Nat.mod_eq_of_lt hlt))
  have hcl := fun q => clone_any aa ca us (w.drewN q) (hra.drewN q) (by omega)
  clear hrn hlt hlen h0 hnv
  go_enter Tryz.func199, Tryz.ntmps199
  go_wp2_with fail
  refine hcx.mono ?_
  rintro e w' ⟨rfl, rfl⟩
  go_wp2_with fail
  refine hcy.mono ?_
  rintro e w' ⟨rfl, rfl⟩
  go_wp2_with fail
  refine hcmp.mono ?_
  rintro e w' ⟨rfl, q, rfl⟩
  go_wp2_with fail
  refine (hcl q).mono ?_
  rintro e w1 ⟨ac, cc, rfl, hown, hbel⟩
  go_wp2
  go_ret3
  rw [HQ.out.1, HQ.out.2, nd_zero, HU.out]
  exact ⟨none, 0, _, _, rfl, Own.nil _ _, hown, (below_drewN w q).trans hbel⟩
 ·have hr0 : ¬ r < 0 := fun h => hlt (hrn.1 h)
  have hll := hlen (by omega)
  clear hrn hlt hlen
  by_cases h1 : vs.length = 1
  ·have hb1 : ((vs.length : Int) == 1) = true := by simp [h1]
   obtain ⟨d, hd⟩ := List.length_eq_one_iff.1 h1
   have hdl : d < 4294967296 := by have := hrb.dg; rw [hd] at this; exact (wf_cons.1 this).1
   have hdv : val vs = d := by rw [hd]; simp [val]
   rcases hrb.lies with h2 | ⟨b2, o2, rfl, hc2⟩
   ·rw [h2] at h1; simp at h1
   have hc := hc2 0 (by omega)
   rw [hd] at hc
   simp only [List.getD_cons_zero, Nat.add_zero] at hc
   have hcl := fun q => clone_any aa ca us (w.drewN q) (hra.drewN q) (by omega)
   rw [hdv] at h0 ⊢
   have hux := hra.dg
   have hcw := hb1
   have hbw : b2 < w.heap.size := lt_of_cell hc
   clear h1 hd hdv hc2 hnv hra hrb
   go_enter Tryz.func199, Tryz.ntmps199
   go_wp2_with fail
   refine hcx.mono ?_
   rintro e w' ⟨rfl, rfl⟩
   go_wp2_with fail
   refine hcy.mono ?_
   rintro e w' ⟨rfl, rfl⟩
   go_wp2_with fail
   refine hcmp.mono ?_
   rintro e w' ⟨rfl, q, rfl⟩
   go_wp2_with fail
   refine (hcl q).mono ?_
   rintro e w1 ⟨ac, cc, rfl, hown, hbel⟩
   have hown : Own w.heap.size w1 ac cc us := hown
   have hb1 : Below w.heap.size w w1 := (below_drewN w q).trans hbel
   have hc1 : w1.cell? ⟨b2, o2, none⟩ = some (.int .u32 (d : Int)) := by rw [hb1.cell (p := ⟨b2, o2, none⟩) hbw]; exact hc
   obtain ⟨g, g1, g2, g3, g4⟩ := hown.inplace hb1.size
   have hdb := divideBy_any ac g 0 cc d us w1 g1 g3 hux (by omega) hdl (by omega)
   have hown2 := g4 (dig us.length (val us / d)) (length_dig _ _) (wf_dig _ _)
   have hb2 := below_put hb1 g2 0 (dig us.length (val us / d))
   have hvq : val (dig us.length (val us / d)) = val us / d := by
    rw [val_dig, Nat.mod_eq_of_lt (Nat.lt_of_le_of_lt (Nat.div_le_self _ _) (val_lt hux))]
   have hcq := fun W (hW : Own w.heap.size W ac cc (dig us.length (val us / d))) => cut_any _ _ _ _ hW.rd
   simp only [length_dig, hvq] at hcq
   have hown3 := hown2.cutND
   rw [hvq] at hown3
   have hrl : val us % d < 4294967296 := Nat.lt_of_lt_of_le (Nat.mod_lt _ (by omega)) (by omega)
   have HCQ := hid (hcq _ hown2)
   obtain ⟨rr, hrr⟩ : ∃ rr, rr = val us % d := ⟨_, rfl⟩
   rw [← hrr] at hrl hdb
   have HRR := hid hrr
   clear hcl hbel hc g1 g3 g4 hcq hown hrr
   go_wp2_with fail
   refine hdb.mono ?_
   rintro e w' ⟨rfl, rfl⟩
   clear hdb
   generalize wput w1 g 0 (dig us.length (val us / d)) = w2 at hown2 hb2 hown3 HCQ ⊢
   go_wp2_with fail
   refine HCQ.out.mono ?_
   rintro e w' ⟨rfl, rfl⟩
   have hone := Own.one w2 w.heap.size rr hb2.size hrl
   have hco := cut_any _ _ _ _ hone.rd
   rw [show val [rr] = rr by simp [val]] at hco
   simp only [List.length_singleton] at hco
   have hone2 := hone.cutND
   rw [show val [rr] = rr by simp [val]] at hone2
   have hb3 := hb2.trans ((below_alloc w2 (.cells #[.int .u32 (rr : Int)] 88)).mono hb2.size)
   have hown4 := hown3.below (below_alloc w2 (.cells #[.int .u32 (rr : Int)] 88))
   have H4 := hid (And.intro hone2 (And.intro hb3 hown4))
   clear hone hone2 hb3 hown4
   go_wp2_with fail
   refine hco.mono ?_
   rintro e w' ⟨rfl, rfl⟩
   go_wp2
   go_ret3
   rw [← HRR.out]
   exact ⟨_, _, _, _, rfl, H4.out.2.2, H4.out.1, H4.out.2.1⟩
  ·have hb1 : ((vs.length : Int) == 1) = false := beq_eq_false_iff_ne.2 (by omega)
   obtain ⟨n, hn⟩ : ∃ n, vs.length = n + 2 := ⟨vs.length - 2, by omega⟩
   have htop : vs.getD (n + 1) 0 ≠ 0 := by
    rcases hnv with h | h
    ·rw [h] at hn; simp at hn
    ·rwa [hn] at h
   have hld := fun q => longDivision_any aa ab ca cb n us vs (w.drewN q) (hra.drewN q) (hrb.drewN q) hn htop hll (by omega)
   clear hn htop hnv hra hrb
   go_enter Tryz.func199, Tryz.ntmps199
   go_wp2_with fail
   refine hcx.mono ?_
   rintro e w' ⟨rfl, rfl⟩
   go_wp2_with fail
   refine hcy.mono ?_
   rintro e w' ⟨rfl, rfl⟩
   go_wp2_with fail
   refine hcmp.mono ?_
   rintro e w' ⟨rfl, q, rfl⟩
   go_wp2_with fail
   refine (hld q).mono ?_
   rintro e w1 ⟨ax, cx, ay, cy, rfl, h5, h6, h7⟩
   go_wp2
   go_ret3
   exact ⟨_, _, _, _, rfl, h5, h6, (below_drewN w q).trans h7⟩
end Go.Proofs.YtcankknlbljicaaGreatDoor
