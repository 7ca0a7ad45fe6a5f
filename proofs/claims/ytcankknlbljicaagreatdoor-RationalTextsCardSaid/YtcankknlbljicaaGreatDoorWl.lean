/-  -/
import Derived.Test.YtcankknlbljicaaGreatDoorWk
import Derived.Test.YtcankknlbljicaaGreatDoorWj

set_option linter.unusedVariables false
set_option linter.unusedSimpArgs false
set_option linter.unusedSectionVars false
set_option maxRecDepth 100000
set_option maxHeartbeats 3200000

namespace Go.Proofs.YtcankknlbljicaaGreatDoor
open Go.RowKit Num

theorem set_mid {L X Z : List Nat} {j i d : Nat} (hL : L.length = j) (hX : X.length = i) (hi : i < Z.length) :
  (L ++ (X ++ Z.drop i)).set (i + j) d = L ++ (X ++ [d] ++ Z.drop (i + 1)) := by
 rw [List.set_append_right _ _ (by omega), hL, Nat.add_sub_cancel, set_snoc hX hi]
theorem getD_mid {L X Z : List Nat} {j i : Nat} (hL : L.length = j) (hX : X.length = i) :
  (L ++ (X ++ Z.drop i)).getD (i + j) 0 = Z.getD i 0 := by
 rw [List.getD_eq_getElem?_getD, List.getElem?_append_right (by omega), hL, Nat.add_sub_cancel, ← List.getD_eq_getElem?_getD, getD_snoc hX]
theorem length_mid {L X Z : List Nat} {j i : Nat} (hL : L.length = j) (hX : X.length = i) (hi : i ≤ Z.length) :
  (L ++ (X ++ Z.drop i)).length = j + Z.length := by
 rw [List.length_append, hL, length_snoc hX hi]
theorem mod_succ (W i : Nat) : W % 4294967296 ^ (i + 1) = W % 4294967296 ^ i + 4294967296 ^ i * (W / 4294967296 ^ i % 4294967296) := Nat.mod_pow_succ
theorem mid_fin {n M T t d : Nat} (hT : T < 4294967296 ^ (n + 1)) (ht : t < 4294967296 ^ n) (hd : d < 4294967296) (hM : n + 1 ≤ M) :
  dig n t ++ [d] ++ (dig M T).drop (n + 1) = dig M (t + 4294967296 ^ n * d) := by
 have h1 : t + 4294967296 ^ n * d < 4294967296 ^ (n + 1) := by rw [Nat.pow_succ]; exact step_lt ht hd
 obtain ⟨k, rfl⟩ : ∃ k, M = n + 1 + k := ⟨M - (n + 1), by omega⟩
 rw [drop_dig (by omega), Nat.div_eq_of_lt hT, dig_append (n + 1) k, Nat.div_eq_of_lt h1, Nat.add_sub_cancel_left, step_dig_succ, Nat.div_eq_of_lt ht, Nat.zero_add, Nat.mod_eq_of_lt hd]
theorem sub_mid {W D P t bv x y c b s d b' i : Nat} (hP : P = 4294967296 ^ i) (h : t + D * bv = W % P + (c + b) * P) (hx : x = W / P % 4294967296) (hs : s = c + D * y) (hd : d + (s % 4294967296 + b) = x + b' * 4294967296) :
  (t + P * d) + D * (bv + P * y) = W % (P * 4294967296) + (s / 4294967296 + b') * (P * 4294967296) := by
 have h1 := subBy_step (y := y) (c' := s / 4294967296) (l := s % 4294967296) (x := x) (b' := b') (d := d) h (by omega) (by omega)
 have h2 : W % (P * 4294967296) = W % P + P * x := by
  have := mod_succ W i
  rw [hP, hx, hP, ← Nat.pow_succ]; exact this
 rw [h1, h2]
theorem sub_end {W D V t x e d b' n : Nat} (hW : W < 4294967296 ^ (n + 1)) (h : t + D * V = W % 4294967296 ^ n + e * 4294967296 ^ n) (hx : x = W / 4294967296 ^ n % 4294967296) (hd : d + e = x + b' * 4294967296) :
  (t + 4294967296 ^ n * d) + D * V = W + b' * 4294967296 ^ (n + 1) := by
 have h2 := mod_succ W n
 rw [Nat.mod_eq_of_lt hW, ← hx] at h2
 rw [Nat.pow_succ]
 have h3 : 4294967296 ^ n * (d + e) = 4294967296 ^ n * (x + b' * 4294967296) := by rw [hd]
 rw [h2]
 generalize W % 4294967296 ^ n = r at h ⊢
 generalize 4294967296 ^ n = P at h h3 ⊢
 grind
theorem add_end {T V R x c n z : Nat} (hT : T < 4294967296 ^ (n + 1)) (hR : R < 4294967296 ^ n) (h : T + V = 4294967296 ^ (n + 1) + R) (hc : (T % 4294967296 ^ n + V) / 4294967296 ^ n = c) (hx : x = T / 4294967296 ^ n % 4294967296) (hz : z = (x + c) % 4294967296) :
  x + c = 4294967296 ∧ (T % 4294967296 ^ n + V) % 4294967296 ^ n = R := by
 have h2 := mod_succ T n
 rw [Nat.mod_eq_of_lt hT, ← hx] at h2
 have hp := pow_pos n
 have e1 := Nat.div_add_mod (T % 4294967296 ^ n + V) (4294967296 ^ n)
 rw [hc] at e1
 have e2 : 4294967296 ^ n * (c + x) + (T % 4294967296 ^ n + V) % 4294967296 ^ n = 4294967296 ^ n * 4294967296 + R := by
  rw [Nat.pow_succ] at h
  rw [Nat.mul_add]
  omega
 have hr := Nat.mod_lt (T % 4294967296 ^ n + V) hp
 have e3 := congrArg (· / 4294967296 ^ n) e2
 have e4 := congrArg (· % 4294967296 ^ n) e2
 simp only [Nat.mul_add_div hp, Nat.mul_add_mod, Nat.div_eq_of_lt hr, Nat.div_eq_of_lt hR, Nat.mod_mod, Nat.mod_eq_of_lt hR] at e3 e4
 exact ⟨by omega, e4⟩
theorem getD_app {L Z : List Nat} {i k : Nat} (hL : L.length = i) : (L ++ Z).getD (i + k) 0 = Z.getD k 0 := by
 rw [List.getD_eq_getElem?_getD, List.getElem?_append_right (by omega), ← List.getD_eq_getElem?_getD, hL, Nat.add_sub_cancel_left]
theorem u64_low (a : Nat) (h : a < 18446744073709551616) : bits .and .u64 (a : Int) 4294967295 = ((a % 4294967296 : Nat) : Int) := by
 have h1 := u64_and_nat a 4294967295 h (by omega)
 have h2 : a &&& 4294967295 = a % 4294967296 := Nat.and_two_pow_sub_one_eq_mod a 32
 rw [h2] at h1
 exact h1
theorem guess_facts {vv : List Nat} {W V n : Nat} (hvw : wf vv) (hvl : vv.length = n + 2) (hvv : val vv = V) (hf : 2147483648 ≤ vv.getD (n + 1) 0) (hlt : W < 4294967296 * V) (hWn : W < 4294967296 ^ (n + 3)) {f s t1 t0 u top : Nat}
  (hfe : f = vv.getD (n + 1) 0) (hse : s = vv.getD n 0) (ht1 : t1 = W / 4294967296 ^ (n + 2) % 4294967296) (ht0 : t0 = W / 4294967296 ^ (n + 1) % 4294967296) (hue : u = W / 4294967296 ^ n % 4294967296) (htop : top = t1 * 4294967296 + t0) :
  t1 ≤ f ∧ W / V ≤ top / f ∧ (∀ d r, d * f + r = top → (4294967296 ≤ d ∨ r * 4294967296 + u < d * s) → W / V < d) ∧ (∀ d r, d * f + r = top → d * s ≤ r * 4294967296 + u → d < 4294967296 → d ≤ W / V + 1) := by
 have tv := top_two hvw hvl
 have hw := top_three (xs := dig (n + 3) W) (wf_dig _ _) (length_dig _ _)
 rw [val_dig, Nat.mod_eq_of_lt hWn, getD_dig (by omega), getD_dig (by omega), getD_dig (by omega), ← ht1, ← ht0, ← hue, ← htop] at hw
 rw [hvv, ← hfe, ← hse] at tv
 rw [← hfe] at hf
 have hul : u < 4294967296 := by rw [hue]; exact Nat.mod_lt _ (by omega)
 have hV0 : 0 < V := by
  have := pow_pos n
  have h2 : 0 < (f * 4294967296 + s) * 4294967296 ^ n := Nat.mul_pos (by omega) this
  omega
 refine ⟨?_, guess_start tv.1 hw.1 hw.2 hul (by omega) hV0, fun d r => guess_down tv.1 hw.1 hw.2 hlt hV0, fun d r h1 h2 h3 => guess_end tv.1 tv.2 hw.1 hV0 h1 h2 h3 (by omega)⟩
 apply Classical.byContradiction
 intro hgt
 have h1 : (t1 * 4294967296 ^ 2) * 4294967296 ^ n ≤ W := by
  rw [hw.1, htop]
  refine Nat.le_trans (Nat.mul_le_mul_right _ ?_) (Nat.le_add_right _ _)
  rw [show (4294967296 : Nat) ^ 2 = 4294967296 * 4294967296 from rfl]; omega
 have h2 : 4294967296 * V < 4294967296 * ((f + 1) * 4294967296 * 4294967296 ^ n) := by
  refine Nat.mul_lt_mul_of_pos_left ?_ (by omega)
  rw [tv.1]
  have hs : s < 4294967296 := by rw [hse]; exact wf_getD hvw _
  have := Nat.mul_le_mul_right (4294967296 ^ n) (show f * 4294967296 + s + 1 ≤ (f + 1) * 4294967296 by omega)
  rw [Nat.add_mul _ 1] at this
  omega
 have h3 : 4294967296 * ((f + 1) * 4294967296 * 4294967296 ^ n) ≤ (t1 * 4294967296 ^ 2) * 4294967296 ^ n := by
  have := Nat.mul_le_mul_right (4294967296 * 4294967296 * 4294967296 ^ n) (show f + 1 ≤ t1 by omega)
  rw [show (4294967296 : Nat) ^ 2 = 4294967296 * 4294967296 from rfl]
  calc 4294967296 * ((f + 1) * 4294967296 * 4294967296 ^ n) = (f + 1) * (4294967296 * 4294967296 * 4294967296 ^ n) := by grind
   _ ≤ _ := this
   _ = _ := by grind
 omega
end Go.Proofs.YtcankknlbljicaaGreatDoor

namespace Go.Proofs.YtcankknlbljicaaGreatDoor
open Go.RowKit Num

theorem rdivmod_one (aa ab : Option Addr) (ca cb d : Nat) (xs ys : List Nat) (w : World) (ha : Rd w aa ca xs) (hb : Rd w ab cb ys) (hv : nd (val ys) = [d]) (hl1 : xs.length ≤ 17592186044416) (hl2 : ys.length ≤ 17592186044416) :
  Calls Tryz.prog 210 #[.slice aa xs.length ca, .slice ab ys.length cb] w (RetDiv w.heap.size (nd (val xs / val ys)) (nd (val xs % val ys)) 0 w) := by
 have hvd : val ys = d := by rw [← val_nd (val ys), hv]; simp [val]
 have hdl : d < 4294967296 := by have := wf_nd (val ys); rw [hv] at this; exact (wf_cons.1 this).1
 have hd0 : 0 < d := by
  have := nrm_nd (val ys)
  rw [hv] at this
  rcases this with h | h
  ·cases h
  ·simp at h; omega
 have ht1 := rtrim_any aa ca xs w ha hl1
 have ht2 := fun w1 (hr : Rd w1 ab cb ys) => rtrim_any ab cb ys w1 hr hl2
 simp only [hv] at ht2
 have hlx := nd_length_le_of ha.dg
 obtain ⟨us, hus⟩ : ∃ us, us = nd (val xs) := ⟨_, rfl⟩
 have hvu : val us = val xs := by rw [hus, val_nd]
 rw [← hus] at ht1 hlx
 rw [hvd, ← hvu]
 have hb1 : ((([d] : List Nat).length : Int) == 1) = true := by simp
 have hb0 : ((([d] : List Nat).length : Int) == 0) = false := by simp
 have HT := hid ht2
 have HB := hid hb
 clear ht2 ha hb hv hvd hus hvu
 go_enter Tryz.func210, Tryz.ntmps210
 go_wp2_with fail
 refine ht1.mono ?_
 rintro e w1 ⟨a1, c1, rfl, ho1, hbe1⟩
 have h2 := HT.out w1 (HB.out.below hbe1)
 clear ht1 HT HB
 go_wp2_with fail
 refine h2.mono ?_
 rintro e w2 ⟨a2, c2, rfl, ho2, hbe2⟩
 have hbe02 := hbe1.trans (hbe2.mono hbe1.size)
 have ho12 := ho1.below hbe2
 rcases ho2.cases with ⟨_, _, h3⟩ | ⟨g, cur, rfl, hg, _⟩
 ·cases h3
 have hc := ho2.cell 0 (by simp)
 simp only [List.getD_cons_zero] at hc
 have hsm := rsmall_any a1 c1 d us w2 ho12.rd (by omega) hdl hd0
 obtain ⟨rr, hrr⟩ : ∃ rr, rr = val us % d := ⟨_, rfl⟩
 have hrl : rr < 4294967296 := by rw [hrr]; exact Nat.lt_of_lt_of_le (Nat.mod_lt _ hd0) (by omega)
 rw [← hrr] at hsm
 have HRR := hid hrr
 clear h2 hg hrr
 go_wp2_with fail
 refine hsm.mono ?_
 rintro e w3 ⟨a3, c3, rfl, ho3, hbe3⟩
 have hbe03 := hbe02.trans (hbe3.mono hbe02.size)
 have hq := (ho3.mono hbe02.size)
 have hone := Own.one w3 w3.heap.size rr (Nat.le_refl _) hrl
 have hba := below_alloc w3 (.cells #[.int .u32 (rr : Int)] 88)
 have htr := rtrim_any _ 1 [rr] _ hone.rd (by simp)
 rw [show val [rr] = rr by simp [val]] at htr
 have hq2 := hq.below hba
 have hbe04 := hbe03.trans (hba.mono hbe03.size)
 have H4 := hid (And.intro hq2 hbe04)
 clear hsm hbe3 ho3 hq hone hba hq2 hbe04 hbe03 hbe02 hc ho2 ho12 hbe2 ho1 hbe1
 go_wp2_with fail
 refine htr.mono ?_
 rintro e w5 ⟨a5, c5, rfl, ho5, hbe5⟩
 go_wp2
 go_ret3
 rw [← HRR.out]
 exact ⟨_, _, _, _, rfl, H4.out.1.below hbe5, ho5.mono H4.out.2.size, H4.out.2.trans (hbe5.mono H4.out.2.size)⟩

theorem rdivmod_less (aa ab : Option Addr) (ca cb n : Nat) (xs ys : List Nat) (w : World) (ha : Rd w aa ca xs) (hb : Rd w ab cb ys) (hv : (nd (val ys)).length = n + 2) (hlt : val xs < val ys) (hl1 : xs.length ≤ 17592186044416) (hl2 : ys.length ≤ 17592186044416) :
  Calls Tryz.prog 210 #[.slice aa xs.length ca, .slice ab ys.length cb] w (RetDiv w.heap.size (nd (val xs / val ys)) (nd (val xs % val ys)) 0 w) := by
 rw [Nat.div_eq_of_lt hlt, Nat.mod_eq_of_lt hlt, nd_zero]
 have ht1 := rtrim_any aa ca xs w ha hl1
 have ht2 := fun w1 (hr : Rd w1 ab cb ys) => rtrim_any ab cb ys w1 hr hl2
 have hlx := nd_length_le_of ha.dg
 have hly := nd_length_le_of hb.dg
 obtain ⟨us, hus⟩ : ∃ us, us = nd (val xs) := ⟨_, rfl⟩
 obtain ⟨vs, hvs⟩ : ∃ vs, vs = nd (val ys) := ⟨_, rfl⟩
 have hvu : val us = val xs := by rw [hus, val_nd]
 have hvv : val vs = val ys := by rw [hvs, val_nd]
 rw [← hus] at ht1 hlx ⊢
 rw [← hvs] at hv hly
 simp only [← hvs] at ht2
 have hb1 : ((vs.length : Int) == 1) = false := beq_eq_false_iff_ne.2 (by omega)
 have hb0 : ((vs.length : Int) == 0) = false := beq_eq_false_iff_ne.2 (by omega)
 obtain ⟨r, hr⟩ : ∃ r, r = cmpN (val us) (val vs) := ⟨_, rfl⟩
 have hr0 : r < 0 := by rw [hr, cmpN_neg, hvu, hvv]; exact hlt
 have HT := hid ht2
 have HB := hid hb
 have HR := hid hr
 clear ht2 ha hb hv hus hvs hvu hvv hlt hr
 go_enter Tryz.func210, Tryz.ntmps210
 go_wp2_with fail
 refine ht1.mono ?_
 rintro e w1 ⟨a1, c1, rfl, ho1, hbe1⟩
 have h2 := HT.out w1 (HB.out.below hbe1)
 clear ht1 HT HB
 go_wp2_with fail
 refine h2.mono ?_
 rintro e w2 ⟨a2, c2, rfl, ho2, hbe2⟩
 have hbe02 := hbe1.trans (hbe2.mono hbe1.size)
 have ho12 := ho1.below hbe2
 have hcm := rcompare_any a1 a2 c1 c2 us vs w2 ho12.rd ho2.rd (by omega) (by omega)
 rw [← HR.out] at hcm
 clear h2 ho1 ho2 hbe1 hbe2
 go_wp2_with fail
 refine hcm.mono ?_
 rintro e w3 ⟨rfl, hbe3⟩
 go_wp2
 go_ret3
 exact ⟨none, 0, _, _, rfl, Own.nil _ _, ho12.below hbe3, hbe02.trans (hbe3.mono hbe02.size)⟩
end Go.Proofs.YtcankknlbljicaaGreatDoor

namespace Go.Proofs.YtcankknlbljicaaGreatDoor
open Go.RowKit Num

theorem run_append_o (w : World) (ty B g n c m cx : Nat) (ad : Addr) (xs ys : List Nat) (hn : n = xs.length) (hm : m = ys.length) (hown : Own B w (some ⟨g, 0, none⟩) c xs) (hr : Rd w (some ad) cx ys)
  (hb : n + m ≤ 35184372088832) :
  ∃ g' c' w', (Builtin.append_ #[22, 22] ty #[.slice (some ⟨g, 0, none⟩) n c, .slice (some ad) m cx]).run Tryz.prog w = .ok (.slice (some ⟨g', 0, none⟩) (n + m) c') w' ∧
   w'.ownsRow g 88 1 (.slice (some ⟨g', 0, none⟩) (n + m) c') (n + m) ((xs ++ ys).map fun d : Nat => Value.int .u32 (d : Int)) ∧ w.grownBy w' (some g) ∧ (g' = g ∨ w.heap.size ≤ g') := by
 subst hn hm
 obtain ⟨i, hi, hz, hsize, hby⟩ := info_parts infoU32
 have ht := Tryz.underlying22
 have hnews : ∀ j u, (ys.map fun d : Nat => Value.int .u32 (d : Int))[j]? = some u → w.cell? (ad.add j) = some u := by
  intro j u hu
  rcases hr.lies with h1 | ⟨b, off, h1, h2⟩
  ·subst h1; simp at hu
  ·simp only [Option.some.injEq] at h1
   subst h1
   have hj : j < ys.length := by have := (List.getElem?_eq_some_iff.1 hu).1; simpa using this
   rw [Addr.add_lit, h2 j hj]
   simpa [hj] using hu
 have h1 : ∀ u ∈ (ys.map fun d : Nat => Value.int .u32 (d : Int)), u.oneCell' = true := by
  intro u hu
  obtain ⟨_, _, rfl⟩ := List.mem_map.1 hu
  rfl
 have hl : (ys.map fun d : Nat => Value.int .u32 (d : Int)).length = ys.length * i.size := by rw [hsize]; simp
 rcases hown.1.2 with ⟨h, _⟩ | ⟨g', cap, cur, hv, hbg, hg, hnc, hcm, hcs, htake⟩
 ·simp at h
 ·simp only [Value.slice.injEq, Option.some.injEq, Addr.mk.injEq] at hv
  obtain ⟨⟨rfl, _⟩, _, rfl⟩ := hv
  have hlen : ((xs ++ ys).map fun d : Nat => Value.int .u32 (d : Int)).length = (xs.length + ys.length) * 1 := by simp
  by_cases hroom : xs.length + ys.length ≤ c
  ·have hfit : xs.length * i.size + (ys.map fun d : Nat => Value.int .u32 (d : Int)).length ≤ cur.size := by rw [hsize, hcs]; simp; exact hroom
   have hrun := run_append_room (P := Tryz.prog) w 22 ty 88 i ht hi g xs.length c cur hg ad ys.length cx _ hl hnews h1 hroom hfit
   refine ⟨g, c, _, hrun, ⟨hlen, .inr ⟨g, c, _, rfl, Nat.le_refl _, setRow_heap w g cur _ 88 _ hg, hroom, hcm, ?_, ?_⟩⟩, ⟨rfl, rfl, rfl, by simp, fun k _ hk => setRow_other w g k _ (fun e => hk (by simp [e]))⟩, Or.inl rfl⟩
   ·simp only [hsize, List.size_toArray, List.length_append, List.length_take, List.length_drop, Array.length_toList, List.length_map, hcs]
    omega
   ·rw [hsize, htake, ← List.map_append, ← hlen]
    exact List.take_left
  ·have holds : ∀ j u, (xs.map fun d : Nat => Value.int .u32 (d : Int))[j]? = some u → w.cell? ((⟨g, 0, none⟩ : Addr).add j) = some u := hown.1.cells (g := g) rfl
   have hrun := run_append_grow (P := Tryz.prog) w 22 ty 88 i (.int .u32 0) ht hi hz ⟨g, 0, none⟩ xs.length c (xs.map fun d : Nat => Value.int .u32 (d : Int)) (by rw [hsize]; simp) holds ad ys.length cx _ hl hnews (by omega) (by omega) (growslice_fits (by omega) (by rw [hby]; omega))
   have hge := grownCap_ge w (xs.length + ys.length) c 88
   have hcm' : grownCap w (xs.length + ys.length) c 88 ≤ maxLen := grownCap_le_maxLen w _ c 88 (by simp only [maxLen]; omega)
   refine ⟨w.heap.size, _, _, hrun, ⟨hlen, .inr ⟨w.heap.size, _, _, rfl, ?_, heap_alloc_new w.drew _, hge, hcm', ?_, ?_⟩⟩, ⟨rfl, rfl, rfl, by simp, fun k hk _ => heap_alloc_old w.drew _ hk⟩, Or.inr (Nat.le_refl _)⟩
   ·exact Nat.le_of_lt (Array.getElem?_eq_some_iff.1 hg).1
   ·simp only [Array.size_append, List.size_toArray, size_zeroCells, List.length_map]
    show _ + _ + _ * 1 = _ * 1
    omega
   ·simp only [Array.toList_append, List.append_assoc]
    rw [← List.append_assoc, ← List.map_append, ← hlen]
    exact List.take_left

theorem wp_append_o {ops : Array Oper} {rest : List Oper} {o : Oper} {a : Act} {Q : Exit → Act → World → Prop} (w : World) (hgd : o.guard = none) (s x : Operand)
  (ho : o.op = .call { callee := .builtin .append, args := #[s, x], argTypes := #[22, 22] })
  (B g n m c cx : Nat) (ad : Addr) (xs ys : List Nat) (hs : a.eval s = .slice (some ⟨g, 0, none⟩) n c) (hx : a.eval x = .slice (some ad) m cx) (hn : n = xs.length) (hm : m = ys.length) (hown : Own B w (some ⟨g, 0, none⟩) c xs) (hr : Rd w (some ad) cx ys)
  (hb : n + m ≤ 35184372088832)
  (h : ∀ g' c' w', Own B w' (some ⟨g', 0, none⟩) c' (xs ++ ys) → (∀ k, k < w.heap.size → k ≠ g → w'.heap[k]? = w.heap[k]?) → Below B w w' → (g' = g ∨ w.heap.size ≤ g') → wpList Tryz.prog ops Q rest (a.put o.dst (.slice (some ⟨g', 0, none⟩) (n + m) c')) w') :
  wpList Tryz.prog ops Q (o :: rest) a w := by
 obtain ⟨g', c', w', h1, h2, h3, h4⟩ := run_append_o w o.type B g n c m cx ad xs ys hn hm hown hr hb
 have hBg := hown.block.1
 have hgs := hown.block.2
 have hown' : Own B w' (some ⟨g', 0, none⟩) c' (xs ++ ys) := by
  have hl : n + m = (xs ++ ys).length := by simp [hn, hm]
  rw [hl] at h2
  have h5 : Own g w' (some ⟨g', 0, none⟩) c' (xs ++ ys) := ⟨h2, wf_append.2 ⟨hown.2, hr.dg⟩⟩
  exact h5.mono hBg
 have hbel : Below B w w' := (Below.refl _ _).grown h3 (Nat.le_of_lt (Nat.lt_of_le_of_lt hBg hgs)) (fun k hk => by simp only [Option.some.injEq] at hk; subst hk; exact hBg)
 refine wpList_plain hgd fun K hK => ?_
 unfold Oper.wp execOp
 simp only [ho, resolve, invoke, builtin, Sem.run_bind, Sem.run_pure, Result.andThen_ok, List.map_toArray, List.map_cons, List.map_nil, hs, hx, h1]
 exact hK _ _ (h g' c' w' hown' (fun k hk hne => h3.block k hk (fun e => hne (by simpa using e))) hbel h4)
end Go.Proofs.YtcankknlbljicaaGreatDoor
