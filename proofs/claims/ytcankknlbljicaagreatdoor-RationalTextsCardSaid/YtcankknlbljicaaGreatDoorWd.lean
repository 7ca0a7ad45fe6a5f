/-  -/
import Derived.Test.YtcankknlbljicaaGreatDoorWb
import Derived.BigRegion
import Derived.Laws.BytesString

set_option linter.unusedVariables false
set_option linter.unusedSimpArgs false
set_option linter.unusedSectionVars false
set_option maxRecDepth 100000
set_option maxHeartbeats 3200000

namespace Go.Proofs.YtcankknlbljicaaGreatDoor
open Go.RowKit Num

theorem add_any (aa ab : Option Addr) (ca cb : Nat) (xs ys : List Nat) (w : World) (ha : Rd w aa ca xs) (hb : Rd w ab cb ys) (hl1 : xs.length ≤ 17592186044416) (hl2 : ys.length ≤ 17592186044416) :
  Calls Tryz.prog 218 #[.slice aa xs.length ca, .slice ab ys.length cb] w (RetOwn w.heap.size (nd (val xs + val ys)) w) := by
 have hcx := cut_any aa ca xs w ha
 have hcy := cut_any ab cb ys w hb
 have hlx := nd_length_le_of ha.dg
 have hly := nd_length_le_of hb.dg
 have hra := ha.cutND
 have hrb := hb.cutND
 obtain ⟨us, hus⟩ : ∃ us, us = nd (val xs) := ⟨_, rfl⟩
 obtain ⟨vs, hvs⟩ : ∃ vs, vs = nd (val ys) := ⟨_, rfl⟩
 have hvx : val us = val xs := by rw [hus, val_nd]
 have hvy : val vs = val ys := by rw [hvs, val_nd]
 rw [← hus] at hcx hlx hra
 rw [← hvs] at hcy hly hrb
 have hux := hra.dg
 have huy := hrb.dg
 clear hus hvs ha hb
 by_cases hlen : us.length < vs.length
 ·have HSUM := hid (show val vs + val us = val xs + val ys by omega)
  have HLT := hid (show val vs + val us < 4294967296 ^ (vs.length + 1) by
   have h1 := val_lt hux
   have h2 := val_lt huy
   have h3 := Nat.pow_le_pow_right (show 0 < 4294967296 by omega) (Nat.le_of_lt hlen)
   rw [Nat.pow_succ]; omega)
  clear hvx hvy

  have hmk : ∀ w1 : World, Below w.heap.size w w1 → Rd w1 ab cb vs ∧ Rd w1 aa ca us := fun w1 hb => ⟨hrb.below hb, hra.below hb⟩
  go_enter Tryz.func218, Tryz.ntmps218
  go_wp2_with fail
  refine hcx.mono ?_
  rintro e w' ⟨rfl, rfl⟩
  go_wp2_with fail
  refine hcy.mono ?_
  rintro e w' ⟨rfl, rfl⟩
  go_wp2_with (at_make; refine wp_make _ rfl _ rfl w.heap.size (vs.length + 1) _ rfl (by omega) (by omega) (Nat.le_refl _) ?_; intro w1 hown1 hbel1 hsz1)
  have hrr := hmk w1 hbel1
  obtain ⟨cur, hcur, hcl⟩ := hown1.row
  have hown2 := hown1.copied (ys := vs) (by omega) hrr.1.dg
  have hb2 := below_put hbel1 (Nat.le_refl w.heap.size) 0 vs
  have hoff : Off w.heap.size aa us := hra.lt_size (Nat.le_refl _)
  have hrb2 := hrr.2.put hoff 0 vs
  have HC1 := hid hcur
  have HC2 := hid hcl
  clear hcur hcl
  rw [run_copy w1 _ w.heap.size 0 _ _ _ _ _ (List.replicate (vs.length + 1) 0) vs (by simp) rfl cur _ HC1.out (by have := HC2.out; omega) hrr.1 (by simp)]
  generalize wput w1 w.heap.size 0 vs = w2 at hown2 hb2 hrb2 ⊢
  go_wp2_with fail
  rw [show vs.length + 1 - vs.length = 1 by omega] at hown2
  have hlen2 : (vs ++ List.replicate 1 0).length = vs.length + 1 := by simp
  have hinc := increase_any (some ⟨w.heap.size, 0, none⟩) aa w.heap.size 0 (vs.length + 1) ca (vs ++ List.replicate 1 0) us w2 (fun _ => rfl) hown2.wr hown2.2 hrb2 hoff (by omega) (by omega)
  rw [hlen2] at hinc
  refine hinc.mono ?_
  rintro e w' ⟨rfl, rfl⟩
  have hown3 := hown2.put (ys := dig (vs.length + 1) (val (vs ++ List.replicate 1 0) + val us)) (by rw [length_dig, hlen2]) (wf_dig _ _)
  have hb3 := below_put hb2 (Nat.le_refl w.heap.size) 0 (dig (vs.length + 1) (val (vs ++ List.replicate 1 0) + val us))
  have hv : val (dig (vs.length + 1) (val (vs ++ List.replicate 1 0) + val us)) = val xs + val ys := by
   rw [val_dig, val_append, val_replicate, Nat.mul_zero, Nat.add_zero, Nat.mod_eq_of_lt HLT.out, HSUM.out]
  generalize wput w2 w.heap.size 0 (dig (vs.length + 1) (val (vs ++ List.replicate 1 0) + val us)) = w3 at hown3 hb3 ⊢
  have hcut := cut_any _ _ _ _ hown3.rd
  rw [length_dig] at hcut
  have hown4 := hown3.cutND
  rw [hv] at hcut hown4
  go_wp2_with fail
  refine hcut.mono ?_
  rintro e w' ⟨rfl, rfl⟩
  go_wp2
  go_ret
  exact ⟨_, _, rfl, hown4, hb3⟩
 ·have HSUM := hid (show val us + val vs = val xs + val ys by omega)
  have HLT := hid (show val us + val vs < 4294967296 ^ (us.length + 1) by
   have h1 := val_lt hux
   have h2 := val_lt huy
   have h3 := Nat.pow_le_pow_right (show 0 < 4294967296 by omega) (Nat.le_of_not_lt hlen)
   rw [Nat.pow_succ]; omega)
  clear hvx hvy

  have hmk : ∀ w1 : World, Below w.heap.size w w1 → Rd w1 aa ca us ∧ Rd w1 ab cb vs := fun w1 hb => ⟨hra.below hb, hrb.below hb⟩
  go_enter Tryz.func218, Tryz.ntmps218
  go_wp2_with fail
  refine hcx.mono ?_
  rintro e w' ⟨rfl, rfl⟩
  go_wp2_with fail
  refine hcy.mono ?_
  rintro e w' ⟨rfl, rfl⟩
  go_wp2_with (at_make; refine wp_make _ rfl _ rfl w.heap.size (us.length + 1) _ rfl (by omega) (by omega) (Nat.le_refl _) ?_; intro w1 hown1 hbel1 hsz1)
  have hrr := hmk w1 hbel1
  obtain ⟨cur, hcur, hcl⟩ := hown1.row
  have hown2 := hown1.copied (ys := us) (by omega) hrr.1.dg
  have hb2 := below_put hbel1 (Nat.le_refl w.heap.size) 0 us
  have hoff : Off w.heap.size ab vs := hrb.lt_size (Nat.le_refl _)
  have hrb2 := hrr.2.put hoff 0 us
  have HC1 := hid hcur
  have HC2 := hid hcl
  clear hcur hcl
  rw [run_copy w1 _ w.heap.size 0 _ _ _ _ _ (List.replicate (us.length + 1) 0) us (by simp) rfl cur _ HC1.out (by have := HC2.out; omega) hrr.1 (by simp)]
  generalize wput w1 w.heap.size 0 us = w2 at hown2 hb2 hrb2 ⊢
  go_wp2_with fail
  rw [show us.length + 1 - us.length = 1 by omega] at hown2
  have hlen2 : (us ++ List.replicate 1 0).length = us.length + 1 := by simp
  have hinc := increase_any (some ⟨w.heap.size, 0, none⟩) ab w.heap.size 0 (us.length + 1) cb (us ++ List.replicate 1 0) vs w2 (fun _ => rfl) hown2.wr hown2.2 hrb2 hoff (by omega) (by omega)
  rw [hlen2] at hinc
  refine hinc.mono ?_
  rintro e w' ⟨rfl, rfl⟩
  have hown3 := hown2.put (ys := dig (us.length + 1) (val (us ++ List.replicate 1 0) + val vs)) (by rw [length_dig, hlen2]) (wf_dig _ _)
  have hb3 := below_put hb2 (Nat.le_refl w.heap.size) 0 (dig (us.length + 1) (val (us ++ List.replicate 1 0) + val vs))
  have hv : val (dig (us.length + 1) (val (us ++ List.replicate 1 0) + val vs)) = val xs + val ys := by
   rw [val_dig, val_append, val_replicate, Nat.mul_zero, Nat.add_zero, Nat.mod_eq_of_lt HLT.out, HSUM.out]
  generalize wput w2 w.heap.size 0 (dig (us.length + 1) (val (us ++ List.replicate 1 0) + val vs)) = w3 at hown3 hb3 ⊢
  have hcut := cut_any _ _ _ _ hown3.rd
  rw [length_dig] at hcut
  have hown4 := hown3.cutND
  rw [hv] at hcut hown4
  go_wp2_with fail
  refine hcut.mono ?_
  rintro e w' ⟨rfl, rfl⟩
  go_wp2
  go_ret
  exact ⟨_, _, rfl, hown4, hb3⟩

end Go.Proofs.YtcankknlbljicaaGreatDoor

namespace Go.Proofs.YtcankknlbljicaaGreatDoor
open Go.RowKit Num

theorem decrease_any (zo ao : Option Addr) (g o cz c v : Nat) (zs bs : List Nat) (w : World) (hz : zs ≠ [] → zo = some ⟨g, o, none⟩) (hwr : Wr w g o zs) (hzw : wf zs) (hr : Rd w ao c bs) (ho : Off g ao bs)
  (hl : bs.length ≤ zs.length) (hm : zs.length ≤ 9223372036854775807) (hv : v + val bs = val zs) :
  Calls Tryz.prog 240 #[.slice zo zs.length cz, .slice ao bs.length c] w (Ret (.tuple #[]) (wput w g o (dig zs.length v))) := by
 have HV := hid hv
 clear hv
 go_enter Tryz.func240, Tryz.ntmps240
 go_wp2
 go_loopw [4, 10] (fun cv iv wr => ∃ k cy t : Nat, k ≤ bs.length ∧ iv = .int .i64 k ∧ cv = .int .u32 cy ∧ cy ≤ 1 ∧ Hid (t < 4294967296 ^ k ∧ t + val (bs.take k) = val (zs.take k) + cy * 4294967296 ^ k) ∧ Hid (wr = wput w g o (dig k t ++ zs.drop k)))
  (fun _ iv _ => bs.length - (intOf iv).toNat)
 case atStart => exact ⟨0, 0, 0, Nat.zero_le _, rfl, rfl, by omega, by simp [Hid, val], by simp [Hid, dig]; exact (wput_self hwr).symm⟩
 case round =>
  obtain ⟨k, cy, t, hk, rfl, rfl, hcl, HC, HW⟩ := hrel
  by_cases hlt : k < bs.length
  ·obtain rfl := hz (by intro h; simp [h] at hl; simp [hl] at hlt)
   rcases hr.lies with h1 | ⟨b2, o2, rfl, hcell⟩
   ·simp [h1] at hlt
   have hne : b2 ≠ g := by
    rcases ho with h | h
    ·simp [h] at hlt
    ·exact h _ rfl
   obtain ⟨x, hx⟩ : ∃ x, x = zs.getD k 0 := ⟨_, rfl⟩
   obtain ⟨y, hy⟩ : ∃ y, y = bs.getD k 0 := ⟨_, rfl⟩
   have hxl : x < 4294967296 := by rw [hx]; exact wf_getD hzw k
   have hyl : y < 4294967296 := by rw [hy]; exact wf_getD hr.dg k
   have hLl := length_dig k t
   have hW := HW.out
   have hzc : wr.cell? ⟨g, o + k, none⟩ = some (.int .u32 (x : Int)) := by
    rw [hW, (hwr.put (length_snoc hLl (by omega)) k (by rw [length_snoc hLl (by omega)]; omega)).1, getD_snoc hLl, hx]
   have hzf : wr.frozen? ⟨g, o + k, none⟩ = false := by
    rw [hW, wput_frozen]; exact (hwr k (by omega)).2
   have hbc : wr.cell? ⟨b2, o2 + k, none⟩ = some (.int .u32 (y : Int)) := by
    rw [hW, wput_cell_other _ _ _ _ ⟨b2, o2 + k, none⟩ hne, hcell k hlt, hy]
   have hdig := sub_digit x y cy hxl hyl hcl
   obtain ⟨d, hd⟩ : ∃ d, d = (x + 8589934592 - y - cy) % 4294967296 := ⟨_, rfl⟩
   obtain ⟨q, hq⟩ : ∃ q, q = if x < y + cy then 1 else 0 := ⟨_, rfl⟩
   have hcon := fun w => sub32_any x y cy d q w hxl hyl hcl hd hq
   rw [← hd, ← hq] at hdig
   have HX := hid (And.intro hx hy)
   have HW' := hid hW
   have HD := hid hdig
   have HO := hid ho
   have HCELL := hid hcell
   clear hx hy hW hd hq hdig ho hcell hz hLl
   go_wp2_with (go_at_call 246; refine (hcon _).mono ?_; rintro e w' ⟨rfl, rfl⟩)
   have hdig := HD.out
   refine ⟨⟨k + 1, q, t + 4294967296 ^ k * d, by omega, by simp, rfl, hdig.2.2, ⟨?_, ?_⟩, ?_⟩, by simp [intOf]; omega⟩
   ·rw [Nat.pow_succ]; exact step_lt HC.out.1 hdig.2.1
   ·rw [val_take_succ (xs := zs) (by omega), val_take_succ (xs := bs) hlt, ← HX.out.1, ← HX.out.2, Nat.pow_succ]
    exact sub_step HC.out.2 hdig.1
   ·show wr.setCell _ _ = _
    have hLl := length_dig k t
    rw [step_dig_succ, HW'.out, wput_set _ _ _ _ _ _ (by rw [length_snoc hLl (by omega)]; omega), set_snoc hLl (by omega), Nat.div_eq_of_lt HC.out.1, Nat.zero_add, Nat.mod_eq_of_lt hdig.2.1]
  ·obtain rfl : k = bs.length := by omega
   clear hlt hk
   go_wp2
   go_loopw [4, 7] (fun cv iv wr => ∃ j cy t : Nat, bs.length ≤ j ∧ j ≤ zs.length ∧ iv = .int .i64 j ∧ cv = .int .u32 cy ∧ cy ≤ 1 ∧ Hid (t < 4294967296 ^ j ∧ t + val bs = val (zs.take j) + cy * 4294967296 ^ j) ∧ Hid (wr = wput w g o (dig j t ++ zs.drop j)))
    (fun _ iv _ => zs.length - (intOf iv).toNat)
   case atStart => exact ⟨bs.length, cy, t, Nat.le_refl _, hl, rfl, rfl, hcl, by simpa using HC, by simpa using HW⟩
   case round =>
    obtain ⟨j, cy, t, hj, hj2, rfl, rfl, hcl, HC, HW⟩ := hrel
    have hW := HW.out
    have hfin : cy = 0 → v = t + 4294967296 ^ j * val (zs.drop j) := by
     rintro rfl
     have h1 := HC.out.2
     have h2 := HV.out
     have h3 := val_split zs j hj2
     omega
    by_cases h0 : cy = 0
    ·have HF : Hid (wr = wput w g o (dig zs.length v)) := by
      show _ = _
      rw [hW, dig_rest hzw hj2 (Nat.div_eq_of_lt HC.out.1), hfin h0]
     have hb : ((cy : Int) != 0) = false := by simp [h0]
     clear hW hfin h0
     go_wp2
     go_end0
     exact ⟨rfl, HF.out.symm⟩
    ·have hb : ((cy : Int) != 0) = true := by simp [h0]
     by_cases hlt : j < zs.length
     ·obtain rfl := hz (by intro h; simp [h] at hlt)
      obtain ⟨x, hx⟩ : ∃ x, x = zs.getD j 0 := ⟨_, rfl⟩
      have hxl : x < 4294967296 := by rw [hx]; exact wf_getD hzw j
      have hLl := length_dig j t
      have hzc : wr.cell? ⟨g, o + j, none⟩ = some (.int .u32 (x : Int)) := by
       rw [hW, (hwr.put (length_snoc hLl (by omega)) j (by rw [length_snoc hLl (by omega)]; omega)).1, getD_snoc hLl, hx]
      have hzf : wr.frozen? ⟨g, o + j, none⟩ = false := by
       rw [hW, wput_frozen]; exact (hwr j (by omega)).2
      have hdig := sub_digit x 0 cy hxl (by omega) hcl
      obtain ⟨d, hd⟩ : ∃ d, d = (x + 8589934592 - 0 - cy) % 4294967296 := ⟨_, rfl⟩
      obtain ⟨q, hq⟩ : ∃ q, q = if x < 0 + cy then 1 else 0 := ⟨_, rfl⟩
      have hcon := fun w => sub32_any x 0 cy d q w hxl (by omega) hcl hd hq
      rw [← hd, ← hq] at hdig
      have HX := hid hx
      have HW' := hid hW
      have HD := hid hdig
      have hbt : decide ((j : Int) < (zs.length : Int)) = true := by simp; omega
      clear hx hW hd hq hdig hz hLl hfin h0
      go_wp2_with (go_at_call 246; refine (hcon _).mono ?_; rintro e w' ⟨rfl, rfl⟩)
      have hdig := HD.out
      refine ⟨⟨j + 1, q, t + 4294967296 ^ j * d, by omega, by omega, by simp, rfl, hdig.2.2, ⟨?_, ?_⟩, ?_⟩, by simp [intOf]; omega⟩
      ·rw [Nat.pow_succ]; exact step_lt HC.out.1 hdig.2.1
      ·rw [val_take_succ hlt, ← HX.out, Nat.pow_succ]
       have := sub_step HC.out.2 hdig.1
       simpa using this
      ·show wr.setCell _ _ = _
       have hLl := length_dig j t
       rw [step_dig_succ, HW'.out, wput_set _ _ _ _ _ _ (by rw [length_snoc hLl (by omega)]; omega), set_snoc hLl (by omega), Nat.div_eq_of_lt HC.out.1, Nat.zero_add, Nat.mod_eq_of_lt hdig.2.1]
     ·obtain rfl : j = zs.length := by omega
      exfalso
      have h1 := HC.out
      rw [List.take_length] at h1
      have h2 := HV.out
      obtain rfl : cy = 1 := by omega
      omega

theorem cmpN_neg {a b : Nat} : cmpN a b < 0 ↔ a < b := by
 unfold cmpN
 split
 ·simp_all
 ·split <;> simp_all

theorem sub_any (aa ab : Option Addr) (ca cb : Nat) (xs ys : List Nat) (w : World) (ha : Rd w aa ca xs) (hb : Rd w ab cb ys) (hl1 : xs.length ≤ 17592186044416) (hl2 : ys.length ≤ 17592186044416) :
  Calls Tryz.prog 219 #[.slice aa xs.length ca, .slice ab ys.length cb] w (RetOwn w.heap.size (nd (val xs - val ys)) w) := by
 have hcx := cut_any aa ca xs w ha
 have hcy := cut_any ab cb ys w hb
 have hlx := nd_length_le_of ha.dg
 have hly := nd_length_le_of hb.dg
 have hra := ha.cutND
 have hrb := hb.cutND
 obtain ⟨us, hus⟩ : ∃ us, us = nd (val xs) := ⟨_, rfl⟩
 obtain ⟨vs, hvs⟩ : ∃ vs, vs = nd (val ys) := ⟨_, rfl⟩
 have hvx : val us = val xs := by rw [hus, val_nd]
 have hvy : val vs = val ys := by rw [hvs, val_nd]
 have hlen : val ys ≤ val xs → vs.length ≤ us.length := by rw [hus, hvs]; exact nd_length_mono
 rw [← hus] at hcx hlx hra
 rw [← hvs] at hcy hly hrb
 have hux := hra.dg
 have huy := hrb.dg
 have hcmp := compare_any aa ab ca cb us vs w hra hrb
 rw [hvx, hvy] at hcmp
 obtain ⟨r, hr⟩ : ∃ r, r = cmpN (val xs) (val ys) := ⟨_, rfl⟩
 rw [← hr] at hcmp
 have hrn : r < 0 ↔ val xs < val ys := by rw [hr]; exact cmpN_neg
 clear hus hvs ha hb hr
 by_cases hlt : val xs < val ys
 ·have hr0 : r < 0 := hrn.2 hlt
  have HZ := hid (show val xs - val ys = 0 by omega)
  clear hrn hlt hlen hvx hvy
  go_enter Tryz.func219, Tryz.ntmps219
  go_wp2_with fail
  refine hcx.mono ?_
  rintro e w' ⟨rfl, rfl⟩
  go_wp2_with fail
  refine hcy.mono ?_
  rintro e w' ⟨rfl, rfl⟩
  go_wp2_with fail
  refine hcmp.mono ?_
  rintro e w' ⟨rfl, q, rfl⟩
  go_wp2
  go_ret
  refine ⟨none, 0, ?_, ?_, below_drewN _ _⟩
  ·rw [HZ.out, nd_zero]; rfl
  ·rw [HZ.out, nd_zero]; exact Own.nil _ _
 ·have hr0 : ¬ r < 0 := fun h => hlt (hrn.1 h)
  have hll := hlen (by omega)
  have HV := hid (show val xs - val ys + val vs = val us by omega)
  have HU := hid hvx
  clear hrn hlt hlen hvx hvy
  go_enter Tryz.func219, Tryz.ntmps219
  go_wp2_with fail
  refine hcx.mono ?_
  rintro e w' ⟨rfl, rfl⟩
  go_wp2_with fail
  refine hcy.mono ?_
  rintro e w' ⟨rfl, rfl⟩
  go_wp2_with fail
  refine hcmp.mono ?_
  rintro e w' ⟨rfl, q, rfl⟩
  go_wp2_with fail
  refine (clone_any aa ca us _ (hra.drewN q) (by omega)).mono ?_
  rintro e w1 ⟨ao, c, rfl, hown, hbel⟩
  have hbel1 : Below w.heap.size w w1 := (below_drewN w q).trans hbel
  have hown : Own w.heap.size w1 ao c us := hown
  clear hbel
  go_wp2_with fail
  have hrb1 := hrb.below hbel1
  have hlu : us.length ≤ 9223372036854775807 := by omega
  have hfin : ∃ g, (us ≠ [] → ao = some ⟨g, 0, none⟩) ∧ w.heap.size ≤ g ∧ Wr w1 g 0 us ∧ Own w.heap.size (wput w1 g 0 (dig us.length (val xs - val ys))) ao c (dig us.length (val xs - val ys)) := by
   rcases hown.cases with ⟨h1, h2, h3⟩ | ⟨g, cur, h1, h2, h3⟩
   ·subst h1 h2 h3
    exact ⟨w.heap.size, fun h => absurd rfl h, Nat.le_refl _, fun i hi => by simp at hi, Own.nil _ _⟩
   ·subst h1
    exact ⟨g, fun _ => rfl, h2, hown.wr, hown.put (length_dig _ _) (wf_dig _ _)⟩
  obtain ⟨g, hg1, hg2, hg3, hg4⟩ := hfin
  have hdec := decrease_any ao ab g 0 c cb (val xs - val ys) us vs w1 hg1 hg3 hux hrb1 (hrb.lt_size hg2) hll hlu HV.out
  refine hdec.mono ?_
  rintro e w' ⟨rfl, rfl⟩
  have hb3 := below_put hbel1 hg2 0 (dig us.length (val xs - val ys))
  have hv : val (dig us.length (val xs - val ys)) = val xs - val ys := by
   rw [val_dig, Nat.mod_eq_of_lt]
   have := val_lt hux
   have := HU.out
   omega
  generalize wput w1 g 0 (dig us.length (val xs - val ys)) = w3 at hg4 hb3 ⊢
  have hcut := cut_any _ _ _ _ hg4.rd
  rw [length_dig] at hcut
  have hown4 := hg4.cutND
  rw [hv] at hcut hown4
  clear hg1 hg3
  go_wp2_with fail
  refine hcut.mono ?_
  rintro e w' ⟨rfl, rfl⟩
  go_wp2
  go_ret
  exact ⟨_, _, rfl, hown4, hb3⟩
end Go.Proofs.YtcankknlbljicaaGreatDoor

namespace Go.Proofs.YtcankknlbljicaaGreatDoor
open Go.RowKit Num

def OwnB (B : Nat) (w : World) (ao : Option Addr) (c : Nat) (bs : List Nat) : Prop :=
 w.ownsRow B 5 1 (.slice ao bs.length c) bs.length (bs.map fun d : Nat => Value.int .u8 (d : Int))
theorem OwnB.nil (B : Nat) (w : World) : OwnB B w none 0 [] := World.ownsRow_nil _ _ _ _
theorem OwnB.cases {B : Nat} {w : World} {ao : Option Addr} {c : Nat} {xs : List Nat} (h : OwnB B w ao c xs) :
  (ao = none ∧ c = 0 ∧ xs = []) ∨ ∃ g, ao = some ⟨g, 0, none⟩ ∧ B ≤ g ∧ g < w.heap.size ∧ xs.length ≤ c ∧ c ≤ 9223372036854775807 := by
 rcases h.2 with ⟨h1, h2⟩ | ⟨g, cap, cur, h1, h2, h3, h4, h5, h6, h7⟩
 ·left
  simp only [Value.slice.injEq] at h1
  exact ⟨h1.1, h1.2.2, List.eq_nil_of_length_eq_zero h2⟩
 ·right
  simp only [Value.slice.injEq] at h1
  obtain ⟨rfl, _, rfl⟩ := h1
  exact ⟨g, rfl, h2, (Array.getElem?_eq_some_iff.1 h3).1, h4, h5⟩
theorem OwnB.cell {B g : Nat} {w : World} {c : Nat} {xs : List Nat} (h : OwnB B w (some ⟨g, 0, none⟩) c xs) (i : Nat) (hi : i < xs.length) : w.cell? ⟨g, i, none⟩ = some (.int .u8 ((xs.getD i 0 : Nat) : Int)) := by
 have h' : w.ownsRow B 5 1 (.slice (some ⟨g, 0, none⟩) xs.length c) xs.length (xs.map fun d : Nat => Value.int .u8 (d : Int)) := h
 rw [h'.cellAt i (by simpa using hi)]; simp [hi]
theorem OwnB.frozen {B g : Nat} {w : World} {c : Nat} {xs : List Nat} (h : OwnB B w (some ⟨g, 0, none⟩) c xs) (i : Nat) : w.frozen? ⟨g, i, none⟩ = false := World.ownsRow.frozenAt h i
theorem OwnB.keep {B : Nat} {w w' : World} {ao : Option Addr} {c : Nat} {xs : List Nat} (h : OwnB B w ao c xs) (hk : ∀ a, ao = some a → w'.heap[a.block]? = w.heap[a.block]?) : OwnB B w' ao c xs := by
 refine ⟨h.1, ?_⟩
 rcases h.2 with h1 | ⟨g, cap, cur, h1, h2, h3, h4⟩
 ·exact Or.inl h1
 ·have h1' := h1
  simp only [Value.slice.injEq] at h1
  exact Or.inr ⟨g, cap, cur, h1', h2, (hk _ h1.1).trans h3, h4⟩
theorem OwnB.block {B : Nat} {w : World} {a : Addr} {c : Nat} {xs : List Nat} (h : OwnB B w (some a) c xs) : B ≤ a.block ∧ a.block < w.heap.size := by
 have := World.ownsRow.lt h a.block rfl
 exact this
theorem OwnB.below {B : Nat} {w w' : World} {ao : Option Addr} {c : Nat} {xs : List Nat} (h : OwnB B w ao c xs) (hb : Below w.heap.size w w') : OwnB B w' ao c xs :=
 h.keep fun a ha => by subst ha; exact hb.block _ h.block.2
theorem OwnB.set {B g : Nat} {w : World} {c : Nat} {xs : List Nat} (h : OwnB B w (some ⟨g, 0, none⟩) c xs) (i x : Nat) (v : Int) (hv : v = (x : Int)) :
  OwnB B (w.setCell ⟨g, i, none⟩ (.int .u8 v)) (some ⟨g, 0, none⟩) c (xs.set i x) := by
 have h1 := (World.ownsRow.stored h i (.int .u8 v)).1
 unfold OwnB
 rw [List.length_set, List.map_set, ← hv]
 exact h1
theorem infoU8 : (Tryz.prog.info? 5).map (fun i => (i.zero, i.size, i.bytes)) = some (some (.int .u8 0), 1, 1) := by kernel_rfl

theorem wp_appendB {ops : Array Oper} {rest : List Oper} {o : Oper} {a : Act} {Q : Exit → Act → World → Prop} (w : World) (hgd : o.guard = none) (s x : Operand)
  (ho : o.op = .call { callee := .builtin .append, args := #[s, x], argTypes := #[135, 135] })
  (B : Nat) (ao : Option Addr) (ad : Addr) (n c cx : Nat) (xs : List Nat) (d : Nat) (hs : a.eval s = .slice ao n c) (hx : a.eval x = .slice (some ad) 1 cx) (hn : n = xs.length) (hcell : w.cell? ad = some (.int .u8 (d : Int))) (hown : OwnB B w ao c xs)
  (hb : n ≤ 35184372088832) (hB : B ≤ w.heap.size)
  (h : ∀ ao' c' w', OwnB B w' ao' c' (xs ++ [d]) → Below B w w' → wpList Tryz.prog ops Q rest (a.put o.dst (.slice ao' (n + 1) c')) w') : wpList Tryz.prog ops Q (o :: rest) a w := by
 subst hn
 obtain ⟨i0, hi, hz0, hz1, hz2⟩ := info_parts infoU8
 refine wpList_append_own w hgd s x 135 ho B 5 i0 (.int .u8 0) 1 1 Tryz.underlying135 hi hz0 hz1 hz2 rfl (by decide) _ _ _ hs hown ad 1 cx [.int .u8 (d : Int)] hx rfl ?_ ?_ (by simp only [maxLen]; omega) (by omega) hB ?_
 ·intro j u hu
  match j, hu with
  | 0, hu => simp at hu; subst hu; simpa [Addr.add] using hcell
 ·intro u hu; simp at hu; subst hu; rfl
 ·intro v' w' h2 h3 h4
  have hbel : Below B w w' := (Below.refl _ _).grown h3 hB (fun k hk => (World.ownsRow.lt hown k hk).1)
  obtain ⟨ao', c', rfl⟩ : ∃ ao' c', v' = .slice ao' (xs.length + 1) c' := by
   rcases h2.2 with ⟨hv, hn0⟩ | ⟨g, cap, cur, hv, _⟩
   ·omega
   ·exact ⟨_, _, hv⟩
  refine h ao' c' w' ?_ hbel
  unfold OwnB
  rw [List.length_append, List.map_append, List.length_singleton, List.map_singleton]
  exact h2

def revTo (bs l : List Nat) (i : Nat) : Prop := l.length = bs.length ∧ ∀ t, t < bs.length → l.getD t 0 = if t < i ∨ bs.length ≤ t + i then bs.getD (bs.length - 1 - t) 0 else bs.getD t 0
theorem revTo_end {bs l : List Nat} {i : Nat} (h : revTo bs l i) (hi : bs.length ≤ 2 * i + 1) : l = bs.reverse := by
 apply List.ext_getElem
 ·rw [h.1, List.length_reverse]
 ·intro t h1 h2
  have h3 := h.2 t (by rw [← h.1]; exact h1)
  have hl := h.1
  have h5 : l[t] = l.getD t 0 := by simp [List.getD, h1]
  rw [h5, h3, List.getElem_reverse]
  have ht : t < bs.length := by omega
  by_cases h4 : t < i ∨ bs.length ≤ t + i
  ·rw [if_pos h4]; simp [List.getD, show bs.length - 1 - t < bs.length by omega]
  ·rw [if_neg h4]
   have : bs.length - 1 - t = t := by omega
   simp [List.getD, ht, this]
theorem revTo_step {bs l : List Nat} {i j x y : Nat} (h : revTo bs l i) (hj : i + j + 1 = bs.length) (hij : i < j) (hx : x = l.getD i 0) (hy : y = l.getD j 0) : revTo bs ((l.set i y).set j x) (i + 1) := by
 have hl := h.1
 have hxi := h.2 i (by omega)
 have hyj := h.2 j (by omega)
 rw [if_neg (by omega)] at hxi hyj
 refine ⟨by simpa using h.1, fun t ht => ?_⟩
 have h3 := h.2 t ht
 by_cases h4 : t = j
 ·subst h4
  rw [if_pos (Or.inr (by omega)), hx, hxi, show bs.length - 1 - t = i by omega]
  simp [List.getD, List.getElem?_set, show t < l.length by omega]
 ·by_cases h5 : t = i
  ·subst h5
   rw [if_pos (Or.inl (by omega)), hy, hyj, show bs.length - 1 - t = j by omega]
   simp [List.getD, List.getElem?_set, show t < l.length by omega, Ne.symm h4]
  ·have e : ((l.set i y).set j x).getD t 0 = l.getD t 0 := by simp [List.getD, List.getElem?_set, Ne.symm h4, Ne.symm h5]
   rw [e, h3]
   by_cases h6 : t < i ∨ bs.length ≤ t + i
   ·rw [if_pos h6, if_pos (by omega)]
   ·rw [if_neg h6, if_neg (by omega)]
end Go.Proofs.YtcankknlbljicaaGreatDoor
