/- Integers: Add. -/
import Derived.Test.YtbcaigpdckencaaDoorIn3
namespace Go.Proofs.YtbcaigpdckencaaDoor
open Go.RowKit Num

theorem iadd_same (b : Bool) (x y : Nat) : iv b (x + y) = iv b x + iv b y := by cases b <;> simp [iv] <;> omega
theorem iadd_more (b : Bool) (x y : Nat) (h : y ≤ x) : iv b (x - y) = iv b x + iv (!b) y := by cases b <;> simp [iv] <;> omega
theorem iadd_less (b : Bool) (x y : Nat) (h : x ≤ y) : iv (!b) (y - x) = iv b x + iv (!b) y := by cases b <;> simp [iv] <;> omega

set_option maxRecDepth 100000 in
set_option maxHeartbeats 3200000 in
theorem iadd_any (b1 b2 : Bool) (aa ab : Option Addr) (ca cb : Nat) (xs ys : List Nat) (w : World) (ha : Rd w aa ca xs) (hb : Rd w ab cb ys) (hl1 : xs.length ≤ 4398046511104) (hl2 : ys.length ≤ 4398046511104) :
    Calls Tryd.prog 39 #[.agg #[.bool b1, .slice aa xs.length ca], .agg #[.bool b2, .slice ab ys.length cb]] w (RetInt w.heap.size (iv b1 (val xs) + iv b2 (val ys)) w) := by
  have hle1 := ha.le
  have hcm1 := ha.cm
  have hle2 := hb.le
  have hcm2 := hb.cm
  have hB0 : Below w.heap.size w (((w.alloc (.cells #[.bool b1, .slice aa xs.length ca] 43)).alloc (.cells #[.bool b2, .slice ab ys.length cb] 43)).alloc (.cells #[.bool false, .slice none 0 0] 43)) := by
    have h := W3_below w b1 b2 aa ab xs.length ys.length ca cb
    unfold W3 at h
    exact ⟨h.os, h.tape, h.output, h.size, h.block⟩
  have hB := W3_below w b1 b2 aa ab xs.length ys.length ca cb
  have HC := hid (fun w' => W3_cells (w' := w') (w := w) (b1 := b1) (b2 := b2) (aa := aa) (ab := ab) (n1 := xs.length) (n2 := ys.length) (ca := ca) (cb := cb))
  have HSZ := hid (W3_size w b1 b2 aa ab xs.length ys.length ca cb)
  have hn0 : ¬ (w.heap.size + 1 + 1 = w.heap.size) := by omega
  have hn1 : ¬ (w.heap.size = w.heap.size + 1 + 1) := by omega
  by_cases hbb : b1 = b2
  · subst hbb
    have HM := hid (add_any aa ab ca cb xs ys _ (ha.below hB) (hb.below hB) (by omega) (by omega))
    have HV := hid (iadd_same b1 (val xs) (val ys))
    have HB := hid hB
    have hee : (b1 == b1) = true := by simp
    unfold W3 at HM HC HB HSZ
    clear ha hb hB hB0
    go_enter Tryd.func39, Tryd.ntmps39
    go_wp2_with fail
    go_region_held3 (fun w' => w'.cell? ⟨w.heap.size, 0, none⟩ = some (.bool b1) ∧ w'.cell? ⟨w.heap.size, 1, none⟩ = some (.slice aa xs.length ca) ∧ w'.cell? ⟨w.heap.size + 1, 0, none⟩ = some (.bool b1) ∧ w'.cell? ⟨w.heap.size + 1, 1, none⟩ = some (.slice ab ys.length cb)) (go_keep) (first
      | (go_at_call 51; (with_reducible refine HM.out.mono ?_); rintro e w3 ⟨a3, c3, rfl, ho3, hb3⟩; obtain ⟨⟨s0, s1, s2, s3⟩, t0, t1, t2, t3⟩ := HC.out w3 hb3)
      | (go_at_call 77; (with_reducible refine (signed_any _ b1 a3 c3 (val xs + val ys) w3 ho3).mono ?_); rintro e w4 ⟨a4, c4, rfl, ho4, hb4⟩; obtain ⟨⟨s4, s5, s6, s7⟩, k0, k1, k2, k3⟩ := HC.out w4 (hb3.trans (hb4.mono hb3.size))))
    all_goals
      go_wp2
      have hsz := HSZ.out
      refine bodyPost_ret (v := .agg #[.bool (decide (iv b1 (val xs + val ys) < 0)), .slice a4 (nd (iv b1 (val xs + val ys)).natAbs).length c4]) (by simp [results, Tryd.results39, go_sem, k0, k1]) rfl ?_
      rw [← HV.out]
      exact RetInt.fin ho4 (by omega) (HB.out.trans ((hb3.trans (hb4.mono hb3.size)).mono (by omega))) (by omega) _ _
  · have hee : (b1 == b2) = false := by simpa using hbb
    obtain ⟨r, hr⟩ : ∃ r, r = cmpN (val xs) (val ys) := ⟨_, rfl⟩
    have hcmp := compare_any aa ab ca cb xs ys _ (ha.below hB0) (hb.below hB0)
    rw [← hr] at hcmp
    obtain rfl : b2 = !b1 := by cases b1 <;> cases b2 <;> simp_all
    have HCMP := hid hcmp
    have HA := hid ha
    have HBB := hid hb
    have HB0 := hid hB0
    have hnb : (b1 == !b1) = false := by cases b1 <;> rfl
    by_cases hlt : val xs < val ys
    · have hr1 : r = -1 := by rw [hr, cmpN, if_pos hlt]
      have HV := hid (iadd_less b1 (val xs) (val ys) (by omega))
      subst hr1
      clear ha hb hr hcmp hlt hbb
      unfold W3 at HC HSZ hB
      have HB := hid hB
      clear hB hB0
      go_enter Tryd.func39, Tryd.ntmps39
      go_wp2_with fail
      refine HCMP.out.mono ?_
      rintro e w2 ⟨rfl, q, rfl⟩
      have hra := (HA.out.below HB0.out).drewN q
      have hrb := (HBB.out.below HB0.out).drewN q
      have hxb : Below w.heap.size w ((((w.alloc (.cells #[.bool b1, .slice aa xs.length ca] 43)).alloc (.cells #[.bool (!b1), .slice ab ys.length cb] 43)).alloc (.cells #[.bool false, .slice none 0 0] 43)).drewN q) := ⟨HB.out.os, HB.out.tape, HB.out.output, HB.out.size, HB.out.block⟩
      have hxs : ((((w.alloc (.cells #[.bool b1, .slice aa xs.length ca] 43)).alloc (.cells #[.bool (!b1), .slice ab ys.length cb] 43)).alloc (.cells #[.bool false, .slice none 0 0] 43)).drewN q).heap.size = w.heap.size + 3 := HSZ.out
      have HX := hid (show ∀ w', Below ((((w.alloc (.cells #[.bool b1, .slice aa xs.length ca] 43)).alloc (.cells #[.bool (!b1), .slice ab ys.length cb] 43)).alloc (.cells #[.bool false, .slice none 0 0] 43)).drewN q).heap.size ((((w.alloc (.cells #[.bool b1, .slice aa xs.length ca] 43)).alloc (.cells #[.bool (!b1), .slice ab ys.length cb] 43)).alloc (.cells #[.bool false, .slice none 0 0] 43)).drewN q) w' → _ from fun w' hb => HC.out w' ⟨hb.os, hb.tape, hb.output, hb.size, hb.block⟩)
      have hx0 := (HX.out _ (Below.refl _ _)).1
      obtain ⟨hx00, hx01, hx02, hx03⟩ := hx0
      clear HCMP HA HBB HB0 HB HC HSZ
      generalize (((w.alloc (.cells #[.bool b1, .slice aa xs.length ca] 43)).alloc (.cells #[.bool (!b1), .slice ab ys.length cb] 43)).alloc (.cells #[.bool false, .slice none 0 0] 43)).drewN q = x2 at hra hrb hxb hxs HX hx00 hx01 hx02 hx03 ⊢
      have HM := hid (sub_any ab aa cb ca ys xs x2.drew (hrb.keep fun _ _ h => h) (hra.keep fun _ _ h => h) (by omega) (by omega))
      have HXB := hid (And.intro hxb hxs)
      clear hra hrb hxb hxs
      go_wp2_with fail
      go_region_held3 (fun w' => w'.cell? ⟨w.heap.size, 0, none⟩ = some (.bool b1) ∧ w'.cell? ⟨w.heap.size, 1, none⟩ = some (.slice aa xs.length ca) ∧ w'.cell? ⟨w.heap.size + 1, 0, none⟩ = some (.bool (!b1)) ∧ w'.cell? ⟨w.heap.size + 1, 1, none⟩ = some (.slice ab ys.length cb)) (go_keep) (first
        | (go_at_call 76; (with_reducible refine HM.out.mono ?_); rintro e w3 ⟨a3, c3, rfl, ho3, hb3⟩; obtain ⟨⟨s0, s1, s2, s3⟩, t0, t1, t2, t3⟩ := HX.out w3 ⟨hb3.os, hb3.tape, hb3.output, hb3.size, hb3.block⟩)
        | (go_at_call 77; (with_reducible refine (signed_any _ (!b1) a3 c3 (val ys - val xs) w3 ho3).mono ?_); rintro e w4 ⟨a4, c4, rfl, ho4, hb4⟩; obtain ⟨⟨s4, s5, s6, s7⟩, k0, k1, k2, k3⟩ := HX.out w4 (Below.trans ⟨hb3.os, hb3.tape, hb3.output, hb3.size, hb3.block⟩ (hb4.mono hb3.size))))
      all_goals
        go_wp2
        have hsz := HXB.out.2
        have hszd : x2.drew.heap.size = w.heap.size + 3 := hsz
        have hbq : Below x2.heap.size x2 w4 := Below.trans ⟨hb3.os, hb3.tape, hb3.output, hb3.size, hb3.block⟩ (hb4.mono hb3.size)
        refine bodyPost_ret (v := .agg #[.bool (decide (iv (!b1) (val ys - val xs) < 0)), .slice a4 (nd (iv (!b1) (val ys - val xs)).natAbs).length c4]) (by simp [results, Tryd.results39, go_sem, k0, k1]) rfl ?_
        rw [← HV.out]
        exact RetInt.fin ho4 (by omega) (HXB.out.1.trans (hbq.mono (by omega))) (by omega) _ _
    · have hr1 : (r == -1) = false := by
        rw [hr, cmpN, if_neg hlt]; split <;> rfl
      have HV := hid (iadd_more b1 (val xs) (val ys) (by omega))
      clear ha hb hr hcmp hlt hbb
      unfold W3 at HC HSZ hB
      have HB := hid hB
      clear hB hB0
      go_enter Tryd.func39, Tryd.ntmps39
      go_wp2_with fail
      refine HCMP.out.mono ?_
      rintro e w2 ⟨rfl, q, rfl⟩
      have hra := (HA.out.below HB0.out).drewN q
      have hrb := (HBB.out.below HB0.out).drewN q
      have hxb : Below w.heap.size w ((((w.alloc (.cells #[.bool b1, .slice aa xs.length ca] 43)).alloc (.cells #[.bool (!b1), .slice ab ys.length cb] 43)).alloc (.cells #[.bool false, .slice none 0 0] 43)).drewN q) := ⟨HB.out.os, HB.out.tape, HB.out.output, HB.out.size, HB.out.block⟩
      have hxs : ((((w.alloc (.cells #[.bool b1, .slice aa xs.length ca] 43)).alloc (.cells #[.bool (!b1), .slice ab ys.length cb] 43)).alloc (.cells #[.bool false, .slice none 0 0] 43)).drewN q).heap.size = w.heap.size + 3 := HSZ.out
      have HX := hid (show ∀ w', Below ((((w.alloc (.cells #[.bool b1, .slice aa xs.length ca] 43)).alloc (.cells #[.bool (!b1), .slice ab ys.length cb] 43)).alloc (.cells #[.bool false, .slice none 0 0] 43)).drewN q).heap.size ((((w.alloc (.cells #[.bool b1, .slice aa xs.length ca] 43)).alloc (.cells #[.bool (!b1), .slice ab ys.length cb] 43)).alloc (.cells #[.bool false, .slice none 0 0] 43)).drewN q) w' → _ from fun w' hb => HC.out w' ⟨hb.os, hb.tape, hb.output, hb.size, hb.block⟩)
      have hx0 := (HX.out _ (Below.refl _ _)).1
      obtain ⟨hx00, hx01, hx02, hx03⟩ := hx0
      clear HCMP HA HBB HB0 HB HC HSZ
      generalize (((w.alloc (.cells #[.bool b1, .slice aa xs.length ca] 43)).alloc (.cells #[.bool (!b1), .slice ab ys.length cb] 43)).alloc (.cells #[.bool false, .slice none 0 0] 43)).drewN q = x2 at hra hrb hxb hxs HX hx00 hx01 hx02 hx03 ⊢
      have HM := hid (sub_any aa ab ca cb xs ys x2.drew (hra.keep fun _ _ h => h) (hrb.keep fun _ _ h => h) (by omega) (by omega))
      have HXB := hid (And.intro hxb hxs)
      clear hra hrb hxb hxs
      go_wp2_with fail
      go_region_held3 (fun w' => w'.cell? ⟨w.heap.size, 0, none⟩ = some (.bool b1) ∧ w'.cell? ⟨w.heap.size, 1, none⟩ = some (.slice aa xs.length ca) ∧ w'.cell? ⟨w.heap.size + 1, 0, none⟩ = some (.bool (!b1)) ∧ w'.cell? ⟨w.heap.size + 1, 1, none⟩ = some (.slice ab ys.length cb)) (go_keep) (first
        | (go_at_call 76; (with_reducible refine HM.out.mono ?_); rintro e w3 ⟨a3, c3, rfl, ho3, hb3⟩; obtain ⟨⟨s0, s1, s2, s3⟩, t0, t1, t2, t3⟩ := HX.out w3 ⟨hb3.os, hb3.tape, hb3.output, hb3.size, hb3.block⟩)
        | (go_at_call 77; (with_reducible refine (signed_any _ b1 a3 c3 (val xs - val ys) w3 ho3).mono ?_); rintro e w4 ⟨a4, c4, rfl, ho4, hb4⟩; obtain ⟨⟨s4, s5, s6, s7⟩, k0, k1, k2, k3⟩ := HX.out w4 (Below.trans ⟨hb3.os, hb3.tape, hb3.output, hb3.size, hb3.block⟩ (hb4.mono hb3.size))))
      all_goals
        go_wp2
        have hsz := HXB.out.2
        have hszd : x2.drew.heap.size = w.heap.size + 3 := hsz
        have hbq : Below x2.heap.size x2 w4 := Below.trans ⟨hb3.os, hb3.tape, hb3.output, hb3.size, hb3.block⟩ (hb4.mono hb3.size)
        refine bodyPost_ret (v := .agg #[.bool (decide (iv b1 (val xs - val ys) < 0)), .slice a4 (nd (iv b1 (val xs - val ys)).natAbs).length c4]) (by simp [results, Tryd.results39, go_sem, k0, k1]) rfl ?_
        rw [← HV.out]
        exact RetInt.fin ho4 (by omega) (HXB.out.1.trans (hbq.mono (by omega))) (by omega) _ _
end Go.Proofs.YtbcaigpdckencaaDoor
