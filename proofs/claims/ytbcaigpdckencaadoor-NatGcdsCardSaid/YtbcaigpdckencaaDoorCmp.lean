/- Walks: decrease, Clone, Trim, Compare. -/
import Derived.Test.YtbcaigpdckencaaDoorCut
namespace Go.Proofs.YtbcaigpdckencaaDoor
open Go.RowKit Num

theorem isnan_int (x : Int) (w : World) : Calls Tryd.prog 106 #[.int .i64 x] w (Ret (.bool false) w) := by
  go_enter Tryd.func106, Tryd.ntmps106
  go_wp2
  go_ret
  exact Ret.mk rfl
theorem isnan_u32 (x : Int) (w : World) : Calls Tryd.prog 107 #[.int .u32 x] w (Ret (.bool false) w) := by
  go_enter Tryd.func107, Tryd.ntmps107
  go_wp2
  go_ret
  exact Ret.mk rfl
theorem cmp_int (x y r : Int) (w : World) (hr : r = if x < y then -1 else if y < x then 1 else 0) : Calls Tryd.prog 88 #[.int .i64 x, .int .i64 y] w (Ret (.int .i64 r) w) := by
  by_cases h1 : x < y
  · obtain rfl : r = -1 := by rw [hr, if_pos h1]
    clear hr
    go_enter Tryd.func88, Tryd.ntmps88
    go_wp2_with (go_at_call 106; refine (isnan_int _ _).mono ?_; rintro e w' ⟨rfl, rfl⟩)
    go_ret
    exact Ret.mk rfl
  · by_cases h2 : y < x
    · obtain rfl : r = 1 := by rw [hr, if_neg h1, if_pos h2]
      clear hr
      go_enter Tryd.func88, Tryd.ntmps88
      go_wp2_with (go_at_call 106; refine (isnan_int _ _).mono ?_; rintro e w' ⟨rfl, rfl⟩)
      go_ret
      exact Ret.mk rfl
    · obtain rfl : r = 0 := by rw [hr, if_neg h1, if_neg h2]
      clear hr
      go_enter Tryd.func88, Tryd.ntmps88
      go_wp2_with (go_at_call 106; refine (isnan_int _ _).mono ?_; rintro e w' ⟨rfl, rfl⟩)
      go_ret
      exact Ret.mk rfl
theorem cmp_u32 (x y r : Int) (w : World) (hr : r = if x < y then -1 else if y < x then 1 else 0) : Calls Tryd.prog 89 #[.int .u32 x, .int .u32 y] w (Ret (.int .i64 r) w) := by
  by_cases h1 : x < y
  · obtain rfl : r = -1 := by rw [hr, if_pos h1]
    clear hr
    go_enter Tryd.func89, Tryd.ntmps89
    go_wp2_with (go_at_call 107; refine (isnan_u32 _ _).mono ?_; rintro e w' ⟨rfl, rfl⟩)
    go_ret
    exact Ret.mk rfl
  · by_cases h2 : y < x
    · obtain rfl : r = 1 := by rw [hr, if_neg h1, if_pos h2]
      clear hr
      go_enter Tryd.func89, Tryd.ntmps89
      go_wp2_with (go_at_call 107; refine (isnan_u32 _ _).mono ?_; rintro e w' ⟨rfl, rfl⟩)
      go_ret
      exact Ret.mk rfl
    · obtain rfl : r = 0 := by rw [hr, if_neg h1, if_neg h2]
      clear hr
      go_enter Tryd.func89, Tryd.ntmps89
      go_wp2_with (go_at_call 107; refine (isnan_u32 _ _).mono ?_; rintro e w' ⟨rfl, rfl⟩)
      go_ret
      exact Ret.mk rfl

/-- a slice is cloned: a slice of the call's own with the same digits -/
def RetOwn (B : Nat) (xs : List Nat) (w : World) (e : Ending) (w' : World) : Prop := ∃ ao c, e = .returned (.slice ao xs.length c) ∧ Own B w' ao c xs ∧ Below w.heap.size w w'

theorem clone_any (ao : Option Addr) (c : Nat) (xs : List Nat) (w : World) (h : Rd w ao c xs) (hl : xs.length ≤ 17592186044416) :
    Calls Tryd.prog 64 #[.slice ao xs.length c] w (RetOwn w.heap.size xs w) := by
  have hle := h.le
  have hcm := h.cm
  have q := eqNil
  cases ao with
  | none =>
    have hc := h.nn rfl
    have hx : xs = [] := List.eq_nil_of_length_eq_zero (by omega)
    subst hx hc
    clear h
    go_enter Tryd.func64, Tryd.ntmps64
    go_wp2
    go_ret
    exact ⟨none, 0, rfl, Own.nil _ _, Below.refl _ _⟩
  | some a =>
    have HL := hid hl
    clear hl
    go_enter Tryd.func64, Tryd.ntmps64
    go_wp2_with (at_builtin; refine wp_append _ rfl _ _ rfl w.heap.size _ _ _ _ _ _ [] xs rfl rfl rfl rfl (Own.made w) (h.below (below_alloc w _)) (by have := HL.out; simp; omega) (by simp) ?_; intro ao' c' w1 hown1 hbel1)
    go_ret
    exact ⟨ao', c', by simp, by simpa using hown1, (below_alloc w _).trans hbel1⟩

theorem trim_any (ao : Option Addr) (c : Nat) (xs : List Nat) (w : World) (h : Rd w ao c xs) (hl : xs.length ≤ 17592186044416) :
    Calls Tryd.prog 55 #[.slice ao xs.length c] w (RetOwn w.heap.size (nd (val xs)) w) := by
  have hcut := cut_any ao c xs w h
  have hr := h.take (nd (val xs)).length
  rw [take_nd h.dg] at hr
  have hlen := nd_length_le_of h.dg
  have hcl := clone_any ao c (nd (val xs)) w hr (by omega)
  go_enter Tryd.func55, Tryd.ntmps55
  go_wp2_with (first | (go_at_call 53; refine hcut.mono ?_; rintro e w' ⟨rfl, rfl⟩) | (go_at_call 64; refine hcl.mono ?_; rintro e w' ⟨ao', c', rfl, hown, hbel⟩))
  go_ret
  exact ⟨ao', c', rfl, hown, hbel⟩

set_option maxHeartbeats 400000 in
theorem compare_any (aa ab : Option Addr) (ca cb : Nat) (xs ys : List Nat) (w : World) (ha : Rd w aa ca xs) (hb : Rd w ab cb ys) :
    Calls Tryd.prog 62 #[.slice aa xs.length ca, .slice ab ys.length cb] w (RetQ (.int .i64 (cmpN (val xs) (val ys))) w) := by
  have hcx := cut_any aa ca xs w ha
  have hcy := cut_any ab cb ys w hb
  have hlx := nd_length_le_of ha.dg
  have hly := nd_length_le_of hb.dg
  have hra := ha.take (nd (val xs)).length
  have hrb := hb.take (nd (val ys)).length
  rw [take_nd ha.dg] at hra
  rw [take_nd hb.dg] at hrb
  have hax := ha.le
  have hax2 := ha.cm
  have hay := hb.le
  have hay2 := hb.cm
  obtain ⟨us, hus⟩ : ∃ us, us = nd (val xs) := ⟨_, rfl⟩
  obtain ⟨vs, hvs⟩ : ∃ vs, vs = nd (val ys) := ⟨_, rfl⟩
  have hvx : val xs = val us := by rw [hus, val_nd]
  have hvy : val ys = val vs := by rw [hvs, val_nd]
  have hux : us = nd (val us) := by rw [hus, val_nd]
  have huy : vs = nd (val vs) := by rw [hvs, val_nd]
  rw [← hus] at hcx hlx hra
  rw [← hvs] at hcy hly hrb
  obtain ⟨r, hr⟩ : ∃ r, r = cmpN (val xs) (val ys) := ⟨_, rfl⟩
  rw [← hr]
  rw [hvx, hvy] at hr
  have HUX := hid hux
  have HUY := hid huy
  clear hus hvs hvx hvy hux huy ha hb
  by_cases hlen : us.length = vs.length
  · have hne : ((us.length : Int) != (vs.length : Int)) = false := by simp [hlen]
    have hux := hra.dg
    have huy := hrb.dg
    have HR := hid hr
    have HLEN := hid hlen
    clear hr hlen
    go_enter Tryd.func62, Tryd.ntmps62
    go_wp2_with fail
    refine hcx.mono ?_
    rintro e w' ⟨rfl, rfl⟩
    go_wp2_with fail
    refine hcy.mono ?_
    rintro e w' ⟨rfl, rfl⟩
    go_wp2_with fail
    clear hcx hcy
    go_loopw [5] (fun iv wr => ∃ k q : Nat, k ≤ us.length ∧ iv = .int .i64 ((k : Int) - 1) ∧ Hid (us.drop k = vs.drop k) ∧ wr = w.drewN q) (fun iv _ => (intOf iv + 1).toNat)
    case atStart => exact ⟨us.length, 0, Nat.le_refl _, rfl, by have := HLEN.out; simp [Hid, this], rfl⟩
    case round =>
      obtain ⟨k, q, hk, rfl, HD, rfl⟩ := hrel
      by_cases hk0 : k = 0
      · subst hk0
        obtain rfl : r = 0 := by
          have h := HD.out
          simp only [List.drop_zero] at h
          rw [HR.out, h]; simp [cmpN]
        go_wp2
        go_ret
        exact RetQ.mk rfl
      · obtain ⟨m, rfl⟩ : ∃ m, k = m + 1 := ⟨k - 1, by omega⟩
        clear hk0
        rcases hra.lies with h1 | ⟨b1, o1, rfl, hc1⟩
        · simp [h1] at hk
        rcases hrb.lies with h1 | ⟨b2, o2, rfl, hc2⟩
        · have := HLEN.out; simp [h1] at this; simp [this] at hk
        have g1 := hc1 m (by omega)
        have g2 := hc2 m (by have := HLEN.out; omega)
        obtain ⟨x, hx⟩ : ∃ x, x = us.getD m 0 := ⟨_, rfl⟩
        obtain ⟨y, hy⟩ : ∃ y, y = vs.getD m 0 := ⟨_, rfl⟩
        rw [← hx] at g1
        rw [← hy] at g2
        have hml : m < vs.length := by have := HLEN.out; omega
        have hl1 : (m : Int) < (us.length : Int) := by omega
        have hl2 : (m : Int) < (vs.length : Int) := by omega
        have hxl : x < 4294967296 := by rw [hx]; exact wf_getD hux m
        have hyl : y < 4294967296 := by rw [hy]; exact wf_getD huy m
        have HXY := hid (And.intro hx hy)
        clear hc1 hc2 hra hrb hx hy
        by_cases hxy : x = y
        · have hb : ((x : Int) != (y : Int)) = false := by simp [hxy]
          have HE := hid hxy
          clear hxy
          go_wp2_with fail
          go_quiet (fail)
          go_wp2
          refine ⟨⟨m, q + nq, by omega, by simp, ?_, by simp⟩, by simp [intOf]⟩
          show us.drop m = vs.drop m
          have := HLEN.out
          rw [List.drop_eq_getElem_cons (by omega), List.drop_eq_getElem_cons hml, HD.out]
          have e1 : us[m]'(by omega) = x := by rw [HXY.out.1]; simp [List.getD, show m < us.length by omega]
          have e2 : vs[m]'hml = y := by rw [HXY.out.2]; simp [List.getD, hml]
          rw [e1, e2, HE.out]
        · have hb : ((x : Int) != (y : Int)) = true := by simp; omega
          have hr2 : r = if (x : Int) < (y : Int) then -1 else if (y : Int) < x then 1 else 0 := by
            rw [HR.out, cmpN]
            have hd := HD.out
            have h1 := HXY.out.1
            have h2 := HXY.out.2
            have hll := HLEN.out
            by_cases h3 : x < y
            · have := val_lt_top (k := m) hux hll (by omega) hd (by omega)
              rw [if_pos this, if_pos (by omega)]
            · have := val_lt_top (k := m) huy hll.symm (by omega) hd.symm (by omega)
              rw [if_neg (by omega), if_pos this, if_neg (by omega), if_pos (by omega)]
          have hcu := fun w => cmp_u32 x y r w hr2
          clear hr2 hxy
          go_wp2_with fail
          go_quiet (fail)
          go_wp2_with fail
          go_quiet ((go_at_call 89; exact (hcu _).mono (fun _ _ h => ⟨h.1, _, h.2.symm⟩)))
          go_wp2
          go_ret
          exact ⟨rfl, _, drewN3 _ _ _ _⟩
  · have hne : ((us.length : Int) != (vs.length : Int)) = true := by rw [bne_iff_ne]; omega
    have hrr : r = if (us.length : Int) < vs.length then -1 else if (vs.length : Int) < us.length then 1 else 0 := by
      rw [hr, cmpN]
      by_cases h1 : us.length < vs.length
      · have := nd_length_mono (u := val vs) (v := val us)
        rw [← HUX.out, ← HUY.out] at this
        rw [if_pos (by omega), if_pos (by omega)]
      · have := nd_length_mono (u := val us) (v := val vs)
        rw [← HUX.out, ← HUY.out] at this
        rw [if_neg (by omega), if_pos (by omega), if_neg (by omega), if_pos (by omega)]
    have hci := fun w => cmp_int us.length vs.length r w hrr
    clear hr hrr hlen
    go_enter Tryd.func62, Tryd.ntmps62
    go_wp2_with fail
    refine hcx.mono ?_
    rintro e w' ⟨rfl, rfl⟩
    go_wp2_with fail
    refine hcy.mono ?_
    rintro e w' ⟨rfl, rfl⟩
    go_wp2_with fail
    refine (hci _).mono ?_
    rintro e w' ⟨rfl, rfl⟩
    go_wp2
    go_ret
    exact RetQ.mk (q := 0) rfl
end Go.Proofs.YtbcaigpdckencaaDoor
