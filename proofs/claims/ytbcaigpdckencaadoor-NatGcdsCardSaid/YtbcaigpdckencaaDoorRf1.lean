/- Walks: the reference's Same, Trim, Normal; Digits; awake. -/
import Derived.Test.YtbcaigpdckencaaDoorRot
import Derived.Test.YtbcaigpdckencaaDoorFmt
namespace Go.Proofs.YtbcaigpdckencaaDoor
open Go.RowKit Num

theorem digits_any (ao : Option Addr) (n c : Nat) (b : Bool) (w : World) (hn : n ≤ 9223372036854775807) (hb : b = decide (n ≤ 10)) :
    Calls Tryd.prog 10 #[.slice ao n c] w (Ret (.bool b) w) := by
  have hb2 : decide ((n : Int) ≤ 10) = b := by rw [hb]; congr 1; simp; omega
  clear hb
  go_enter Tryd.func10, Tryd.ntmps10
  go_wp2
  go_ret
  exact Ret.mk rfl

set_option maxRecDepth 100000 in
set_option maxHeartbeats 400000 in
theorem same_any (aa ab : Option Addr) (ca cb : Nat) (xs ys : List Nat) (b : Bool) (w : World) (ha : Rd w aa ca xs) (hb : Rd w ab cb ys) (hbb : b = true ↔ xs = ys) :
    Calls Tryd.prog 17 #[.slice aa xs.length ca, .slice ab ys.length cb] w (RetQ (.bool b) w) := by
  have hax := ha.le
  have hax2 := ha.cm
  have hay := hb.le
  have hay2 := hb.cm
  by_cases hlen : xs.length = ys.length
  · have hne : ((xs.length : Int) != (ys.length : Int)) = false := by simp [hlen]
    have HB := hid hbb
    have HLEN := hid hlen
    have hxw := ha.dg
    have hyw := hb.dg
    clear hbb hlen
    go_enter Tryd.func17, Tryd.ntmps17
    go_wp2
    go_loopw [5] (fun iv wr => ∃ k q : Nat, k ≤ xs.length ∧ iv = .int .i64 (k : Int) ∧ Hid (xs.take k = ys.take k) ∧ wr = w.drewN q) (fun iv _ => xs.length - (intOf iv).toNat)
    case atStart => exact ⟨0, 0, Nat.zero_le _, rfl, rfl, rfl⟩
    case round =>
      obtain ⟨k, q, hk, rfl, HT, rfl⟩ := hrel
      by_cases hlt : k < xs.length
      · rcases ha.lies with h1 | ⟨b1, o1, rfl, hc1⟩
        · simp [h1] at hlt
        rcases hb.lies with h1 | ⟨b2, o2, rfl, hc2⟩
        · have := HLEN.out; simp [h1] at this; simp [this] at hlt
        have hky : k < ys.length := by have := HLEN.out; omega
        have g1 := hc1 k hlt
        have g2 := hc2 k hky
        obtain ⟨x, hx⟩ : ∃ x, x = xs.getD k 0 := ⟨_, rfl⟩
        obtain ⟨y, hy⟩ : ∃ y, y = ys.getD k 0 := ⟨_, rfl⟩
        rw [← hx] at g1
        rw [← hy] at g2
        have hl1 : (k : Int) < (xs.length : Int) := by omega
        have hl2 : (k : Int) < (ys.length : Int) := by omega
        have hxl : x < 4294967296 := by rw [hx]; exact wf_getD hxw k
        have hyl : y < 4294967296 := by rw [hy]; exact wf_getD hyw k
        have HXY := hid (And.intro hx hy)
        clear hc1 hc2 ha hb hx hy
        by_cases hxy : x = y
        · have hb1 : ((x : Int) != (y : Int)) = false := by simp [hxy]
          have HE := hid hxy
          clear hxy
          go_wp2_with fail
          go_quiet (fail)
          go_wp2
          refine ⟨⟨k + 1, q + nq, by omega, by simp, ?_, by simp⟩, by simp [intOf]; omega⟩
          show _ = _
          rw [take_succ_getD hlt, take_succ_getD hky, HT.out, ← HXY.out.1, ← HXY.out.2, HE.out]
        · have hb1 : ((x : Int) != (y : Int)) = true := by simp; omega
          have hbf : b = false := by
            cases b with
            | false => rfl
            | true =>
              have h := HB.out.1 rfl
              exact absurd (by rw [HXY.out.1, HXY.out.2, h]) hxy
          subst hbf
          clear hxy
          go_wp2_with fail
          go_quiet (fail)
          go_wp2
          go_ret
          exact ⟨rfl, _, drewN2 _ _ _⟩
      · have hbt : b = true := HB.out.2 (by
          have h := HT.out
          have h2 := HLEN.out
          rwa [List.take_of_length_le (by omega), List.take_of_length_le (by omega)] at h)
        subst hbt
        go_wp2
        go_ret
        exact ⟨rfl, q, rfl⟩
  · have hne : ((xs.length : Int) != (ys.length : Int)) = true := by rw [bne_iff_ne]; omega
    have hbf : b = false := by
      cases b with
      | false => rfl
      | true => exact absurd (by rw [hbb.1 rfl]) hlen
    subst hbf
    clear hlen hbb ha hb
    go_enter Tryd.func17, Tryd.ntmps17
    go_wp2
    go_ret
    exact ⟨rfl, 0, rfl⟩

set_option maxRecDepth 100000 in
set_option maxHeartbeats 400000 in
theorem rtrim_any (ao : Option Addr) (c : Nat) (xs : List Nat) (w : World) (h : Rd w ao c xs) (hl : xs.length ≤ 17592186044416) :
    Calls Tryd.prog 28 #[.slice ao xs.length c] w (RetOwn w.heap.size (nd (val xs)) w) := by
  have hle := h.le
  have hcm := h.cm
  go_enter Tryd.func28, Tryd.ntmps28
  go_wp2_with fail
  go_loop [3] (fun v => ∃ k : Nat, k ≤ xs.length ∧ Hid (val (xs.take k) = val xs) ∧ v = .int .i64 (k : Int)) (fun v => (intOf v).toNat)
  case atStart => exact ⟨xs.length, Nat.le_refl _, by simp [Hid], rfl⟩
  case round =>
    obtain ⟨k, hk, HV, rfl⟩ := hrel
    have hr := h.take k
    have hlen : (xs.take k).length = k := by simp [hk]
    by_cases hn : nrm (xs.take k)
    · have HE := hid (show xs.take k = nd (val xs) by rw [← HV.out]; exact (nd_val hr.dg hn).symm)
      have HLE := hid hlen
      have happ : ∀ (W : World) (Q' : Exit → Act → World → Prop), True := fun _ _ => trivial
      clear happ
      by_cases hk0 : k = 0
      · subst hk0
        clear hlen hn
        have hr0 : Rd w ao c [] := by simpa using hr
        go_wp2_with (at_builtin; refine wp_append _ rfl _ _ rfl w.heap.size _ _ _ _ _ _ [] [] rfl rfl rfl rfl (Own.nil _ _) hr0 (by omega) (Nat.le_refl _) ?_; intro ao' c' w1 hown1 hbel1)
        go_ret
        have := HE.out
        rw [List.take_zero] at this
        rw [← this]
        exact ⟨ao', c', rfl, by simpa using hown1, hbel1⟩
      · obtain ⟨m, rfl⟩ : ∃ m, k = m + 1 := ⟨k - 1, by omega⟩
        rcases h.lies with h1 | ⟨bl, off, rfl, hcell⟩
        · simp [h1] at hk
        have hc := hcell m (by omega)
        obtain ⟨d, hd⟩ : ∃ d, d = xs.getD m 0 := ⟨_, rfl⟩
        rw [← hd] at hc
        have hd0 : d ≠ 0 := by
          rcases hn with h2 | h2
          · rw [h2] at hlen; simp at hlen
          · rw [hlen] at h2
            rw [hd]
            simpa using h2
        have hb : ((d : Int) == 0) = false := by simp [hd0]
        have hgt : (m : Int) + 1 > 0 := by omega
        clear hlen hn hcell hd hd0 hk0
        have HR := hid hr
        go_wp2_with (at_builtin; refine wp_append _ rfl _ _ rfl w.heap.size _ _ _ _ _ _ [] (xs.take (m + 1)) rfl rfl rfl ?c1 (Own.nil _ _) hr ?c2 (Nat.le_refl _) ?c3)
        case c2 => omega
        intro ao' c' w1 hown1 hbel1
        go_wp2
        go_ret
        rw [← HE.out]
        refine ⟨ao', c', ?_, by simpa using hown1, hbel1⟩
        rw [HLE.out]; simp
    · obtain ⟨m, rfl⟩ : ∃ m, k = m + 1 := ⟨k - 1, by
        have : k ≠ 0 := by rintro rfl; exact hn (Or.inl (by simp))
        omega⟩
      rcases h.lies with h1 | ⟨bl, off, rfl, hcell⟩
      · simp [h1] at hk
      have hc := hcell m (by omega)
      obtain ⟨d, hd⟩ : ∃ d, d = xs.getD m 0 := ⟨_, rfl⟩
      rw [← hd] at hc
      have hd0 : d = 0 := by
        apply Classical.byContradiction
        intro h3
        refine hn (Or.inr ?_)
        rw [hlen]
        rw [hd] at h3
        simpa using h3
      have HV2 := hid (show val (xs.take m) = val xs by rw [← val_take_pred (by omega) (by rw [← hd, hd0]), HV.out])
      subst hd0
      have hgt : (m : Int) + 1 > 0 := by omega
      clear hlen hn hcell hd
      go_wp2
      refine ⟨⟨m, by omega, HV2.out, by simp⟩, by simp [intOf]⟩
end Go.Proofs.YtbcaigpdckencaaDoor
