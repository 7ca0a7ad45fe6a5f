/- Rationals: Pow. -/
import Derived.Test.YtibfeceainemjaaGreatDoorQ1
import Derived.Test.YtibfeceainemjaaGreatDoorQg

set_option linter.unusedVariables false
set_option linter.unusedSimpArgs false
set_option linter.unusedSectionVars false

namespace Go.Proofs.YtibfeceainemjaaGreatDoor
open Go.RowKit Num

theorem RetRatE.errA {q : Rat} {er : Int} {w w4 : World} (he : er ≠ 0) (hb : Below w.heap.size w w4) :
    RetRatE q er w (.returned (.tuple #[.agg #[.bool false, .slice none 0 0, .slice none 0 0], .int .i64 er])) w4 := by
  have e1 : rnm q er = [] := if_neg he
  have e2 : rdn q er = [] := if_neg he
  have e3 : rsg q er = false := by simp [rsg, he]
  refine ⟨none, 0, none, 0, ?_, ?_, ?_, hb⟩
  · rw [e1, e2, e3]; rfl
  · rw [e1]; exact Own.nil _ _
  · rw [e2]; exact Own.nil _ _
theorem pow_sign (z : Int) (k : Nat) : (z < 0 → (k % 2 = 1 → z ^ k < 0) ∧ (k % 2 = 0 → 0 < z ^ k)) ∧ (0 ≤ z → 0 ≤ z ^ k) := by
  induction k with
  | zero => exact ⟨fun _ => ⟨fun h => by omega, fun _ => by rw [Int.pow_zero]; omega⟩, fun _ => by rw [Int.pow_zero]; omega⟩
  | succ k ih =>
    obtain ⟨h1, h2⟩ := ih
    refine ⟨fun hz => ?_, fun hz => ?_⟩
    · obtain ⟨h3, h4⟩ := h1 hz
      rw [Int.pow_succ]
      refine ⟨fun h => ?_, fun h => ?_⟩
      · exact Int.mul_neg_of_pos_of_neg (h4 (by omega)) hz
      · exact Int.mul_pos_of_neg_of_neg (h3 (by omega)) hz
    · rw [Int.pow_succ]
      exact Int.mul_nonneg (h2 hz) hz
theorem pow_neg_iff (q : Rat) (k : Nat) : decide ((q ^ k).num < 0) = (decide (q.num < 0) && decide (k % 2 = 1)) := by
  obtain ⟨h1, h2⟩ := pow_sign q.num k
  rw [Rat.num_pow]
  by_cases h : q.num < 0
  · obtain ⟨h3, h4⟩ := h1 h
    by_cases hk : k % 2 = 1
    · simp [h, hk, h3 hk]
    · have h5 := h4 (by omega)
      simp [h, hk]; omega
  · have h5 := h2 (by omega)
    simp [h]; omega
theorem tmod2 (k : Nat) : (k : Int).tmod 2 = ((k % 2 : Nat) : Int) := by
  rw [Int.ofNat_tmod]; rfl

set_option maxRecDepth 100000 in
set_option maxHeartbeats 3200000 in
theorem pw3_err {w : World} {b : Bool} {ao : Option Addr} {c : Nat} {xs : List Nat} {ad : Option Addr} {d : Nat} {ds : List Nat} {q : Rat} {n : Nat} (h : Rq w b ao c xs ad d ds q n) (k : Int) (hk : k < 0 ∨ 64 < k) (Q : Rat) :
    Calls Tryz.prog 41 #[.agg #[.bool b, .slice ao xs.length c, .slice ad ds.length d], .int .i64 k] w (RetRatE Q 1 w) := by
  have hle1 := h.rn.le
  have hcm1 := h.rn.cm
  have hle2 := h.rd.le
  have hcm2 := h.rd.cm
  have hB := A2_below w (.cells #[.bool b, .slice ao xs.length c, .slice ad ds.length d] 26) (.cells #[.bool false, .slice none 0 0, .slice none 0 0] 26)
  have HH := hid (A2_heap w (.cells #[.bool b, .slice ao xs.length c, .slice ad ds.length d] 26) (.cells #[.bool false, .slice none 0 0, .slice none 0 0] 26))
  have HSZ := hid (A2_size w (.cells #[.bool b, .slice ao xs.length c, .slice ad ds.length d] 26) (.cells #[.bool false, .slice none 0 0, .slice none 0 0] 26))
  have HB := hid hB
  unfold A2 at HH HSZ HB
  clear h hB
  have n01 : ¬ (w.heap.size = w.heap.size + 1 + 1) := by omega
  have n02 : ¬ (w.heap.size + 1 + 1 = w.heap.size) := by omega
  have n03 : ¬ (w.heap.size + 1 = w.heap.size + 1 + 1) := by omega
  have n04 : ¬ (w.heap.size + 1 + 1 = w.heap.size + 1) := by omega
  have n05 : ¬ (w.heap.size = w.heap.size + 1) := by omega
  have n06 : ¬ (w.heap.size + 1 = w.heap.size) := by omega
  rcases hk with hk | hk
  · go_enter Tryz.func41, Tryz.ntmps41
    go_wp2
    refine bodyPost_ret (v := .tuple #[.agg #[.bool false, .slice none 0 0, .slice none 0 0], .int .i64 1]) (by simp [results, Tryz.results41, go_sem]) rfl ?_
    exact RetRatE.errA (by decide) HB.out
  · have hk' : ¬ k < 0 := by omega
    go_enter Tryz.func41, Tryz.ntmps41
    go_wp2
    refine bodyPost_ret (v := .tuple #[.agg #[.bool false, .slice none 0 0, .slice none 0 0], .int .i64 1]) (by simp [results, Tryz.results41, go_sem]) rfl ?_
    exact RetRatE.errA (by decide) HB.out

set_option maxRecDepth 100000 in
set_option maxHeartbeats 6400000 in
theorem pw3_ok {w : World} {b : Bool} {ao : Option Addr} {c : Nat} {xs : List Nat} {ad : Option Addr} {d : Nat} {ds : List Nat} {q : Rat} {n : Nat} (h : Rq w b ao c xs ad d ds q n) (hn : n ≤ 999999999) (hT : Tb w) (k : Nat) (hk : k ≤ 64) :
    Calls Tryz.prog 41 #[.agg #[.bool b, .slice ao xs.length c, .slice ad ds.length d], .int .i64 (k : Int)] w (RetRatE (q ^ k) 0 w) := by
  have hle1 := h.rn.le
  have hcm1 := h.rn.cm
  have hle2 := h.rd.le
  have hcm2 := h.rd.cm
  have hB := A2_below w (.cells #[.bool b, .slice ao xs.length c, .slice ad ds.length d] 26) (.cells #[.bool false, .slice none 0 0, .slice none 0 0] 26)
  have HH := hid (A2_heap w (.cells #[.bool b, .slice ao xs.length c, .slice ad ds.length d] 26) (.cells #[.bool false, .slice none 0 0, .slice none 0 0] 26))
  have HSZ := hid (A2_size w (.cells #[.bool b, .slice ao xs.length c, .slice ad ds.length d] 26) (.cells #[.bool false, .slice none 0 0, .slice none 0 0] 26))
  have HB := hid hB
  have hz := h.sz
  have hzz : (nd q.num.natAbs).length ≤ 34359738368 ∧ (nd q.den).length ≤ 34359738368 := ⟨Nat.le_trans hz.1 (by omega), Nat.le_trans hz.2 (by omega)⟩
  have ht := trim3_any (h.below hB) (by omega) (hT.below hB)
  obtain ⟨Q, hQ⟩ : ∃ Q, Q = q ^ k := ⟨_, rfl⟩
  have eN : q.num.natAbs ^ k = Q.num.natAbs := by rw [hQ, Rat.num_pow, Int.natAbs_pow]
  have eD : q.den ^ k = Q.den := by rw [hQ, Rat.den_pow]
  have eS := pow_neg_iff q k
  rw [← hQ] at eS ⊢
  have HP1 := hid (fun w' a c (g : Rd w' a c (nd q.num.natAbs)) => (show Calls Tryz.prog 122 #[.slice a (nd q.num.natAbs).length c, .int .i64 (k : Int)] w' (fun e w2 => ∃ ao c, e = .returned (.tuple #[.slice ao (nd Q.num.natAbs).length c, .int .i64 0]) ∧ Own w'.heap.size w2 ao c (nd Q.num.natAbs) ∧ Below w'.heap.size w' w2) from by
    have h3 := pow_any a c k (nd q.num.natAbs) w' g hzz.1 hk
    rw [val_nd, eN] at h3
    exact h3))
  have HP2 := hid (fun w' a c (g : Rd w' a c (nd q.den)) => (show Calls Tryz.prog 122 #[.slice a (nd q.den).length c, .int .i64 (k : Int)] w' (fun e w2 => ∃ ao c, e = .returned (.tuple #[.slice ao (nd Q.den).length c, .int .i64 0]) ∧ Own w'.heap.size w2 ao c (nd Q.den) ∧ Below w'.heap.size w' w2) from by
    have h3 := pow_any a c k (nd q.den) w' g hzz.2 hk
    rw [val_nd, eD] at h3
    exact h3))
  have hmd := tmod2 k
  have hk1 : ¬ ((k : Int) < 0) := by omega
  have hk2 : ¬ (64 < (k : Int)) := by omega
  obtain ⟨S, hS⟩ : ∃ S, S = decide (q.num < 0) := ⟨_, rfl⟩
  obtain ⟨X, hX⟩ : ∃ X, X = (nd q.num.natAbs) := ⟨_, rfl⟩
  obtain ⟨Y, hY⟩ : ∃ Y, Y = (nd q.den) := ⟨_, rfl⟩
  unfold RetRat at ht
  rw [← hS, ← hX, ← hY] at ht
  rw [← hS] at eS
  simp only [← hX] at HP1
  simp only [← hY] at HP2
  rw [← hX, ← hY] at hzz
  unfold A2 at HH HSZ HB ht
  clear h hB hT hz hS hX hY eN eD hQ
  obtain ⟨m, hm⟩ : ∃ m, m = k % 2 := ⟨_, rfl⟩
  rw [← hm] at eS hmd
  have hmm : m = 0 ∨ m = 1 := by omega
  clear hm
  have n01 : ¬ (w.heap.size = w.heap.size + 1 + 1) := by omega
  have n02 : ¬ (w.heap.size + 1 + 1 = w.heap.size) := by omega
  have n03 : ¬ (w.heap.size + 1 = w.heap.size + 1 + 1) := by omega
  have n04 : ¬ (w.heap.size + 1 + 1 = w.heap.size + 1) := by omega
  have n05 : ¬ (w.heap.size = w.heap.size + 1) := by omega
  have n06 : ¬ (w.heap.size + 1 = w.heap.size) := by omega
  cases S
  · rcases hmm with rfl | rfl
    · have eT : decide (Q.num < 0) = false := by rw [eS]; rfl
      clear eS
      go_enter Tryz.func41, Tryz.ntmps41
      go_wp2_with fail
      obtain ⟨w0, hw0⟩ : ∃ x, x = ((w.alloc (.cells #[.bool b, .slice ao xs.length c, .slice ad ds.length d] 26)).alloc (.cells #[.bool false, .slice none 0 0, .slice none 0 0] 26)) := ⟨_, rfl⟩
      rw [← hw0] at HH HSZ HB ht ⊢
      clear hw0
      refine ht.mono ?_
      rintro e w1 ⟨a1, c1, d1, e1, rfl, o1, u1, f1⟩
      have hv1 := o1.rd.le
      have hv2 := o1.rd.cm
      have hv3 := u1.rd.le
      have hv4 := u1.rd.cm
      have k2 := below_al f1 (.cells #[.bool false, .slice a1 X.length c1, .slice d1 Y.length e1] 26)
      have QB := hid (heap_alloc_at w1 (.cells #[.bool false, .slice a1 X.length c1, .slice d1 Y.length e1] 26))
      have OB := hid (And.intro (own_al o1 (.cells #[.bool false, .slice a1 X.length c1, .slice d1 Y.length e1] 26)) (own_al u1 (.cells #[.bool false, .slice a1 X.length c1, .slice d1 Y.length e1] 26)))
      have K2 := hid k2
      have HZ1 := hid f1.size
      clear ht o1 u1 f1 k2
      go_upto_region 4 with fail
      obtain ⟨w2, hw2⟩ : ∃ x, x = w1.alloc (.cells #[.bool false, .slice a1 X.length c1, .slice d1 Y.length e1] 26) := ⟨_, rfl⟩
      rw [← hw2] at QB OB K2 ⊢
      clear hw2
      obtain ⟨r0, r1, r2, _⟩ := cells3 QB.out (Below.refl _ _)
      go_wp2_with fail
      refine (HP1.out w2 a1 c1 OB.out.1.rd).mono ?_
      rintro e w3 ⟨a3, c3, rfl, o3, f3⟩
      have hv5 := o3.rd.le
      have hv6 := o3.rd.cm
      clear r0 r1 r2
      obtain ⟨r0, r1, r2, _⟩ := cells3 QB.out f3
      go_wp2_with fail
      refine (HP2.out w3 d1 e1 (OB.out.2.below f3).rd).mono ?_
      rintro e w4 ⟨a5, c5, rfl, o5, f5⟩
      have hv7 := o5.rd.le
      have hv8 := o5.rd.cm
      clear r0 r1 r2
      have f35 := f3.trans (f5.mono f3.size)
      obtain ⟨r0, r1, r2, _⟩ := cells3 QB.out f35
      have p4 := K2.out.trans (f35.mono K2.out.size)
      obtain ⟨k0, k1, k2, k3, k4, k5⟩ := cells3 HH.out.2 p4
      have H4 := hid (And.intro (o3.below f5) (And.intro o5 (And.intro p4 (And.intro K2.out.size f3.size))))
      clear o3 o5 f3 f5 f35 p4
      go_wp2
      have hsz := HSZ.out
      have hs1 := H4.out.2.2.2
      have hs2 := HZ1.out
      refine bodyPost_ret (v := .tuple #[.agg #[.bool (decide (Q.num < 0)), .slice a3 (nd Q.num.natAbs).length c3, .slice a5 (nd Q.den).length c5], .int .i64 0]) (by simp [results, Tryz.results41, go_sem, k0, k1, k2, eT]) rfl ?_
      exact RetRatE.fin H4.out.1 (H4.out.2.1.mono (by omega)) (by omega) (HB.out.trans (H4.out.2.2.1.mono HB.out.size)) (by omega) _ _ _
    · have eT : decide (Q.num < 0) = false := by rw [eS]; rfl
      clear eS
      go_enter Tryz.func41, Tryz.ntmps41
      go_wp2_with fail
      obtain ⟨w0, hw0⟩ : ∃ x, x = ((w.alloc (.cells #[.bool b, .slice ao xs.length c, .slice ad ds.length d] 26)).alloc (.cells #[.bool false, .slice none 0 0, .slice none 0 0] 26)) := ⟨_, rfl⟩
      rw [← hw0] at HH HSZ HB ht ⊢
      clear hw0
      refine ht.mono ?_
      rintro e w1 ⟨a1, c1, d1, e1, rfl, o1, u1, f1⟩
      have hv1 := o1.rd.le
      have hv2 := o1.rd.cm
      have hv3 := u1.rd.le
      have hv4 := u1.rd.cm
      have k2 := below_al f1 (.cells #[.bool false, .slice a1 X.length c1, .slice d1 Y.length e1] 26)
      have QB := hid (heap_alloc_at w1 (.cells #[.bool false, .slice a1 X.length c1, .slice d1 Y.length e1] 26))
      have OB := hid (And.intro (own_al o1 (.cells #[.bool false, .slice a1 X.length c1, .slice d1 Y.length e1] 26)) (own_al u1 (.cells #[.bool false, .slice a1 X.length c1, .slice d1 Y.length e1] 26)))
      have K2 := hid k2
      have HZ1 := hid f1.size
      clear ht o1 u1 f1 k2
      go_upto_region 4 with fail
      obtain ⟨w2, hw2⟩ : ∃ x, x = w1.alloc (.cells #[.bool false, .slice a1 X.length c1, .slice d1 Y.length e1] 26) := ⟨_, rfl⟩
      rw [← hw2] at QB OB K2 ⊢
      clear hw2
      obtain ⟨r0, r1, r2, _⟩ := cells3 QB.out (Below.refl _ _)
      go_wp2_with fail
      refine (HP1.out w2 a1 c1 OB.out.1.rd).mono ?_
      rintro e w3 ⟨a3, c3, rfl, o3, f3⟩
      have hv5 := o3.rd.le
      have hv6 := o3.rd.cm
      clear r0 r1 r2
      obtain ⟨r0, r1, r2, _⟩ := cells3 QB.out f3
      go_wp2_with fail
      refine (HP2.out w3 d1 e1 (OB.out.2.below f3).rd).mono ?_
      rintro e w4 ⟨a5, c5, rfl, o5, f5⟩
      have hv7 := o5.rd.le
      have hv8 := o5.rd.cm
      clear r0 r1 r2
      have f35 := f3.trans (f5.mono f3.size)
      obtain ⟨r0, r1, r2, _⟩ := cells3 QB.out f35
      have p4 := K2.out.trans (f35.mono K2.out.size)
      obtain ⟨k0, k1, k2, k3, k4, k5⟩ := cells3 HH.out.2 p4
      have H4 := hid (And.intro (o3.below f5) (And.intro o5 (And.intro p4 (And.intro K2.out.size f3.size))))
      clear o3 o5 f3 f5 f35 p4
      go_wp2
      have hsz := HSZ.out
      have hs1 := H4.out.2.2.2
      have hs2 := HZ1.out
      refine bodyPost_ret (v := .tuple #[.agg #[.bool (decide (Q.num < 0)), .slice a3 (nd Q.num.natAbs).length c3, .slice a5 (nd Q.den).length c5], .int .i64 0]) (by simp [results, Tryz.results41, go_sem, k0, k1, k2, eT]) rfl ?_
      exact RetRatE.fin H4.out.1 (H4.out.2.1.mono (by omega)) (by omega) (HB.out.trans (H4.out.2.2.1.mono HB.out.size)) (by omega) _ _ _
  · rcases hmm with rfl | rfl
    · have eT : decide (Q.num < 0) = false := by rw [eS]; rfl
      clear eS
      go_enter Tryz.func41, Tryz.ntmps41
      go_wp2_with fail
      obtain ⟨w0, hw0⟩ : ∃ x, x = ((w.alloc (.cells #[.bool b, .slice ao xs.length c, .slice ad ds.length d] 26)).alloc (.cells #[.bool false, .slice none 0 0, .slice none 0 0] 26)) := ⟨_, rfl⟩
      rw [← hw0] at HH HSZ HB ht ⊢
      clear hw0
      refine ht.mono ?_
      rintro e w1 ⟨a1, c1, d1, e1, rfl, o1, u1, f1⟩
      have hv1 := o1.rd.le
      have hv2 := o1.rd.cm
      have hv3 := u1.rd.le
      have hv4 := u1.rd.cm
      have k2 := below_al f1 (.cells #[.bool true, .slice a1 X.length c1, .slice d1 Y.length e1] 26)
      have QB := hid (heap_alloc_at w1 (.cells #[.bool true, .slice a1 X.length c1, .slice d1 Y.length e1] 26))
      have OB := hid (And.intro (own_al o1 (.cells #[.bool true, .slice a1 X.length c1, .slice d1 Y.length e1] 26)) (own_al u1 (.cells #[.bool true, .slice a1 X.length c1, .slice d1 Y.length e1] 26)))
      have K2 := hid k2
      have HZ1 := hid f1.size
      clear ht o1 u1 f1 k2
      go_upto_region 4 with fail
      obtain ⟨w2, hw2⟩ : ∃ x, x = w1.alloc (.cells #[.bool true, .slice a1 X.length c1, .slice d1 Y.length e1] 26) := ⟨_, rfl⟩
      rw [← hw2] at QB OB K2 ⊢
      clear hw2
      obtain ⟨r0, r1, r2, _⟩ := cells3 QB.out (Below.refl _ _)
      go_wp2_with fail
      refine (HP1.out w2 a1 c1 OB.out.1.rd).mono ?_
      rintro e w3 ⟨a3, c3, rfl, o3, f3⟩
      have hv5 := o3.rd.le
      have hv6 := o3.rd.cm
      clear r0 r1 r2
      obtain ⟨r0, r1, r2, _⟩ := cells3 QB.out f3
      go_wp2_with fail
      refine (HP2.out w3 d1 e1 (OB.out.2.below f3).rd).mono ?_
      rintro e w4 ⟨a5, c5, rfl, o5, f5⟩
      have hv7 := o5.rd.le
      have hv8 := o5.rd.cm
      clear r0 r1 r2
      have f35 := f3.trans (f5.mono f3.size)
      obtain ⟨r0, r1, r2, _⟩ := cells3 QB.out f35
      have p4 := K2.out.trans (f35.mono K2.out.size)
      obtain ⟨k0, k1, k2, k3, k4, k5⟩ := cells3 HH.out.2 p4
      have H4 := hid (And.intro (o3.below f5) (And.intro o5 (And.intro p4 (And.intro K2.out.size f3.size))))
      clear o3 o5 f3 f5 f35 p4
      go_wp2
      have hsz := HSZ.out
      have hs1 := H4.out.2.2.2
      have hs2 := HZ1.out
      refine bodyPost_ret (v := .tuple #[.agg #[.bool (decide (Q.num < 0)), .slice a3 (nd Q.num.natAbs).length c3, .slice a5 (nd Q.den).length c5], .int .i64 0]) (by simp [results, Tryz.results41, go_sem, k0, k1, k2, eT]) rfl ?_
      exact RetRatE.fin H4.out.1 (H4.out.2.1.mono (by omega)) (by omega) (HB.out.trans (H4.out.2.2.1.mono HB.out.size)) (by omega) _ _ _
    · have eT : decide (Q.num < 0) = true := by rw [eS]; rfl
      clear eS
      go_enter Tryz.func41, Tryz.ntmps41
      go_wp2_with fail
      obtain ⟨w0, hw0⟩ : ∃ x, x = ((w.alloc (.cells #[.bool b, .slice ao xs.length c, .slice ad ds.length d] 26)).alloc (.cells #[.bool false, .slice none 0 0, .slice none 0 0] 26)) := ⟨_, rfl⟩
      rw [← hw0] at HH HSZ HB ht ⊢
      clear hw0
      refine ht.mono ?_
      rintro e w1 ⟨a1, c1, d1, e1, rfl, o1, u1, f1⟩
      have hv1 := o1.rd.le
      have hv2 := o1.rd.cm
      have hv3 := u1.rd.le
      have hv4 := u1.rd.cm
      have k2 := below_al f1 (.cells #[.bool true, .slice a1 X.length c1, .slice d1 Y.length e1] 26)
      have QB := hid (heap_alloc_at w1 (.cells #[.bool true, .slice a1 X.length c1, .slice d1 Y.length e1] 26))
      have OB := hid (And.intro (own_al o1 (.cells #[.bool true, .slice a1 X.length c1, .slice d1 Y.length e1] 26)) (own_al u1 (.cells #[.bool true, .slice a1 X.length c1, .slice d1 Y.length e1] 26)))
      have K2 := hid k2
      have HZ1 := hid f1.size
      clear ht o1 u1 f1 k2
      go_upto_region 4 with fail
      obtain ⟨w2, hw2⟩ : ∃ x, x = w1.alloc (.cells #[.bool true, .slice a1 X.length c1, .slice d1 Y.length e1] 26) := ⟨_, rfl⟩
      rw [← hw2] at QB OB K2 ⊢
      clear hw2
      obtain ⟨r0, r1, r2, _⟩ := cells3 QB.out (Below.refl _ _)
      go_wp2_with fail
      refine (HP1.out w2 a1 c1 OB.out.1.rd).mono ?_
      rintro e w3 ⟨a3, c3, rfl, o3, f3⟩
      have hv5 := o3.rd.le
      have hv6 := o3.rd.cm
      clear r0 r1 r2
      obtain ⟨r0, r1, r2, _⟩ := cells3 QB.out f3
      go_wp2_with fail
      refine (HP2.out w3 d1 e1 (OB.out.2.below f3).rd).mono ?_
      rintro e w4 ⟨a5, c5, rfl, o5, f5⟩
      have hv7 := o5.rd.le
      have hv8 := o5.rd.cm
      clear r0 r1 r2
      have f35 := f3.trans (f5.mono f3.size)
      obtain ⟨r0, r1, r2, _⟩ := cells3 QB.out f35
      have p4 := K2.out.trans (f35.mono K2.out.size)
      obtain ⟨k0, k1, k2, k3, k4, k5⟩ := cells3 HH.out.2 p4
      have H4 := hid (And.intro (o3.below f5) (And.intro o5 (And.intro p4 (And.intro K2.out.size f3.size))))
      clear o3 o5 f3 f5 f35 p4
      go_wp2
      have hsz := HSZ.out
      have hs1 := H4.out.2.2.2
      have hs2 := HZ1.out
      refine bodyPost_ret (v := .tuple #[.agg #[.bool (decide (Q.num < 0)), .slice a3 (nd Q.num.natAbs).length c3, .slice a5 (nd Q.den).length c5], .int .i64 0]) (by simp [results, Tryz.results41, go_sem, k0, k1, k2, eT]) rfl ?_
      exact RetRatE.fin H4.out.1 (H4.out.2.1.mono (by omega)) (by omega) (HB.out.trans (H4.out.2.2.1.mono HB.out.size)) (by omega) _ _ _
end Go.Proofs.YtibfeceainemjaaGreatDoor
