/-  -/
import Derived.Test.YtcankknlbljicaaGreatDoorXq

set_option linter.unusedVariables false
set_option linter.unusedSimpArgs false
set_option linter.unusedSectionVars false
set_option maxRecDepth 100000
set_option maxHeartbeats 3200000

namespace Go.Proofs.YtcankknlbljicaaGreatDoor
open Go.RowKit Num

def B2 (w : World) (b1 b2 : Bool) (aa ab : Option Addr) (n1 n2 ca cb : Nat) : World :=
 (w.alloc (.cells #[.bool b1,.slice aa n1 ca] 24)).alloc (.cells #[.bool b2,.slice ab n2 cb] 24)
theorem B2_below (w : World) (b1 b2 : Bool) (aa ab : Option Addr) (n1 n2 ca cb : Nat) : Below w.heap.size w (B2 w b1 b2 aa ab n1 n2 ca cb) := by
 have h1 := below_alloc w (.cells #[.bool b1,.slice aa n1 ca] 24)
 exact h1.trans ((below_alloc _ (.cells #[.bool b2,.slice ab n2 cb] 24)).mono h1.size)
theorem B2_cells {w w' : World} {b1 b2 : Bool} {aa ab : Option Addr} {n1 n2 ca cb : Nat} (hb : Below (B2 w b1 b2 aa ab n1 n2 ca cb).heap.size (B2 w b1 b2 aa ab n1 n2 ca cb) w') :
  w'.cell? ⟨w.heap.size,0,none⟩ = some (.bool b1) ∧ w'.cell? ⟨w.heap.size,1,none⟩ = some (.slice aa n1 ca) ∧ w'.cell? ⟨w.heap.size + 1,0,none⟩ = some (.bool b2) ∧ w'.cell? ⟨w.heap.size + 1,1,none⟩ = some (.slice ab n2 cb) := by
 have x1 := heap_alloc_at w (.cells #[.bool b1,.slice aa n1 ca] 24)
 have z1 : (w.alloc (.cells #[.bool b1,.slice aa n1 ca] 24)).heap.size = w.heap.size + 1 := by simp
 have x2 := heap_alloc_at (w.alloc (.cells #[.bool b1,.slice aa n1 ca] 24)) (.cells #[.bool b2,.slice ab n2 cb] 24)
 rw [z1] at x2
 have y2 := (below_alloc (w.alloc (.cells #[.bool b1,.slice aa n1 ca] 24)) (.cells #[.bool b2,.slice ab n2 cb] 24)).block w.heap.size (by omega)
 have e0 : (B2 w b1 b2 aa ab n1 n2 ca cb).heap[w.heap.size]? = some (.cells #[.bool b1,.slice aa n1 ca] 24 (0,0)) := y2.trans x1
 obtain ⟨c0,c1,_,_⟩ := pair_cells e0 hb
 obtain ⟨c2,c3,_,_⟩ := pair_cells (W := B2 w b1 b2 aa ab n1 n2 ca cb) x2 hb
 exact ⟨c0,c1,c2,c3⟩

def cmpI (a b : Int) : Int := if a < b then -1 else if b < a then 1 else 0
theorem cmpI_sub (a b : Int) : cmpI a b = sgn (a - b) := by
 unfold cmpI sgn
 repeat' split
 all_goals omega
theorem cmpI_nn {b1 b2 : Bool} {x y : Nat} (h1 : ¬ iv b1 x < 0) (h2 : ¬ iv b2 y < 0) : cmpN x y = cmpI (iv b1 x) (iv b2 y) := by
 unfold cmpN cmpI
 have e1 : iv b1 x = (x : Int) := by unfold iv at *; split <;> simp_all <;> omega
 have e2 : iv b2 y = (y : Int) := by unfold iv at *; split <;> simp_all <;> omega
 rw [e1,e2]
 repeat' split
 all_goals omega
theorem cmpI_ng {b1 b2 : Bool} {x y : Nat} (h1 : iv b1 x < 0) (h2 : iv b2 y < 0) : cmpN y x = cmpI (iv b1 x) (iv b2 y) := by
 unfold cmpN cmpI
 have e1 : iv b1 x = -(x : Int) := by unfold iv at *; split <;> simp_all <;> omega
 have e2 : iv b2 y = -(y : Int) := by unfold iv at *; split <;> simp_all <;> omega
 rw [e1,e2]
 repeat' split
 all_goals omega

theorem icompare_any (b1 b2 : Bool) (aa ab : Option Addr) (ca cb : Nat) (xs ys : List Nat) (w : World) (ha : Rd w aa ca xs) (hb : Rd w ab cb ys) (hl1 : xs.length ≤ 17592186044416) (hl2 : ys.length ≤ 17592186044416) :
  Calls Tryz.prog 167 #[.agg #[.bool b1,.slice aa xs.length ca],.agg #[.bool b2,.slice ab ys.length cb]] w (RetB (.int .i64 (cmpI (iv b1 (val xs)) (iv b2 (val ys)))) w) := by
 have hB := B2_below w b1 b2 aa ab xs.length ys.length ca cb
 have HC := hid (fun w' => B2_cells (w' := w') (w := w) (b1 := b1) (b2 := b2) (aa := aa) (ab := ab) (n1 := xs.length) (n2 := ys.length) (ca := ca) (cb := cb))
 have HB := hid hB
 have HR := hid (And.intro (ha.below hB) (hb.below hB))
 unfold B2 at HC HB HR
 obtain ⟨r1,hr1⟩ : ∃ r,r = decide (iv b1 (val xs) < 0) := ⟨_,rfl⟩
 obtain ⟨r2,hr2⟩ : ∃ r,r = decide (iv b2 (val ys) < 0) := ⟨_,rfl⟩
 have N1 := hid (fun w' (h : Rd w' aa ca xs) => isNegative_any b1 aa ca xs w' h hl1 r1 (by rw [hr1]; simp))
 have N2 := hid (fun w' (h : Rd w' ab cb ys) => isNegative_any b2 ab cb ys w' h hl2 r2 (by rw [hr2]; simp))
 have HV := hid (And.intro hr1 hr2)
 obtain ⟨R,hR⟩ : ∃ R,R = cmpI (iv b1 (val xs)) (iv b2 (val ys)) := ⟨_,rfl⟩
 have HV2 := hid hR
 rw [← hR]
 clear ha hb hB hr1 hr2 hR
 cases r1 <;> cases r2
 ·have hR0 : R = cmpN (val xs) (val ys) := by rw [HV2.out,cmpI_nn (by simpa using HV.out.1) (by simpa using HV.out.2)]
  have HRV := hid hR0
  clear hR0
  go_enter Tryz.func167,Tryz.ntmps167
  go_wp2_with fail
  refine (N1.out _ HR.out.1).mono ?_
  rintro e w1 ⟨rfl,f1⟩
  obtain ⟨s0,s1,s2,s3⟩ := HC.out w1 f1
  have q1 := N2.out w1 (HR.out.2.below f1)
  go_wp2_with fail
  refine q1.mono ?_
  rintro e w2 ⟨rfl,f2⟩
  have k2 := f1.trans (f2.mono f1.size)
  obtain ⟨t0,t1,t2,t3⟩ := HC.out w2 k2
  have q2 := N2.out w2 (HR.out.2.below k2)
  clear q1 f1 f2 s0 s1 s2 s3
  go_wp2_with fail
  refine q2.mono ?_
  rintro e w3 ⟨rfl,f3⟩
  have k3 := k2.trans (f3.mono k2.size)
  obtain ⟨s0,s1,s2,s3⟩ := HC.out w3 k3
  have q3 := compare_any aa ab ca cb xs ys w3 (HR.out.1.below k3) (HR.out.2.below k3)
  have HK := hid (HB.out.trans (k3.mono HB.out.size))
  rw [← HRV.out] at q3
  clear q2 k2 f3 t0 t1 t2 t3 k3
  go_wp2_with fail
  refine q3.mono ?_
  rintro e w4 ⟨rfl,q,rfl⟩
  clear q3 s0 s1 s2 s3
  go_wp2
  go_ret
  exact ⟨rfl,HK.out.trans ((below_drewN w3 q).mono HK.out.size)⟩
 ·have hR0 : R = 1 := by
   have h1 := HV.out.1.symm
   have h2 := HV.out.2.symm
   simp at h1 h2
   rw [HV2.out]; unfold cmpI; rw [if_neg (by omega),if_pos (by omega)]
  subst hR0
  go_enter Tryz.func167,Tryz.ntmps167
  go_wp2_with fail
  refine (N1.out _ HR.out.1).mono ?_
  rintro e w1 ⟨rfl,f1⟩
  obtain ⟨s0,s1,s2,s3⟩ := HC.out w1 f1
  have q1 := N2.out w1 (HR.out.2.below f1)
  go_wp2_with fail
  refine q1.mono ?_
  rintro e w2 ⟨rfl,f2⟩
  have k2 := f1.trans (f2.mono f1.size)
  obtain ⟨t0,t1,t2,t3⟩ := HC.out w2 k2
  have q2 := N2.out w2 (HR.out.2.below k2)
  clear q1 f1 f2 s0 s1 s2 s3
  go_wp2_with fail
  refine q2.mono ?_
  rintro e w3 ⟨rfl,f3⟩
  have HK := hid (HB.out.trans ((k2.trans (f3.mono k2.size)).mono HB.out.size))
  clear q2 k2 f3 t0 t1 t2 t3
  go_wp2
  go_ret
  exact ⟨rfl,HK.out⟩
 ·have hR0 : R = -1 := by
   have h1 := HV.out.1.symm
   have h2 := HV.out.2.symm
   simp at h1 h2
   rw [HV2.out]; unfold cmpI; rw [if_pos (by omega)]
  subst hR0
  go_enter Tryz.func167,Tryz.ntmps167
  go_wp2_with fail
  refine (N1.out _ HR.out.1).mono ?_
  rintro e w1 ⟨rfl,f1⟩
  obtain ⟨s0,s1,s2,s3⟩ := HC.out w1 f1
  have q1 := N2.out w1 (HR.out.2.below f1)
  go_wp2_with fail
  refine q1.mono ?_
  rintro e w2 ⟨rfl,f2⟩
  have HK := hid (HB.out.trans ((f1.trans (f2.mono f1.size)).mono HB.out.size))
  clear q1 f1 f2 s0 s1 s2 s3
  go_wp2
  go_ret
  exact ⟨rfl,HK.out⟩
 ·have hR0 : R = cmpN (val ys) (val xs) := by
   have h1 := HV.out.1.symm
   have h2 := HV.out.2.symm
   simp at h1 h2
   rw [HV2.out,cmpI_ng h1 h2]
  have HRV := hid hR0
  clear hR0
  go_enter Tryz.func167,Tryz.ntmps167
  go_wp2_with fail
  refine (N1.out _ HR.out.1).mono ?_
  rintro e w1 ⟨rfl,f1⟩
  obtain ⟨s0,s1,s2,s3⟩ := HC.out w1 f1
  have q1 := N2.out w1 (HR.out.2.below f1)
  go_wp2_with fail
  refine q1.mono ?_
  rintro e w2 ⟨rfl,f2⟩
  have k2 := f1.trans (f2.mono f1.size)
  obtain ⟨t0,t1,t2,t3⟩ := HC.out w2 k2
  have q2 := N2.out w2 (HR.out.2.below k2)
  clear q1 f1 f2 s0 s1 s2 s3
  go_wp2_with fail
  refine q2.mono ?_
  rintro e w3 ⟨rfl,f3⟩
  have k3 := k2.trans (f3.mono k2.size)
  obtain ⟨s0,s1,s2,s3⟩ := HC.out w3 k3
  have q3 := compare_any ab aa cb ca ys xs w3 (HR.out.2.below k3) (HR.out.1.below k3)
  have HK := hid (HB.out.trans (k3.mono HB.out.size))
  rw [← HRV.out] at q3
  clear q2 k2 f3 t0 t1 t2 t3 k3
  go_wp2_with fail
  refine q3.mono ?_
  rintro e w4 ⟨rfl,q,rfl⟩
  clear q3 s0 s1 s2 s3
  go_wp2
  go_ret
  exact ⟨rfl,HK.out.trans ((below_drewN w3 q).mono HK.out.size)⟩

end Go.Proofs.YtcankknlbljicaaGreatDoor

namespace Go.Proofs.YtcankknlbljicaaGreatDoor
open Go.RowKit Num

end Go.Proofs.YtcankknlbljicaaGreatDoor

namespace Go.Proofs.YtcankknlbljicaaGreatDoor
open Go.RowKit Num

theorem rsign_any (b : Bool) (ao : Option Addr) (c : Nat) (xs : List Nat) (w : World) (h : Rd w ao c xs) (hl : xs.length ≤ 17592186044416) :
  Calls Tryz.prog 135 #[.agg #[.bool b,.slice ao xs.length c]] w (RetB (.int .i64 (sgn (iv b (val xs)))) w) := by
 have hba := below_alloc w (.cells #[.bool b,.slice ao xs.length c] 24)
 have hx1 := heap_alloc_at w (.cells #[.bool b,.slice ao xs.length c] 24)
 have ht := rtrim2_any b ao c xs _ (h.below hba) hl
 obtain ⟨z,hz⟩ : ∃ z,z = iv b (val xs) := ⟨_,rfl⟩
 rw [← hz] at ht ⊢
 have HP := hid (fun w' => pair_cells (w' := w') hx1)
 have HA := hid hba
 have hzl : (nd z.natAbs).length ≤ 17592186044416 := by rw [hz,iv_abs]; exact Nat.le_trans (nd_length_le_of h.dg) hl
 clear h hba hx1 hz
 obtain ⟨s0,s1,s2,s3⟩ := HP.out _ (Below.refl _ _)
 by_cases h0 : z = 0
 ·subst h0
  have hnz : (((nd 0).length : Int) == 0) = true := by rw [nd_zero]; rfl
  have HS := hid (show sgn 0 = 0 from rfl)
  go_enter Tryz.func135,Tryz.ntmps135
  go_wp2_with fail
  refine ht.mono ?_
  rintro e w2 ⟨a2,c2,rfl,o2,b2⟩
  clear s0 s1 s2 s3 ht
  obtain ⟨k0,k1,k2,k3⟩ := HP.out w2 b2
  have HB := hid (HA.out.trans (b2.mono HA.out.size))
  clear o2 b2
  go_wp2
  go_ret
  exact ⟨by rw [HS.out]; rfl,(HB.out.setCell (p := ⟨w.heap.size,0,none⟩) (Nat.le_refl _) _).setCell (p := ⟨w.heap.size,1,none⟩) (Nat.le_refl _) _⟩
 ·have hnz : (((nd z.natAbs).length : Int) == 0) = false := by
   rw [beq_eq_false_iff_ne]
   intro h
   have := nd_eq_nil.1 (List.eq_nil_of_length_eq_zero (show (nd z.natAbs).length = 0 by omega))
   omega
  by_cases hn : z < 0
  ·have hd : decide (z < 0) = true := decide_eq_true hn
   have HS := hid (show sgn z = -1 by rw [sgn,if_pos hn])
   clear h0 hn
   go_enter Tryz.func135,Tryz.ntmps135
   go_wp2_with fail
   refine ht.mono ?_
   rintro e w2 ⟨a2,c2,rfl,o2,b2⟩
   clear s0 s1 s2 s3 ht
   obtain ⟨k0,k1,k2,k3⟩ := HP.out w2 b2
   have HB := hid (HA.out.trans (b2.mono HA.out.size))
   clear o2 b2
   rw [hd]
   clear hd
   go_wp2
   go_ret
   exact ⟨by rw [HS.out]; rfl,(HB.out.setCell (p := ⟨w.heap.size,0,none⟩) (Nat.le_refl _) _).setCell (p := ⟨w.heap.size,1,none⟩) (Nat.le_refl _) _⟩
  ·have hd : decide (z < 0) = false := decide_eq_false hn
   have HS := hid (show sgn z = 1 by rw [sgn,if_neg hn,if_neg h0])
   clear h0 hn
   go_enter Tryz.func135,Tryz.ntmps135
   go_wp2_with fail
   refine ht.mono ?_
   rintro e w2 ⟨a2,c2,rfl,o2,b2⟩
   clear s0 s1 s2 s3 ht
   obtain ⟨k0,k1,k2,k3⟩ := HP.out w2 b2
   have HB := hid (HA.out.trans (b2.mono HA.out.size))
   clear o2 b2
   rw [hd]
   clear hd
   go_wp2
   go_ret
   exact ⟨by rw [HS.out]; rfl,(HB.out.setCell (p := ⟨w.heap.size,0,none⟩) (Nat.le_refl _) _).setCell (p := ⟨w.heap.size,1,none⟩) (Nat.le_refl _) _⟩
end Go.Proofs.YtcankknlbljicaaGreatDoor

namespace Go.Proofs.YtcankknlbljicaaGreatDoor
open Go.RowKit Num

end Go.Proofs.YtcankknlbljicaaGreatDoor
