/-  -/
import Derived.Test.YtcankknlbljicaaGreatDoorWq

set_option linter.unusedVariables false
set_option linter.unusedSimpArgs false
set_option linter.unusedSectionVars false
set_option maxRecDepth 100000
set_option maxHeartbeats 3200000

namespace Go.Proofs.YtcankknlbljicaaGreatDoor
open Go.RowKit Num

def B2 (w : World) (b1 b2 : Bool) (aa ab : Option Addr) (n1 n2 ca cb : Nat) : World :=
 (w.alloc (.cells #[.bool b1, .slice aa n1 ca] 24)).alloc (.cells #[.bool b2, .slice ab n2 cb] 24)
def cmpI (a b : Int) : Int := if a < b then -1 else if b < a then 1 else 0
end Go.Proofs.YtcankknlbljicaaGreatDoor

namespace Go.Proofs.YtcankknlbljicaaGreatDoor
open Go.RowKit Num

theorem ivalid_any (b : Bool) (ao : Option Addr) (c : Nat) (xs : List Nat) (r : Bool) (w : World) (h : Rd w ao c xs) (hr : r = true ↔ nrm xs ∧ ¬ (b = true ∧ xs = [])) :
  Calls Tryz.prog 148 #[.agg #[.bool b, .slice ao xs.length c]] w (RetB (.bool r) w) := by
 have hba := below_alloc w (.cells #[.bool b, .slice ao xs.length c] 24)
 have hx1 := heap_alloc_at w (.cells #[.bool b, .slice ao xs.length c] 24)
 obtain ⟨nb, hnb⟩ : ∃ nb : Bool, nb = true ↔ nrm xs := by
  by_cases h : nrm xs
  ·exact ⟨true, by simp [h]⟩
  ·exact ⟨false, by simp [h]⟩
 have hc := normal_any ao c xs nb _ (h.below hba) hnb
 obtain ⟨s0, s1, _, _⟩ := pair_cells (W := w.alloc (.cells #[.bool b, .slice ao xs.length c] 24)) hx1 (Below.refl _ _)
 have H := hid hba
 clear hba hx1 h
 generalize hw1 : w.alloc (.cells #[.bool b, .slice ao xs.length c] 24) = w1 at hc H s0 s1
 cases nb
 ·obtain rfl : r = false := by
   cases r with
   | false => rfl
   | true => exact absurd (hnb.2 (hr.1 rfl).1) (by simp)
  clear hr hnb
  subst hw1
  go_enter Tryz.func148, Tryz.ntmps148
  go_wp2_with fail
  refine hc.mono ?_
  rintro e w' ⟨rfl, rfl⟩
  clear hc
  go_wp2
  go_ret
  exact ⟨rfl, H.out⟩
 ·have hn : nrm xs := hnb.1 rfl
  cases b
  ·obtain rfl : r = true := hr.2 ⟨hn, by simp⟩
   clear hr hnb hn
   subst hw1
   go_enter Tryz.func148, Tryz.ntmps148
   go_wp2_with fail
   refine hc.mono ?_
   rintro e w' ⟨rfl, rfl⟩
   clear hc
   go_wp2
   go_ret
   exact ⟨rfl, H.out⟩
  ·by_cases h0 : xs = []
   ·obtain rfl : r = false := by
     cases r with
     | false => rfl
     | true => exact absurd ⟨rfl, h0⟩ (hr.1 rfl).2
    have hl : (((xs.length : Nat) : Int) == 0) = true := by rw [h0]; rfl
    clear hr hnb hn h0
    subst hw1
    go_enter Tryz.func148, Tryz.ntmps148
    go_wp2_with fail
    refine hc.mono ?_
    rintro e w' ⟨rfl, rfl⟩
    clear hc
    go_wp2
    go_ret
    exact ⟨rfl, H.out⟩
   ·obtain rfl : r = true := hr.2 ⟨hn, fun h => h0 h.2⟩
    have hl : (((xs.length : Nat) : Int) == 0) = false := by
     rw [beq_eq_false_iff_ne]
     have := List.length_pos_iff.2 h0
     omega
    clear hr hnb hn h0
    subst hw1
    go_enter Tryz.func148, Tryz.ntmps148
    go_wp2_with fail
    refine hc.mono ?_
    rintro e w' ⟨rfl, rfl⟩
    clear hc
    go_wp2
    go_ret
    exact ⟨rfl, H.out⟩
end Go.Proofs.YtcankknlbljicaaGreatDoor

namespace Go.Proofs.YtcankknlbljicaaGreatDoor
open Go.RowKit Num

theorem rsign_any (b : Bool) (ao : Option Addr) (c : Nat) (xs : List Nat) (w : World) (h : Rd w ao c xs) (hl : xs.length ≤ 17592186044416) :
  Calls Tryz.prog 135 #[.agg #[.bool b, .slice ao xs.length c]] w (RetB (.int .i64 (sgn (iv b (val xs)))) w) := by
 have hba := below_alloc w (.cells #[.bool b, .slice ao xs.length c] 24)
 have hx1 := heap_alloc_at w (.cells #[.bool b, .slice ao xs.length c] 24)
 have ht := rtrim2_any b ao c xs _ (h.below hba) hl
 obtain ⟨z, hz⟩ : ∃ z, z = iv b (val xs) := ⟨_, rfl⟩
 rw [← hz] at ht ⊢
 have HP := hid (fun w' => pair_cells (w' := w') hx1)
 have HA := hid hba
 have hzl : (nd z.natAbs).length ≤ 17592186044416 := by rw [hz, iv_abs]; exact Nat.le_trans (nd_length_le_of h.dg) hl
 clear h hba hx1 hz
 obtain ⟨s0, s1, s2, s3⟩ := HP.out _ (Below.refl _ _)
 by_cases h0 : z = 0
 ·subst h0
  have hnz : (((nd 0).length : Int) == 0) = true := by rw [nd_zero]; rfl
  have HS := hid (show sgn 0 = 0 from rfl)
  go_enter Tryz.func135, Tryz.ntmps135
  go_wp2_with fail
  refine ht.mono ?_
  rintro e w2 ⟨a2, c2, rfl, o2, b2⟩
  clear s0 s1 s2 s3 ht
  obtain ⟨k0, k1, k2, k3⟩ := HP.out w2 b2
  have HB := hid (HA.out.trans (b2.mono HA.out.size))
  clear o2 b2
  go_wp2
  go_ret
  exact ⟨by rw [HS.out]; rfl, (HB.out.setCell (p := ⟨w.heap.size, 0, none⟩) (Nat.le_refl _) _).setCell (p := ⟨w.heap.size, 1, none⟩) (Nat.le_refl _) _⟩
 ·have hnz : (((nd z.natAbs).length : Int) == 0) = false := by
   rw [beq_eq_false_iff_ne]
   intro h
   have := nd_eq_nil.1 (List.eq_nil_of_length_eq_zero (show (nd z.natAbs).length = 0 by omega))
   omega
  by_cases hn : z < 0
  ·have hd : decide (z < 0) = true := decide_eq_true hn
   have HS := hid (show sgn z = -1 by rw [sgn, if_pos hn])
   clear h0 hn
   go_enter Tryz.func135, Tryz.ntmps135
   go_wp2_with fail
   refine ht.mono ?_
   rintro e w2 ⟨a2, c2, rfl, o2, b2⟩
   clear s0 s1 s2 s3 ht
   obtain ⟨k0, k1, k2, k3⟩ := HP.out w2 b2
   have HB := hid (HA.out.trans (b2.mono HA.out.size))
   clear o2 b2
   rw [hd]
   clear hd
   go_wp2
   go_ret
   exact ⟨by rw [HS.out]; rfl, (HB.out.setCell (p := ⟨w.heap.size, 0, none⟩) (Nat.le_refl _) _).setCell (p := ⟨w.heap.size, 1, none⟩) (Nat.le_refl _) _⟩
  ·have hd : decide (z < 0) = false := decide_eq_false hn
   have HS := hid (show sgn z = 1 by rw [sgn, if_neg hn, if_neg h0])
   clear h0 hn
   go_enter Tryz.func135, Tryz.ntmps135
   go_wp2_with fail
   refine ht.mono ?_
   rintro e w2 ⟨a2, c2, rfl, o2, b2⟩
   clear s0 s1 s2 s3 ht
   obtain ⟨k0, k1, k2, k3⟩ := HP.out w2 b2
   have HB := hid (HA.out.trans (b2.mono HA.out.size))
   clear o2 b2
   rw [hd]
   clear hd
   go_wp2
   go_ret
   exact ⟨by rw [HS.out]; rfl, (HB.out.setCell (p := ⟨w.heap.size, 0, none⟩) (Nat.le_refl _) _).setCell (p := ⟨w.heap.size, 1, none⟩) (Nat.le_refl _) _⟩
end Go.Proofs.YtcankknlbljicaaGreatDoor

namespace Go.Proofs.YtcankknlbljicaaGreatDoor
open Go.RowKit Num

end Go.Proofs.YtcankknlbljicaaGreatDoor
