/- Integers: Valid. -/
import Derived.Test.YtbcaigpdckencaaGreatDoorQIa0

namespace Go.Proofs.YtbcaigpdckencaaGreatDoor
open Go.RowKit Num

set_option maxRecDepth 100000 in
theorem ivalid_any (b : Bool) (ao : Option Addr) (c : Nat) (xs : List Nat) (r : Bool) (w : World) (h : Rd w ao c xs) (hr : r = true ↔ nrm xs ∧ ¬ (b = true ∧ xs = [])) :
    Calls Tryz.prog 12 #[.agg #[.bool b, .slice ao xs.length c]] w (RetB (.bool r) w) := by
  have hba := below_alloc w (.cells #[.bool b, .slice ao xs.length c] 24)
  have hx1 := heap_alloc_at w (.cells #[.bool b, .slice ao xs.length c] 24)
  obtain ⟨nb, hnb⟩ : ∃ nb : Bool, nb = true ↔ nrm xs := by
    by_cases h : nrm xs
    · exact ⟨true, by simp [h]⟩
    · exact ⟨false, by simp [h]⟩
  have hc := normal_any ao c xs nb _ (h.below hba) hnb
  obtain ⟨s0, s1, _, _⟩ := pair_cells (W := w.alloc (.cells #[.bool b, .slice ao xs.length c] 24)) hx1 (Below.refl _ _)
  have H := hid hba
  clear hba hx1 h
  generalize hw1 : w.alloc (.cells #[.bool b, .slice ao xs.length c] 24) = w1 at hc H s0 s1
  cases nb
  · obtain rfl : r = false := by
      cases r with
      | false => rfl
      | true => exact absurd (hnb.2 (hr.1 rfl).1) (by simp)
    clear hr hnb
    subst hw1
    go_enter Tryz.func12, Tryz.ntmps12
    go_wp2_with fail
    refine hc.mono ?_
    rintro e w' ⟨rfl, rfl⟩
    clear hc
    go_wp2
    go_ret
    exact ⟨rfl, H.out⟩
  · have hn : nrm xs := hnb.1 rfl
    cases b
    · obtain rfl : r = true := hr.2 ⟨hn, by simp⟩
      clear hr hnb hn
      subst hw1
      go_enter Tryz.func12, Tryz.ntmps12
      go_wp2_with fail
      refine hc.mono ?_
      rintro e w' ⟨rfl, rfl⟩
      clear hc
      go_wp2
      go_ret
      exact ⟨rfl, H.out⟩
    · by_cases h0 : xs = []
      · obtain rfl : r = false := by
          cases r with
          | false => rfl
          | true => exact absurd ⟨rfl, h0⟩ (hr.1 rfl).2
        have hl : (((xs.length : Nat) : Int) == 0) = true := by rw [h0]; rfl
        clear hr hnb hn h0
        subst hw1
        go_enter Tryz.func12, Tryz.ntmps12
        go_wp2_with fail
        refine hc.mono ?_
        rintro e w' ⟨rfl, rfl⟩
        clear hc
        go_wp2
        go_ret
        exact ⟨rfl, H.out⟩
      · obtain rfl : r = true := hr.2 ⟨hn, fun h => h0 h.2⟩
        have hl : (((xs.length : Nat) : Int) == 0) = false := by
          rw [beq_eq_false_iff_ne]
          have := List.length_pos_iff.2 h0
          omega
        clear hr hnb hn h0
        subst hw1
        go_enter Tryz.func12, Tryz.ntmps12
        go_wp2_with fail
        refine hc.mono ?_
        rintro e w' ⟨rfl, rfl⟩
        clear hc
        go_wp2
        go_ret
        exact ⟨rfl, H.out⟩
end Go.Proofs.YtbcaigpdckencaaGreatDoor
