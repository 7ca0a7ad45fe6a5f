/- The reference's Normal. -/
import Derived.Test.YtbcaigpdckencaaGreatDoorQi

namespace Go.Proofs.YtbcaigpdckencaaGreatDoor
open Go.RowKit Num

theorem rnormal_any (ao : Option Addr) (c : Nat) (xs : List Nat) (b : Bool) (w : World) (h : Rd w ao c xs) (hb : b = true ↔ nrm xs) :
    Calls Tryz.prog 85 #[.slice ao xs.length c] w fun e w' => e = .returned (.bool b) ∧ w = w' := by
  have hle := h.le
  have hcm := h.cm
  by_cases h0 : xs.length = 0
  · have hb0 : ((xs.length : Int) == 0) = true := by simp [h0]
    have hbt : b = true := hb.2 (Or.inl (List.eq_nil_of_length_eq_zero h0))
    subst hbt
    clear h
    go_enter Tryz.func85, Tryz.ntmps85
    go_wp2
    go_ret
    exact ⟨rfl, rfl⟩
  · rcases h.lies with h1 | ⟨bl, off, rfl, hcell⟩
    · simp [h1] at h0
    · have hb0 : ((xs.length : Int) == 0) = false := beq_eq_false_iff_ne.2 (by omega)
      obtain ⟨d, hd⟩ : ∃ d, xs.getD (xs.length - 1) 0 = d := ⟨_, rfl⟩
      have hc := hcell (xs.length - 1) (by omega)
      rw [hd] at hc
      have hbd : ((d : Int) != 0) = b := by
        rw [Bool.eq_iff_iff, hb, nrm, hd, bne_iff_ne]
        constructor
        · intro h; right; omega
        · rintro (h | h)
          · simp [h] at h0
          · omega
      clear hd hcell h hb
      go_enter Tryz.func85, Tryz.ntmps85
      go_wp2
      go_ret
      exact ⟨rfl, rfl⟩
end Go.Proofs.YtbcaigpdckencaaGreatDoor
