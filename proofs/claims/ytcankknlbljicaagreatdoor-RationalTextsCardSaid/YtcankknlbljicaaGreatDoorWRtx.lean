/-  -/
import Derived.Test.YtcankknlbljicaaGreatDoorW8

set_option linter.unusedVariables false
set_option linter.unusedSimpArgs false
set_option linter.unusedSectionVars false
set_option maxRecDepth 100000
set_option maxHeartbeats 3200000

namespace Go.Proofs.YtcankknlbljicaaGreatDoor
open Go.RowKit Num

theorem decR_dv (n : Nat) : ∀ bs : List Nat, bs.length = n → dgs bs → bs ≠ [] → bs.getD 0 0 ≠ 48 → dv bs ≠ 0 ∧ decR (dv bs) = bs.reverse := by
 induction n with
 | zero => intro bs h _ hn _; exact absurd (List.eq_nil_of_length_eq_zero h) hn
 | succ n ih =>
  intro bs h hd hn h0
  obtain ⟨l, b, rfl⟩ : ∃ l b, bs = l ++ [b] := ⟨bs.dropLast, bs.getLast hn, (List.dropLast_concat_getLast hn).symm⟩
  have hb := hd b (by simp)
  have hl : l.length = n := by simpa using h
  rw [dv_snoc]
  by_cases hz : l = []
  ·subst hz
   have hb0 : b ≠ 48 := by simpa using h0
   have e0 : 10 * dv [] + (b - 48) = b - 48 := by simp [dv]
   rw [e0]
   refine ⟨by omega, ?_⟩
   rw [decR_step (by omega), show (b - 48) / 10 = 0 by omega, decR_zero, show 48 + (b - 48) % 10 = b by omega]
   rfl
  ·have h1 : (l ++ [b]).getD 0 0 = l.getD 0 0 := by
    cases l with
    | nil => exact absurd rfl hz
    | cons x xs => rfl
   rw [h1] at h0
   obtain ⟨h2, h3⟩ := ih l hl (fun x hx => hd x (by simp [hx])) hz h0
   refine ⟨by omega, ?_⟩
   rw [decR_step (by omega), show (10 * dv l + (b - 48)) / 10 = dv l by omega, h3, show 48 + (10 * dv l + (b - 48)) % 10 = b by omega]
   simp
theorem parsed_back {bs : List Nat} {V : Nat} (h : Parsed bs V 0) : decT V = bs := by
 rcases h with ⟨_, _, h⟩ | ⟨rfl, rfl, _⟩ | ⟨_, _, _, h⟩ | ⟨_, _, _, _, h⟩ | ⟨_, h1, h2, ⟨h3, h4, _⟩ | ⟨_, _, h⟩⟩
 ·omega
 ·rfl
 ·omega
 ·omega
 ·subst h4
  obtain ⟨h5, h6⟩ := decR_dv bs.length bs rfl h3 (fun h => by subst h; simp at h1) h2
  rw [decT, if_neg h5, h6, List.reverse_reverse]
 ·omega
end Go.Proofs.YtcankknlbljicaaGreatDoor
