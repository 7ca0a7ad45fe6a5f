/-  -/
import Derived.Test.YtcankknlbljicaaGreatDoorWbh

set_option linter.unusedVariables false
set_option linter.unusedSimpArgs false
set_option linter.unusedSectionVars false
set_option maxRecDepth 100000
set_option maxHeartbeats 3200000

namespace Go.Proofs.YtcankknlbljicaaGreatDoor
open Go.RowKit Num

def RPar (bs : List Nat) (q : Rat) (er : Int) : Prop :=
 ∃ a r f z, CutS bs a r f ∧ ((IParsed a z 6 ∧ er = 6) ∨ (IParsed a z 0 ∧ f = false ∧ er = 0 ∧ q = ((z : Int) : Rat)) ∨
  (IParsed a z 0 ∧ f = true ∧ ∃ V, (Parsed r V 6 ∧ er = 6) ∨ (Parsed r V 0 ∧ V = 1 ∧ er = 6) ∨
   (Parsed r V 0 ∧ V ≠ 1 ∧ ¬ canon (decide (z < 0)) (nd z.natAbs) (nd V) ∧ er = 6) ∨ (Parsed r V 0 ∧ V ≠ 1 ∧ canon (decide (z < 0)) (nd z.natAbs) (nd V) ∧ er = 0 ∧ q.num = z ∧ q.den = V)))
theorem cutS_len {bs a r : List Nat} {f : Bool} (h : CutS bs a r f) : a.length ≤ bs.length ∧ r.length ≤ bs.length := by
 rcases h with ⟨_, h2, _⟩ | ⟨_, h2, h3, _⟩
 ·rw [h2]; simp; omega
 ·rw [h2, h3]; simp
theorem parsed_er {bs : List Nat} {V : Nat} {er : Int} (h : Parsed bs V er) (hl : bs.length ≤ 4096) : er = 0 ∨ er = 6 := by
 rcases h with h | h | h | h | h
 ·omega
 ·exact Or.inl h.2.2
 ·exact Or.inr h.2.2.2
 ·exact Or.inr h.2.2.2.2
 ·rcases h.2.2.2 with h | h
  ·exact Or.inl h.2.2
  ·exact Or.inr h.2.2
theorem iparsed_er {bs : List Nat} {z er : Int} (h : IParsed bs z er) (hl : bs.length ≤ 4096) : er = 0 ∨ er = 6 := by
 rcases h with h | ⟨_, neg, ts, V, e, _, _, h | h | h⟩
 ·omega
 ·exact Or.inr h.2.2
 ·exact Or.inr h.2.2.2.2
 ·exact Or.inl h.2.2.2
theorem canon_rat {z : Int} {V : Nat} (h : canon (decide (z < 0)) (nd z.natAbs) (nd V)) : ∃ q : Rat, q.num = z ∧ q.den = V := by
 obtain ⟨_, _, h3, h4⟩ := h
 have hV : V ≠ 0 := by intro he; subst he; exact h3 (by simp [nd_zero])
 rw [val_nd, val_nd] at h4
 exact ⟨⟨z, V, hV, h4⟩, rfl, rfl⟩
theorem rpar_some (bs : List Nat) (hl : bs.length ≤ 4096) : ∃ q er, RPar bs q er := by
 obtain ⟨a, r, f, hc⟩ := cutS_some bs
 have hl2 := cutS_len hc
 obtain ⟨z, e, hi⟩ := iparsed_some a
 rcases iparsed_er hi (by omega) with rfl | rfl
 ·cases f with
  | false => exact ⟨_, 0, a, r, false, z, hc, Or.inr (Or.inl ⟨hi, rfl, rfl, rfl⟩)⟩
  | true =>
   obtain ⟨V, e2, hp⟩ := parsed_some r
   rcases parsed_er hp (by omega) with rfl | rfl
   ·by_cases h1 : V = 1
    ·exact ⟨0, 6, a, r, true, z, hc, Or.inr (Or.inr ⟨hi, rfl, V, Or.inr (Or.inl ⟨hp, h1, rfl⟩)⟩)⟩
    ·by_cases h2 : canon (decide (z < 0)) (nd z.natAbs) (nd V)
     ·obtain ⟨q, hq1, hq2⟩ := canon_rat h2
      exact ⟨q, 0, a, r, true, z, hc, Or.inr (Or.inr ⟨hi, rfl, V, Or.inr (Or.inr (Or.inr ⟨hp, h1, h2, rfl, hq1, hq2⟩))⟩)⟩
     ·exact ⟨0, 6, a, r, true, z, hc, Or.inr (Or.inr ⟨hi, rfl, V, Or.inr (Or.inr (Or.inl ⟨hp, h1, h2, rfl⟩))⟩)⟩
   ·exact ⟨0, 6, a, r, true, z, hc, Or.inr (Or.inr ⟨hi, rfl, V, Or.inl ⟨hp, rfl⟩⟩)⟩
 ·exact ⟨0, 6, a, r, f, z, hc, Or.inl ⟨hi, rfl⟩⟩
theorem dv_small {bs : List Nat} (h : dgs bs) : dv bs < 10 ^ bs.length := by
 have key : ∀ (n : Nat) (l : List Nat), l.length = n → dgs l → dv l < 10 ^ l.length := by
  intro n
  induction n with
  | zero => intro l hl _; rw [List.length_eq_zero_iff.1 hl]; decide
  | succ n ih =>
   intro l hl hd
   have hne : l ≠ [] := by intro he; rw [he] at hl; simp at hl
   obtain ⟨t, b, rfl⟩ : ∃ t b, l = t ++ [b] := ⟨l.dropLast, l.getLast hne, (List.dropLast_concat_getLast hne).symm⟩
   have h1 := ih t (by simpa using hl) (fun x hx => hd x (by simp [hx]))
   have h2 := hd b (by simp)
   rw [dv_snoc, List.length_append]
   have e1 : ([b] : List Nat).length = 1 := rfl
   rw [e1, Nat.pow_succ]
   omega
 exact key _ bs rfl h
theorem digits_small {v k : Nat} (h : v < 10 ^ k) : (nd v).length ≤ k :=
 nd_length_le (Nat.lt_of_lt_of_le h (Nat.pow_le_pow_left (by decide) k))
theorem parsed_small {bs : List Nat} {V : Nat} {er : Int} (h : Parsed bs V er) (hl : bs.length ≤ 4096) : (nd V).length ≤ 4096 := by
 have h0 : (nd 0).length ≤ 4096 := by rw [nd_zero]; exact Nat.zero_le _
 rcases h with h | h | h | h | h
 ·rw [h.2.1]; exact h0
 ·rw [h.2.1]; exact h0
 ·rw [h.2.2.1]; exact h0
 ·rw [h.2.2.2.1]; exact h0
 ·rcases h.2.2.2 with h | h
  ·rw [h.2.1]; exact Nat.le_trans (digits_small (dv_small h.1)) hl
  ·rw [h.2.1]; exact h0
theorem iparsed_small {bs : List Nat} {z er : Int} (h : IParsed bs z er) (hl : bs.length ≤ 4096) : (nd z.natAbs).length ≤ 4096 := by
 have h0 : (nd (0 : Int).natAbs).length ≤ 4096 := by rw [show (0 : Int).natAbs = 0 from rfl, nd_zero]; exact Nat.zero_le _
 rcases h with h | ⟨_, neg, ts, V, e, hc, hp, h | h | h⟩
 ·rw [h.2.1]; exact h0
 ·rw [h.2.1]; exact h0
 ·rw [h.2.2.2.1]; exact h0
 ·rw [h.2.2.1, iv_abs]
  exact parsed_small hp (Nat.le_trans (cuts_len hc).1 hl)
theorem rparse_all (bs : List Nat) (w : World) (q : Rat) (er : Int) (hb : ∀ b ∈ bs, b < 256) (hlen : bs.length ≤ 4096) (h : RPar bs q er) (hT : Tb w) :
  Calls Tryz.prog 14 #[.string (bstr bs)] w (RetRatE q er w) := by
 obtain ⟨a, r, f, z, hc, h⟩ := h
 have hl2 := cutS_len hc
 rcases h with ⟨hi, rfl⟩ | ⟨hi, rfl, rfl, rfl⟩ | ⟨hi, rfl, V, h⟩
 ·exact rparse_e1 bs a r f z w hb hlen hc hi q
 ·exact rparse_int bs a r z w hb hlen hc hi
 ·have hz := iparsed_small hi (by omega)
  rcases h with ⟨hp, rfl⟩ | ⟨hp, h1, rfl⟩ | ⟨hp, h1, h2, rfl⟩ | ⟨hp, h1, h2, rfl, hq1, hq2⟩
  ·exact rparse_e2 bs a r z w hb hlen hc hi V hp q
  ·have hv := parsed_small hp (by omega)
   exact rparse_one bs a r z w hb hlen hc hi V hp (hid (by omega)) (hid h1) q
  ·have hv := parsed_small hp (by omega)
   exact rparse_bad bs a r z w hb hlen hc hi V hp (hid (by omega)) (hid h1) (hid (by omega)) (hid (by omega)) (hid fun w' g => hT.below g) (hid h2) q
  ·have hv := parsed_small hp (by omega)
   exact rparse_rat bs a r z w hb hlen hc hi V hp (hid (by omega)) (hid h1) (hid (by omega)) (hid (by omega)) (hid fun w' g => hT.below g) (hid h2) q ⟨hq1, hq2⟩
end Go.Proofs.YtcankknlbljicaaGreatDoor
