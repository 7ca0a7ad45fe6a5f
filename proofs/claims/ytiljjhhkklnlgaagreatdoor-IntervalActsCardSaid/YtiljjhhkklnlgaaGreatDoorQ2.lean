/-  -/
import Derived.Test.YtiljjhhkklnlgaaGreatDoorQ1

set_option linter.unusedVariables false
set_option linter.unusedSimpArgs false
set_option linter.unusedSectionVars false
set_option maxRecDepth 100000
set_option maxHeartbeats 3200000

namespace Go.Proofs.YtiljjhhkklnlgaaGreatDoor
open Go.RowKit Num

def canon (b : Bool) (xs ds : List Nat) : Prop := (nrm xs ∧ ¬ (b = true ∧ xs = [])) ∧ nrm ds ∧ ds ≠ [] ∧ Nat.gcd (val xs) (val ds) = 1
theorem valid3_any (b : Bool) (ao ad : Option Addr) (c d : Nat) (xs ds : List Nat) (w : World) (hx : Rd w ao c xs) (hd : Rd w ad d ds) (hl1 : xs.length ≤ 4398046511104) (hl2 : ds.length ≤ 4398046511104) (hT : Tb w) (r : Bool) (hr : r = true ↔ canon b xs ds) :
  Calls Tryz.prog 115 #[.agg #[.bool b, .slice ao xs.length c, .slice ad ds.length d]] w (RetB (.bool r) w) := by
 have hle1 := hx.le
 have hcm1 := hx.cm
 have hle2 := hd.le
 have hcm2 := hd.cm
 have hB := below_alloc w (.cells #[.bool b, .slice ao xs.length c, .slice ad ds.length d] 26)
 have HH := hid (heap_alloc_at w (.cells #[.bool b, .slice ao xs.length c, .slice ad ds.length d] 26))
 have HB := hid hB
 obtain ⟨v, hv⟩ : ∃ v : Bool, v = true ↔ nrm xs ∧ ¬ (b = true ∧ xs = []) := by
  by_cases h : nrm xs ∧ ¬ (b = true ∧ xs = [])
  ·exact ⟨true, by simp [h]⟩
  ·exact ⟨false, by simp only [Bool.false_eq_true, false_iff]; exact h⟩
 obtain ⟨u, hu⟩ : ∃ u : Bool, u = true ↔ nrm ds := by
  by_cases h : nrm ds
  ·exact ⟨true, by simp [h]⟩
  ·exact ⟨false, by simp only [Bool.false_eq_true, false_iff]; exact h⟩
 have h1 := ivalid_any b ao c xs v _ (hx.below hB) hv
 have H2 := hid (fun w' (h : Rd w' ad d ds) => normal_any ad d ds u w' h hu)
 have HR := hid (And.intro (hx.below hB) (hd.below hB))
 have HTT := hid (hT.below hB)
 have HG := hid (fun w' (h3 : Rd w' ao c xs) (h4 : Rd w' ad d ds) (h5 : Tb w') => gcd_any ao ad c d xs ds w' h3 h4 hl1 hl2 h5)
 have lG : (nd (Nat.gcd (val xs) (val ds))).length ≤ 17592186044416 ∨ ds = [] := by
  by_cases h0 : val ds = 0
  ·left
   rw [h0, Nat.gcd_zero_right]
   exact Nat.le_trans (nd_length_le_of hx.dg) (by omega)
  ·left
   exact Nat.le_trans (nd_length_mono (Nat.gcd_le_right _ (Nat.pos_of_ne_zero h0))) (Nat.le_trans (nd_length_le_of hd.dg) (by omega))
 have lG2 : (nd (Nat.gcd (val xs) (val ds))).length ≤ 17592186044416 := by
  rcases lG with h | h
  ·exact h
  ·rw [h, show val [] = 0 from rfl, Nat.gcd_zero_right]; exact Nat.le_trans (nd_length_le_of hx.dg) (by omega)
 obtain ⟨G, hG⟩ : ∃ G, G = Nat.gcd (val xs) (val ds) := ⟨_, rfl⟩
 rw [← hG] at lG2
 simp only [← hG] at HG
 have hr2 : r = true ↔ (v = true ∧ u = true ∧ ds.length ≠ 0 ∧ G = 1) := by
  rw [hr, hv, hu, hG]
  unfold canon
  have e : ds ≠ [] ↔ ds.length ≠ 0 := by rw [Ne, Ne, List.length_eq_zero_iff]
  rw [e]
 clear hx hd hB hT hv hu hr lG hG hl1 hl2
 cases v
 ·obtain rfl : r = false := by
   cases r with
   | false => rfl
   | true => exact absurd (hr2.1 rfl).1 (by simp)
  clear hr2
  go_enter Tryz.func115, Tryz.ntmps115
  go_wp2_with fail
  refine h1.mono ?_
  rintro e w1 ⟨rfl, f1⟩
  have H3 := hid (HB.out.trans (f1.mono HB.out.size))
  clear h1 f1
  go_wp2
  go_ret
  exact ⟨rfl, H3.out⟩
 ·cases u
  ·obtain rfl : r = false := by
    cases r with
    | false => rfl
    | true => exact absurd (hr2.1 rfl).2.1 (by simp)
   clear hr2
   go_enter Tryz.func115, Tryz.ntmps115
   go_wp2_with fail
   refine h1.mono ?_
   rintro e w1 ⟨rfl, f1⟩
   obtain ⟨s0, s1, s2, _⟩ := cells3 HH.out f1
   have h2 := H2.out w1 (HR.out.2.below f1)
   have H3 := hid (HB.out.trans (f1.mono HB.out.size))
   clear h1 f1
   go_wp2_with fail
   refine h2.mono ?_
   rintro e w2 ⟨rfl, rfl⟩
   clear h2
   go_wp2
   go_ret
   exact ⟨rfl, H3.out⟩
  ·by_cases hn : ds.length = 0
   ·obtain rfl : r = false := by
     cases r with
     | false => rfl
     | true => exact absurd hn (hr2.1 rfl).2.2.1
    obtain rfl := List.eq_nil_of_length_eq_zero hn
    simp only [List.length_nil] at HH HB h1 HR H2 hle2 ⊢
    clear hr2 hn HG HTT
    go_enter Tryz.func115, Tryz.ntmps115
    go_wp2_with fail
    refine h1.mono ?_
    rintro e w1 ⟨rfl, f1⟩
    obtain ⟨s0, s1, s2, _⟩ := cells3 HH.out f1
    have h2 := H2.out w1 (HR.out.2.below f1)
    have H3 := hid (HB.out.trans (f1.mono HB.out.size))
    clear h1 f1
    go_wp2_with fail
    refine h2.mono ?_
    rintro e w2 ⟨rfl, rfl⟩
    clear h2
    go_wp2
    go_ret
    exact ⟨rfl, H3.out⟩
   ·have hz : ((ds.length : Int) == 0) = false := by rw [beq_eq_false_iff_ne]; omega
    have hr3 : r = true ↔ G = 1 := by rw [hr2]; exact ⟨fun h => h.2.2.2, fun h => ⟨rfl, rfl, hn, h⟩⟩
    clear hr2 hn
    go_enter Tryz.func115, Tryz.ntmps115
    go_wp2_with fail
    refine h1.mono ?_
    rintro e w1 ⟨rfl, f1⟩
    obtain ⟨s0, s1, s2, _⟩ := cells3 HH.out f1
    have h2 := H2.out w1 (HR.out.2.below f1)
    have hg := HG.out w1 (HR.out.1.below f1) (HR.out.2.below f1) (HTT.out.below f1)
    have H3 := hid (HB.out.trans (f1.mono HB.out.size))
    have HR3 := hid hr3
    clear h1 f1 hr3
    go_wp2_with fail
    refine h2.mono ?_
    rintro e w2 ⟨rfl, rfl⟩
    clear h2
    go_wp2_with fail
    refine hg.mono ?_
    rintro e w3 ⟨ag, cg, rfl, og, f3⟩
    have hio := isOne_any ag cg (nd G) w3 og.rd lG2 r (by rw [val_nd]; exact HR3.out)
    have H4 := hid (H3.out.trans (f3.mono H3.out.size))
    clear hg og f3
    go_wp2_with fail
    refine hio.mono ?_
    rintro e w4 ⟨rfl, rfl⟩
    clear hio
    go_wp2
    go_ret
    exact ⟨rfl, H4.out⟩

end Go.Proofs.YtiljjhhkklnlgaaGreatDoor
