/-  -/
import Derived.Test.YtcankknlbljicaaGreatDoorW1
import Derived.Test.YtcankknlbljicaaGreatDoorW8

set_option linter.unusedVariables false
set_option linter.unusedSimpArgs false
set_option linter.unusedSectionVars false
set_option maxRecDepth 100000
set_option maxHeartbeats 3200000

namespace Go.Proofs.YtcankknlbljicaaGreatDoor
open Go.RowKit Num

def canon (b : Bool) (xs ds : List Nat) : Prop := (nrm xs ∧ ¬ (b = true ∧ xs = [])) ∧ nrm ds ∧ ds ≠ [] ∧ Nat.gcd (val xs) (val ds) = 1
theorem valid3_any (b : Bool) (ao ad : Option Addr) (c d : Nat) (xs ds : List Nat) (w : World) (hx : Rd w ao c xs) (hd : Rd w ad d ds) (hl1 : xs.length ≤ 4398046511104) (hl2 : ds.length ≤ 4398046511104) (hT : Tb w) (r : Bool) (hr : r = true ↔ canon b xs ds) :
  Calls Tryz.prog 84 #[.agg #[.bool b, .slice ao xs.length c, .slice ad ds.length d]] w (RetB (.bool r) w) := by
 have hle1 := hx.le
 have hcm1 := hx.cm
 have hle2 := hd.le
 have hcm2 := hd.cm
 have hB := below_alloc w (.cells #[.bool b, .slice ao xs.length c, .slice ad ds.length d] 26)
 have HH := hid (heap_alloc_at w (.cells #[.bool b, .slice ao xs.length c, .slice ad ds.length d] 26))
 have HB := hid hB
 obtain ⟨v, hv⟩ : ∃ v : Bool, v = true ↔ nrm xs ∧ ¬ (b = true ∧ xs = []) := by
  by_cases h : nrm xs ∧ ¬ (b = true ∧ xs = [])
  ·exact ⟨true, by simp [h]⟩
  ·exact ⟨false, by simp only [Bool.false_eq_true, false_iff]; exact h⟩
 obtain ⟨u, hu⟩ : ∃ u : Bool, u = true ↔ nrm ds := by
  by_cases h : nrm ds
  ·exact ⟨true, by simp [h]⟩
  ·exact ⟨false, by simp only [Bool.false_eq_true, false_iff]; exact h⟩
 have h1 := ivalid_any b ao c xs v _ (hx.below hB) hv
 have H2 := hid (fun w' (h : Rd w' ad d ds) => normal_any ad d ds u w' h hu)
 have HR := hid (And.intro (hx.below hB) (hd.below hB))
 have HTT := hid (hT.below hB)
 have HG := hid (fun w' (h3 : Rd w' ao c xs) (h4 : Rd w' ad d ds) (h5 : Tb w') => gcd_any ao ad c d xs ds w' h3 h4 hl1 hl2 h5)
 have lG : (nd (Nat.gcd (val xs) (val ds))).length ≤ 17592186044416 ∨ ds = [] := by
  by_cases h0 : val ds = 0
  ·left
   rw [h0, Nat.gcd_zero_right]
   exact Nat.le_trans (nd_length_le_of hx.dg) (by omega)
  ·left
   exact Nat.le_trans (nd_length_mono (Nat.gcd_le_right _ (Nat.pos_of_ne_zero h0))) (Nat.le_trans (nd_length_le_of hd.dg) (by omega))
 have lG2 : (nd (Nat.gcd (val xs) (val ds))).length ≤ 17592186044416 := by
  rcases lG with h | h
  ·exact h
  ·rw [h, show val [] = 0 from rfl, Nat.gcd_zero_right]; exact Nat.le_trans (nd_length_le_of hx.dg) (by omega)
 obtain ⟨G, hG⟩ : ∃ G, G = Nat.gcd (val xs) (val ds) := ⟨_, rfl⟩
 rw [← hG] at lG2
 simp only [← hG] at HG
 have hr2 : r = true ↔ (v = true ∧ u = true ∧ ds.length ≠ 0 ∧ G = 1) := by
  rw [hr, hv, hu, hG]
  unfold canon
  have e : ds ≠ [] ↔ ds.length ≠ 0 := by rw [Ne, Ne, List.length_eq_zero_iff]
  rw [e]
 clear hx hd hB hT hv hu hr lG hG hl1 hl2
 cases v
 ·obtain rfl : r = false := by
   cases r with
   | false => rfl
   | true => exact absurd (hr2.1 rfl).1 (by simp)
  clear hr2
  go_enter Tryz.func84, Tryz.ntmps84
  go_wp2_with fail
  refine h1.mono ?_
  rintro e w1 ⟨rfl, f1⟩
  have H3 := hid (HB.out.trans (f1.mono HB.out.size))
  clear h1 f1
  go_wp2
  go_ret
  exact ⟨rfl, H3.out⟩
 ·cases u
  ·obtain rfl : r = false := by
    cases r with
    | false => rfl
    | true => exact absurd (hr2.1 rfl).2.1 (by simp)
   clear hr2
   go_enter Tryz.func84, Tryz.ntmps84
   go_wp2_with fail
   refine h1.mono ?_
   rintro e w1 ⟨rfl, f1⟩
   obtain ⟨s0, s1, s2, _⟩ := cells3 HH.out f1
   have h2 := H2.out w1 (HR.out.2.below f1)
   have H3 := hid (HB.out.trans (f1.mono HB.out.size))
   clear h1 f1
   go_wp2_with fail
   refine h2.mono ?_
   rintro e w2 ⟨rfl, rfl⟩
   clear h2
   go_wp2
   go_ret
   exact ⟨rfl, H3.out⟩
  ·by_cases hn : ds.length = 0
   ·obtain rfl : r = false := by
     cases r with
     | false => rfl
     | true => exact absurd hn (hr2.1 rfl).2.2.1
    obtain rfl := List.eq_nil_of_length_eq_zero hn
    simp only [List.length_nil] at HH HB h1 HR H2 hle2 ⊢
    clear hr2 hn HG HTT
    go_enter Tryz.func84, Tryz.ntmps84
    go_wp2_with fail
    refine h1.mono ?_
    rintro e w1 ⟨rfl, f1⟩
    obtain ⟨s0, s1, s2, _⟩ := cells3 HH.out f1
    have h2 := H2.out w1 (HR.out.2.below f1)
    have H3 := hid (HB.out.trans (f1.mono HB.out.size))
    clear h1 f1
    go_wp2_with fail
    refine h2.mono ?_
    rintro e w2 ⟨rfl, rfl⟩
    clear h2
    go_wp2
    go_ret
    exact ⟨rfl, H3.out⟩
   ·have hz : ((ds.length : Int) == 0) = false := by rw [beq_eq_false_iff_ne]; omega
    have hr3 : r = true ↔ G = 1 := by rw [hr2]; exact ⟨fun h => h.2.2.2, fun h => ⟨rfl, rfl, hn, h⟩⟩
    clear hr2 hn
    go_enter Tryz.func84, Tryz.ntmps84
    go_wp2_with fail
    refine h1.mono ?_
    rintro e w1 ⟨rfl, f1⟩
    obtain ⟨s0, s1, s2, _⟩ := cells3 HH.out f1
    have h2 := H2.out w1 (HR.out.2.below f1)
    have hg := HG.out w1 (HR.out.1.below f1) (HR.out.2.below f1) (HTT.out.below f1)
    have H3 := hid (HB.out.trans (f1.mono HB.out.size))
    have HR3 := hid hr3
    clear h1 f1 hr3
    go_wp2_with fail
    refine h2.mono ?_
    rintro e w2 ⟨rfl, rfl⟩
    clear h2
    go_wp2_with fail
    refine hg.mono ?_
    rintro e w3 ⟨ag, cg, rfl, og, f3⟩
    have hio := isOne_any ag cg (nd G) w3 og.rd lG2 r (by rw [val_nd]; exact HR3.out)
    have H4 := hid (H3.out.trans (f3.mono H3.out.size))
    clear hg og f3
    go_wp2_with fail
    refine hio.mono ?_
    rintro e w4 ⟨rfl, rfl⟩
    clear hio
    go_wp2
    go_ret
    exact ⟨rfl, H4.out⟩

end Go.Proofs.YtcankknlbljicaaGreatDoor

namespace Go.Proofs.YtcankknlbljicaaGreatDoor
open Go.RowKit Num

theorem rparse_e1 (bs a r : List Nat) (f : Bool) (z : Int) (w : World) (hb : ∀ b ∈ bs, b < 256) (hlen : bs.length ≤ 4096) (hcut : CutS bs a r f) (hip : IParsed a z 6) (q : Rat) :
  Calls Tryz.prog 14 #[.string (bstr bs)] w (RetRatE q 6 w) := by
 have hsz : (bstr bs).size = bs.length := bstr_size bs
 have hi : ¬ ((4096 : Int) < (bs.length : Int)) := by omega
 have hal : (∀ x ∈ a, x < 256) ∧ a.length ≤ 4096 ∧ (∀ x ∈ r, x < 256) ∧ r.length ≤ 4096 := by
  rcases hcut with ⟨_, h2, _⟩ | ⟨_, h2, h3, _⟩
  ·rw [h2] at hb hlen
   rw [List.length_append, List.length_cons] at hlen
   exact ⟨fun x hx => hb x (by simp [hx]), by omega, fun x hx => hb x (by simp [hx]), by omega⟩
  ·rw [h2, h3]
   exact ⟨hb, hlen, by simp, by simp⟩
 have hB := below_alloc w (.cells #[.bool false, .slice none 0 0, .slice none 0 0] 26)
 have HH := hid (heap_alloc_at w (.cells #[.bool false, .slice none 0 0, .slice none 0 0] 26))
 have HSZ := hid (show (w.alloc (.cells #[.bool false, .slice none 0 0, .slice none 0 0] 26)).heap.size = w.heap.size + 1 by simp)
 have HB := hid hB
 have hc := cut_slash bs a r f (w.alloc (.cells #[.bool false, .slice none 0 0, .slice none 0 0] 26)) hcut hb (by omega)
 have HIP := hid (fun w' => iparse_any a w' z 6 hal.1 (by omega) hip)
 obtain ⟨ρ, hρ⟩ : ∃ x : Rat, x = ((1 : Int) : Rat) := ⟨_, rfl⟩
 have hρ1 := hid (show ρ.den = 1 by rw [hρ]; rfl)
 have HOF := hid (fun w' => show Calls Tryz.prog 80 #[.int .i64 1] w' (RetRat ρ w') from hρ ▸ of3_any 1 w' (by omega) (by omega))
 have HAL := hid hal
 clear hB hcut hip hb hal hρ
 go_enter Tryz.func14, Tryz.ntmps14
 go_wp2_with fail
 obtain ⟨w0, hw0⟩ : ∃ x, x = (w.alloc (.cells #[.bool false, .slice none 0 0, .slice none 0 0] 26)) := ⟨_, rfl⟩
 rw [← hw0] at HH HSZ HB hc ⊢
 clear hw0
 refine hc.mono ?_
 rintro e w1 ⟨rfl, qd, rfl⟩
 obtain ⟨wd, hwd⟩ : ∃ x, x = w0.drewN qd := ⟨_, rfl⟩
 have p1 : Below w0.heap.size w0 wd := by rw [hwd]; exact below_drewN w0 qd
 rw [← hwd]
 clear hc hwd
 go_wp2_with fail
 refine (HOF.out wd).mono ?_
 rintro e w2 ⟨a2, c2, d2, e2, rfl, o2, u2, f2⟩
 have hx1 := o2.rd.le
 have hx2 := o2.rd.cm
 have hx3 := u2.rd.le
 have hx4 := u2.rd.cm
 have p2 := p1.trans (f2.mono p1.size)
 have QB := hid (heap_alloc_at w2 (.cells #[.bool (decide (ρ.num < 0)), .slice a2 (nd ρ.num.natAbs).length c2, .slice d2 (nd ρ.den).length e2] 26))
 have p3 := below_al p2 (.cells #[.bool (decide (ρ.num < 0)), .slice a2 (nd ρ.num.natAbs).length c2, .slice d2 (nd ρ.den).length e2] 26)
 have U3 := hid (own_al u2 (.cells #[.bool (decide (ρ.num < 0)), .slice a2 (nd ρ.num.natAbs).length c2, .slice d2 (nd ρ.den).length e2] 26))
 have Z3 := hid (show (w2.alloc (.cells #[.bool (decide (ρ.num < 0)), .slice a2 (nd ρ.num.natAbs).length c2, .slice d2 (nd ρ.den).length e2] 26)).heap.size = w2.heap.size + 1 ∧ w0.heap.size ≤ w2.heap.size from ⟨by simp, p2.size⟩)
 have H3 := hid p3
 have HU := hid (own_block u2)
 have PZ := hid p1.size
 clear p1 f2 o2 u2 p2 p3
 go_wp2_with fail
 obtain ⟨w3, hw3⟩ : ∃ x, x = w2.alloc (.cells #[.bool (decide (ρ.num < 0)), .slice a2 (nd ρ.num.natAbs).length c2, .slice d2 (nd ρ.den).length e2] 26) := ⟨_, rfl⟩
 rw [← hw3] at QB U3 Z3 H3 ⊢
 clear hw3
 refine (HIP.out w3).mono ?_
 rintro e w4 ⟨a4, c4, rfl, o4, f4⟩
 have hx5 := o4.rd.le
 have hx6 := o4.rd.cm
 have p4 := H3.out.trans (f4.mono H3.out.size)
 obtain ⟨s0, s1, s2, s3, s4, s5⟩ := cells3 QB.out f4
 obtain ⟨k0, k1, k2, k3, k4, k5⟩ := cells3 HH.out p4
 have K4 := hid ((p4.block w.heap.size (by have := HSZ.out; omega)).trans HH.out)
 have Q4 := hid ((f4.block w2.heap.size (by have := Z3.out.1; omega)).trans QB.out)
 have H4 := hid (And.intro p4 (And.intro f4.size (And.intro o4 (U3.out.below f4))))
 have nb1 : ¬ (w.heap.size = w2.heap.size) := by have := HSZ.out; have := Z3.out.2; omega
 have nb2 : ¬ (w2.heap.size = w.heap.size) := fun h => nb1 h.symm
 clear o4 f4 p4
 go_wp2
 refine bodyPost_ret (v := .tuple #[.agg #[.bool false, .slice none 0 0, .slice none 0 0], .int .i64 6]) (by simp [results, Tryz.results14, go_sem, k0, k1, k2]) rfl ?_
 refine RetRatE.err (g := w.heap.size) (by decide) ?_ (Nat.le_refl _) _ _ _
 have hh := HSZ.out
 have hz2 := Z3.out.2
 exact below_set _ _ (by omega) (below_set _ _ (by omega) (HB.out.trans (H4.out.1.mono HB.out.size)))

theorem rparse_int (bs a r : List Nat) (z : Int) (w : World) (hb : ∀ b ∈ bs, b < 256) (hlen : bs.length ≤ 4096) (hcut : CutS bs a r false) (hip : IParsed a z 0) :
  Calls Tryz.prog 14 #[.string (bstr bs)] w (RetRatE ((z : Int) : Rat) 0 w) := by
 have hsz : (bstr bs).size = bs.length := bstr_size bs
 have hi : ¬ ((4096 : Int) < (bs.length : Int)) := by omega
 have hal : (∀ x ∈ a, x < 256) ∧ a.length ≤ 4096 ∧ (∀ x ∈ r, x < 256) ∧ r.length ≤ 4096 := by
  rcases hcut with ⟨_, h2, _⟩ | ⟨_, h2, h3, _⟩
  ·rw [h2] at hb hlen
   rw [List.length_append, List.length_cons] at hlen
   exact ⟨fun x hx => hb x (by simp [hx]), by omega, fun x hx => hb x (by simp [hx]), by omega⟩
  ·rw [h2, h3]
   exact ⟨hb, hlen, by simp, by simp⟩
 have hB := below_alloc w (.cells #[.bool false, .slice none 0 0, .slice none 0 0] 26)
 have HH := hid (heap_alloc_at w (.cells #[.bool false, .slice none 0 0, .slice none 0 0] 26))
 have HSZ := hid (show (w.alloc (.cells #[.bool false, .slice none 0 0, .slice none 0 0] 26)).heap.size = w.heap.size + 1 by simp)
 have HB := hid hB
 have hc := cut_slash bs a r false (w.alloc (.cells #[.bool false, .slice none 0 0, .slice none 0 0] 26)) hcut hb (by omega)
 have HIP := hid (fun w' => iparse_any a w' z 0 hal.1 (by omega) hip)
 obtain ⟨ρ, hρ⟩ : ∃ x : Rat, x = ((1 : Int) : Rat) := ⟨_, rfl⟩
 have hρ1 := hid (show ρ.den = 1 by rw [hρ]; rfl)
 have HOF := hid (fun w' => show Calls Tryz.prog 80 #[.int .i64 1] w' (RetRat ρ w') from hρ ▸ of3_any 1 w' (by omega) (by omega))
 have HAL := hid hal
 clear hB hcut hip hb hal hρ
 go_enter Tryz.func14, Tryz.ntmps14
 go_wp2_with fail
 obtain ⟨w0, hw0⟩ : ∃ x, x = (w.alloc (.cells #[.bool false, .slice none 0 0, .slice none 0 0] 26)) := ⟨_, rfl⟩
 rw [← hw0] at HH HSZ HB hc ⊢
 clear hw0
 refine hc.mono ?_
 rintro e w1 ⟨rfl, qd, rfl⟩
 obtain ⟨wd, hwd⟩ : ∃ x, x = w0.drewN qd := ⟨_, rfl⟩
 have p1 : Below w0.heap.size w0 wd := by rw [hwd]; exact below_drewN w0 qd
 rw [← hwd]
 clear hc hwd
 go_wp2_with fail
 refine (HOF.out wd).mono ?_
 rintro e w2 ⟨a2, c2, d2, e2, rfl, o2, u2, f2⟩
 have hx1 := o2.rd.le
 have hx2 := o2.rd.cm
 have hx3 := u2.rd.le
 have hx4 := u2.rd.cm
 have p2 := p1.trans (f2.mono p1.size)
 have QB := hid (heap_alloc_at w2 (.cells #[.bool (decide (ρ.num < 0)), .slice a2 (nd ρ.num.natAbs).length c2, .slice d2 (nd ρ.den).length e2] 26))
 have p3 := below_al p2 (.cells #[.bool (decide (ρ.num < 0)), .slice a2 (nd ρ.num.natAbs).length c2, .slice d2 (nd ρ.den).length e2] 26)
 have U3 := hid (own_al u2 (.cells #[.bool (decide (ρ.num < 0)), .slice a2 (nd ρ.num.natAbs).length c2, .slice d2 (nd ρ.den).length e2] 26))
 have Z3 := hid (show (w2.alloc (.cells #[.bool (decide (ρ.num < 0)), .slice a2 (nd ρ.num.natAbs).length c2, .slice d2 (nd ρ.den).length e2] 26)).heap.size = w2.heap.size + 1 ∧ w0.heap.size ≤ w2.heap.size from ⟨by simp, p2.size⟩)
 have H3 := hid p3
 have HU := hid (own_block u2)
 have PZ := hid p1.size
 clear p1 f2 o2 u2 p2 p3
 go_wp2_with fail
 obtain ⟨w3, hw3⟩ : ∃ x, x = w2.alloc (.cells #[.bool (decide (ρ.num < 0)), .slice a2 (nd ρ.num.natAbs).length c2, .slice d2 (nd ρ.den).length e2] 26) := ⟨_, rfl⟩
 rw [← hw3] at QB U3 Z3 H3 ⊢
 clear hw3
 refine (HIP.out w3).mono ?_
 rintro e w4 ⟨a4, c4, rfl, o4, f4⟩
 have hx5 := o4.rd.le
 have hx6 := o4.rd.cm
 have p4 := H3.out.trans (f4.mono H3.out.size)
 obtain ⟨s0, s1, s2, s3, s4, s5⟩ := cells3 QB.out f4
 obtain ⟨k0, k1, k2, k3, k4, k5⟩ := cells3 HH.out p4
 have K4 := hid ((p4.block w.heap.size (by have := HSZ.out; omega)).trans HH.out)
 have Q4 := hid ((f4.block w2.heap.size (by have := Z3.out.1; omega)).trans QB.out)
 have H4 := hid (And.intro p4 (And.intro f4.size (And.intro o4 (U3.out.below f4))))
 have nb1 : ¬ (w.heap.size = w2.heap.size) := by have := HSZ.out; have := Z3.out.2; omega
 have nb2 : ¬ (w2.heap.size = w.heap.size) := fun h => nb1 h.symm
 clear o4 f4 p4
 go_wp2
 have hh := HSZ.out
 have hz2 := Z3.out
 have hz4 := H4.out.2.1
 refine bodyPost_ret (v := .tuple #[.agg #[.bool (decide (z < 0)), .slice a4 (nd z.natAbs).length c4, .slice d2 (nd ρ.den).length e2], .int .i64 0]) (by simp [results, Tryz.results14, go_sem, k0, k1, k2]) rfl ?_
 rw [hρ1.out]
 have O1 : Own w3.heap.size w4 a4 c4 (nd z.natAbs) := H4.out.2.2.1
 have O2 : Own wd.heap.size w4 d2 e2 (nd 1) := by have h5 := H4.out.2.2.2; rw [hρ1.out] at h5; exact h5
 have HUo := HU.out
 have hpz := PZ.out
 have BW := HB.out.trans (H4.out.1.mono HB.out.size)
 refine ⟨a4, c4, d2, e2, by rw [show rsg ((z : Int) : Rat) 0 = decide (z < 0) from (Bool.true_and _), show rnm ((z : Int) : Rat) 0 = nd z.natAbs from rfl, show rdn ((z : Int) : Rat) 0 = nd 1 from rfl], show Own _ _ _ _ (nd z.natAbs) from ?_, show Own _ _ _ _ (nd 1) from ?_, ?_⟩
 ·refine Own.mono (B := w3.heap.size) ?_ (by omega)
  repeat refine Own.setOld ?_ (by omega) _
  exact O1
 ·refine Own.mono (B := wd.heap.size) ?_ (by omega)
  repeat (refine own_set _ _ (fun a ha => by have := HUo a ha; omega) ?_)
  exact O2
 ·repeat refine below_set _ _ (by omega) ?_
  exact BW

end Go.Proofs.YtcankknlbljicaaGreatDoor

namespace Go.Proofs.YtcankknlbljicaaGreatDoor
open Go.RowKit Num

theorem rparse_e2 (bs a r : List Nat) (z : Int) (w : World) (hb : ∀ b ∈ bs, b < 256) (hlen : bs.length ≤ 4096) (hcut : CutS bs a r true) (hip : IParsed a z 0) (V : Nat) (hpp : Parsed r V 6) (q : Rat) :
  Calls Tryz.prog 14 #[.string (bstr bs)] w (RetRatE q 6 w) := by
 have hsz : (bstr bs).size = bs.length := bstr_size bs
 have hi : ¬ ((4096 : Int) < (bs.length : Int)) := by omega
 have hal : (∀ x ∈ a, x < 256) ∧ a.length ≤ 4096 ∧ (∀ x ∈ r, x < 256) ∧ r.length ≤ 4096 := by
  rcases hcut with ⟨_, h2, _⟩ | ⟨_, h2, h3, _⟩
  ·rw [h2] at hb hlen
   rw [List.length_append, List.length_cons] at hlen
   exact ⟨fun x hx => hb x (by simp [hx]), by omega, fun x hx => hb x (by simp [hx]), by omega⟩
  ·rw [h2, h3]
   exact ⟨hb, hlen, by simp, by simp⟩
 have hB := below_alloc w (.cells #[.bool false, .slice none 0 0, .slice none 0 0] 26)
 have HH := hid (heap_alloc_at w (.cells #[.bool false, .slice none 0 0, .slice none 0 0] 26))
 have HSZ := hid (show (w.alloc (.cells #[.bool false, .slice none 0 0, .slice none 0 0] 26)).heap.size = w.heap.size + 1 by simp)
 have HB := hid hB
 have hc := cut_slash bs a r true (w.alloc (.cells #[.bool false, .slice none 0 0, .slice none 0 0] 26)) hcut hb (by omega)
 have HIP := hid (fun w' => iparse_any a w' z 0 hal.1 (by omega) hip)
 obtain ⟨ρ, hρ⟩ : ∃ x : Rat, x = ((1 : Int) : Rat) := ⟨_, rfl⟩
 have hρ1 := hid (show ρ.den = 1 by rw [hρ]; rfl)
 have HOF := hid (fun w' => show Calls Tryz.prog 80 #[.int .i64 1] w' (RetRat ρ w') from hρ ▸ of3_any 1 w' (by omega) (by omega))
 have HNP := hid (fun w' => parse_any r w' V 6 hal.2.2.1 (by omega) hpp)
 have HAL := hid hal
 clear hB hcut hip hpp hb hal hρ
 go_enter Tryz.func14, Tryz.ntmps14
 go_wp2_with fail
 obtain ⟨w0, hw0⟩ : ∃ x, x = (w.alloc (.cells #[.bool false, .slice none 0 0, .slice none 0 0] 26)) := ⟨_, rfl⟩
 rw [← hw0] at HH HSZ HB hc ⊢
 clear hw0
 refine hc.mono ?_
 rintro e w1 ⟨rfl, qd, rfl⟩
 obtain ⟨wd, hwd⟩ : ∃ x, x = w0.drewN qd := ⟨_, rfl⟩
 have p1 : Below w0.heap.size w0 wd := by rw [hwd]; exact below_drewN w0 qd
 rw [← hwd]
 clear hc hwd
 go_wp2_with fail
 refine (HOF.out wd).mono ?_
 rintro e w2 ⟨a2, c2, d2, e2, rfl, o2, u2, f2⟩
 have hx1 := o2.rd.le
 have hx2 := o2.rd.cm
 have hx3 := u2.rd.le
 have hx4 := u2.rd.cm
 have p2 := p1.trans (f2.mono p1.size)
 have QB := hid (heap_alloc_at w2 (.cells #[.bool (decide (ρ.num < 0)), .slice a2 (nd ρ.num.natAbs).length c2, .slice d2 (nd ρ.den).length e2] 26))
 have p3 := below_al p2 (.cells #[.bool (decide (ρ.num < 0)), .slice a2 (nd ρ.num.natAbs).length c2, .slice d2 (nd ρ.den).length e2] 26)
 have U3 := hid (own_al u2 (.cells #[.bool (decide (ρ.num < 0)), .slice a2 (nd ρ.num.natAbs).length c2, .slice d2 (nd ρ.den).length e2] 26))
 have Z3 := hid (show (w2.alloc (.cells #[.bool (decide (ρ.num < 0)), .slice a2 (nd ρ.num.natAbs).length c2, .slice d2 (nd ρ.den).length e2] 26)).heap.size = w2.heap.size + 1 ∧ w0.heap.size ≤ w2.heap.size from ⟨by simp, p2.size⟩)
 have H3 := hid p3
 have HU := hid (own_block u2)
 have PZ := hid p1.size
 clear p1 f2 o2 u2 p2 p3
 go_wp2_with fail
 obtain ⟨w3, hw3⟩ : ∃ x, x = w2.alloc (.cells #[.bool (decide (ρ.num < 0)), .slice a2 (nd ρ.num.natAbs).length c2, .slice d2 (nd ρ.den).length e2] 26) := ⟨_, rfl⟩
 rw [← hw3] at QB U3 Z3 H3 ⊢
 clear hw3
 refine (HIP.out w3).mono ?_
 rintro e w4 ⟨a4, c4, rfl, o4, f4⟩
 have hx5 := o4.rd.le
 have hx6 := o4.rd.cm
 have p4 := H3.out.trans (f4.mono H3.out.size)
 obtain ⟨s0, s1, s2, s3, s4, s5⟩ := cells3 QB.out f4
 obtain ⟨k0, k1, k2, k3, k4, k5⟩ := cells3 HH.out p4
 have K4 := hid ((p4.block w.heap.size (by have := HSZ.out; omega)).trans HH.out)
 have Q4 := hid ((f4.block w2.heap.size (by have := Z3.out.1; omega)).trans QB.out)
 have H4 := hid (And.intro p4 (And.intro f4.size (And.intro o4 (U3.out.below f4))))
 have nb1 : ¬ (w.heap.size = w2.heap.size) := by have := HSZ.out; have := Z3.out.2; omega
 have nb2 : ¬ (w2.heap.size = w.heap.size) := fun h => nb1 h.symm
 clear o4 f4 p4
 go_wp2_with fail
 obtain ⟨w5, hw5⟩ : ∃ x, x = ((w4.setCell ⟨w2.heap.size, 0, none⟩ (.bool (decide (z < 0)))).setCell ⟨w2.heap.size, 1, none⟩ (.slice a4 (nd z.natAbs).length c4)) := ⟨_, rfl⟩
 have K5 := hid (show w5.heap[w.heap.size]? = some (.cells #[.bool false, .slice none 0 0, .slice none 0 0] 26) from by rw [hw5, heap_set _ _ _ _ _ nb1, heap_set _ _ _ _ _ nb1]; exact K4.out)
 have Q5 := hid (show w5.heap[w2.heap.size]? = some (.cells #[.bool (decide (z < 0)), .slice a4 (nd z.natAbs).length c4, .slice d2 (nd ρ.den).length e2] 26) from by
  rw [hw5]; exact Go.Joins.block_setCell (i := 1) (Go.Joins.block_setCell (i := 0) Q4.out _) _)
 have O5 := hid (show Own w3.heap.size w5 a4 c4 (nd z.natAbs) from by
  rw [hw5]; exact (H4.out.2.2.1.setOld (by have := Z3.out.1; omega) _).setOld (by have := Z3.out.1; omega) _)
 have B5 := hid (show Below w0.heap.size w0 w5 from by rw [hw5]; exact below_set _ _ Z3.out.2 (below_set _ _ Z3.out.2 H4.out.1))
 have S5 := hid (show w3.heap.size ≤ w5.heap.size from by rw [hw5, setCell_size, setCell_size]; exact H4.out.2.1)
 rw [← hw5]
 clear hw5 s0 s1 s2 s3 s4 s5 k0 k1 k2 k3 k4 k5 H4 Q4 K4
 refine (HNP.out w5).mono ?_
 rintro e w6 ⟨a6, c6, rfl, o6, f6⟩
 have hx7 := o6.rd.le
 have hx8 := o6.rd.cm
 obtain ⟨s0, s1, s2, s3, s4, s5⟩ := cells3 Q5.out f6
 have p6 := B5.out.trans (f6.mono B5.out.size)
 obtain ⟨k0, k1, k2, k3, k4, k5⟩ := cells3 HH.out p6
 have H6 := hid (And.intro p6 (And.intro f6 (And.intro o6 (O5.out.below f6))))
 have Q6 := hid ((f6.block w2.heap.size (by have := Z3.out.1; have := S5.out; omega)).trans Q5.out)
 clear o6 f6 p6
 go_wp2
 refine bodyPost_ret (v := .tuple #[.agg #[.bool false, .slice none 0 0, .slice none 0 0], .int .i64 6]) (by simp [results, Tryz.results14, go_sem, k0, k1, k2]) rfl ?_
 refine RetRatE.err (g := w.heap.size) (by decide) ?_ (Nat.le_refl _) _ _ _
 have hh := HSZ.out
 have hz2 := Z3.out.2
 exact below_set _ _ (by omega) (HB.out.trans (H6.out.1.mono HB.out.size))

theorem rparse_one (bs a r : List Nat) (z : Int) (w : World) (hb : ∀ b ∈ bs, b < 256) (hlen : bs.length ≤ 4096) (hcut : CutS bs a r true) (hip : IParsed a z 0) (V : Nat) (hpp : Parsed r V 0) (HVL : Hid ((nd V).length ≤ 17592186044416)) (HONE : Hid (V = 1)) (q : Rat) :
  Calls Tryz.prog 14 #[.string (bstr bs)] w (RetRatE q 6 w) := by
 have hsz : (bstr bs).size = bs.length := bstr_size bs
 have hi : ¬ ((4096 : Int) < (bs.length : Int)) := by omega
 have hal : (∀ x ∈ a, x < 256) ∧ a.length ≤ 4096 ∧ (∀ x ∈ r, x < 256) ∧ r.length ≤ 4096 := by
  rcases hcut with ⟨_, h2, _⟩ | ⟨_, h2, h3, _⟩
  ·rw [h2] at hb hlen
   rw [List.length_append, List.length_cons] at hlen
   exact ⟨fun x hx => hb x (by simp [hx]), by omega, fun x hx => hb x (by simp [hx]), by omega⟩
  ·rw [h2, h3]
   exact ⟨hb, hlen, by simp, by simp⟩
 have hB := below_alloc w (.cells #[.bool false, .slice none 0 0, .slice none 0 0] 26)
 have HH := hid (heap_alloc_at w (.cells #[.bool false, .slice none 0 0, .slice none 0 0] 26))
 have HSZ := hid (show (w.alloc (.cells #[.bool false, .slice none 0 0, .slice none 0 0] 26)).heap.size = w.heap.size + 1 by simp)
 have HB := hid hB
 have hc := cut_slash bs a r true (w.alloc (.cells #[.bool false, .slice none 0 0, .slice none 0 0] 26)) hcut hb (by omega)
 have HIP := hid (fun w' => iparse_any a w' z 0 hal.1 (by omega) hip)
 obtain ⟨ρ, hρ⟩ : ∃ x : Rat, x = ((1 : Int) : Rat) := ⟨_, rfl⟩
 have hρ1 := hid (show ρ.den = 1 by rw [hρ]; rfl)
 have HOF := hid (fun w' => show Calls Tryz.prog 80 #[.int .i64 1] w' (RetRat ρ w') from hρ ▸ of3_any 1 w' (by omega) (by omega))
 have HNP := hid (fun w' => parse_any r w' V 0 hal.2.2.1 (by omega) hpp)
 have HAL := hid hal
 clear hB hcut hip hpp hb hal hρ
 go_enter Tryz.func14, Tryz.ntmps14
 go_wp2_with fail
 obtain ⟨w0, hw0⟩ : ∃ x, x = (w.alloc (.cells #[.bool false, .slice none 0 0, .slice none 0 0] 26)) := ⟨_, rfl⟩
 rw [← hw0] at HH HSZ HB hc ⊢
 clear hw0
 refine hc.mono ?_
 rintro e w1 ⟨rfl, qd, rfl⟩
 obtain ⟨wd, hwd⟩ : ∃ x, x = w0.drewN qd := ⟨_, rfl⟩
 have p1 : Below w0.heap.size w0 wd := by rw [hwd]; exact below_drewN w0 qd
 rw [← hwd]
 clear hc hwd
 go_wp2_with fail
 refine (HOF.out wd).mono ?_
 rintro e w2 ⟨a2, c2, d2, e2, rfl, o2, u2, f2⟩
 have hx1 := o2.rd.le
 have hx2 := o2.rd.cm
 have hx3 := u2.rd.le
 have hx4 := u2.rd.cm
 have p2 := p1.trans (f2.mono p1.size)
 have QB := hid (heap_alloc_at w2 (.cells #[.bool (decide (ρ.num < 0)), .slice a2 (nd ρ.num.natAbs).length c2, .slice d2 (nd ρ.den).length e2] 26))
 have p3 := below_al p2 (.cells #[.bool (decide (ρ.num < 0)), .slice a2 (nd ρ.num.natAbs).length c2, .slice d2 (nd ρ.den).length e2] 26)
 have U3 := hid (own_al u2 (.cells #[.bool (decide (ρ.num < 0)), .slice a2 (nd ρ.num.natAbs).length c2, .slice d2 (nd ρ.den).length e2] 26))
 have Z3 := hid (show (w2.alloc (.cells #[.bool (decide (ρ.num < 0)), .slice a2 (nd ρ.num.natAbs).length c2, .slice d2 (nd ρ.den).length e2] 26)).heap.size = w2.heap.size + 1 ∧ w0.heap.size ≤ w2.heap.size from ⟨by simp, p2.size⟩)
 have H3 := hid p3
 have HU := hid (own_block u2)
 have PZ := hid p1.size
 clear p1 f2 o2 u2 p2 p3
 go_wp2_with fail
 obtain ⟨w3, hw3⟩ : ∃ x, x = w2.alloc (.cells #[.bool (decide (ρ.num < 0)), .slice a2 (nd ρ.num.natAbs).length c2, .slice d2 (nd ρ.den).length e2] 26) := ⟨_, rfl⟩
 rw [← hw3] at QB U3 Z3 H3 ⊢
 clear hw3
 refine (HIP.out w3).mono ?_
 rintro e w4 ⟨a4, c4, rfl, o4, f4⟩
 have hx5 := o4.rd.le
 have hx6 := o4.rd.cm
 have p4 := H3.out.trans (f4.mono H3.out.size)
 obtain ⟨s0, s1, s2, s3, s4, s5⟩ := cells3 QB.out f4
 obtain ⟨k0, k1, k2, k3, k4, k5⟩ := cells3 HH.out p4
 have K4 := hid ((p4.block w.heap.size (by have := HSZ.out; omega)).trans HH.out)
 have Q4 := hid ((f4.block w2.heap.size (by have := Z3.out.1; omega)).trans QB.out)
 have H4 := hid (And.intro p4 (And.intro f4.size (And.intro o4 (U3.out.below f4))))
 have nb1 : ¬ (w.heap.size = w2.heap.size) := by have := HSZ.out; have := Z3.out.2; omega
 have nb2 : ¬ (w2.heap.size = w.heap.size) := fun h => nb1 h.symm
 clear o4 f4 p4
 go_wp2_with fail
 obtain ⟨w5, hw5⟩ : ∃ x, x = ((w4.setCell ⟨w2.heap.size, 0, none⟩ (.bool (decide (z < 0)))).setCell ⟨w2.heap.size, 1, none⟩ (.slice a4 (nd z.natAbs).length c4)) := ⟨_, rfl⟩
 have K5 := hid (show w5.heap[w.heap.size]? = some (.cells #[.bool false, .slice none 0 0, .slice none 0 0] 26) from by rw [hw5, heap_set _ _ _ _ _ nb1, heap_set _ _ _ _ _ nb1]; exact K4.out)
 have Q5 := hid (show w5.heap[w2.heap.size]? = some (.cells #[.bool (decide (z < 0)), .slice a4 (nd z.natAbs).length c4, .slice d2 (nd ρ.den).length e2] 26) from by
  rw [hw5]; exact Go.Joins.block_setCell (i := 1) (Go.Joins.block_setCell (i := 0) Q4.out _) _)
 have O5 := hid (show Own w3.heap.size w5 a4 c4 (nd z.natAbs) from by
  rw [hw5]; exact (H4.out.2.2.1.setOld (by have := Z3.out.1; omega) _).setOld (by have := Z3.out.1; omega) _)
 have B5 := hid (show Below w0.heap.size w0 w5 from by rw [hw5]; exact below_set _ _ Z3.out.2 (below_set _ _ Z3.out.2 H4.out.1))
 have S5 := hid (show w3.heap.size ≤ w5.heap.size from by rw [hw5, setCell_size, setCell_size]; exact H4.out.2.1)
 rw [← hw5]
 clear hw5 s0 s1 s2 s3 s4 s5 k0 k1 k2 k3 k4 k5 H4 Q4 K4
 refine (HNP.out w5).mono ?_
 rintro e w6 ⟨a6, c6, rfl, o6, f6⟩
 have hx7 := o6.rd.le
 have hx8 := o6.rd.cm
 obtain ⟨s0, s1, s2, s3, s4, s5⟩ := cells3 Q5.out f6
 have p6 := B5.out.trans (f6.mono B5.out.size)
 obtain ⟨k0, k1, k2, k3, k4, k5⟩ := cells3 HH.out p6
 have H6 := hid (And.intro p6 (And.intro f6 (And.intro o6 (O5.out.below f6))))
 have Q6 := hid ((f6.block w2.heap.size (by have := Z3.out.1; have := S5.out; omega)).trans Q5.out)
 clear o6 f6 p6
 have hV : (nd V).length ≤ 17592186044416 := HVL.out
 go_wp2_with fail
 obtain ⟨w7, hw7⟩ : ∃ x, x = w6.setCell ⟨w2.heap.size, 2, none⟩ (.slice a6 (nd V).length c6) := ⟨_, rfl⟩
 have Q7 := hid (show w7.heap[w2.heap.size]? = some (.cells #[.bool (decide (z < 0)), .slice a4 (nd z.natAbs).length c4, .slice a6 (nd V).length c6] 26) from by
  rw [hw7]; exact Go.Joins.block_setCell (i := 2) Q6.out _)
 have O7 := hid (show Own w3.heap.size w7 a4 c4 (nd z.natAbs) ∧ Own w5.heap.size w7 a6 c6 (nd V) from by
  have := Z3.out.1
  have := S5.out
  rw [hw7]; exact ⟨H6.out.2.2.2.setOld (by omega) _, H6.out.2.2.1.setOld (by omega) _⟩)
 have B7 := hid (show Below w0.heap.size w0 w7 from by rw [hw7]; exact below_set _ _ Z3.out.2 H6.out.1)
 have S7 := hid (show w5.heap.size ≤ w7.heap.size from by rw [hw7, setCell_size]; exact H6.out.2.1.size)
 rw [← hw7]
 clear hw7 s0 s1 s2 s3 s4 s5 k0 k1 k2 k3 k4 k5 H6 Q6
 have hio := isOne_any a6 c6 (nd V) w7 O7.out.2.rd hV true (by rw [val_nd]; exact ⟨fun _ => HONE.out, fun _ => rfl⟩)
 obtain ⟨s0, s1, s2, s3, s4, s5⟩ := cells3 Q7.out (Below.refl _ _)
 obtain ⟨k0, k1, k2, k3, k4, k5⟩ := cells3 HH.out B7.out
 refine hio.mono ?_
 rintro e w8 ⟨rfl, rfl⟩
 clear hio
 go_wp2
 refine bodyPost_ret (v := .tuple #[.agg #[.bool false, .slice none 0 0, .slice none 0 0], .int .i64 6]) (by simp [results, Tryz.results14, go_sem, k0, k1, k2]) rfl ?_
 refine RetRatE.err (g := w.heap.size) (by decide) ?_ (Nat.le_refl _) _ _ _
 exact HB.out.trans (B7.out.mono HB.out.size)

theorem rparse_bad (bs a r : List Nat) (z : Int) (w : World) (hb : ∀ b ∈ bs, b < 256) (hlen : bs.length ≤ 4096) (hcut : CutS bs a r true) (hip : IParsed a z 0) (V : Nat) (hpp : Parsed r V 0) (HVL : Hid ((nd V).length ≤ 17592186044416)) (HONE : Hid (¬ V = 1)) (HLZ : Hid ((nd z.natAbs).length ≤ 4398046511104)) (HLV : Hid ((nd V).length ≤ 4398046511104)) (HT : Hid (∀ w', Below w.heap.size w w' → Tb w')) (HCAN : Hid (¬ canon (decide (z < 0)) (nd z.natAbs) (nd V))) (q : Rat) :
  Calls Tryz.prog 14 #[.string (bstr bs)] w (RetRatE q 6 w) := by
 have hsz : (bstr bs).size = bs.length := bstr_size bs
 have hi : ¬ ((4096 : Int) < (bs.length : Int)) := by omega
 have hal : (∀ x ∈ a, x < 256) ∧ a.length ≤ 4096 ∧ (∀ x ∈ r, x < 256) ∧ r.length ≤ 4096 := by
  rcases hcut with ⟨_, h2, _⟩ | ⟨_, h2, h3, _⟩
  ·rw [h2] at hb hlen
   rw [List.length_append, List.length_cons] at hlen
   exact ⟨fun x hx => hb x (by simp [hx]), by omega, fun x hx => hb x (by simp [hx]), by omega⟩
  ·rw [h2, h3]
   exact ⟨hb, hlen, by simp, by simp⟩
 have hB := below_alloc w (.cells #[.bool false, .slice none 0 0, .slice none 0 0] 26)
 have HH := hid (heap_alloc_at w (.cells #[.bool false, .slice none 0 0, .slice none 0 0] 26))
 have HSZ := hid (show (w.alloc (.cells #[.bool false, .slice none 0 0, .slice none 0 0] 26)).heap.size = w.heap.size + 1 by simp)
 have HB := hid hB
 have hc := cut_slash bs a r true (w.alloc (.cells #[.bool false, .slice none 0 0, .slice none 0 0] 26)) hcut hb (by omega)
 have HIP := hid (fun w' => iparse_any a w' z 0 hal.1 (by omega) hip)
 obtain ⟨ρ, hρ⟩ : ∃ x : Rat, x = ((1 : Int) : Rat) := ⟨_, rfl⟩
 have hρ1 := hid (show ρ.den = 1 by rw [hρ]; rfl)
 have HOF := hid (fun w' => show Calls Tryz.prog 80 #[.int .i64 1] w' (RetRat ρ w') from hρ ▸ of3_any 1 w' (by omega) (by omega))
 have HNP := hid (fun w' => parse_any r w' V 0 hal.2.2.1 (by omega) hpp)
 have HAL := hid hal
 clear hB hcut hip hpp hb hal hρ
 go_enter Tryz.func14, Tryz.ntmps14
 go_wp2_with fail
 obtain ⟨w0, hw0⟩ : ∃ x, x = (w.alloc (.cells #[.bool false, .slice none 0 0, .slice none 0 0] 26)) := ⟨_, rfl⟩
 rw [← hw0] at HH HSZ HB hc ⊢
 clear hw0
 refine hc.mono ?_
 rintro e w1 ⟨rfl, qd, rfl⟩
 obtain ⟨wd, hwd⟩ : ∃ x, x = w0.drewN qd := ⟨_, rfl⟩
 have p1 : Below w0.heap.size w0 wd := by rw [hwd]; exact below_drewN w0 qd
 rw [← hwd]
 clear hc hwd
 go_wp2_with fail
 refine (HOF.out wd).mono ?_
 rintro e w2 ⟨a2, c2, d2, e2, rfl, o2, u2, f2⟩
 have hx1 := o2.rd.le
 have hx2 := o2.rd.cm
 have hx3 := u2.rd.le
 have hx4 := u2.rd.cm
 have p2 := p1.trans (f2.mono p1.size)
 have QB := hid (heap_alloc_at w2 (.cells #[.bool (decide (ρ.num < 0)), .slice a2 (nd ρ.num.natAbs).length c2, .slice d2 (nd ρ.den).length e2] 26))
 have p3 := below_al p2 (.cells #[.bool (decide (ρ.num < 0)), .slice a2 (nd ρ.num.natAbs).length c2, .slice d2 (nd ρ.den).length e2] 26)
 have U3 := hid (own_al u2 (.cells #[.bool (decide (ρ.num < 0)), .slice a2 (nd ρ.num.natAbs).length c2, .slice d2 (nd ρ.den).length e2] 26))
 have Z3 := hid (show (w2.alloc (.cells #[.bool (decide (ρ.num < 0)), .slice a2 (nd ρ.num.natAbs).length c2, .slice d2 (nd ρ.den).length e2] 26)).heap.size = w2.heap.size + 1 ∧ w0.heap.size ≤ w2.heap.size from ⟨by simp, p2.size⟩)
 have H3 := hid p3
 have HU := hid (own_block u2)
 have PZ := hid p1.size
 clear p1 f2 o2 u2 p2 p3
 go_wp2_with fail
 obtain ⟨w3, hw3⟩ : ∃ x, x = w2.alloc (.cells #[.bool (decide (ρ.num < 0)), .slice a2 (nd ρ.num.natAbs).length c2, .slice d2 (nd ρ.den).length e2] 26) := ⟨_, rfl⟩
 rw [← hw3] at QB U3 Z3 H3 ⊢
 clear hw3
 refine (HIP.out w3).mono ?_
 rintro e w4 ⟨a4, c4, rfl, o4, f4⟩
 have hx5 := o4.rd.le
 have hx6 := o4.rd.cm
 have p4 := H3.out.trans (f4.mono H3.out.size)
 obtain ⟨s0, s1, s2, s3, s4, s5⟩ := cells3 QB.out f4
 obtain ⟨k0, k1, k2, k3, k4, k5⟩ := cells3 HH.out p4
 have K4 := hid ((p4.block w.heap.size (by have := HSZ.out; omega)).trans HH.out)
 have Q4 := hid ((f4.block w2.heap.size (by have := Z3.out.1; omega)).trans QB.out)
 have H4 := hid (And.intro p4 (And.intro f4.size (And.intro o4 (U3.out.below f4))))
 have nb1 : ¬ (w.heap.size = w2.heap.size) := by have := HSZ.out; have := Z3.out.2; omega
 have nb2 : ¬ (w2.heap.size = w.heap.size) := fun h => nb1 h.symm
 clear o4 f4 p4
 go_wp2_with fail
 obtain ⟨w5, hw5⟩ : ∃ x, x = ((w4.setCell ⟨w2.heap.size, 0, none⟩ (.bool (decide (z < 0)))).setCell ⟨w2.heap.size, 1, none⟩ (.slice a4 (nd z.natAbs).length c4)) := ⟨_, rfl⟩
 have K5 := hid (show w5.heap[w.heap.size]? = some (.cells #[.bool false, .slice none 0 0, .slice none 0 0] 26) from by rw [hw5, heap_set _ _ _ _ _ nb1, heap_set _ _ _ _ _ nb1]; exact K4.out)
 have Q5 := hid (show w5.heap[w2.heap.size]? = some (.cells #[.bool (decide (z < 0)), .slice a4 (nd z.natAbs).length c4, .slice d2 (nd ρ.den).length e2] 26) from by
  rw [hw5]; exact Go.Joins.block_setCell (i := 1) (Go.Joins.block_setCell (i := 0) Q4.out _) _)
 have O5 := hid (show Own w3.heap.size w5 a4 c4 (nd z.natAbs) from by
  rw [hw5]; exact (H4.out.2.2.1.setOld (by have := Z3.out.1; omega) _).setOld (by have := Z3.out.1; omega) _)
 have B5 := hid (show Below w0.heap.size w0 w5 from by rw [hw5]; exact below_set _ _ Z3.out.2 (below_set _ _ Z3.out.2 H4.out.1))
 have S5 := hid (show w3.heap.size ≤ w5.heap.size from by rw [hw5, setCell_size, setCell_size]; exact H4.out.2.1)
 rw [← hw5]
 clear hw5 s0 s1 s2 s3 s4 s5 k0 k1 k2 k3 k4 k5 H4 Q4 K4
 refine (HNP.out w5).mono ?_
 rintro e w6 ⟨a6, c6, rfl, o6, f6⟩
 have hx7 := o6.rd.le
 have hx8 := o6.rd.cm
 obtain ⟨s0, s1, s2, s3, s4, s5⟩ := cells3 Q5.out f6
 have p6 := B5.out.trans (f6.mono B5.out.size)
 obtain ⟨k0, k1, k2, k3, k4, k5⟩ := cells3 HH.out p6
 have H6 := hid (And.intro p6 (And.intro f6 (And.intro o6 (O5.out.below f6))))
 have Q6 := hid ((f6.block w2.heap.size (by have := Z3.out.1; have := S5.out; omega)).trans Q5.out)
 clear o6 f6 p6
 have hV : (nd V).length ≤ 17592186044416 := HVL.out
 go_wp2_with fail
 obtain ⟨w7, hw7⟩ : ∃ x, x = w6.setCell ⟨w2.heap.size, 2, none⟩ (.slice a6 (nd V).length c6) := ⟨_, rfl⟩
 have Q7 := hid (show w7.heap[w2.heap.size]? = some (.cells #[.bool (decide (z < 0)), .slice a4 (nd z.natAbs).length c4, .slice a6 (nd V).length c6] 26) from by
  rw [hw7]; exact Go.Joins.block_setCell (i := 2) Q6.out _)
 have O7 := hid (show Own w3.heap.size w7 a4 c4 (nd z.natAbs) ∧ Own w5.heap.size w7 a6 c6 (nd V) from by
  have := Z3.out.1
  have := S5.out
  rw [hw7]; exact ⟨H6.out.2.2.2.setOld (by omega) _, H6.out.2.2.1.setOld (by omega) _⟩)
 have B7 := hid (show Below w0.heap.size w0 w7 from by rw [hw7]; exact below_set _ _ Z3.out.2 H6.out.1)
 have S7 := hid (show w5.heap.size ≤ w7.heap.size from by rw [hw7, setCell_size]; exact H6.out.2.1.size)
 rw [← hw7]
 clear hw7 s0 s1 s2 s3 s4 s5 k0 k1 k2 k3 k4 k5 H6 Q6
 have hio := isOne_any a6 c6 (nd V) w7 O7.out.2.rd hV false (by rw [val_nd]; exact ⟨fun h => absurd h (by simp), fun h => absurd h HONE.out⟩)
 obtain ⟨s0, s1, s2, s3, s4, s5⟩ := cells3 Q7.out (Below.refl _ _)
 obtain ⟨k0, k1, k2, k3, k4, k5⟩ := cells3 HH.out B7.out
 refine hio.mono ?_
 rintro e w8 ⟨rfl, rfl⟩
 clear hio
 have hvl := valid3_any (decide (z < 0)) a4 a6 c4 c6 (nd z.natAbs) (nd V) w7 O7.out.1.rd O7.out.2.rd HLZ.out HLV.out (HT.out w7 (HB.out.trans (B7.out.mono HB.out.size))) false ⟨fun h => absurd h (by simp), fun h => absurd h HCAN.out⟩
 go_wp2_with fail
 refine hvl.mono ?_
 rintro e w9 ⟨rfl, f9⟩
 have p9 := B7.out.trans (f9.mono B7.out.size)
 clear s0 s1 s2 s3 s4 s5 k0 k1 k2 k3 k4 k5 hvl
 obtain ⟨s0, s1, s2, s3, s4, s5⟩ := cells3 Q7.out f9
 obtain ⟨k0, k1, k2, k3, k4, k5⟩ := cells3 HH.out p9
 have H9 := hid (And.intro p9 (And.intro (O7.out.1.below f9) (O7.out.2.below f9)))
 clear f9 p9
 go_wp2
 refine bodyPost_ret (v := .tuple #[.agg #[.bool false, .slice none 0 0, .slice none 0 0], .int .i64 6]) (by simp [results, Tryz.results14, go_sem, k0, k1, k2]) rfl ?_
 refine RetRatE.err (g := w.heap.size) (by decide) ?_ (Nat.le_refl _) _ _ _
 exact HB.out.trans (H9.out.1.mono HB.out.size)

theorem rparse_rat (bs a r : List Nat) (z : Int) (w : World) (hb : ∀ b ∈ bs, b < 256) (hlen : bs.length ≤ 4096) (hcut : CutS bs a r true) (hip : IParsed a z 0) (V : Nat) (hpp : Parsed r V 0) (HVL : Hid ((nd V).length ≤ 17592186044416)) (HONE : Hid (¬ V = 1)) (HLZ : Hid ((nd z.natAbs).length ≤ 4398046511104)) (HLV : Hid ((nd V).length ≤ 4398046511104)) (HT : Hid (∀ w', Below w.heap.size w w' → Tb w')) (HCAN : Hid (canon (decide (z < 0)) (nd z.natAbs) (nd V))) (q : Rat) (hq : q.num = z ∧ q.den = V) :
  Calls Tryz.prog 14 #[.string (bstr bs)] w (RetRatE q 0 w) := by
 have HQ := hid hq
 clear hq
 have hsz : (bstr bs).size = bs.length := bstr_size bs
 have hi : ¬ ((4096 : Int) < (bs.length : Int)) := by omega
 have hal : (∀ x ∈ a, x < 256) ∧ a.length ≤ 4096 ∧ (∀ x ∈ r, x < 256) ∧ r.length ≤ 4096 := by
  rcases hcut with ⟨_, h2, _⟩ | ⟨_, h2, h3, _⟩
  ·rw [h2] at hb hlen
   rw [List.length_append, List.length_cons] at hlen
   exact ⟨fun x hx => hb x (by simp [hx]), by omega, fun x hx => hb x (by simp [hx]), by omega⟩
  ·rw [h2, h3]
   exact ⟨hb, hlen, by simp, by simp⟩
 have hB := below_alloc w (.cells #[.bool false, .slice none 0 0, .slice none 0 0] 26)
 have HH := hid (heap_alloc_at w (.cells #[.bool false, .slice none 0 0, .slice none 0 0] 26))
 have HSZ := hid (show (w.alloc (.cells #[.bool false, .slice none 0 0, .slice none 0 0] 26)).heap.size = w.heap.size + 1 by simp)
 have HB := hid hB
 have hc := cut_slash bs a r true (w.alloc (.cells #[.bool false, .slice none 0 0, .slice none 0 0] 26)) hcut hb (by omega)
 have HIP := hid (fun w' => iparse_any a w' z 0 hal.1 (by omega) hip)
 obtain ⟨ρ, hρ⟩ : ∃ x : Rat, x = ((1 : Int) : Rat) := ⟨_, rfl⟩
 have hρ1 := hid (show ρ.den = 1 by rw [hρ]; rfl)
 have HOF := hid (fun w' => show Calls Tryz.prog 80 #[.int .i64 1] w' (RetRat ρ w') from hρ ▸ of3_any 1 w' (by omega) (by omega))
 have HNP := hid (fun w' => parse_any r w' V 0 hal.2.2.1 (by omega) hpp)
 have HAL := hid hal
 clear hB hcut hip hpp hb hal hρ
 go_enter Tryz.func14, Tryz.ntmps14
 go_wp2_with fail
 obtain ⟨w0, hw0⟩ : ∃ x, x = (w.alloc (.cells #[.bool false, .slice none 0 0, .slice none 0 0] 26)) := ⟨_, rfl⟩
 rw [← hw0] at HH HSZ HB hc ⊢
 clear hw0
 refine hc.mono ?_
 rintro e w1 ⟨rfl, qd, rfl⟩
 obtain ⟨wd, hwd⟩ : ∃ x, x = w0.drewN qd := ⟨_, rfl⟩
 have p1 : Below w0.heap.size w0 wd := by rw [hwd]; exact below_drewN w0 qd
 rw [← hwd]
 clear hc hwd
 go_wp2_with fail
 refine (HOF.out wd).mono ?_
 rintro e w2 ⟨a2, c2, d2, e2, rfl, o2, u2, f2⟩
 have hx1 := o2.rd.le
 have hx2 := o2.rd.cm
 have hx3 := u2.rd.le
 have hx4 := u2.rd.cm
 have p2 := p1.trans (f2.mono p1.size)
 have QB := hid (heap_alloc_at w2 (.cells #[.bool (decide (ρ.num < 0)), .slice a2 (nd ρ.num.natAbs).length c2, .slice d2 (nd ρ.den).length e2] 26))
 have p3 := below_al p2 (.cells #[.bool (decide (ρ.num < 0)), .slice a2 (nd ρ.num.natAbs).length c2, .slice d2 (nd ρ.den).length e2] 26)
 have U3 := hid (own_al u2 (.cells #[.bool (decide (ρ.num < 0)), .slice a2 (nd ρ.num.natAbs).length c2, .slice d2 (nd ρ.den).length e2] 26))
 have Z3 := hid (show (w2.alloc (.cells #[.bool (decide (ρ.num < 0)), .slice a2 (nd ρ.num.natAbs).length c2, .slice d2 (nd ρ.den).length e2] 26)).heap.size = w2.heap.size + 1 ∧ w0.heap.size ≤ w2.heap.size from ⟨by simp, p2.size⟩)
 have H3 := hid p3
 have HU := hid (own_block u2)
 have PZ := hid p1.size
 clear p1 f2 o2 u2 p2 p3
 go_wp2_with fail
 obtain ⟨w3, hw3⟩ : ∃ x, x = w2.alloc (.cells #[.bool (decide (ρ.num < 0)), .slice a2 (nd ρ.num.natAbs).length c2, .slice d2 (nd ρ.den).length e2] 26) := ⟨_, rfl⟩
 rw [← hw3] at QB U3 Z3 H3 ⊢
 clear hw3
 refine (HIP.out w3).mono ?_
 rintro e w4 ⟨a4, c4, rfl, o4, f4⟩
 have hx5 := o4.rd.le
 have hx6 := o4.rd.cm
 have p4 := H3.out.trans (f4.mono H3.out.size)
 obtain ⟨s0, s1, s2, s3, s4, s5⟩ := cells3 QB.out f4
 obtain ⟨k0, k1, k2, k3, k4, k5⟩ := cells3 HH.out p4
 have K4 := hid ((p4.block w.heap.size (by have := HSZ.out; omega)).trans HH.out)
 have Q4 := hid ((f4.block w2.heap.size (by have := Z3.out.1; omega)).trans QB.out)
 have H4 := hid (And.intro p4 (And.intro f4.size (And.intro o4 (U3.out.below f4))))
 have nb1 : ¬ (w.heap.size = w2.heap.size) := by have := HSZ.out; have := Z3.out.2; omega
 have nb2 : ¬ (w2.heap.size = w.heap.size) := fun h => nb1 h.symm
 clear o4 f4 p4
 go_wp2_with fail
 obtain ⟨w5, hw5⟩ : ∃ x, x = ((w4.setCell ⟨w2.heap.size, 0, none⟩ (.bool (decide (z < 0)))).setCell ⟨w2.heap.size, 1, none⟩ (.slice a4 (nd z.natAbs).length c4)) := ⟨_, rfl⟩
 have K5 := hid (show w5.heap[w.heap.size]? = some (.cells #[.bool false, .slice none 0 0, .slice none 0 0] 26) from by rw [hw5, heap_set _ _ _ _ _ nb1, heap_set _ _ _ _ _ nb1]; exact K4.out)
 have Q5 := hid (show w5.heap[w2.heap.size]? = some (.cells #[.bool (decide (z < 0)), .slice a4 (nd z.natAbs).length c4, .slice d2 (nd ρ.den).length e2] 26) from by
  rw [hw5]; exact Go.Joins.block_setCell (i := 1) (Go.Joins.block_setCell (i := 0) Q4.out _) _)
 have O5 := hid (show Own w3.heap.size w5 a4 c4 (nd z.natAbs) from by
  rw [hw5]; exact (H4.out.2.2.1.setOld (by have := Z3.out.1; omega) _).setOld (by have := Z3.out.1; omega) _)
 have B5 := hid (show Below w0.heap.size w0 w5 from by rw [hw5]; exact below_set _ _ Z3.out.2 (below_set _ _ Z3.out.2 H4.out.1))
 have S5 := hid (show w3.heap.size ≤ w5.heap.size from by rw [hw5, setCell_size, setCell_size]; exact H4.out.2.1)
 rw [← hw5]
 clear hw5 s0 s1 s2 s3 s4 s5 k0 k1 k2 k3 k4 k5 H4 Q4 K4
 refine (HNP.out w5).mono ?_
 rintro e w6 ⟨a6, c6, rfl, o6, f6⟩
 have hx7 := o6.rd.le
 have hx8 := o6.rd.cm
 obtain ⟨s0, s1, s2, s3, s4, s5⟩ := cells3 Q5.out f6
 have p6 := B5.out.trans (f6.mono B5.out.size)
 obtain ⟨k0, k1, k2, k3, k4, k5⟩ := cells3 HH.out p6
 have H6 := hid (And.intro p6 (And.intro f6 (And.intro o6 (O5.out.below f6))))
 have Q6 := hid ((f6.block w2.heap.size (by have := Z3.out.1; have := S5.out; omega)).trans Q5.out)
 clear o6 f6 p6
 have hV : (nd V).length ≤ 17592186044416 := HVL.out
 go_wp2_with fail
 obtain ⟨w7, hw7⟩ : ∃ x, x = w6.setCell ⟨w2.heap.size, 2, none⟩ (.slice a6 (nd V).length c6) := ⟨_, rfl⟩
 have Q7 := hid (show w7.heap[w2.heap.size]? = some (.cells #[.bool (decide (z < 0)), .slice a4 (nd z.natAbs).length c4, .slice a6 (nd V).length c6] 26) from by
  rw [hw7]; exact Go.Joins.block_setCell (i := 2) Q6.out _)
 have O7 := hid (show Own w3.heap.size w7 a4 c4 (nd z.natAbs) ∧ Own w5.heap.size w7 a6 c6 (nd V) from by
  have := Z3.out.1
  have := S5.out
  rw [hw7]; exact ⟨H6.out.2.2.2.setOld (by omega) _, H6.out.2.2.1.setOld (by omega) _⟩)
 have B7 := hid (show Below w0.heap.size w0 w7 from by rw [hw7]; exact below_set _ _ Z3.out.2 H6.out.1)
 have S7 := hid (show w5.heap.size ≤ w7.heap.size from by rw [hw7, setCell_size]; exact H6.out.2.1.size)
 rw [← hw7]
 clear hw7 s0 s1 s2 s3 s4 s5 k0 k1 k2 k3 k4 k5 H6 Q6
 have hio := isOne_any a6 c6 (nd V) w7 O7.out.2.rd hV false (by rw [val_nd]; exact ⟨fun h => absurd h (by simp), fun h => absurd h HONE.out⟩)
 obtain ⟨s0, s1, s2, s3, s4, s5⟩ := cells3 Q7.out (Below.refl _ _)
 obtain ⟨k0, k1, k2, k3, k4, k5⟩ := cells3 HH.out B7.out
 refine hio.mono ?_
 rintro e w8 ⟨rfl, rfl⟩
 clear hio
 have hvl := valid3_any (decide (z < 0)) a4 a6 c4 c6 (nd z.natAbs) (nd V) w7 O7.out.1.rd O7.out.2.rd HLZ.out HLV.out (HT.out w7 (HB.out.trans (B7.out.mono HB.out.size))) true ⟨fun _ => HCAN.out, fun _ => rfl⟩
 go_wp2_with fail
 refine hvl.mono ?_
 rintro e w9 ⟨rfl, f9⟩
 have p9 := B7.out.trans (f9.mono B7.out.size)
 clear s0 s1 s2 s3 s4 s5 k0 k1 k2 k3 k4 k5 hvl
 obtain ⟨s0, s1, s2, s3, s4, s5⟩ := cells3 Q7.out f9
 obtain ⟨k0, k1, k2, k3, k4, k5⟩ := cells3 HH.out p9
 have H9 := hid (And.intro p9 (And.intro (O7.out.1.below f9) (O7.out.2.below f9)))
 clear f9 p9
 have hh := HSZ.out
 have hz2 := Z3.out
 have hs5 := S5.out
 go_wp2
 refine bodyPost_ret (v := .tuple #[.agg #[.bool (decide (z < 0)), .slice a4 (nd z.natAbs).length c4, .slice a6 (nd V).length c6], .int .i64 0]) (by simp [results, Tryz.results14, go_sem, k0, k1, k2]) rfl ?_
 have e1 : rnm q 0 = nd z.natAbs := by rw [← HQ.out.1]; rfl
 have e2 : rdn q 0 = nd V := by rw [← HQ.out.2]; rfl
 have e3 : rsg q 0 = decide (z < 0) := by rw [← HQ.out.1]; exact Bool.true_and _
 have BW := HB.out.trans (H9.out.1.mono HB.out.size)
 refine ⟨a4, c4, a6, c6, by rw [e1, e2, e3], ?_, ?_, ?_⟩
 ·rw [e1]
  refine Own.mono (B := w3.heap.size) ?_ (by omega)
  repeat refine Own.setOld ?_ (by omega) _
  exact H9.out.2.1
 ·rw [e2]
  refine Own.mono (B := w5.heap.size) ?_ (by omega)
  repeat refine Own.setOld ?_ (by omega) _
  exact H9.out.2.2
 ·repeat refine below_set _ _ (by omega) ?_
  exact BW

end Go.Proofs.YtcankknlbljicaaGreatDoor
