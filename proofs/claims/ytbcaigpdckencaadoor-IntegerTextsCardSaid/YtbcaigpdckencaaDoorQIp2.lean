/- Integers' Format; the reference's Sign and Format. -/
import Derived.Test.YtbcaigpdckencaaDoorQIp1

namespace Go.Proofs.YtbcaigpdckencaaDoor
open Go.RowKit Num

/-- the text of an integer -/
def fmtL (z : Int) : List Nat := if z < 0 then 45 :: decT z.natAbs else decT z.natAbs
def RetFmtZ (z : Int) (w : World) (e : Ending) (w' : World) : Prop := e = .returned (.string (bstr (fmtL z))) ∧ Below w.heap.size w w'
theorem fmt_size {xs : List Nat} (hw : wf xs) (hl : xs.length ≤ 1073741824) : (fmtS (val xs)).size ≤ 10737418240 := by
  rw [fmtS, bstr_size, decT]
  split
  · simp
  · rw [List.length_reverse]
    have hlv := Nat.le_trans (nd_length_le_of hw) hl
    have hdl : (decR (val xs)).length ≤ 10 * (nd (val xs)).length := by
      refine decR_length (10 * (nd (val xs)).length) (val xs) (Nat.lt_of_lt_of_le (lt_pow_nd (val xs)) ?_)
      rw [Nat.pow_mul]
      exact Nat.pow_le_pow_left (by omega) _
    omega
theorem fmtL_nn {z : Int} (h : ¬ z < 0) : bstr (fmtL z) = fmtS z.natAbs := by rw [fmtL, if_neg h]; rfl
theorem fmtL_neg {z : Int} (h : z < 0) : bstr (fmtL z) = (⟨#[45]⟩ : ByteArray) ++ fmtS z.natAbs := by rw [fmtL, if_pos h, fmtS, minus_eq, bstr_append]; rfl

set_option maxRecDepth 100000 in
set_option maxHeartbeats 1600000 in
theorem iformat_any (b : Bool) (ao : Option Addr) (c : Nat) (xs : List Nat) (w : World) (h : Rd w ao c xs) (hl : xs.length ≤ 1073741824) :
    Calls Tryd.prog 47 #[.agg #[.bool b, .slice ao xs.length c]] w (RetFmtZ (iv b (val xs)) w) := by
  by_cases hn : iv b (val xs) < 0
  · have hba := below_alloc w (.cells #[.bool b, .slice ao xs.length c] 43)
    have hx1 := heap_alloc_at w (.cells #[.bool b, .slice ao xs.length c] 43)
    have HF := hid (format_any ao c xs _ (h.below hba) hl)
    have HP := hid (fun w' => pair_cells (w' := w') hx1)
    have HI := hid (fun w' (hb : Below w.heap.size w w') => isNegative_any b ao c xs w' (h.below hb) (by omega) true (by simp; omega))
    have HA := hid hba
    have HE := hid (show bstr (fmtL (iv b (val xs))) = (⟨#[45]⟩ : ByteArray) ++ fmtS (val xs) by rw [fmtL_neg hn, iv_abs])
    have hs := fmt_size h.dg hl
    have hs1 : (ByteArray.mk #[45]).size = 1 := rfl
    have hsum : (ByteArray.mk #[45]).size + (fmtS (val xs)).size ≤ 9223372036854775807 := by omega
    clear h hba hx1 hn hs hs1
    go_enter Tryd.func47, Tryd.ntmps47
    go_wp2_with fail
    refine HF.out.mono ?_
    rintro e w3 ⟨rfl, hb3⟩
    obtain ⟨s0, s1, _, _⟩ := HP.out w3 hb3
    have hb03 := HA.out.trans (hb3.mono HA.out.size)
    have hi := HI.out w3 hb03
    clear hb3
    go_wp2_with fail
    refine hi.mono ?_
    rintro e w4 ⟨rfl, hb4⟩
    have HB := hid (hb03.trans (hb4.mono hb03.size))
    clear hi hb03 hb4 s0 s1
    go_wp2
    go_ret
    exact ⟨by rw [HE.out]; rfl, HB.out⟩
  · refine (iformat_nn b ao c xs w h hl hn).mono ?_
    rintro e w' ⟨rfl, hb⟩
    exact ⟨by rw [fmtL_nn hn, iv_abs], hb⟩

set_option maxRecDepth 100000 in
set_option maxHeartbeats 1600000 in
theorem rsign_any (b : Bool) (ao : Option Addr) (c : Nat) (xs : List Nat) (w : World) (h : Rd w ao c xs) (hl : xs.length ≤ 17592186044416) :
    Calls Tryd.prog 83 #[.agg #[.bool b, .slice ao xs.length c]] w (RetB (.int .i64 (sgn (iv b (val xs)))) w) := by
  have hba := below_alloc w (.cells #[.bool b, .slice ao xs.length c] 43)
  have hx1 := heap_alloc_at w (.cells #[.bool b, .slice ao xs.length c] 43)
  have ht := rtrim2_any b ao c xs _ (h.below hba) hl
  obtain ⟨z, hz⟩ : ∃ z, z = iv b (val xs) := ⟨_, rfl⟩
  rw [← hz] at ht ⊢
  have HP := hid (fun w' => pair_cells (w' := w') hx1)
  have HA := hid hba
  have hzl : (nd z.natAbs).length ≤ 17592186044416 := by rw [hz, iv_abs]; exact Nat.le_trans (nd_length_le_of h.dg) hl
  clear h hba hx1 hz
  obtain ⟨s0, s1, s2, s3⟩ := HP.out _ (Below.refl _ _)
  by_cases h0 : z = 0
  · subst h0
    have hnz : (((nd 0).length : Int) == 0) = true := by rw [nd_zero]; rfl
    have HS := hid (show sgn 0 = 0 from rfl)
    go_enter Tryd.func83, Tryd.ntmps83
    go_wp2_with fail
    refine ht.mono ?_
    rintro e w2 ⟨a2, c2, rfl, o2, b2⟩
    clear s0 s1 s2 s3 ht
    obtain ⟨k0, k1, k2, k3⟩ := HP.out w2 b2
    have HB := hid (HA.out.trans (b2.mono HA.out.size))
    clear o2 b2
    go_wp2
    go_ret
    exact ⟨by rw [HS.out]; rfl, (HB.out.setCell (p := ⟨w.heap.size, 0, none⟩) (Nat.le_refl _) _).setCell (p := ⟨w.heap.size, 1, none⟩) (Nat.le_refl _) _⟩
  · have hnz : (((nd z.natAbs).length : Int) == 0) = false := by
      rw [beq_eq_false_iff_ne]
      intro h
      have := nd_eq_nil.1 (List.eq_nil_of_length_eq_zero (show (nd z.natAbs).length = 0 by omega))
      omega
    by_cases hn : z < 0
    · have hd : decide (z < 0) = true := decide_eq_true hn
      have HS := hid (show sgn z = -1 by rw [sgn, if_pos hn])
      clear h0 hn
      go_enter Tryd.func83, Tryd.ntmps83
      go_wp2_with fail
      refine ht.mono ?_
      rintro e w2 ⟨a2, c2, rfl, o2, b2⟩
      clear s0 s1 s2 s3 ht
      obtain ⟨k0, k1, k2, k3⟩ := HP.out w2 b2
      have HB := hid (HA.out.trans (b2.mono HA.out.size))
      clear o2 b2
      rw [hd]
      clear hd
      go_wp2
      go_ret
      exact ⟨by rw [HS.out]; rfl, (HB.out.setCell (p := ⟨w.heap.size, 0, none⟩) (Nat.le_refl _) _).setCell (p := ⟨w.heap.size, 1, none⟩) (Nat.le_refl _) _⟩
    · have hd : decide (z < 0) = false := decide_eq_false hn
      have HS := hid (show sgn z = 1 by rw [sgn, if_neg hn, if_neg h0])
      clear h0 hn
      go_enter Tryd.func83, Tryd.ntmps83
      go_wp2_with fail
      refine ht.mono ?_
      rintro e w2 ⟨a2, c2, rfl, o2, b2⟩
      clear s0 s1 s2 s3 ht
      obtain ⟨k0, k1, k2, k3⟩ := HP.out w2 b2
      have HB := hid (HA.out.trans (b2.mono HA.out.size))
      clear o2 b2
      rw [hd]
      clear hd
      go_wp2
      go_ret
      exact ⟨by rw [HS.out]; rfl, (HB.out.setCell (p := ⟨w.heap.size, 0, none⟩) (Nat.le_refl _) _).setCell (p := ⟨w.heap.size, 1, none⟩) (Nat.le_refl _) _⟩

set_option maxRecDepth 100000 in
set_option maxHeartbeats 1600000 in
theorem riformat_any (b : Bool) (ao : Option Addr) (c : Nat) (xs : List Nat) (w : World) (h : Rd w ao c xs) (hl : xs.length ≤ 1073741824) :
    Calls Tryd.prog 48 #[.agg #[.bool b, .slice ao xs.length c]] w (RetFmtZ (iv b (val xs)) w) := by
  have hle := h.le
  have hcm := h.cm
  have hba := below_alloc w (.cells #[.bool b, .slice ao xs.length c] 43)
  have hx1 := heap_alloc_at w (.cells #[.bool b, .slice ao xs.length c] 43)
  have hsg := rsign_any b ao c xs _ (h.below hba) (by omega)
  have HF := hid (fun w' (hb : Below w.heap.size w w') => rformat_any ao c xs w' (h.below hb) hl)
  have HP := hid (fun w' => pair_cells (w' := w') hx1)
  have HA := hid hba
  obtain ⟨s0, s1, s2, s3⟩ := HP.out _ (Below.refl _ _)
  by_cases hn : iv b (val xs) < 0
  · have HE := hid (show bstr (fmtL (iv b (val xs))) = (⟨#[45]⟩ : ByteArray) ++ fmtS (val xs) by rw [fmtL_neg hn, iv_abs])
    have hs := fmt_size h.dg hl
    have hs1 : (ByteArray.mk #[45]).size = 1 := rfl
    have hsum : (ByteArray.mk #[45]).size + (fmtS (val xs)).size ≤ 9223372036854775807 := by omega
    rw [show sgn (iv b (val xs)) = -1 by rw [sgn, if_pos hn]] at hsg
    clear h hba hx1 hn hs hs1
    go_enter Tryd.func48, Tryd.ntmps48
    go_wp2_with fail
    refine hsg.mono ?_
    rintro e w2 ⟨rfl, b2⟩
    clear s0 s1 s2 s3 hsg
    obtain ⟨k0, k1, k2, k3⟩ := HP.out w2 b2
    have b02 := HA.out.trans (b2.mono HA.out.size)
    have hf := HF.out w2 b02
    clear b2
    go_wp2_with fail
    refine hf.mono ?_
    rintro e w3 ⟨rfl, b3⟩
    have HB := hid (b02.trans (b3.mono b02.size))
    clear b02 b3 hf k0 k1 k2 k3
    go_wp2
    go_ret
    exact ⟨by rw [HE.out]; rfl, HB.out⟩
  · have HE := hid (show bstr (fmtL (iv b (val xs))) = fmtS (val xs) by rw [fmtL_nn hn, iv_abs])
    obtain ⟨r, hr⟩ : ∃ r, r = sgn (iv b (val xs)) := ⟨_, rfl⟩
    have hr0 : ¬ r < 0 := by rw [hr, sgn, if_neg hn]; split <;> omega
    rw [← hr] at hsg
    clear h hba hx1 hn hr
    go_enter Tryd.func48, Tryd.ntmps48
    go_wp2_with fail
    refine hsg.mono ?_
    rintro e w2 ⟨rfl, b2⟩
    clear s0 s1 s2 s3 hsg
    obtain ⟨k0, k1, k2, k3⟩ := HP.out w2 b2
    have b02 := HA.out.trans (b2.mono HA.out.size)
    have hf := HF.out w2 b02
    clear b2
    go_wp2_with fail
    refine hf.mono ?_
    rintro e w3 ⟨rfl, b3⟩
    have HB := hid (b02.trans (b3.mono b02.size))
    clear b02 b3 hf k0 k1 k2 k3
    go_wp2
    go_ret
    exact ⟨by rw [HE.out]; rfl, HB.out⟩
end Go.Proofs.YtbcaigpdckencaaDoor
