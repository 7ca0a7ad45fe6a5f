/-  -/
import Derived.Test.YtcankknlbljicaaGreatDoorW1
import Derived.Test.YtcankknlbljicaaGreatDoorW8

set_option linter.unusedVariables false
set_option linter.unusedSimpArgs false
set_option linter.unusedSectionVars false
set_option maxRecDepth 100000
set_option maxHeartbeats 3200000

namespace Go.Proofs.YtcankknlbljicaaGreatDoor
open Go.RowKit Num

def fmtQ (q : Rat) : List Nat := fmtL q.num ++ (if q.den = 1 then [] else 47 :: decT q.den)
theorem slash_eq : (ByteArray.mk #[47]) = bstr [47] := rfl
theorem fmtL_size {z : Int} {xs : List Nat} (hw : wf xs) (hl : xs.length ≤ 1073741824) (hv : val xs = z.natAbs) : (bstr (fmtL z)).size ≤ 10737418241 := by
 have h := fmt_size hw hl
 rw [hv] at h
 by_cases hz : z < 0
 ·rw [fmtL_neg hz, ByteArray.size_append]
  have : (⟨#[45]⟩ : ByteArray).size = 1 := rfl
  omega
 ·rw [fmtL_nn hz]; omega

theorem format3_any {w : World} {b : Bool} {ao : Option Addr} {c : Nat} {xs : List Nat} {ad : Option Addr} {d : Nat} {ds : List Nat} {q : Rat} {n : Nat} (h : Rq w b ao c xs ad d ds q n) (hn : n ≤ 1073741000) (hT : Tb w) :
  Calls Tryz.prog 16 #[.agg #[.bool b, .slice ao xs.length c, .slice ad ds.length d]] w (RetB (.string (bstr (fmtQ q))) w) := by
 have hle1 := h.rn.le
 have hcm1 := h.rn.cm
 have hle2 := h.rd.le
 have hcm2 := h.rd.cm
 have hsz0 := h.sz
 have hB := below_alloc w (.cells #[.bool b, .slice ao xs.length c, .slice ad ds.length d] 26)
 have HH := hid (heap_alloc_at w (.cells #[.bool b, .slice ao xs.length c, .slice ad ds.length d] 26))
 have HSZ := hid (show (w.alloc (.cells #[.bool b, .slice ao xs.length c, .slice ad ds.length d] 26)).heap.size = w.heap.size + 1 by simp)
 have HB := hid hB
 have ht := trim3_any (h.below hB) (show n ≤ 4398046511103 by omega) (hT.below hB)
 clear h hB hT
 go_enter Tryz.func16, Tryz.ntmps16
 go_wp2_with fail
 obtain ⟨w0, hw0⟩ : ∃ x, x = (w.alloc (.cells #[.bool b, .slice ao xs.length c, .slice ad ds.length d] 26)) := ⟨_, rfl⟩
 rw [← hw0] at HH HSZ HB ht ⊢
 clear hw0
 refine ht.mono ?_
 rintro e w1 ⟨a1, c1, d1, e1, rfl, o1, u1, f1⟩
 have hx1 := o1.rd.le
 have hx2 := o1.rd.cm
 have hx3 := u1.rd.le
 have hx4 := u1.rd.cm
 obtain ⟨s0, s1, s2, s3, s4, s5⟩ := cells3 HH.out f1
 have K1 := hid ((f1.block w.heap.size (by have := HSZ.out; omega)).trans HH.out)
 have H1 := hid (And.intro f1 (And.intro o1 u1))
 clear ht f1 o1 u1
 go_wp2_with fail
 obtain ⟨w2, hw2⟩ : ∃ x, x = (((w1.setCell ⟨w.heap.size, 0, none⟩ (.bool (decide (q.num < 0)))).setCell ⟨w.heap.size, 1, none⟩ (.slice a1 (nd q.num.natAbs).length c1)).setCell ⟨w.heap.size, 2, none⟩ (.slice d1 (nd q.den).length e1)) := ⟨_, rfl⟩
 rw [← hw2]
 have B1 := hid (show w2.heap[w.heap.size]? = some (.cells #[.bool (decide (q.num < 0)), .slice a1 (nd q.num.natAbs).length c1, .slice d1 (nd q.den).length e1] 26) from hw2 ▸ box3 K1.out)
 have BB := hid (show Below w.heap.size w w2 from by
  rw [hw2]
  have := HB.out.trans (H1.out.1.mono HB.out.size)
  exact below_set _ _ (Nat.le_refl _) (below_set _ _ (Nat.le_refl _) (below_set _ _ (Nat.le_refl _) this)))
 have O2 := hid (show Own w0.heap.size w2 a1 c1 (nd q.num.natAbs) ∧ Own w0.heap.size w2 d1 e1 (nd q.den) from by
  have := HSZ.out
  rw [hw2]
  exact ⟨((H1.out.2.1.setOld (by omega) _).setOld (by omega) _).setOld (by omega) _, ((H1.out.2.2.setOld (by omega) _).setOld (by omega) _).setOld (by omega) _⟩)
 clear hw2 s0 s1 s2 s3 s4 s5 K1
 have hf := iformat_any (decide (q.num < 0)) a1 c1 (nd q.num.natAbs) w2 O2.out.1.rd (by have := hsz0.1; omega)
 rw [val_nd, iv_self] at hf
 have sz1 := fmtL_size (z := q.num) (wf_nd _) (by have := hsz0.1; omega) (val_nd _)
 have sz2 := fmt_size (wf_nd q.den) (by have := hsz0.2; omega)
 rw [val_nd] at sz2
 have hfd := hid (fun w' (hr : Rd w' d1 e1 (nd q.den)) => show Calls Tryz.prog 90 #[.slice d1 (nd q.den).length e1] w' (RetFmt q.den w') from by
  have h6 := format_any d1 e1 (nd q.den) w' hr (by have := hsz0.2; omega)
  rw [val_nd] at h6
  exact h6)
 have hio := hid (fun w' (hr : Rd w' d1 e1 (nd q.den)) (r : Bool) (h : r = true ↔ q.den = 1) => isOne_any d1 e1 (nd q.den) w' hr (by have := hsz0.2; omega) r (by rw [val_nd]; exact h))
 have HQ1 := hid (fun (h : q.den = 1) => show bstr (fmtL q.num) = bstr (fmtQ q) by unfold fmtQ; rw [if_pos h, List.append_nil])
 have HQ2 := hid (fun (h : q.den ≠ 1) => show bstr (fmtL q.num) ++ (ByteArray.mk #[47]) ++ fmtS q.den = bstr (fmtQ q) by
  unfold fmtQ; rw [if_neg h, slash_eq, fmtS, bstr_append, bstr_append, List.append_assoc]; rfl)
 have szs : (ByteArray.mk #[47]).size = 1 := rfl
 obtain ⟨T1, hT1⟩ : ∃ T, T = bstr (fmtL q.num) := ⟨_, rfl⟩
 have szt : T1.size + (ByteArray.mk #[47]).size ≤ 9223372036854775807 := by rw [hT1]; omega
 have szu : (T1 ++ ByteArray.mk #[47]).size + (fmtS q.den).size ≤ 9223372036854775807 := by rw [ByteArray.size_append, hT1]; omega
 have szv : T1.size + (ByteArray.mk #[47]).size + (fmtS q.den).size ≤ 9223372036854775807 := by rw [hT1]; omega
 unfold RetFmtZ at hf
 rw [← hT1] at hf sz1 HQ1 HQ2
 clear hT1
 refine hf.mono ?_
 rintro e w3 ⟨rfl, f3⟩
 obtain ⟨s0, s1, s2, _⟩ := cells3 B1.out f3
 by_cases hd1 : q.den = 1
 ·have h4 := hio.out w3 (O2.out.2.below f3).rd true (by simp [hd1])
  have H3 := hid f3
  have HE := hid (HQ1.out hd1)
  clear hf f3 hd1 HQ1 HQ2
  go_wp2_with fail
  refine h4.mono ?_
  rintro e w' ⟨rfl, rfl⟩
  clear h4
  go_wp2
  go_ret
  exact ⟨by rw [HE.out]; rfl, BB.out.trans (H3.out.mono BB.out.size)⟩
 ·have h4 := hio.out w3 (O2.out.2.below f3).rd false (by simp [hd1])
  have h5 := hfd.out w3 (O2.out.2.below f3).rd
  have H3 := hid f3
  have HE := hid (HQ2.out hd1)
  clear hf f3 hd1 HQ1 HQ2
  go_wp2_with fail
  refine h4.mono ?_
  rintro e w' ⟨rfl, rfl⟩
  clear h4
  go_wp2_with fail
  refine h5.mono ?_
  rintro e w4 ⟨rfl, f4⟩
  have H4 := hid (BB.out.trans ((H3.out.trans (f4.mono H3.out.size)).mono BB.out.size))
  clear h5 f4
  go_wp2
  go_ret
  exact ⟨by rw [HE.out]; rfl, H4.out⟩

end Go.Proofs.YtcankknlbljicaaGreatDoor

namespace Go.Proofs.YtcankknlbljicaaGreatDoor
open Go.RowKit Num

theorem smallrat_any (b : Bool) (ao ad : Option Addr) (n c m d : Nat) (r : Bool) (w : World) (hn : n ≤ 9223372036854775807) (hm : m ≤ 9223372036854775807) (hr : r = true ↔ n ≤ 4 ∧ m ≤ 4) :
  Calls Tryz.prog 12 #[.agg #[.bool b, .slice ao n c, .slice ad m d]] w (RetB (.bool r) w) := by
 have hB := hid (below_alloc w (.cells #[.bool b, .slice ao n c, .slice ad m d] 26))
 by_cases h1 : n ≤ 4
 ·by_cases h2 : m ≤ 4
  ·obtain rfl : r = true := hr.2 ⟨h1, h2⟩
   have i1 : (n : Int) ≤ 4 := by omega
   have i2 : (m : Int) ≤ 4 := by omega
   clear hr h1 h2
   go_enter Tryz.func12, Tryz.ntmps12
   go_wp2
   go_ret
   exact ⟨rfl, hB.out⟩
  ·obtain rfl : r = false := by
    cases r with
    | false => rfl
    | true => exact absurd (hr.1 rfl).2 h2
   have i1 : (n : Int) ≤ 4 := by omega
   have i2 : ¬ ((m : Int) ≤ 4) := by omega
   clear hr h1 h2
   go_enter Tryz.func12, Tryz.ntmps12
   go_wp2
   go_ret
   exact ⟨rfl, hB.out⟩
 ·obtain rfl : r = false := by
   cases r with
   | false => rfl
   | true => exact absurd (hr.1 rfl).1 h1
  have i1 : ¬ ((n : Int) ≤ 4) := by omega
  clear hr h1
  go_enter Tryz.func12, Tryz.ntmps12
  go_wp2
  go_ret
  exact ⟨rfl, hB.out⟩

end Go.Proofs.YtcankknlbljicaaGreatDoor

namespace Go.Proofs.YtcankknlbljicaaGreatDoor
open Go.RowKit Num

end Go.Proofs.YtcankknlbljicaaGreatDoor
