/-  -/
import Derived.Test.YtcankknlbljicaaGreatDoorW6

set_option linter.unusedVariables false
set_option linter.unusedSimpArgs false
set_option linter.unusedSectionVars false
set_option maxRecDepth 100000
set_option maxHeartbeats 3200000

namespace Go.Proofs.YtcankknlbljicaaGreatDoor
open Go.RowKit Num

theorem fr_div {w : World} {b : Bool} {ao : Option Addr} {c : Nat} {xs : List Nat} {ad : Option Addr} {d : Nat} {ds : List Nat} {q : Rat} {n : Nat} (h : Fr w b ao c xs ad d ds q n) : Rat.divInt (iv b (val xs)) (iv false (val ds)) = q := by
 rw [show iv false (val ds) = ((val ds : Nat) : Int) from rfl, Rat.divInt_ofNat, h.vq]

theorem rtrim3_any {w : World} {b : Bool} {ao : Option Addr} {c : Nat} {xs : List Nat} {ad : Option Addr} {d : Nat} {ds : List Nat} {q : Rat} {n : Nat} (h : Rq w b ao c xs ad d ds q n) (hn : n ≤ 4398046511103) :
  Calls Tryz.prog 19 #[.agg #[.bool b, .slice ao xs.length c, .slice ad ds.length d]] w (RetRat q w) := by
 have hle1 := h.rn.le
 have hcm1 := h.rn.cm
 have hle2 := h.rd.le
 have hcm2 := h.rd.cm
 have hB := A2_below w (.cells #[.bool b, .slice ao xs.length c, .slice ad ds.length d] 26) (.cells #[.bool false, .slice none 0 0, .slice none 0 0] 26)
 have HH := hid (A2_heap w (.cells #[.bool b, .slice ao xs.length c, .slice ad ds.length d] 26) (.cells #[.bool false, .slice none 0 0, .slice none 0 0] 26))
 have HSZ := hid (A2_size w (.cells #[.bool b, .slice ao xs.length c, .slice ad ds.length d] 26) (.cells #[.bool false, .slice none 0 0, .slice none 0 0] 26))
 have HB := hid hB
 have hp := parts_r (h.below hB) hn
 unfold A2 at HH HSZ HB hp
 clear h hB
 have n01 : ¬ (w.heap.size = w.heap.size + 1 + 1) := by omega
 have n02 : ¬ (w.heap.size + 1 + 1 = w.heap.size) := by omega
 have n03 : ¬ (w.heap.size + 1 = w.heap.size + 1 + 1) := by omega
 have n04 : ¬ (w.heap.size + 1 + 1 = w.heap.size + 1) := by omega
 have n05 : ¬ (w.heap.size = w.heap.size + 1) := by omega
 have n06 : ¬ (w.heap.size + 1 = w.heap.size) := by omega
 go_enter Tryz.func19, Tryz.ntmps19
 go_wp2_with fail
 obtain ⟨w0, hw0⟩ : ∃ x, x = ((w.alloc (.cells #[.bool b, .slice ao xs.length c, .slice ad ds.length d] 26)).alloc (.cells #[.bool false, .slice none 0 0, .slice none 0 0] 26)) := ⟨_, rfl⟩
 rw [← hw0] at HH HSZ HB hp ⊢
 clear hw0
 refine hp.mono ?_
 rintro e w1 ⟨bp, ap, cp, xp, dp, ep, Dp, rfl, Fp, f1⟩
 have hl1a := Fp.ln
 have hl1b := Fp.ld
 have hv1c := Fp.rn.le
 have hv1d := Fp.rd.le
 have hw1e := Fp.rn.cm
 have hw1f := Fp.rd.cm
 have hbp := A2_below w1 (.cells #[.bool bp, .slice ap xp.length cp] 24) (.cells #[.bool false, .slice dp (nd Dp).length ep] 24)
 have HP := hid (A2_heap w1 (.cells #[.bool bp, .slice ap xp.length cp] 24) (.cells #[.bool false, .slice dp (nd Dp).length ep] 24))
 have HPZ := hid (A2_size w1 (.cells #[.bool bp, .slice ap xp.length cp] 24) (.cells #[.bool false, .slice dp (nd Dp).length ep] 24))
 have HF := hid (Fp.below hbp)
 have H1 := hid (And.intro (f1.trans (hbp.mono f1.size)) f1.size)
 unfold A2 at HP HPZ HF H1
 clear hp f1 hbp Fp
 go_wp2_with fail
 obtain ⟨wz, hwz⟩ : ∃ x, x = ((w1.alloc (.cells #[.bool bp, .slice ap xp.length cp] 24)).alloc (.cells #[.bool false, .slice dp (nd Dp).length ep] 24)) := ⟨_, rfl⟩
 rw [← hwz] at HP HPZ HF H1 ⊢
 clear hwz
 refine (reduce_q HF.out.rn HF.out.rd (by omega) (by omega) (fr_div HF.out)).mono ?_
 rintro e w2 ⟨a2, c2, d2, e2, rfl, o2, u2, f2⟩
 have p2 := H1.out.1.trans (f2.mono H1.out.1.size)
 obtain ⟨k0, k1, k2, k3, k4, k5⟩ := cells3 HH.out.2 p2
 have H2 := hid (And.intro o2 (And.intro u2 p2))
 clear o2 u2 f2 p2
 go_wp2
 have hsz := HSZ.out
 have hs1 := H1.out
 have hs2 := H1.out.1.size
 refine bodyPost_ret (v := .agg #[.bool (decide (q.num < 0)), .slice a2 (nd q.num.natAbs).length c2, .slice d2 (nd q.den).length e2]) (by simp [results, Tryz.results19, go_sem, k0, k1, k2]) rfl ?_
 exact RetRat.fin H2.out.1 H2.out.2.1 (by omega) (HB.out.trans (H2.out.2.2.mono HB.out.size)) (by omega) _ _ _

end Go.Proofs.YtcankknlbljicaaGreatDoor

namespace Go.Proofs.YtcankknlbljicaaGreatDoor
open Go.RowKit Num

end Go.Proofs.YtcankknlbljicaaGreatDoor

namespace Go.Proofs.YtcankknlbljicaaGreatDoor
open Go.RowKit Num

end Go.Proofs.YtcankknlbljicaaGreatDoor
