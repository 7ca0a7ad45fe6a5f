/-  -/
import Derived.Test.YtcankknlbljicaaGreatDoorXbd
import Derived.Test.YtcankknlbljicaaGreatDoorX2

set_option linter.unusedVariables false
set_option linter.unusedSimpArgs false
set_option linter.unusedSectionVars false
set_option maxRecDepth 100000
set_option maxHeartbeats 3200000

namespace Go.Proofs.YtcankknlbljicaaGreatDoor
open Go.RowKit Num

theorem rless3_any {b1 : Bool} {ao1 : Option Addr} {c1 : Nat} {xs1 : List Nat} {ad1 : Option Addr} {d1 : Nat} {ds1 : List Nat} {q1 : Rat} {n1 : Nat} {b2 : Bool} {ao2 : Option Addr} {c2 : Nat} {xs2 : List Nat} {ad2 : Option Addr} {d2 : Nat} {ds2 : List Nat} {q2 : Rat} {n2 : Nat} {w : World} (h1 : Rq w b1 ao1 c1 xs1 ad1 d1 ds1 q1 n1) (h2 : Rq w b2 ao2 c2 xs2 ad2 d2 ds2 q2 n2) (hn1 : n1 ≤ 999999999999) (hn2 : n2 ≤ 999999999999) :
  Calls Tryz.prog 134 #[.agg #[.bool b1,.slice ao1 xs1.length c1,.slice ad1 ds1.length d1],.agg #[.bool b2,.slice ao2 xs2.length c2,.slice ad2 ds2.length d2]] w (RetB (.bool (decide (q1 < q2))) w) := by
 have hle1a := h1.rn.le
 have hcm1b := h1.rn.cm
 have hle1c := h1.rd.le
 have hcm1d := h1.rd.cm
 have hle2a := h2.rn.le
 have hcm2b := h2.rn.cm
 have hle2c := h2.rd.le
 have hcm2d := h2.rd.cm
 have hB := A2_below w (.cells #[.bool b1,.slice ao1 xs1.length c1,.slice ad1 ds1.length d1] 26) (.cells #[.bool b2,.slice ao2 xs2.length c2,.slice ad2 ds2.length d2] 26)
 have HB := hid hB
 have hc := rcmp3_any (h1.below hB) (h2.below hB) hn1 hn2
 have hv : decide (cmpQ q1 q2 < 0) = decide (q1 < q2) := by
  unfold cmpQ
  by_cases h : q1 < q2
  ·simp [h]
  ·by_cases k : q2 < q1 <;> simp [h,k]
 obtain ⟨R,hR⟩ : ∃ R,R = cmpQ q1 q2 := ⟨_,rfl⟩
 rw [← hR] at hc hv
 rw [← hv]
 unfold A2 at HB hc
 clear h1 h2 hB hR hv
 go_enter Tryz.func134,Tryz.ntmps134
 go_wp2_with fail
 refine hc.mono ?_
 rintro e w1 ⟨rfl,f1⟩
 have H1 := hid (HB.out.trans (f1.mono HB.out.size))
 clear hc f1
 go_wp2
 go_ret
 exact ⟨rfl,H1.out⟩

end Go.Proofs.YtcankknlbljicaaGreatDoor

namespace Go.Proofs.YtcankknlbljicaaGreatDoor
open Go.RowKit Num

end Go.Proofs.YtcankknlbljicaaGreatDoor

namespace Go.Proofs.YtcankknlbljicaaGreatDoor
open Go.RowKit Num

end Go.Proofs.YtcankknlbljicaaGreatDoor

namespace Go.Proofs.YtcankknlbljicaaGreatDoor
open Go.RowKit Num

theorem iv_keepV {neg : Bool} {V : Nat} (h : ¬ (neg = true ∧ V = 0)) : decide (iv neg V < 0) = neg := by
 rw [iv_neg]
 cases neg with
 | false => rfl
 | true => simp; exact Nat.pos_of_ne_zero fun h2 => h ⟨rfl,h2⟩

theorem canon_iff {b : Bool} {xs ds : List Nat} (hx : wf xs) (hd : wf ds) {q : Rat} (hq : rv b (val xs) (val ds) = q) :
  canon b xs ds ↔ (b = decide (q.num < 0) ∧ xs = nd q.num.natAbs) ∧ ds = nd q.den := by
 constructor
 ·rintro ⟨⟨h1,h2⟩,h3,h4,h5⟩
  have hd0 : val ds ≠ 0 := val_pos_of h3 h4
  have e : q = ⟨iv b (val xs),val ds,hd0,by rw [iv_abs]; exact h5⟩ := by
   rw [← hq,rv,mkRat,dif_neg hd0]
   exact Rat.normalize_eq_mk' _ _ hd0 (by rw [iv_abs]; exact h5)
  have en : q.num = iv b (val xs) := by rw [e]
  have ed : q.den = val ds := by rw [e]
  rw [en,ed,iv_abs,nd_val hx h1,nd_val hd h3]
  refine ⟨⟨?_,rfl⟩,rfl⟩
  refine (iv_keepV ?_).symm
  rintro ⟨hb,hv⟩
  exact h2 ⟨hb,Classical.byContradiction fun hne => val_pos_of h1 hne hv⟩
 ·rintro ⟨⟨rfl,rfl⟩,rfl⟩
  refine ⟨⟨nrm_nd _,?_⟩,nrm_nd _,?_,?_⟩
  ·rintro ⟨h1,h2⟩
   have h3 := nd_eq_nil.1 h2
   have h4 := of_decide_eq_true h1
   omega
  ·intro h
   exact q.den_nz (nd_eq_nil.1 h)
  ·rw [val_nd,val_nd]; exact q.reduced

end Go.Proofs.YtcankknlbljicaaGreatDoor
