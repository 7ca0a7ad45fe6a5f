/-  -/
import Derived.Test.YtcankknlbljicaaGreatDoorWbd
import Derived.Test.YtcankknlbljicaaGreatDoorW2

set_option linter.unusedVariables false
set_option linter.unusedSimpArgs false
set_option linter.unusedSectionVars false
set_option maxRecDepth 100000
set_option maxHeartbeats 3200000

namespace Go.Proofs.YtcankknlbljicaaGreatDoor
open Go.RowKit Num

end Go.Proofs.YtcankknlbljicaaGreatDoor

namespace Go.Proofs.YtcankknlbljicaaGreatDoor
open Go.RowKit Num

end Go.Proofs.YtcankknlbljicaaGreatDoor

namespace Go.Proofs.YtcankknlbljicaaGreatDoor
open Go.RowKit Num

end Go.Proofs.YtcankknlbljicaaGreatDoor

namespace Go.Proofs.YtcankknlbljicaaGreatDoor
open Go.RowKit Num

theorem iv_keepV {neg : Bool} {V : Nat} (h : ¬ (neg = true ∧ V = 0)) : decide (iv neg V < 0) = neg := by
 rw [iv_neg]
 cases neg with
 | false => rfl
 | true => simp; exact Nat.pos_of_ne_zero fun h2 => h ⟨rfl, h2⟩

theorem canon_iff {b : Bool} {xs ds : List Nat} (hx : wf xs) (hd : wf ds) {q : Rat} (hq : rv b (val xs) (val ds) = q) :
  canon b xs ds ↔ (b = decide (q.num < 0) ∧ xs = nd q.num.natAbs) ∧ ds = nd q.den := by
 constructor
 ·rintro ⟨⟨h1, h2⟩, h3, h4, h5⟩
  have hd0 : val ds ≠ 0 := val_pos_of h3 h4
  have e : q = ⟨iv b (val xs), val ds, hd0, by rw [iv_abs]; exact h5⟩ := by
   rw [← hq, rv, mkRat, dif_neg hd0]
   exact Rat.normalize_eq_mk' _ _ hd0 (by rw [iv_abs]; exact h5)
  have en : q.num = iv b (val xs) := by rw [e]
  have ed : q.den = val ds := by rw [e]
  rw [en, ed, iv_abs, nd_val hx h1, nd_val hd h3]
  refine ⟨⟨?_, rfl⟩, rfl⟩
  refine (iv_keepV ?_).symm
  rintro ⟨hb, hv⟩
  exact h2 ⟨hb, Classical.byContradiction fun hne => val_pos_of h1 hne hv⟩
 ·rintro ⟨⟨rfl, rfl⟩, rfl⟩
  refine ⟨⟨nrm_nd _, ?_⟩, nrm_nd _, ?_, ?_⟩
  ·rintro ⟨h1, h2⟩
   have h3 := nd_eq_nil.1 h2
   have h4 := of_decide_eq_true h1
   omega
  ·intro h
   exact q.den_nz (nd_eq_nil.1 h)
  ·rw [val_nd, val_nd]; exact q.reduced

theorem rvalid3_any {b : Bool} {ao ad : Option Addr} {c d : Nat} {xs ds : List Nat} {w : World} {q : Rat} {n : Nat} (h : Rq w b ao c xs ad d ds q n) (hn : n ≤ 4398046511103) (r : Bool) (hr : r = true ↔ canon b xs ds) :
  Calls Tryz.prog 87 #[.agg #[.bool b, .slice ao xs.length c, .slice ad ds.length d]] w (RetB (.bool r) w) := by
 have hle1 := h.rn.le
 have hcm1 := h.rn.cm
 have hle2 := h.rd.le
 have hcm2 := h.rd.cm
 have hB := below_alloc w (.cells #[.bool b, .slice ao xs.length c, .slice ad ds.length d] 26)
 have HH := hid (heap_alloc_at w (.cells #[.bool b, .slice ao xs.length c, .slice ad ds.length d] 26))
 have HB := hid hB
 have hc := hid (hr.trans (canon_iff h.rn.dg h.rd.dg h.vq))
 have HT := hid (fun w' (g : Below w.heap.size w w') => rtrim3_any (h.below g) hn)
 have HS := hid (fun w' a2 c2 d2 e2 (g : Below w.heap.size w w') (o1 : Rd w' a2 c2 (nd q.num.natAbs)) (o2 : Rd w' d2 e2 (nd q.den)) => same3_any b (decide (q.num < 0)) ao ad a2 d2 c d c2 e2 xs ds (nd q.num.natAbs) (nd q.den) r w' (h.rn.below g) (h.rd.below g) o1 o2 hc.out)
 clear h hB hr
 go_enter Tryz.func87, Tryz.ntmps87
 go_wp2_with fail
 obtain ⟨w0, hw0⟩ : ∃ x, x = (w.alloc (.cells #[.bool b, .slice ao xs.length c, .slice ad ds.length d] 26)) := ⟨_, rfl⟩
 rw [← hw0] at HH HB ⊢
 clear hw0
 obtain ⟨s0, s1, s2, _⟩ := cells3 HH.out (Below.refl _ _)
 have p0 : Below w.heap.size w w0.drew := HB.out.trans (below_drewI w.heap.size w0)
 have j0 : Below w0.heap.size w0 w0.drew := below_drewI _ _
 go_region_held3 (fun w' => w'.cell? ⟨w.heap.size, 0, none⟩ = some (.bool b) ∧ w'.cell? ⟨w.heap.size, 1, none⟩ = some (.slice ao xs.length c) ∧ w'.cell? ⟨w.heap.size, 2, none⟩ = some (.slice ad ds.length d)) (go_keep) (first
  | (go_at_call 17; (with_reducible refine (HS.out y1 _ _ _ _ p1 o1.rd u1.rd).mono ?_); rintro e y2 ⟨rfl, g2⟩; have p2 := p1.trans (g2.mono p1.size); have j2 := j1.trans (g2.mono j1.size); obtain ⟨v0, v1, v2, _⟩ := cells3 HH.out j2)
  | (go_at_call 19; (with_reducible refine (HT.out w0.drew p0).mono ?_); rintro e y1 ⟨a1, e1, d1, g1, rfl, o1, u1, f1⟩; have p1 := p0.trans (f1.mono p0.size); have j1 := j0.trans (f1.mono j0.size); obtain ⟨t0, t1, t2, _⟩ := cells3 HH.out j1))
 all_goals
  go_wp2
  go_ret
  exact ⟨rfl, p2⟩
end Go.Proofs.YtcankknlbljicaaGreatDoor
