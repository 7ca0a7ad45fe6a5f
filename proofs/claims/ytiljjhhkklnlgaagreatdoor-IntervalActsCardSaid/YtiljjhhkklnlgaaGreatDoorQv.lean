/-  -/
import Derived.Test.YtiljjhhkklnlgaaGreatDoorQm
import Derived.Test.YtiljjhhkklnlgaaGreatDoorQr

set_option linter.unusedVariables false
set_option linter.unusedSimpArgs false
set_option linter.unusedSectionVars false
set_option maxRecDepth 100000
set_option maxHeartbeats 3200000

namespace Go.Proofs.YtiljjhhkklnlgaaGreatDoor
open Go.RowKit Num

theorem rgcd_any (aa ab : Option Addr) (ca cb : Nat) (xs ys : List Nat) (w : World) (ha : Rd w aa ca xs) (hb : Rd w ab cb ys) (hl1 : xs.length ≤ 4398046511104) (hl2 : ys.length ≤ 4398046511104) :
  Calls Tryz.prog 244 #[.slice aa xs.length ca, .slice ab ys.length cb] w (RetOwn w.heap.size (nd (Nat.gcd (val xs) (val ys))) w) := by
 have hle1 := ha.le
 have hle2 := hb.le
 have ht1 := rtrim_any aa ca xs w ha (by omega)
 have ht2 := fun w1 (h : Rd w1 ab cb ys) => rtrim_any ab cb ys w1 h (by omega)
 have hlx := Nat.le_trans (nd_length_le_of ha.dg) hl1
 have hly := Nat.le_trans (nd_length_le_of hb.dg) hl2
 obtain ⟨u0, hu0⟩ : ∃ u, u = val xs := ⟨_, rfl⟩
 obtain ⟨v0, hv0⟩ : ∃ u, u = val ys := ⟨_, rfl⟩
 rw [← hu0] at ht1 hlx ⊢
 rw [← hv0] at hly ⊢
 simp only [← hv0] at ht2
 obtain ⟨G, hG⟩ : ∃ G, G = Nat.gcd u0 v0 := ⟨_, rfl⟩
 rw [← hG]
 have HG := hid hG
 have HB := hid hb
 have HT2 := hid ht2
 clear hu0 hv0 hG ha hb ht2
 go_enter Tryz.func244, Tryz.ntmps244
 go_wp2_with fail
 refine ht1.mono ?_
 rintro e w1 ⟨a1, c1, rfl, ho1, hb1⟩
 have ht2 := HT2.out w1 (HB.out.below hb1)
 go_wp2_with fail
 refine ht2.mono ?_
 rintro e w2 ⟨a2, c2, rfl, ho2, hb2⟩
 have hb02 := hb1.trans (hb2.mono hb1.size)
 have HS := hid (And.intro (ho1.below hb2) (And.intro (ho2.mono hb1.size) hb02))
 clear ht1 ht2 ho1 ho2 hb1 hb2 hb02
 go_wp2_with fail
 go_loopw [0, 1] (fun av bv wr => ∃ (u v : Nat) (a3 a4 : Option Addr) (c3 c4 : Nat), av = .slice a3 (nd u).length c3 ∧ bv = .slice a4 (nd v).length c4 ∧ (nd u).length ≤ 4398046511104 ∧ (nd v).length ≤ 4398046511104 ∧
   Hid (Nat.gcd u v = G ∧ Own w.heap.size wr a3 c3 (nd u) ∧ Own w.heap.size wr a4 c4 (nd v) ∧ Below w.heap.size w wr)) (fun _ bv wr => valOf bv wr)
 case atStart => exact ⟨u0, v0, a1, a2, c1, c2, rfl, rfl, hlx, hly, ⟨HG.out.symm, HS.out⟩⟩
 case round =>
  obtain ⟨u, v, a3, a4, c3, c4, rfl, rfl, hlu, hlv, H⟩ := hrel
  clear HS HG
  by_cases h0 : v = 0
  ·subst h0
   have hg : decide (((nd 0).length : Int) > 0) = false := by rw [nd_zero]; simp
   have hg2 : ¬ (0 < ((nd 0).length : Int)) := by rw [nd_zero]; simp
   go_wp2
   go_ret
   have h := H.out
   rw [Nat.gcd_zero_right] at h
   obtain ⟨rfl, h1, h2, h3⟩ := h
   exact ⟨a3, c3, rfl, h1, h3⟩
  ·have hp : 0 < (nd v).length := Nat.pos_of_ne_zero fun h => h0 (nd_eq_nil.1 (List.eq_nil_of_length_eq_zero h))
   have hg : decide (((nd v).length : Int) > 0) = true := decide_eq_true (by omega)
   have hva := H.out.2.2.1.rd.valOf
   rw [val_nd] at hva
   have hdm := rdivmod_any a3 a4 c3 c4 (nd u) (nd v) wr H.out.2.1.rd H.out.2.2.1.rd (by rw [val_nd]; exact h0) hlu hlv
   rw [val_nd, val_nd] at hdm
   have hml : (nd (u % v)).length ≤ 4398046511104 := Nat.le_trans (nd_length_mono (Nat.le_of_lt (Nat.mod_lt _ (Nat.pos_of_ne_zero h0)))) hlv
   have HVA := hid hva
   have HM := hid (show Nat.gcd v (u % v) = Nat.gcd u v ∧ u % v < v from ⟨by rw [Nat.gcd_comm v, ← Nat.gcd_rec, Nat.gcd_comm], Nat.mod_lt _ (Nat.pos_of_ne_zero h0)⟩)
   obtain ⟨qq, hqq⟩ : ∃ q, q = u / v := ⟨_, rfl⟩
   obtain ⟨r, hr⟩ : ∃ r, r = u % v := ⟨_, rfl⟩
   rw [← hqq, ← hr] at hdm
   rw [← hr] at hml HM
   clear h0 hva hqq hr
   go_wp2_with fail
   refine hdm.mono ?_
   rintro e w3 ⟨ax, cx, ay, cy, rfl, hx3, hy3, hb3⟩
   have h1 := hid (show Nat.gcd v r = G ∧ Own w.heap.size w3 a4 c4 (nd v) ∧ Own w.heap.size w3 ay cy (nd r) ∧ Below w.heap.size w w3 from
    ⟨HM.out.1.trans H.out.1, H.out.2.2.1.below hb3, hy3.mono H.out.2.2.2.size, H.out.2.2.2.trans (hb3.mono H.out.2.2.2.size)⟩)
   have h2 := hid (show valOf (.slice ay (nd r).length cy) w3 < valOf (.slice a4 (nd v).length c4) wr by
    rw [hy3.rd.valOf, val_nd, HVA.out]; exact HM.out.2)
   clear hdm hx3 hy3 hb3
   go_wp2
   exact ⟨⟨v, r, a4, ay, c4, cy, rfl, rfl, hlv, hml, h1⟩, h2.out⟩
end Go.Proofs.YtiljjhhkklnlgaaGreatDoor
