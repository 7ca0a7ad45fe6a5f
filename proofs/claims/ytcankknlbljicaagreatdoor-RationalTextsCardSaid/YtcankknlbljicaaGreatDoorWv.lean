/-  -/
import Derived.Test.YtcankknlbljicaaGreatDoorWba
import Derived.Test.YtcankknlbljicaaGreatDoorWId0
import Derived.Test.YtcankknlbljicaaGreatDoorWt

set_option linter.unusedVariables false
set_option linter.unusedSimpArgs false
set_option linter.unusedSectionVars false
set_option maxRecDepth 100000
set_option maxHeartbeats 3200000

namespace Go.Proofs.YtcankknlbljicaaGreatDoor
open Go.RowKit Num

theorem rgcd_any (aa ab : Option Addr) (ca cb : Nat) (xs ys : List Nat) (w : World) (ha : Rd w aa ca xs) (hb : Rd w ab cb ys) (hl1 : xs.length ≤ 4398046511104) (hl2 : ys.length ≤ 4398046511104) :
  Calls Tryz.prog 209 #[.slice aa xs.length ca, .slice ab ys.length cb] w (RetOwn w.heap.size (nd (Nat.gcd (val xs) (val ys))) w) := by
 have hle1 := ha.le
 have hle2 := hb.le
 have ht1 := rtrim_any aa ca xs w ha (by omega)
 have ht2 := fun w1 (h : Rd w1 ab cb ys) => rtrim_any ab cb ys w1 h (by omega)
 have hlx := Nat.le_trans (nd_length_le_of ha.dg) hl1
 have hly := Nat.le_trans (nd_length_le_of hb.dg) hl2
 obtain ⟨u0, hu0⟩ : ∃ u, u = val xs := ⟨_, rfl⟩
 obtain ⟨v0, hv0⟩ : ∃ u, u = val ys := ⟨_, rfl⟩
 rw [← hu0] at ht1 hlx ⊢
 rw [← hv0] at hly ⊢
 simp only [← hv0] at ht2
 obtain ⟨G, hG⟩ : ∃ G, G = Nat.gcd u0 v0 := ⟨_, rfl⟩
 rw [← hG]
 have HG := hid hG
 have HB := hid hb
 have HT2 := hid ht2
 clear hu0 hv0 hG ha hb ht2
 go_enter Tryz.func209, Tryz.ntmps209
 go_wp2_with fail
 refine ht1.mono ?_
 rintro e w1 ⟨a1, c1, rfl, ho1, hb1⟩
 have ht2 := HT2.out w1 (HB.out.below hb1)
 go_wp2_with fail
 refine ht2.mono ?_
 rintro e w2 ⟨a2, c2, rfl, ho2, hb2⟩
 have hb02 := hb1.trans (hb2.mono hb1.size)
 have HS := hid (And.intro (ho1.below hb2) (And.intro (ho2.mono hb1.size) hb02))
 clear ht1 ht2 ho1 ho2 hb1 hb2 hb02
 go_wp2_with fail
 go_loopw [0, 1] (fun av bv wr => ∃ (u v : Nat) (a3 a4 : Option Addr) (c3 c4 : Nat), av = .slice a3 (nd u).length c3 ∧ bv = .slice a4 (nd v).length c4 ∧ (nd u).length ≤ 4398046511104 ∧ (nd v).length ≤ 4398046511104 ∧
   Hid (Nat.gcd u v = G ∧ Own w.heap.size wr a3 c3 (nd u) ∧ Own w.heap.size wr a4 c4 (nd v) ∧ Below w.heap.size w wr)) (fun _ bv wr => valOf bv wr)
 case atStart => exact ⟨u0, v0, a1, a2, c1, c2, rfl, rfl, hlx, hly, ⟨HG.out.symm, HS.out⟩⟩
 case round =>
  obtain ⟨u, v, a3, a4, c3, c4, rfl, rfl, hlu, hlv, H⟩ := hrel
  clear HS HG
  by_cases h0 : v = 0
  ·subst h0
   have hg : decide (((nd 0).length : Int) > 0) = false := by rw [nd_zero]; simp
   have hg2 : ¬ (0 < ((nd 0).length : Int)) := by rw [nd_zero]; simp
   go_wp2
   go_ret
   have h := H.out
   rw [Nat.gcd_zero_right] at h
   obtain ⟨rfl, h1, h2, h3⟩ := h
   exact ⟨a3, c3, rfl, h1, h3⟩
  ·have hp : 0 < (nd v).length := Nat.pos_of_ne_zero fun h => h0 (nd_eq_nil.1 (List.eq_nil_of_length_eq_zero h))
   have hg : decide (((nd v).length : Int) > 0) = true := decide_eq_true (by omega)
   have hva := H.out.2.2.1.rd.valOf
   rw [val_nd] at hva
   have hdm := rdivmod_any a3 a4 c3 c4 (nd u) (nd v) wr H.out.2.1.rd H.out.2.2.1.rd (by rw [val_nd]; exact h0) hlu hlv
   rw [val_nd, val_nd] at hdm
   have hml : (nd (u % v)).length ≤ 4398046511104 := Nat.le_trans (nd_length_mono (Nat.le_of_lt (Nat.mod_lt _ (Nat.pos_of_ne_zero h0)))) hlv
   have HVA := hid hva
   have HM := hid (show Nat.gcd v (u % v) = Nat.gcd u v ∧ u % v < v from ⟨by rw [Nat.gcd_comm v, ← Nat.gcd_rec, Nat.gcd_comm], Nat.mod_lt _ (Nat.pos_of_ne_zero h0)⟩)
   obtain ⟨qq, hqq⟩ : ∃ q, q = u / v := ⟨_, rfl⟩
   obtain ⟨r, hr⟩ : ∃ r, r = u % v := ⟨_, rfl⟩
   rw [← hqq, ← hr] at hdm
   rw [← hr] at hml HM
   clear h0 hva hqq hr
   go_wp2_with fail
   refine hdm.mono ?_
   rintro e w3 ⟨ax, cx, ay, cy, rfl, hx3, hy3, hb3⟩
   have h1 := hid (show Nat.gcd v r = G ∧ Own w.heap.size w3 a4 c4 (nd v) ∧ Own w.heap.size w3 ay cy (nd r) ∧ Below w.heap.size w w3 from
    ⟨HM.out.1.trans H.out.1, H.out.2.2.1.below hb3, hy3.mono H.out.2.2.2.size, H.out.2.2.2.trans (hb3.mono H.out.2.2.2.size)⟩)
   have h2 := hid (show valOf (.slice ay (nd r).length cy) w3 < valOf (.slice a4 (nd v).length c4) wr by
    rw [hy3.rd.valOf, val_nd, HVA.out]; exact HM.out.2)
   clear hdm hx3 hy3 hb3
   go_wp2
   exact ⟨⟨v, r, a4, ay, c4, cy, rfl, rfl, hlv, hml, h1⟩, h2.out⟩
end Go.Proofs.YtcankknlbljicaaGreatDoor

namespace Go.Proofs.YtcankknlbljicaaGreatDoor
open Go.RowKit Num

def V3 (w : World) (b1 b2 : Bool) (aa ab : Option Addr) (n1 n2 ca cb : Nat) : World :=
 ((w.alloc (.cells #[.bool b1, .slice aa n1 ca] 24)).alloc (.cells #[.bool b2, .slice ab n2 cb] 24)).alloc (.cells #[.bool false, .slice none 0 0] 24)
theorem V3_below (w : World) (b1 b2 : Bool) (aa ab : Option Addr) (n1 n2 ca cb : Nat) : Below w.heap.size w (V3 w b1 b2 aa ab n1 n2 ca cb) := by
 have h := W3_below w b1 b2 aa ab n1 n2 ca cb
 exact ⟨h.os, h.tape, h.output, h.size, h.block⟩
theorem V3_size (w : World) (b1 b2 : Bool) (aa ab : Option Addr) (n1 n2 ca cb : Nat) : (V3 w b1 b2 aa ab n1 n2 ca cb).heap.size = w.heap.size + 3 := by simp [V3]
theorem V3_heap (w : World) (b1 b2 : Bool) (aa ab : Option Addr) (n1 n2 ca cb : Nat) :
  (V3 w b1 b2 aa ab n1 n2 ca cb).heap[w.heap.size]? = some (.cells #[.bool b1, .slice aa n1 ca] 24 (0, 0)) ∧ (V3 w b1 b2 aa ab n1 n2 ca cb).heap[w.heap.size + 1]? = some (.cells #[.bool b2, .slice ab n2 cb] 24 (0, 0)) ∧ (V3 w b1 b2 aa ab n1 n2 ca cb).heap[w.heap.size + 2]? = some (.cells #[.bool false, .slice none 0 0] 24 (0, 0)) := by
 have x1 := heap_alloc_at w (.cells #[.bool b1, .slice aa n1 ca] 24)
 have z1 : (w.alloc (.cells #[.bool b1, .slice aa n1 ca] 24)).heap.size = w.heap.size + 1 := by simp
 have x2 := heap_alloc_at (w.alloc (.cells #[.bool b1, .slice aa n1 ca] 24)) (.cells #[.bool b2, .slice ab n2 cb] 24)
 rw [z1] at x2
 have z2 : ((w.alloc (.cells #[.bool b1, .slice aa n1 ca] 24)).alloc (.cells #[.bool b2, .slice ab n2 cb] 24)).heap.size = w.heap.size + 2 := by simp
 have x3 := heap_alloc_at ((w.alloc (.cells #[.bool b1, .slice aa n1 ca] 24)).alloc (.cells #[.bool b2, .slice ab n2 cb] 24)) (.cells #[.bool false, .slice none 0 0] 24)
 rw [z2] at x3
 have y2 := (below_alloc (w.alloc (.cells #[.bool b1, .slice aa n1 ca] 24)) (.cells #[.bool b2, .slice ab n2 cb] 24)).block w.heap.size (by omega)
 have y3 := (below_alloc ((w.alloc (.cells #[.bool b1, .slice aa n1 ca] 24)).alloc (.cells #[.bool b2, .slice ab n2 cb] 24)) (.cells #[.bool false, .slice none 0 0] 24)).block w.heap.size (by omega)
 have y4 := (below_alloc ((w.alloc (.cells #[.bool b1, .slice aa n1 ca] 24)).alloc (.cells #[.bool b2, .slice ab n2 cb] 24)) (.cells #[.bool false, .slice none 0 0] 24)).block (w.heap.size + 1) (by omega)
 exact ⟨y3.trans (y2.trans x1), y4.trans x2, x3⟩
theorem V3_cells {w w' : World} {b1 b2 : Bool} {aa ab : Option Addr} {n1 n2 ca cb : Nat} (hb : Below (V3 w b1 b2 aa ab n1 n2 ca cb).heap.size (V3 w b1 b2 aa ab n1 n2 ca cb) w') :
  (w'.cell? ⟨w.heap.size, 0, none⟩ = some (.bool b1) ∧ w'.cell? ⟨w.heap.size, 1, none⟩ = some (.slice aa n1 ca) ∧ w'.frozen? ⟨w.heap.size, 0, none⟩ = false ∧ w'.frozen? ⟨w.heap.size, 1, none⟩ = false) ∧
  (w'.cell? ⟨w.heap.size + 1, 0, none⟩ = some (.bool b2) ∧ w'.cell? ⟨w.heap.size + 1, 1, none⟩ = some (.slice ab n2 cb) ∧ w'.frozen? ⟨w.heap.size + 1, 0, none⟩ = false ∧ w'.frozen? ⟨w.heap.size + 1, 1, none⟩ = false) ∧
  (w'.cell? ⟨w.heap.size + 2, 0, none⟩ = some (.bool false) ∧ w'.cell? ⟨w.heap.size + 2, 1, none⟩ = some (.slice none 0 0) ∧ w'.frozen? ⟨w.heap.size + 2, 0, none⟩ = false ∧ w'.frozen? ⟨w.heap.size + 2, 1, none⟩ = false) := by
 obtain ⟨h1, h2, h3⟩ := V3_heap w b1 b2 aa ab n1 n2 ca cb
 exact ⟨pair_cells h1 hb, pair_cells h2 hb, pair_cells h3 hb⟩

theorem itrim_any (b : Bool) (ao : Option Addr) (c : Nat) (xs : List Nat) (w : World) (h : Rd w ao c xs) (hl : xs.length ≤ 17592186044416) :
  Calls Tryz.prog 203 #[.agg #[.bool b, .slice ao xs.length c]] w (RetInt w.heap.size (iv b (val xs)) w) := by
 have hb1 := below_alloc w (.cells #[.bool b, .slice ao xs.length c] 24)
 have hle := h.le
 have hcm := h.cm
 have hb2 := hb1.trans ((below_alloc (w.alloc (.cells #[.bool b, .slice ao xs.length c] 24)) (.cells #[.bool false, .slice none 0 0] 24)).mono hb1.size)
 have hb3 : Below w.heap.size w ((w.alloc (.cells #[.bool b, .slice ao xs.length c] 24)).alloc (.cells #[.bool false, .slice none 0 0] 24)).drew := hb2.drew
 have HT := hid (trim_any ao c xs _ (h.below hb3) (by omega))
 have hP : ((w.alloc (.cells #[.bool b, .slice ao xs.length c] 24)).alloc (.cells #[.bool false, .slice none 0 0] 24)).drew.heap[w.heap.size + 1]? = some (.cells #[.bool false, .slice none 0 0] 24 (0, 0)) := by
  have := heap_alloc_at (w.alloc (.cells #[.bool b, .slice ao xs.length c] 24)) (.cells #[.bool false, .slice none 0 0] 24)
  rw [show (w.alloc (.cells #[.bool b, .slice ao xs.length c] 24)).heap.size = w.heap.size + 1 by simp] at this
  exact this
 have hP0 : ((w.alloc (.cells #[.bool b, .slice ao xs.length c] 24)).alloc (.cells #[.bool false, .slice none 0 0] 24)).drew.heap[w.heap.size]? = some (.cells #[.bool b, .slice ao xs.length c] 24 (0, 0)) := by
  have h1 := heap_alloc_at w (.cells #[.bool b, .slice ao xs.length c] 24)
  exact ((below_alloc (w.alloc (.cells #[.bool b, .slice ao xs.length c] 24)) (.cells #[.bool false, .slice none 0 0] 24)).block w.heap.size (by simp)).trans h1
 have HP := hid (And.intro hP0 hP)
 have HB := hid hb3
 clear h hb1 hb2 hb3 hP hP0
 go_enter Tryz.func203, Tryz.ntmps203
 go_wp2_with fail
 go_region_held3 (fun w' => w'.cell? ⟨w.heap.size, 0, none⟩ = some (.bool b) ∧ w'.cell? ⟨w.heap.size, 1, none⟩ = some (.slice ao xs.length c)) (go_keep) (first
  | (go_at_call 155; (with_reducible refine HT.out.mono ?_); rintro e w3 ⟨a3, c3, rfl, ho3, hb3⟩; obtain ⟨s0, s1, s2, s3⟩ := pair_cells HP.out.1 hb3)
  | (go_at_call 145; (with_reducible refine (signed_any _ b a3 c3 (val xs) w3 ho3).mono ?_); rintro e w4 ⟨a4, c4, rfl, ho4, hb4⟩; obtain ⟨s4, s5, s6, s7⟩ := pair_cells HP.out.1 (hb3.trans (hb4.mono hb3.size)); obtain ⟨k0, k1, k2, k3⟩ := pair_cells HP.out.2 (hb3.trans (hb4.mono hb3.size))))
 all_goals
  go_wp2
  have hsz : ((w.alloc (.cells #[.bool b, .slice ao xs.length c] 24)).alloc (.cells #[.bool false, .slice none 0 0] 24)).drew.heap.size = w.heap.size + 2 := by simp [World.drew]
  refine bodyPost_ret (v := .agg #[.bool (decide (iv b (val xs) < 0)), .slice a4 (nd (iv b (val xs)).natAbs).length c4]) (by simp [results, Tryz.results203, go_sem, k0, k1]) rfl ?_
  exact RetInt.fin ho4 (by omega) (HB.out.trans ((hb3.trans (hb4.mono hb3.size)).mono (by omega))) (by omega) _ _


theorem rgcd2_any (b1 b2 : Bool) (aa ab : Option Addr) (ca cb : Nat) (xs ys : List Nat) (w : World) (ha : Rd w aa ca xs) (hb : Rd w ab cb ys) (hl1 : xs.length ≤ 4398046511104) (hl2 : ys.length ≤ 4398046511104) :
  Calls Tryz.prog 162 #[.agg #[.bool b1, .slice aa xs.length ca], .agg #[.bool b2, .slice ab ys.length cb]] w (RetInt w.heap.size (iv false (Nat.gcd (val xs) (val ys))) w) := by
 have hle1 := ha.le
 have hcm1 := ha.cm
 have hle2 := hb.le
 have hcm2 := hb.cm
 have hB := V3_below w b1 b2 aa ab xs.length ys.length ca cb
 have HM := hid (rgcd_any aa ab ca cb xs ys _ (ha.below hB) (hb.below hB) hl1 hl2)
 have HC := hid (fun w' => V3_cells (w' := w') (w := w) (b1 := b1) (b2 := b2) (aa := aa) (ab := ab) (n1 := xs.length) (n2 := ys.length) (ca := ca) (cb := cb))
 have HB := hid hB
 have HSZ := hid (V3_size w b1 b2 aa ab xs.length ys.length ca cb)
 unfold V3 at HM HC HB HSZ
 obtain ⟨G, hG⟩ : ∃ G, G = Nat.gcd (val xs) (val ys) := ⟨_, rfl⟩
 rw [← hG] at HM ⊢
 have HN := hid (And.intro (iv_abs false G) (iv_neg false G))
 clear ha hb hB hG
 go_enter Tryz.func162, Tryz.ntmps162
 go_wp2_with fail
 refine HM.out.mono ?_
 rintro e w3 ⟨a3, c3, rfl, o3, f3⟩
 obtain ⟨_, _, k0, k1, k2, k3⟩ := HC.out w3 f3
 have H3 := hid (And.intro o3 (HB.out.trans (f3.mono HB.out.size)))
 clear o3 f3
 go_wp2
 have hsz := HSZ.out
 refine bodyPost_ret (v := .agg #[.bool false, .slice a3 (nd G).length c3]) (by simp [results, Tryz.results162, go_sem, k0, k1]) rfl ?_
 exact RetInt.fin2 (by rw [HN.out.2]; rfl) HN.out.1 H3.out.1 (by omega) H3.out.2 (by omega) _ _


theorem rneg2_any (b : Bool) (ao : Option Addr) (c : Nat) (xs : List Nat) (w : World) (h : Rd w ao c xs) (hl : xs.length ≤ 17592186044416) :
  Calls Tryz.prog 164 #[.agg #[.bool b, .slice ao xs.length c]] w (RetInt w.heap.size (-(iv b (val xs))) w) := by
 have hB := W2_below w b ao xs.length c
 have HT := hid (rtrim2_any b ao c xs _ (h.below hB) hl)
 have HSZ := hid (W2_size w b ao xs.length c)
 have HB := hid hB
 have x1 := heap_alloc_at w (.cells #[.bool b, .slice ao xs.length c] 24)
 have z1 : (w.alloc (.cells #[.bool b, .slice ao xs.length c] 24)).heap.size = w.heap.size + 1 := by simp
 have x2 := heap_alloc_at (w.alloc (.cells #[.bool b, .slice ao xs.length c] 24)) (.cells #[.bool false, .slice none 0 0] 24)
 rw [z1] at x2
 have y2 := ((below_alloc (w.alloc (.cells #[.bool b, .slice ao xs.length c] 24)) (.cells #[.bool false, .slice none 0 0] 24)).block w.heap.size (by omega)).trans x1
 have HP := hid (fun w' hb => And.intro (pair_cells (w' := w') y2 hb) (pair_cells x2 hb))
 unfold W2 at HT HSZ HB
 obtain ⟨z, hz⟩ : ∃ z, z = iv b (val xs) := ⟨_, rfl⟩
 rw [← hz] at HT ⊢
 clear h hB x1 z1 x2 y2 hz
 have hn0 : ¬ (w.heap.size + 1 = w.heap.size) := by omega
 have hn1 : ¬ (w.heap.size = w.heap.size + 1) := by omega
 obtain ⟨⟨s0, s1, s2, s3⟩, _⟩ := HP.out _ (Below.refl _ _)
 rcases (by omega : z < 0 ∨ z = 0 ∨ 0 < z) with hz | hz | hz
 ·have hd : decide (z < 0) = true := by simp; omega
  have HR := hid (show decide (-z < 0) = false by simp; omega)
  clear hz
  go_enter Tryz.func164, Tryz.ntmps164
  go_wp2_with fail
  refine HT.out.mono ?_
  rintro e w3 ⟨a3, c3, rfl, o3, f3⟩
  clear s0 s1 s2 s3
  obtain ⟨⟨k0, k1, k2, k3⟩, t0, t1, t2, t3⟩ := HP.out w3 f3
  have H3 := hid (And.intro (o3.mono (show w.heap.size + 2 ≤ _ from Nat.le_of_eq HSZ.out.symm)) (HB.out.trans (f3.mono HB.out.size)))
  clear o3 f3
  rw [hd]
  clear hd
  go_wp2
  refine bodyPost_ret (v := .agg #[.bool false, .slice a3 (nd z.natAbs).length c3]) (by simp [results, Tryz.results164, go_sem, t0, t1]) rfl ?_
  refine ⟨a3, c3, by rw [Int.natAbs_neg, HR.out], ?_, ?_⟩
  ·rw [Int.natAbs_neg]
   refine Own.mono ?_ (show w.heap.size ≤ w.heap.size + 2 by omega)
   repeat refine Own.setOld ?_ (by omega) _
   exact H3.out.1
  ·repeat refine Below.setCell (p := ⟨_, _, none⟩) ?_ (by dsimp only; omega) _
   exact H3.out.2
 ·have hd : decide (z < 0) = false := by simp; omega
  have HR := hid (show decide (-z < 0) = false by simp; omega)
  have hg : ¬ (0 < ((nd z.natAbs).length : Int)) := by rw [hz, show nd (0 : Int).natAbs = [] from nd_zero]; simp
  have HN := hid (show nd z.natAbs = [] by rw [hz]; exact nd_zero)
  clear hz
  go_enter Tryz.func164, Tryz.ntmps164
  go_wp2_with fail
  refine HT.out.mono ?_
  rintro e w3 ⟨a3, c3, rfl, o3, f3⟩
  clear s0 s1 s2 s3
  obtain ⟨⟨k0, k1, k2, k3⟩, t0, t1, t2, t3⟩ := HP.out w3 f3
  have H3 := hid (And.intro (o3.mono (show w.heap.size + 2 ≤ _ from Nat.le_of_eq HSZ.out.symm)) (HB.out.trans (f3.mono HB.out.size)))
  clear o3 f3
  rw [hd]
  clear hd
  go_wp2
  refine bodyPost_ret (v := .agg #[.bool false, .slice a3 (nd z.natAbs).length c3]) (by simp [results, Tryz.results164, go_sem, t0, t1, HN.out]) rfl ?_
  refine ⟨a3, c3, by rw [Int.natAbs_neg, HR.out], ?_, ?_⟩
  ·rw [Int.natAbs_neg]
   refine Own.mono ?_ (show w.heap.size ≤ w.heap.size + 2 by omega)
   repeat refine Own.setOld ?_ (by omega) _
   exact H3.out.1
  ·repeat refine Below.setCell (p := ⟨_, _, none⟩) ?_ (by dsimp only; omega) _
   exact H3.out.2
 ·have hd : decide (z < 0) = false := by simp; omega
  have HR := hid (show decide (-z < 0) = true by simp; omega)
  have hg : 0 < ((nd z.natAbs).length : Int) := by
   have h1 : (nd z.natAbs).length ≠ 0 := fun h => by have := nd_eq_nil.1 (List.eq_nil_of_length_eq_zero h); omega
   omega
  have HN := hid (show 0 < (nd z.natAbs).length by omega)
  clear hz
  go_enter Tryz.func164, Tryz.ntmps164
  go_wp2_with fail
  refine HT.out.mono ?_
  rintro e w3 ⟨a3, c3, rfl, o3, f3⟩
  clear s0 s1 s2 s3
  obtain ⟨⟨k0, k1, k2, k3⟩, t0, t1, t2, t3⟩ := HP.out w3 f3
  have H3 := hid (And.intro (o3.mono (show w.heap.size + 2 ≤ _ from Nat.le_of_eq HSZ.out.symm)) (HB.out.trans (f3.mono HB.out.size)))
  clear o3 f3
  rw [hd]
  clear hd
  go_wp2
  refine bodyPost_ret (v := .agg #[.bool true, .slice a3 (nd z.natAbs).length c3]) (by simp [results, Tryz.results164, go_sem, t0, t1, HN.out]) rfl ?_
  refine ⟨a3, c3, by rw [Int.natAbs_neg, HR.out], ?_, ?_⟩
  ·rw [Int.natAbs_neg]
   refine Own.mono ?_ (show w.heap.size ≤ w.heap.size + 2 by omega)
   repeat refine Own.setOld ?_ (by omega) _
   exact H3.out.1
  ·repeat refine Below.setCell (p := ⟨_, _, none⟩) ?_ (by dsimp only; omega) _
   exact H3.out.2
end Go.Proofs.YtcankknlbljicaaGreatDoor

namespace Go.Proofs.YtcankknlbljicaaGreatDoor
open Go.RowKit Num

def AddS (w wx : World) (A B : Int) (a1 a2 : Option Addr) (c1 c2 : Nat) : Prop :=
 wx.heap[w.heap.size]? = some (.cells #[.bool (decide (A < 0)), .slice a1 (nd A.natAbs).length c1] 24 (0, 0)) ∧ wx.heap[w.heap.size + 1]? = some (.cells #[.bool (decide (B < 0)), .slice a2 (nd B.natAbs).length c2] 24 (0, 0)) ∧
 wx.heap[w.heap.size + 2]? = some (.cells #[.bool false, .slice none 0 0] 24 (0, 0)) ∧
 Own (w.heap.size + 3) wx a1 c1 (nd A.natAbs) ∧ Own (w.heap.size + 3) wx a2 c2 (nd B.natAbs) ∧ Below w.heap.size w wx ∧ w.heap.size + 3 ≤ wx.heap.size
theorem AddS.of {w w4 : World} {A B : Int} {a1 a2 : Option Addr} {c1 c2 : Nat} {p1 p2 p3 p4 : Value}
  (h0 : w4.heap[w.heap.size]? = some (.cells #[p1, p2] 24 (0, 0))) (h1 : w4.heap[w.heap.size + 1]? = some (.cells #[p3, p4] 24 (0, 0)))
  (h2 : w4.heap[w.heap.size + 2]? = some (.cells #[.bool false, .slice none 0 0] 24 (0, 0)))
  (o1 : Own (w.heap.size + 3) w4 a1 c1 (nd A.natAbs)) (o2 : Own (w.heap.size + 3) w4 a2 c2 (nd B.natAbs)) (hb : Below w.heap.size w w4) (hs : w.heap.size + 3 ≤ w4.heap.size) :
  AddS w ((((w4.setCell ⟨w.heap.size, 0, none⟩ (.bool (decide (A < 0)))).setCell ⟨w.heap.size, 1, none⟩ (.slice a1 (nd A.natAbs).length c1)).setCell ⟨w.heap.size + 1, 0, none⟩ (.bool (decide (B < 0)))).setCell ⟨w.heap.size + 1, 1, none⟩ (.slice a2 (nd B.natAbs).length c2)) A B a1 a2 c1 c2 := by
 have n1 : w.heap.size ≠ w.heap.size + 1 := by omega
 have n2 : w.heap.size + 1 ≠ w.heap.size := by omega
 refine ⟨?_, ?_, ?_, (((o1.setOld (by omega) _).setOld (by omega) _).setOld (by omega) _).setOld (by omega) _, (((o2.setOld (by omega) _).setOld (by omega) _).setOld (by omega) _).setOld (by omega) _, (((hb.setCell (p := ⟨w.heap.size, 0, none⟩) (Nat.le_refl _) _).setCell (p := ⟨w.heap.size, 1, none⟩) (Nat.le_refl _) _).setCell (p := ⟨w.heap.size + 1, 0, none⟩) (Nat.le_succ _) _).setCell (p := ⟨w.heap.size + 1, 1, none⟩) (Nat.le_succ _) _, ?_⟩
 ·rw [Below.heap_setCell _ ⟨w.heap.size + 1, 1, none⟩ _ _ n1, Below.heap_setCell _ ⟨w.heap.size + 1, 0, none⟩ _ _ n1]
  exact Go.Joins.block_setCell (i := 1) (Go.Joins.block_setCell (i := 0) h0 _) _
 ·have h1' : ((w4.setCell ⟨w.heap.size, 0, none⟩ (.bool (decide (A < 0)))).setCell ⟨w.heap.size, 1, none⟩ (.slice a1 (nd A.natAbs).length c1)).heap[w.heap.size + 1]? = some (.cells #[p3, p4] 24 (0, 0)) := by
   rw [Below.heap_setCell _ ⟨w.heap.size, 1, none⟩ _ _ n2, Below.heap_setCell _ ⟨w.heap.size, 0, none⟩ _ _ n2]; exact h1
  exact Go.Joins.block_setCell (i := 1) (Go.Joins.block_setCell (i := 0) h1' _) _
 ·rw [Below.heap_setCell _ ⟨w.heap.size + 1, 1, none⟩ _ _ (show w.heap.size + 2 ≠ w.heap.size + 1 by omega), Below.heap_setCell _ ⟨w.heap.size + 1, 0, none⟩ _ _ (show w.heap.size + 2 ≠ w.heap.size + 1 by omega), Below.heap_setCell _ ⟨w.heap.size, 1, none⟩ _ _ (show w.heap.size + 2 ≠ w.heap.size by omega), Below.heap_setCell _ ⟨w.heap.size, 0, none⟩ _ _ (show w.heap.size + 2 ≠ w.heap.size by omega)]
  exact h2
 ·rw [setCell_size, setCell_size, setCell_size, setCell_size]; exact hs

end Go.Proofs.YtcankknlbljicaaGreatDoor
