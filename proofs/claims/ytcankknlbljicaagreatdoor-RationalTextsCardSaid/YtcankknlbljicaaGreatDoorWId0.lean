/-  -/
import Derived.Test.YtcankknlbljicaaGreatDoorWq
import Derived.Test.YtcankknlbljicaaGreatDoorWm
import Derived.Lib.SmallJoins

set_option linter.unusedVariables false
set_option linter.unusedSimpArgs false
set_option linter.unusedSectionVars false
set_option maxRecDepth 100000
set_option maxHeartbeats 3200000

namespace Go.Proofs.YtcankknlbljicaaGreatDoor
open Go.RowKit Num

theorem W4_heap (w : World) (b1 b2 : Bool) (aa ab : Option Addr) (n1 n2 ca cb : Nat) :
  (W4 w b1 b2 aa ab n1 n2 ca cb).heap[w.heap.size]? = some (.cells #[.bool b1, .slice aa n1 ca] 24 (0, 0)) ∧ (W4 w b1 b2 aa ab n1 n2 ca cb).heap[w.heap.size + 1]? = some (.cells #[.bool b2, .slice ab n2 cb] 24 (0, 0)) ∧
  (W4 w b1 b2 aa ab n1 n2 ca cb).heap[w.heap.size + 2]? = some (.cells #[.bool false, .slice none 0 0] 24 (0, 0)) ∧ (W4 w b1 b2 aa ab n1 n2 ca cb).heap[w.heap.size + 3]? = some (.cells #[.bool false, .slice none 0 0] 24 (0, 0)) := by
 obtain ⟨u1, hu1⟩ : ∃ u, u = w.alloc (.cells #[.bool b1, .slice aa n1 ca] 24) := ⟨_, rfl⟩
 obtain ⟨u2, hu2⟩ : ∃ u, u = u1.alloc (.cells #[.bool b2, .slice ab n2 cb] 24) := ⟨_, rfl⟩
 obtain ⟨u3, hu3⟩ : ∃ u, u = u2.alloc (.cells #[.bool false, .slice none 0 0] 24) := ⟨_, rfl⟩
 have e : W4 w b1 b2 aa ab n1 n2 ca cb = u3.alloc (.cells #[.bool false, .slice none 0 0] 24) := by rw [hu3, hu2, hu1]; rfl
 have z1 : u1.heap.size = w.heap.size + 1 := by rw [hu1]; simp
 have z2 : u2.heap.size = w.heap.size + 2 := by rw [hu2]; simp [z1]
 have z3 : u3.heap.size = w.heap.size + 3 := by rw [hu3]; simp [z2]
 have x1 := heap_alloc_at w (.cells #[.bool b1, .slice aa n1 ca] 24)
 have x2 := heap_alloc_at u1 (.cells #[.bool b2, .slice ab n2 cb] 24)
 have x3 := heap_alloc_at u2 (.cells #[.bool false, .slice none 0 0] 24)
 have x4 := heap_alloc_at u3 (.cells #[.bool false, .slice none 0 0] 24)
 rw [← hu1] at x1; rw [← hu2, z1] at x2; rw [← hu3, z2] at x3; rw [z3] at x4
 have y2 := below_alloc u1 (.cells #[.bool b2, .slice ab n2 cb] 24)
 have y3 := below_alloc u2 (.cells #[.bool false, .slice none 0 0] 24)
 have y4 := below_alloc u3 (.cells #[.bool false, .slice none 0 0] 24)
 rw [← hu2] at y2; rw [← hu3] at y3
 rw [e]
 refine ⟨(y4.block _ (by omega)).trans ((y3.block _ (by omega)).trans ((y2.block _ (by omega)).trans x1)), (y4.block _ (by omega)).trans ((y3.block _ (by omega)).trans x2), (y4.block _ (by omega)).trans x3, x4⟩

theorem below_drewI (B : Nat) (w : World) : Below B w w.drew := ⟨rfl, rfl, rfl, Nat.le_refl _, fun _ _ => rfl⟩
theorem below_undrew {w w' : World} (h : Below w.drew.heap.size w.drew w') : Below w.heap.size w w' := ⟨h.os, h.tape, h.output, h.size, h.block⟩
theorem RetIDiv.fin2 {B g1 g2 c1 c2 v : Nat} {z1 z2 er : Int} {w w4 : World} {a1 a2 : Option Addr} (h1 : Own B w4 a1 c1 (nd z1.natAbs)) (h2 : Own B w4 a2 c2 (nd v)) (hz : z2 = iv false v) (hg1 : g1 < B) (hg2 : g2 < B) (hb : Below w.heap.size w w4) (hw1 : w.heap.size ≤ g1) (hw2 : w.heap.size ≤ g2) (v0 v1 v2 v3 : Value) :
  RetIDiv w.heap.size z1 z2 er w (.returned (.tuple #[.agg #[.bool (decide (z1 < 0)), .slice a1 (nd z1.natAbs).length c1], .agg #[.bool false, .slice a2 (nd v).length c2], .int .i64 er]))
   ((((w4.setCell ⟨g1, 0, none⟩ v0).setCell ⟨g1, 1, none⟩ v1).setCell ⟨g2, 0, none⟩ v2).setCell ⟨g2, 1, none⟩ v3) := by
 have e1 : z2.natAbs = v := by rw [hz, iv_abs]
 have e2 : decide (z2 < 0) = false := by rw [hz, iv_neg]; rfl
 have h := RetIDiv.fin (er := er) (w := w) h1 (by rw [e1]; exact h2 : Own B w4 a2 c2 (nd z2.natAbs)) hg1 hg2 hb hw1 hw2 v0 v1 v2 v3
 rw [e1, e2] at h
 exact h
def DivS (w wx : World) (A B : Int) (a1 a2 : Option Addr) (c1 c2 : Nat) : Prop :=
 wx.heap[w.heap.size]? = some (.cells #[.bool (decide (A < 0)), .slice a1 (nd A.natAbs).length c1] 24 (0, 0)) ∧ wx.heap[w.heap.size + 1]? = some (.cells #[.bool (decide (B < 0)), .slice a2 (nd B.natAbs).length c2] 24 (0, 0)) ∧
 wx.heap[w.heap.size + 2]? = some (.cells #[.bool false, .slice none 0 0] 24 (0, 0)) ∧ wx.heap[w.heap.size + 3]? = some (.cells #[.bool false, .slice none 0 0] 24 (0, 0)) ∧
 Own (w.heap.size + 4) wx a1 c1 (nd A.natAbs) ∧ Own (w.heap.size + 4) wx a2 c2 (nd B.natAbs) ∧ Below w.heap.size w wx ∧ w.heap.size + 4 ≤ wx.heap.size
theorem Own.setOld {B g i c : Nat} {w : World} {ao : Option Addr} {xs : List Nat} (h : Own B w ao c xs) (hg : g < B) (v : Value) : Own B (w.setCell ⟨g, i, none⟩ v) ao c xs :=
 h.keep fun a ha => by
  subst ha
  have := h.block.1
  exact Below.heap_setCell _ ⟨g, i, none⟩ _ _ (show a.block ≠ g by omega)
theorem setCell_size (w : World) (g i : Nat) (v : Value) : (w.setCell ⟨g, i, none⟩ v).heap.size = w.heap.size := by
 have h := (Below.refl 0 w).setCell (p := ⟨g, i, none⟩) (Nat.zero_le _) v
 simp [World.setCell]
theorem DivS.of {w w4 : World} {A B : Int} {a1 a2 : Option Addr} {c1 c2 : Nat} {p1 p2 p3 p4 : Value}
  (h0 : w4.heap[w.heap.size]? = some (.cells #[p1, p2] 24 (0, 0))) (h1 : w4.heap[w.heap.size + 1]? = some (.cells #[p3, p4] 24 (0, 0)))
  (h2 : w4.heap[w.heap.size + 2]? = some (.cells #[.bool false, .slice none 0 0] 24 (0, 0))) (h3 : w4.heap[w.heap.size + 3]? = some (.cells #[.bool false, .slice none 0 0] 24 (0, 0)))
  (o1 : Own (w.heap.size + 4) w4 a1 c1 (nd A.natAbs)) (o2 : Own (w.heap.size + 4) w4 a2 c2 (nd B.natAbs)) (hb : Below w.heap.size w w4) (hs : w.heap.size + 4 ≤ w4.heap.size) :
  DivS w ((((w4.setCell ⟨w.heap.size, 0, none⟩ (.bool (decide (A < 0)))).setCell ⟨w.heap.size, 1, none⟩ (.slice a1 (nd A.natAbs).length c1)).setCell ⟨w.heap.size + 1, 0, none⟩ (.bool (decide (B < 0)))).setCell ⟨w.heap.size + 1, 1, none⟩ (.slice a2 (nd B.natAbs).length c2)) A B a1 a2 c1 c2 := by
 have n1 : w.heap.size ≠ w.heap.size + 1 := by omega
 have n2 : w.heap.size + 1 ≠ w.heap.size := by omega
 refine ⟨?_, ?_, ?_, ?_, (((o1.setOld (by omega) _).setOld (by omega) _).setOld (by omega) _).setOld (by omega) _, (((o2.setOld (by omega) _).setOld (by omega) _).setOld (by omega) _).setOld (by omega) _, (((hb.setCell (p := ⟨w.heap.size, 0, none⟩) (Nat.le_refl _) _).setCell (p := ⟨w.heap.size, 1, none⟩) (Nat.le_refl _) _).setCell (p := ⟨w.heap.size + 1, 0, none⟩) (Nat.le_succ _) _).setCell (p := ⟨w.heap.size + 1, 1, none⟩) (Nat.le_succ _) _, ?_⟩
 ·rw [Below.heap_setCell _ ⟨w.heap.size + 1, 1, none⟩ _ _ n1, Below.heap_setCell _ ⟨w.heap.size + 1, 0, none⟩ _ _ n1]
  exact Go.Joins.block_setCell (i := 1) (Go.Joins.block_setCell (i := 0) h0 _) _
 ·have h1' : ((w4.setCell ⟨w.heap.size, 0, none⟩ (.bool (decide (A < 0)))).setCell ⟨w.heap.size, 1, none⟩ (.slice a1 (nd A.natAbs).length c1)).heap[w.heap.size + 1]? = some (.cells #[p3, p4] 24 (0, 0)) := by
   rw [Below.heap_setCell _ ⟨w.heap.size, 1, none⟩ _ _ n2, Below.heap_setCell _ ⟨w.heap.size, 0, none⟩ _ _ n2]; exact h1
  exact Go.Joins.block_setCell (i := 1) (Go.Joins.block_setCell (i := 0) h1' _) _
 ·rw [Below.heap_setCell _ ⟨w.heap.size + 1, 1, none⟩ _ _ (show w.heap.size + 2 ≠ w.heap.size + 1 by omega), Below.heap_setCell _ ⟨w.heap.size + 1, 0, none⟩ _ _ (show w.heap.size + 2 ≠ w.heap.size + 1 by omega), Below.heap_setCell _ ⟨w.heap.size, 1, none⟩ _ _ (show w.heap.size + 2 ≠ w.heap.size by omega), Below.heap_setCell _ ⟨w.heap.size, 0, none⟩ _ _ (show w.heap.size + 2 ≠ w.heap.size by omega)]
  exact h2
 ·rw [Below.heap_setCell _ ⟨w.heap.size + 1, 1, none⟩ _ _ (show w.heap.size + 3 ≠ w.heap.size + 1 by omega), Below.heap_setCell _ ⟨w.heap.size + 1, 0, none⟩ _ _ (show w.heap.size + 3 ≠ w.heap.size + 1 by omega), Below.heap_setCell _ ⟨w.heap.size, 1, none⟩ _ _ (show w.heap.size + 3 ≠ w.heap.size by omega), Below.heap_setCell _ ⟨w.heap.size, 0, none⟩ _ _ (show w.heap.size + 3 ≠ w.heap.size by omega)]
  exact h3
 ·rw [setCell_size, setCell_size, setCell_size, setCell_size]; exact hs

set_option maxHeartbeats 6400000 in
theorem rdiv2_any (b1 b2 : Bool) (aa ab : Option Addr) (ca cb : Nat) (xs ys : List Nat) (w : World) (ha : Rd w aa ca xs) (hb : Rd w ab cb ys) (hl1 : xs.length ≤ 4398046511104) (hl2 : ys.length ≤ 4398046511104) (h0 : val ys ≠ 0) :
  Calls Tryz.prog 163 #[.agg #[.bool b1, .slice aa xs.length ca], .agg #[.bool b2, .slice ab ys.length cb]] w (RetIDiv w.heap.size (iv b1 (val xs) / iv b2 (val ys)) (iv b1 (val xs) % iv b2 (val ys)) 0 w) := by
 have hB := W4_below w b1 b2 aa ab xs.length ys.length ca cb
 have HC := hid (fun w' => W4_cells (w' := w') (w := w) (b1 := b1) (b2 := b2) (aa := aa) (ab := ab) (n1 := xs.length) (n2 := ys.length) (ca := ca) (cb := cb))
 have HH := hid (W4_heap w b1 b2 aa ab xs.length ys.length ca cb)
 have HSZ := hid (W4_size w b1 b2 aa ab xs.length ys.length ca cb)
 have HB := hid hB
 have hT1 := rtrim2_any b1 aa ca xs (W4 w b1 b2 aa ab xs.length ys.length ca cb).drew ((ha.below hB).keep fun _ _ h => h) (by omega)
 have HT2 := hid (fun w' (h : Rd w' ab cb ys) => rtrim2_any b2 ab cb ys w' h (by omega))
 have HBB := hid (hb.below hB)
 have lA : (nd (iv b1 (val xs)).natAbs).length ≤ 4398046511104 := by rw [iv_abs]; exact Nat.le_trans (nd_length_le_of ha.dg) hl1
 have lB : (nd (iv b2 (val ys)).natAbs).length ≤ 4398046511104 := by rw [iv_abs]; exact Nat.le_trans (nd_length_le_of hb.dg) hl2
 have hZ : (iv b2 (val ys)).natAbs = val ys := iv_abs _ _
 obtain ⟨A, hA⟩ : ∃ A, A = iv b1 (val xs) := ⟨_, rfl⟩
 obtain ⟨B, hBv⟩ : ∃ B, B = iv b2 (val ys) := ⟨_, rfl⟩
 rw [← hA] at hT1 lA
 rw [← hBv] at lB hZ
 simp only [← hBv] at HT2
 have HZ := hid hZ
 have H0 := hid h0
 have HT1 := hid hT1
 rw [← hA, ← hBv]
 unfold W4 at HT1 HC HSZ HB HH HBB
 clear ha hb hB hT1 hZ hl1 hl2 h0 hA hBv
 have hn0 : ¬ (w.heap.size + 1 = w.heap.size) := by omega
 have hn1 : ¬ (w.heap.size = w.heap.size + 1) := by omega
 go_enter Tryz.func163, Tryz.ntmps163
 go_wp2_with fail
 go_upto_region 1 with fail
 go_cut [10] from 10 to 13 (fun _ wx => ∃ a1 c1 a2 c2, Hid (DivS w wx A B a1 a2 c1 c2))
 case first =>
  obtain ⟨w0, hw0⟩ : ∃ x, x = ((((w.alloc (.cells #[.bool b1, .slice aa xs.length ca] 24)).alloc (.cells #[.bool b2, .slice ab ys.length cb] 24)).alloc (.cells #[.bool false, .slice none 0 0] 24)).alloc (.cells #[.bool false, .slice none 0 0] 24)) := ⟨_, rfl⟩
  rw [← hw0] at HT1 HC HSZ HB HH HBB ⊢
  clear hw0
  obtain ⟨⟨s0, s1, s2, s3⟩, ⟨k0, k1, k2, k3⟩, k4, k5, k6, k7⟩ := HC.out w0 (Below.refl _ _)
  go_region_with (first
   | (go_at_call 142; (with_reducible refine HT1.out.mono ?_); rintro e w3 ⟨a3, c3, rfl, o3, f3⟩; obtain ⟨⟨r0, r1, r2, r3⟩, _, _⟩ := HC.out w3 (below_undrew f3); have HT2' := hid (HT2.out w3 (HBB.out.below (below_undrew f3))))
   | (go_at_call 142; (with_reducible refine HT2'.out.mono ?_); rintro e w4 ⟨a4, c4, rfl, o4, f4⟩; have f34 := below_undrew (f3.trans (f4.mono f3.size)); obtain ⟨t0, t1, j0, j1⟩ := pair_cells HH.out.1 f34; obtain ⟨t2, t3, j2, j3⟩ := pair_cells HH.out.2.1 f34))
  all_goals
   have hz := HSZ.out
   have q0 := (f34.block w.heap.size (by omega)).trans HH.out.1
   have q1 := (f34.block (w.heap.size + 1) (by omega)).trans HH.out.2.1
   have q2 := (f34.block (w.heap.size + 2) (by omega)).trans HH.out.2.2.1
   have q3 := (f34.block (w.heap.size + 3) (by omega)).trans HH.out.2.2.2
   have hz0 : w0.drew.heap.size = w0.heap.size := rfl
   have hf3 := f3.size
   have hf34 := f34.size
   have HD := hid (DivS.of q0 q1 q2 q3 ((o3.below f4).mono (by omega)) (o4.mono (by omega)) (HB.out.trans (f34.mono HB.out.size)) (by omega))
   clear q0 q1 q2 q3
   go_wp2
   go_meet
   exact ⟨a3, c3, a4, c4, HD⟩
 case rest =>
  obtain ⟨a1, c1, a2, c2, HS⟩ := hcut
  obtain ⟨q0, q1, q2, q3, o1, o2, hbw, hsz⟩ := HS.out
  have HP := hid (fun w' (h : Below wc.heap.size wc w') => And.intro (pair_cells q0 h) (And.intro (pair_cells q1 h) (And.intro (pair_cells q2 h) (pair_cells q3 h))))
  obtain ⟨⟨s0, s1, _, _⟩, ⟨s2, s3, _, _⟩, _, _⟩ := HP.out wc (Below.refl _ _)
  obtain ⟨x, hx⟩ : ∃ x, x = A.natAbs := ⟨_, rfl⟩
  obtain ⟨y, hy⟩ : ∃ y, y = B.natAbs := ⟨_, rfl⟩
  obtain ⟨p, hp⟩ : ∃ p, p = decide (A < 0) := ⟨_, rfl⟩
  obtain ⟨s, hs⟩ : ∃ s, s = decide (B < 0) := ⟨_, rfl⟩
  have eA : iv p x = A := by rw [hp, hx]; exact iv_self A
  have eB : iv s y = B := by rw [hs, hy]; exact iv_self B
  rw [← hx] at lA o1 s1 HP
  rw [← hy] at lB o2 s3 HP HZ
  rw [← hp] at s0 HP
  rw [← hs] at s2 HP
  have hy0 : y ≠ 0 := by rw [HZ.out]; exact H0.out
  have HB2 := hid (And.intro hbw hsz)
  clear HT1 HT2 HBB HC HSZ HB HH hx hy hp hs q0 q1 q2 q3 hbw HS hn0 hn1
  have hdm := rdivmod_any a1 a2 c1 c2 (nd x) (nd y) wc o1.rd o2.rd (by rw [val_nd]; exact hy0) lA lB
  rw [val_nd, val_nd] at hdm
  have O2 := hid o2
  have lq : (nd (x / y)).length ≤ (nd x).length := nd_length_mono (Nat.div_le_self _ _)
  have lr : (nd (x % y)).length ≤ (nd x).length := nd_length_mono (Nat.mod_le _ _)
  obtain ⟨q, hq⟩ : ∃ q, q = x / y := ⟨_, rfl⟩
  obtain ⟨r, hr⟩ : ∃ r, r = x % y := ⟨_, rfl⟩
  rw [← hq, ← hr] at hdm
  rw [← hq] at lq
  rw [← hr] at lr
  have lQ : (nd (q + 1)).length ≤ 17592186044410 := by
   have h1 := len_add (u := q) (v := 1) (Nat.le_trans lq lA) (show (nd 1).length ≤ 4398046511104 from Nat.le_trans (nd_length_le (k := 1) (by omega)) (by omega))
   omega
  have HD := hid hdm
  clear hdm o1 o2
  by_cases hup : p = true ∧ r ≠ 0
  ·have hu := idiv_up (b2 := s) hy0 (by rw [← hr]; exact hup.2 : x % y ≠ 0)
   rw [← hq, ← hr] at hu
   obtain ⟨hp1, hr0⟩ := hup
   subst hp1
   rw [eA, eB, show (!(true == s)) = !s by cases s <;> rfl] at hu
   have HU := hid hu
   have hrp : 0 < (nd r).length := Nat.pos_of_ne_zero fun h => hr0 (nd_eq_nil.1 (List.eq_nil_of_length_eq_zero h))
   have hg : decide (((nd r).length : Int) > 0) = true := decide_eq_true (by omega)
   clear hu eA eB hq hr hr0 HZ H0 hy0
   go_wp2_with fail
   (with_reducible refine HD.out.mono ?_)
   rintro e w3 ⟨ax, cx, ay, cy, rfl, ox, oy, f3⟩
   obtain ⟨⟨r0, r1, _, _⟩, ⟨r2, r3, _, _⟩, _, _⟩ := HP.out w3 f3
   have hone := Own.one w3.drew w3.drew.heap.size 1 (Nat.le_refl _) (by omega)
   have hba := below_alloc w3.drew (.cells #[.int .u32 ((1 : Nat) : Int)] 88)
   have hadd := radd_any ax _ cx 1 (nd q) [1] _ ((ox.rd.keep (w' := w3.drew) fun _ _ h => h).below hba) hone.rd (by omega) (by simp)
   rw [val_nd, show val [1] = 1 by simp [val]] at hadd
   have HADD := hid hadd
   have hf3a : Below wc.heap.size wc (w3.drew.alloc (.cells #[.int .u32 ((1 : Nat) : Int)] 88)) := (f3.trans (below_drewI _ w3)).trans (hba.mono f3.size)
   have HF := hid (And.intro hf3a ((oy.keep (w' := w3.drew) fun _ _ => rfl).below hba))
   have HSUB := hid (fun w5 (h : Below (w3.drew.alloc (.cells #[.int .u32 ((1 : Nat) : Int)] 88)).heap.size (w3.drew.alloc (.cells #[.int .u32 ((1 : Nat) : Int)] 88)) w5) => show Calls Tryz.prog 189 #[.slice a2 (nd y).length c2, .slice ay (nd r).length cy] w5 (RetOwn w5.heap.size (nd (y - r)) w5) from by
    have h2 := rsub_any a2 ay c2 cy (nd y) (nd r) w5 (O2.out.rd.below (HF.out.1.trans (h.mono HF.out.1.size))) (HF.out.2.below h).rd (by omega) (by omega)
    rw [val_nd, val_nd] at h2; exact h2)
   clear hadd hone hba ox oy f3 hf3a
   go_wp2_with fail
   go_region_held3 (fun w' => w'.cell? ⟨w.heap.size + 1, 1, none⟩ = some (.slice a2 (nd y).length c2)) (go_keep) (first
    | (go_at_call 151; refine HADD.out.mono ?_; rintro e w5 ⟨a5, c5, rfl, o5, f5⟩; obtain ⟨_, ⟨_, t3, _, _⟩, _, _⟩ := HP.out w5 (HF.out.1.trans (f5.mono HF.out.1.size)))
    | (go_at_call 189; (with_reducible refine (HSUB.out w5 f5).mono ?_); rintro e w6 ⟨a6, c6, rfl, o6, f6⟩; obtain ⟨⟨t0, _, _, _⟩, ⟨t2, t3', _, _⟩, _, _⟩ := HP.out w6 ((HF.out.1.trans (f5.mono HF.out.1.size)).trans (f6.mono (HF.out.1.trans (f5.mono HF.out.1.size)).size))))
   all_goals
    have g6 := (HF.out.1.trans (f5.mono HF.out.1.size)).trans (f6.mono (HF.out.1.trans (f5.mono HF.out.1.size)).size)
    have O6 := hid (And.intro ((o5.below f6).mono (show w.heap.size + 4 ≤ _ from Nat.le_trans HB2.out.2 HF.out.1.size)) (And.intro (o6.mono (Nat.le_trans HB2.out.2 (HF.out.1.trans (f5.mono HF.out.1.size)).size)) g6))
    clear o5 o6 f5 f6 g6 t3 r0 r1 r2 r3
    have ht := rtrim2_any (!s) a5 c5 (nd (q + 1)) w6 O6.out.1.rd (by have := lQ; omega)
    rw [val_nd, ← HU.out.1] at ht
    have HT := hid ht
    clear ht
    go_wp2_with fail
    (with_reducible refine HT.out.mono ?_)
    rintro e w8 ⟨a8, c8, rfl, o8, f8⟩
    have g8 := O6.out.2.2.trans (f8.mono O6.out.2.2.size)
    obtain ⟨_, _, ⟨k0, k1, k2, k3⟩, k4, k5, k6, k7⟩ := HP.out w8 g8
    have H8 := hid (And.intro (o8.mono (Nat.le_trans HB2.out.2 O6.out.2.2.size)) (And.intro (O6.out.2.1.below f8) (HB2.out.1.trans (g8.mono HB2.out.1.size))))
    clear o8 f8 g8 HT
    go_wp2
    refine bodyPost_ret (v := .tuple #[.agg #[.bool (decide (A / B < 0)), .slice a8 (nd (A / B).natAbs).length c8], .agg #[.bool false, .slice a6 (nd (y - r)).length c6], .int .i64 0]) (by simp [results, Tryz.results163, go_sem, k0, k1, k4, k5]) rfl ?_
    exact RetIDiv.fin2 H8.out.1 H8.out.2.1 HU.out.2 (by omega) (by omega) H8.out.2.2 (by omega) (by omega) _ _ _ _
  ·have hu := idiv_plain (b1 := p) (b2 := s) hy0 (by
    cases p
    ·exact Or.inl rfl
    ·exact Or.inr (by rw [← hr]; exact Classical.byContradiction fun h => hup ⟨rfl, h⟩))
   rw [← hq, ← hr, eA, eB] at hu
   cases p
   ·rw [show (!(false == s)) = s by cases s <;> rfl] at hu
    have HU := hid hu
    clear hu eA eB hq hr hup HZ H0 hy0
    go_wp2_with fail
    (with_reducible refine HD.out.mono ?_)
    rintro e w3 ⟨ax, cx, ay, cy, rfl, ox, oy, f3⟩
    obtain ⟨⟨r0, r1, _, _⟩, ⟨r2, r3, _, _⟩, _, _⟩ := HP.out w3 f3
    have O6 := hid (And.intro (ox.mono HB2.out.2) (And.intro (oy.mono HB2.out.2) f3))
    clear ox oy f3
    have ht := rtrim2_any s ax cx (nd (q)) w3 O6.out.1.rd (by have := lQ; omega)
    rw [val_nd, ← HU.out.1] at ht
    have HT := hid ht
    clear ht
    go_wp2_with fail
    (with_reducible refine HT.out.mono ?_)
    rintro e w8 ⟨a8, c8, rfl, o8, f8⟩
    have g8 := O6.out.2.2.trans (f8.mono O6.out.2.2.size)
    obtain ⟨_, _, ⟨k0, k1, k2, k3⟩, k4, k5, k6, k7⟩ := HP.out w8 g8
    have H8 := hid (And.intro (o8.mono (Nat.le_trans HB2.out.2 O6.out.2.2.size)) (And.intro (O6.out.2.1.below f8) (HB2.out.1.trans (g8.mono HB2.out.1.size))))
    clear o8 f8 g8 HT
    go_wp2
    refine bodyPost_ret (v := .tuple #[.agg #[.bool (decide (A / B < 0)), .slice a8 (nd (A / B).natAbs).length c8], .agg #[.bool false, .slice ay (nd (r)).length cy], .int .i64 0]) (by simp [results, Tryz.results163, go_sem, k0, k1, k4, k5]) rfl ?_
    exact RetIDiv.fin2 H8.out.1 H8.out.2.1 HU.out.2 (by omega) (by omega) H8.out.2.2 (by omega) (by omega) _ _ _ _
   ·obtain rfl : r = 0 := Classical.byContradiction fun h => hup ⟨rfl, h⟩
    rw [show (!(true == s)) = !s by cases s <;> rfl] at hu
    have HU := hid hu
    have hg : decide (((nd 0).length : Int) > 0) = false := by rw [nd_zero]; simp
    have hn0 := nd_zero
    have hg2 : ¬ (0 < ((nd 0).length : Int)) := by rw [nd_zero]; simp
    clear hu eA eB hq hr hup HZ H0 hy0
    go_wp2_with fail
    (with_reducible refine HD.out.mono ?_)
    rintro e w3 ⟨ax, cx, ay, cy, rfl, ox, oy, f3⟩
    obtain ⟨⟨r0, r1, _, _⟩, ⟨r2, r3, _, _⟩, _, _⟩ := HP.out w3 f3
    have O6 := hid (And.intro (ox.mono HB2.out.2) (And.intro (oy.mono HB2.out.2) f3))
    clear ox oy f3
    have ht := rtrim2_any (!s) ax cx (nd (q)) w3 O6.out.1.rd (by have := lQ; omega)
    rw [val_nd, ← HU.out.1] at ht
    have HT := hid ht
    clear ht
    go_wp2_with fail
    (with_reducible refine HT.out.mono ?_)
    rintro e w8 ⟨a8, c8, rfl, o8, f8⟩
    have g8 := O6.out.2.2.trans (f8.mono O6.out.2.2.size)
    obtain ⟨_, _, ⟨k0, k1, k2, k3⟩, k4, k5, k6, k7⟩ := HP.out w8 g8
    have H8 := hid (And.intro (o8.mono (Nat.le_trans HB2.out.2 O6.out.2.2.size)) (And.intro (O6.out.2.1.below f8) (HB2.out.1.trans (g8.mono HB2.out.1.size))))
    clear o8 f8 g8 HT
    go_wp2
    refine bodyPost_ret (v := .tuple #[.agg #[.bool (decide (A / B < 0)), .slice a8 (nd (A / B).natAbs).length c8], .agg #[.bool false, .slice ay (nd (0)).length cy], .int .i64 0]) (by simp [results, Tryz.results163, go_sem, k0, k1, k4, k5, nd_zero]) rfl ?_
    exact RetIDiv.fin2 H8.out.1 H8.out.2.1 HU.out.2 (by omega) (by omega) H8.out.2.2 (by omega) (by omega) _ _ _ _

end Go.Proofs.YtcankknlbljicaaGreatDoor
