/-  -/
import Derived.Test.YtiljjhhkklnlgaaGreatDoorQIa1

set_option linter.unusedVariables false
set_option linter.unusedSimpArgs false
set_option linter.unusedSectionVars false
set_option maxRecDepth 100000
set_option maxHeartbeats 3200000

namespace Go.Proofs.YtiljjhhkklnlgaaGreatDoor
open Go.RowKit Num

def AddS (w wx : World) (A B : Int) (a1 a2 : Option Addr) (c1 c2 : Nat) : Prop :=
 wx.heap[w.heap.size]? = some (.cells #[.bool (decide (A < 0)), .slice a1 (nd A.natAbs).length c1] 24 (0, 0)) ∧ wx.heap[w.heap.size + 1]? = some (.cells #[.bool (decide (B < 0)), .slice a2 (nd B.natAbs).length c2] 24 (0, 0)) ∧
 wx.heap[w.heap.size + 2]? = some (.cells #[.bool false, .slice none 0 0] 24 (0, 0)) ∧
 Own (w.heap.size + 3) wx a1 c1 (nd A.natAbs) ∧ Own (w.heap.size + 3) wx a2 c2 (nd B.natAbs) ∧ Below w.heap.size w wx ∧ w.heap.size + 3 ≤ wx.heap.size
theorem AddS.of {w w4 : World} {A B : Int} {a1 a2 : Option Addr} {c1 c2 : Nat} {p1 p2 p3 p4 : Value}
  (h0 : w4.heap[w.heap.size]? = some (.cells #[p1, p2] 24 (0, 0))) (h1 : w4.heap[w.heap.size + 1]? = some (.cells #[p3, p4] 24 (0, 0)))
  (h2 : w4.heap[w.heap.size + 2]? = some (.cells #[.bool false, .slice none 0 0] 24 (0, 0)))
  (o1 : Own (w.heap.size + 3) w4 a1 c1 (nd A.natAbs)) (o2 : Own (w.heap.size + 3) w4 a2 c2 (nd B.natAbs)) (hb : Below w.heap.size w w4) (hs : w.heap.size + 3 ≤ w4.heap.size) :
  AddS w ((((w4.setCell ⟨w.heap.size, 0, none⟩ (.bool (decide (A < 0)))).setCell ⟨w.heap.size, 1, none⟩ (.slice a1 (nd A.natAbs).length c1)).setCell ⟨w.heap.size + 1, 0, none⟩ (.bool (decide (B < 0)))).setCell ⟨w.heap.size + 1, 1, none⟩ (.slice a2 (nd B.natAbs).length c2)) A B a1 a2 c1 c2 := by
 have n1 : w.heap.size ≠ w.heap.size + 1 := by omega
 have n2 : w.heap.size + 1 ≠ w.heap.size := by omega
 refine ⟨?_, ?_, ?_, (((o1.setOld (by omega) _).setOld (by omega) _).setOld (by omega) _).setOld (by omega) _, (((o2.setOld (by omega) _).setOld (by omega) _).setOld (by omega) _).setOld (by omega) _, (((hb.setCell (p := ⟨w.heap.size, 0, none⟩) (Nat.le_refl _) _).setCell (p := ⟨w.heap.size, 1, none⟩) (Nat.le_refl _) _).setCell (p := ⟨w.heap.size + 1, 0, none⟩) (Nat.le_succ _) _).setCell (p := ⟨w.heap.size + 1, 1, none⟩) (Nat.le_succ _) _, ?_⟩
 ·rw [Below.heap_setCell _ ⟨w.heap.size + 1, 1, none⟩ _ _ n1, Below.heap_setCell _ ⟨w.heap.size + 1, 0, none⟩ _ _ n1]
  exact Go.Joins.block_setCell (i := 1) (Go.Joins.block_setCell (i := 0) h0 _) _
 ·have h1' : ((w4.setCell ⟨w.heap.size, 0, none⟩ (.bool (decide (A < 0)))).setCell ⟨w.heap.size, 1, none⟩ (.slice a1 (nd A.natAbs).length c1)).heap[w.heap.size + 1]? = some (.cells #[p3, p4] 24 (0, 0)) := by
   rw [Below.heap_setCell _ ⟨w.heap.size, 1, none⟩ _ _ n2, Below.heap_setCell _ ⟨w.heap.size, 0, none⟩ _ _ n2]; exact h1
  exact Go.Joins.block_setCell (i := 1) (Go.Joins.block_setCell (i := 0) h1' _) _
 ·rw [Below.heap_setCell _ ⟨w.heap.size + 1, 1, none⟩ _ _ (show w.heap.size + 2 ≠ w.heap.size + 1 by omega), Below.heap_setCell _ ⟨w.heap.size + 1, 0, none⟩ _ _ (show w.heap.size + 2 ≠ w.heap.size + 1 by omega), Below.heap_setCell _ ⟨w.heap.size, 1, none⟩ _ _ (show w.heap.size + 2 ≠ w.heap.size by omega), Below.heap_setCell _ ⟨w.heap.size, 0, none⟩ _ _ (show w.heap.size + 2 ≠ w.heap.size by omega)]
  exact h2
 ·rw [setCell_size, setCell_size, setCell_size, setCell_size]; exact hs

set_option maxHeartbeats 6400000 in
theorem radd2_any (b1 b2 : Bool) (aa ab : Option Addr) (ca cb : Nat) (xs ys : List Nat) (w : World) (ha : Rd w aa ca xs) (hb : Rd w ab cb ys) (hl1 : xs.length ≤ 4398046511104) (hl2 : ys.length ≤ 4398046511104) :
  Calls Tryz.prog 173 #[.agg #[.bool b1, .slice aa xs.length ca], .agg #[.bool b2, .slice ab ys.length cb]] w (RetInt w.heap.size (iv b1 (val xs) + iv b2 (val ys)) w) := by
 have hB := V3_below w b1 b2 aa ab xs.length ys.length ca cb
 have HC := hid (fun w' => V3_cells (w' := w') (w := w) (b1 := b1) (b2 := b2) (aa := aa) (ab := ab) (n1 := xs.length) (n2 := ys.length) (ca := ca) (cb := cb))
 have HH := hid (V3_heap w b1 b2 aa ab xs.length ys.length ca cb)
 have HSZ := hid (V3_size w b1 b2 aa ab xs.length ys.length ca cb)
 have HB := hid hB
 have hT1 := rtrim2_any b1 aa ca xs (V3 w b1 b2 aa ab xs.length ys.length ca cb).drew ((ha.below hB).keep fun _ _ h => h) (by omega)
 have HT2 := hid (fun w' (h : Rd w' ab cb ys) => rtrim2_any b2 ab cb ys w' h (by omega))
 have HBB := hid (hb.below hB)
 have lA : (nd (iv b1 (val xs)).natAbs).length ≤ 4398046511104 := by rw [iv_abs]; exact Nat.le_trans (nd_length_le_of ha.dg) hl1
 have lB : (nd (iv b2 (val ys)).natAbs).length ≤ 4398046511104 := by rw [iv_abs]; exact Nat.le_trans (nd_length_le_of hb.dg) hl2
 obtain ⟨A, hA⟩ : ∃ A, A = iv b1 (val xs) := ⟨_, rfl⟩
 obtain ⟨B, hBv⟩ : ∃ B, B = iv b2 (val ys) := ⟨_, rfl⟩
 rw [← hA] at hT1 lA
 rw [← hBv] at lB
 simp only [← hBv] at HT2
 have HT1 := hid hT1
 rw [← hA, ← hBv]
 unfold V3 at HT1 HC HSZ HB HH HBB
 clear ha hb hB hT1 hl1 hl2 hA hBv
 have hn0 : ¬ (w.heap.size + 1 = w.heap.size) := by omega
 have hn1 : ¬ (w.heap.size = w.heap.size + 1) := by omega
 go_enter Tryz.func173, Tryz.ntmps173
 go_wp2_with fail
 go_upto_region 1 with fail
 go_cut [5] from 5 to 8 (fun _ wx => ∃ a1 c1 a2 c2, Hid (AddS w wx A B a1 a2 c1 c2))
 case first =>
  obtain ⟨w0, hw0⟩ : ∃ x, x = (((w.alloc (.cells #[.bool b1, .slice aa xs.length ca] 24)).alloc (.cells #[.bool b2, .slice ab ys.length cb] 24)).alloc (.cells #[.bool false, .slice none 0 0] 24)) := ⟨_, rfl⟩
  rw [← hw0] at HT1 HC HSZ HB HH HBB ⊢
  clear hw0
  obtain ⟨⟨s0, s1, _, _⟩, ⟨s2, s3, _, _⟩, _⟩ := HC.out w0 (Below.refl _ _)
  go_region_with (first
   | (go_at_call 181; (with_reducible refine HT1.out.mono ?_); rintro e w3 ⟨a3, c3, rfl, o3, f3⟩; obtain ⟨⟨r0, r1, _, _⟩, ⟨r2, r3, _, _⟩, _⟩ := HC.out w3 (below_undrew f3); have HT2' := hid (HT2.out w3 (HBB.out.below (below_undrew f3))))
   | (go_at_call 181; (with_reducible refine HT2'.out.mono ?_); rintro e w4 ⟨a4, c4, rfl, o4, f4⟩; have f34 := below_undrew (f3.trans (f4.mono f3.size)); obtain ⟨t0, t1, j0, j1⟩ := pair_cells HH.out.1 f34; obtain ⟨t2, t3, j2, j3⟩ := pair_cells HH.out.2.1 f34))
  all_goals
   have hz := HSZ.out
   have q0 := (f34.block w.heap.size (by omega)).trans HH.out.1
   have q1 := (f34.block (w.heap.size + 1) (by omega)).trans HH.out.2.1
   have q2 := (f34.block (w.heap.size + 2) (by omega)).trans HH.out.2.2
   have hz0 : w0.drew.heap.size = w0.heap.size := rfl
   have hf3 := f3.size
   have hf34 := f34.size
   have HD := hid (AddS.of q0 q1 q2 ((o3.below f4).mono (by omega)) (o4.mono (by omega)) (HB.out.trans (f34.mono HB.out.size)) (by omega))
   clear q0 q1 q2
   go_wp2
   go_meet
   exact ⟨a3, c3, a4, c4, HD⟩
 case rest =>
  obtain ⟨a1, c1, a2, c2, HS⟩ := hcut
  obtain ⟨q0, q1, q2, o1, o2, hbw, hsz⟩ := HS.out
  have HP := hid (fun w' (h : Below wc.heap.size wc w') => And.intro (pair_cells q0 h) (And.intro (pair_cells q1 h) (pair_cells q2 h)))
  obtain ⟨⟨s0, s1, _, _⟩, ⟨s2, s3, _, _⟩, _⟩ := HP.out wc (Below.refl _ _)
  obtain ⟨x, hx⟩ : ∃ x, x = A.natAbs := ⟨_, rfl⟩
  obtain ⟨y, hy⟩ : ∃ y, y = B.natAbs := ⟨_, rfl⟩
  obtain ⟨p, hp⟩ : ∃ p, p = decide (A < 0) := ⟨_, rfl⟩
  obtain ⟨s, hs⟩ : ∃ s, s = decide (B < 0) := ⟨_, rfl⟩
  have eA : iv p x = A := by rw [hp, hx]; exact iv_self A
  have eB : iv s y = B := by rw [hs, hy]; exact iv_self B
  rw [← hx] at lA o1 s1 HP
  rw [← hy] at lB o2 s3 HP
  rw [← hp] at s0 HP
  rw [← hs] at s2 HP
  have HE := hid (And.intro eA eB)
  have hn2 : ¬ (w.heap.size + 1 + 1 = w.heap.size) := by omega
  have hn3 : ¬ (w.heap.size = w.heap.size + 1 + 1) := by omega
  have HB2 := hid (And.intro hbw hsz)
  have O12 := hid (And.intro o1 o2)
  clear HT1 HT2 HBB HC HSZ HB HH hx hy hp hs q0 q1 q2 hbw hsz HS hn0 hn1 eA eB o1 o2
  have b0 := below_drewI wc.heap.size wc
  by_cases hps : p = s
  ·subst hps
   have hlv : (nd (x + y)).length ≤ 17592186044416 := by
    have h1 := len_add (u := x) (v := y) lA lB
    omega
   have hee : (p == p) = true := by simp
   have had := radd_any a1 a2 c1 c2 (nd x) (nd y) wc.drew (O12.out.1.rd.below b0) (O12.out.2.rd.below b0) (by omega) (by omega)
   rw [val_nd, val_nd] at had
   have HAD := hid had
   have HV := hid (show iv p (x + y) = A + B by rw [iadd_same, HE.out.1, HE.out.2])
   clear had
   have HTR := hid (fun w3 a3 c3 (h : Rd w3 a3 c3 (nd (x + y))) => show Calls Tryz.prog 181 #[.agg #[.bool (p), .slice a3 (nd (x + y)).length c3]] w3 (RetInt w3.heap.size (iv (p) (x + y)) w3) from by
    have h2 := rtrim2_any (p) a3 c3 (nd (x + y)) w3 h hlv
    rw [val_nd] at h2; exact h2)
   go_wp2_with fail
   go_region_held3 (fun w' => w'.cell? ⟨w.heap.size, 0, none⟩ = some (.bool p) ∧ w'.cell? ⟨w.heap.size, 1, none⟩ = some (.slice a1 (nd x).length c1) ∧ w'.cell? ⟨w.heap.size + 1, 0, none⟩ = some (.bool p) ∧ w'.cell? ⟨w.heap.size + 1, 1, none⟩ = some (.slice a2 (nd y).length c2)) (go_keep) (first
    | (go_at_call 181; (with_reducible refine (HTR.out w3 a3 c3 o3.rd).mono ?_); rintro e w4 ⟨a4, c4, rfl, o4, f4⟩; have f34 := f3.trans (f4.mono f3.size); obtain ⟨⟨r4, r5, _, _⟩, ⟨r6, r7, _, _⟩, k0, k1, k2, k3⟩ := HP.out w4 (below_undrew f34))
    | (go_at_call 190; (with_reducible refine HAD.out.mono ?_); rintro e w3 ⟨a3, c3, rfl, o3, f3⟩; obtain ⟨⟨r0, r1, _, _⟩, ⟨r2, r3, _, _⟩, _⟩ := HP.out w3 (below_undrew f3)))
   all_goals
    go_wp2
    have hs1 := HB2.out.2
    have hs2 := (below_undrew f34).size
    have hs3 := (below_undrew f3).size
    refine bodyPost_ret (v := .agg #[.bool (decide (iv (p) (x + y) < 0)), .slice a4 (nd (iv (p) (x + y)).natAbs).length c4]) (by simp [results, Tryz.results173, go_sem, k0, k1]) rfl ?_
    rw [← HV.out]
    exact RetInt.fin o4 (by omega) (HB2.out.1.trans ((below_undrew f34).mono HB2.out.1.size)) (by omega) _ _
  ·obtain rfl : s = !p := by cases p <;> cases s <;> simp_all
   have hee : (p == !p) = false := by cases p <;> rfl
   have hcm := rcompare_any a1 a2 c1 c2 (nd x) (nd y) wc O12.out.1.rd O12.out.2.rd (by omega) (by omega)
   rw [val_nd, val_nd] at hcm
   clear hps
   by_cases hxy : x < y
   ·have hr : cmpN x y = -1 := by rw [cmpN, if_pos hxy]
    rw [hr] at hcm
    have HCM := hid hcm
    have hlv : (nd (y - x)).length ≤ 17592186044416 := Nat.le_trans (nd_length_mono (Nat.sub_le y x)) (by omega)
    have HV := hid (show iv (!p) (y - x) = A + B by rw [iadd_less p x y (Nat.le_of_lt hxy), HE.out.1, HE.out.2])
    clear hcm hr hxy
    go_wp2_with fail
    refine HCM.out.mono ?_
    rintro e wk ⟨rfl, fk⟩
    have bk := fk.trans (below_drewI wc.heap.size wk)
    clear s0 s1 s2 s3 HCM
    obtain ⟨⟨s0, s1, _, _⟩, ⟨s2, s3, _, _⟩, _⟩ := HP.out wk fk
    have had := rsub_any a2 a1 c2 c1 (nd y) (nd x) wk.drew (O12.out.2.rd.below bk) (O12.out.1.rd.below bk) (by omega) (by omega)
    rw [val_nd, val_nd] at had
    have HAD := hid had
    clear had
    have HTR := hid (fun w3 a3 c3 (h : Rd w3 a3 c3 (nd (y - x))) => show Calls Tryz.prog 181 #[.agg #[.bool (!p), .slice a3 (nd (y - x)).length c3]] w3 (RetInt w3.heap.size (iv (!p) (y - x)) w3) from by
     have h2 := rtrim2_any (!p) a3 c3 (nd (y - x)) w3 h hlv
     rw [val_nd] at h2; exact h2)
    go_wp2_with fail
    go_region_held3 (fun w' => w'.cell? ⟨w.heap.size, 0, none⟩ = some (.bool p) ∧ w'.cell? ⟨w.heap.size, 1, none⟩ = some (.slice a1 (nd x).length c1) ∧ w'.cell? ⟨w.heap.size + 1, 0, none⟩ = some (.bool (!p)) ∧ w'.cell? ⟨w.heap.size + 1, 1, none⟩ = some (.slice a2 (nd y).length c2)) (go_keep) (first
     | (go_at_call 181; (with_reducible refine (HTR.out w3 a3 c3 o3.rd).mono ?_); rintro e w4 ⟨a4, c4, rfl, o4, f4⟩; have f34 := f3.trans (f4.mono f3.size); obtain ⟨⟨r4, r5, _, _⟩, ⟨r6, r7, _, _⟩, k0, k1, k2, k3⟩ := HP.out w4 (fk.trans ((below_undrew f34).mono fk.size)))
     | (go_at_call 224; (with_reducible refine HAD.out.mono ?_); rintro e w3 ⟨a3, c3, rfl, o3, f3⟩; obtain ⟨⟨r0, r1, _, _⟩, ⟨r2, r3, _, _⟩, _⟩ := HP.out w3 (fk.trans ((below_undrew f3).mono fk.size))))
    all_goals
     go_wp2
     have hs1 := HB2.out.2
     have hs2 := (fk.trans ((below_undrew f34).mono fk.size)).size
     have hs3 := (fk.trans ((below_undrew f3).mono fk.size)).size
     refine bodyPost_ret (v := .agg #[.bool (decide (iv (!p) (y - x) < 0)), .slice a4 (nd (iv (!p) (y - x)).natAbs).length c4]) (by simp [results, Tryz.results173, go_sem, k0, k1]) rfl ?_
     rw [← HV.out]
     exact RetInt.fin o4 (by omega) (HB2.out.1.trans ((fk.trans ((below_undrew f34).mono fk.size)).mono HB2.out.1.size)) (by omega) _ _
   ·obtain ⟨r, hr⟩ : ∃ r, r = cmpN x y := ⟨_, rfl⟩
    have hr0 : r ≥ 0 := by rw [hr, cmpN, if_neg hxy]; split <;> omega
    rw [← hr] at hcm
    have HCM := hid hcm
    have hlv : (nd (x - y)).length ≤ 17592186044416 := Nat.le_trans (nd_length_mono (Nat.sub_le x y)) (by omega)
    have HV := hid (show iv p (x - y) = A + B by rw [iadd_more p x y (by omega), HE.out.1, HE.out.2])
    clear hcm hr hxy
    go_wp2_with fail
    refine HCM.out.mono ?_
    rintro e wk ⟨rfl, fk⟩
    have bk := fk.trans (below_drewI wc.heap.size wk)
    clear s0 s1 s2 s3 HCM
    obtain ⟨⟨s0, s1, _, _⟩, ⟨s2, s3, _, _⟩, _⟩ := HP.out wk fk
    have had := rsub_any a1 a2 c1 c2 (nd x) (nd y) wk.drew (O12.out.1.rd.below bk) (O12.out.2.rd.below bk) (by omega) (by omega)
    rw [val_nd, val_nd] at had
    have HAD := hid had
    clear had
    have HTR := hid (fun w3 a3 c3 (h : Rd w3 a3 c3 (nd (x - y))) => show Calls Tryz.prog 181 #[.agg #[.bool (p), .slice a3 (nd (x - y)).length c3]] w3 (RetInt w3.heap.size (iv (p) (x - y)) w3) from by
     have h2 := rtrim2_any (p) a3 c3 (nd (x - y)) w3 h hlv
     rw [val_nd] at h2; exact h2)
    go_wp2_with fail
    go_region_held3 (fun w' => w'.cell? ⟨w.heap.size, 0, none⟩ = some (.bool p) ∧ w'.cell? ⟨w.heap.size, 1, none⟩ = some (.slice a1 (nd x).length c1) ∧ w'.cell? ⟨w.heap.size + 1, 0, none⟩ = some (.bool (!p)) ∧ w'.cell? ⟨w.heap.size + 1, 1, none⟩ = some (.slice a2 (nd y).length c2)) (go_keep) (first
     | (go_at_call 181; (with_reducible refine (HTR.out w3 a3 c3 o3.rd).mono ?_); rintro e w4 ⟨a4, c4, rfl, o4, f4⟩; have f34 := f3.trans (f4.mono f3.size); obtain ⟨⟨r4, r5, _, _⟩, ⟨r6, r7, _, _⟩, k0, k1, k2, k3⟩ := HP.out w4 (fk.trans ((below_undrew f34).mono fk.size)))
     | (go_at_call 224; (with_reducible refine HAD.out.mono ?_); rintro e w3 ⟨a3, c3, rfl, o3, f3⟩; obtain ⟨⟨r0, r1, _, _⟩, ⟨r2, r3, _, _⟩, _⟩ := HP.out w3 (fk.trans ((below_undrew f3).mono fk.size))))
    all_goals
     go_wp2
     have hs1 := HB2.out.2
     have hs2 := (fk.trans ((below_undrew f34).mono fk.size)).size
     have hs3 := (fk.trans ((below_undrew f3).mono fk.size)).size
     refine bodyPost_ret (v := .agg #[.bool (decide (iv (p) (x - y) < 0)), .slice a4 (nd (iv (p) (x - y)).natAbs).length c4]) (by simp [results, Tryz.results173, go_sem, k0, k1]) rfl ?_
     rw [← HV.out]
     exact RetInt.fin o4 (by omega) (HB2.out.1.trans ((fk.trans ((below_undrew f34).mono fk.size)).mono HB2.out.1.size)) (by omega) _ _

theorem rsub2_any (b1 b2 : Bool) (aa ab : Option Addr) (ca cb : Nat) (xs ys : List Nat) (w : World) (ha : Rd w aa ca xs) (hb : Rd w ab cb ys) (hl1 : xs.length ≤ 4398046511104) (hl2 : ys.length ≤ 4398046511104) :
  Calls Tryz.prog 222 #[.agg #[.bool b1, .slice aa xs.length ca], .agg #[.bool b2, .slice ab ys.length cb]] w (RetInt w.heap.size (iv b1 (val xs) - iv b2 (val ys)) w) := by
 have hle1 := ha.le
 have hcm1 := ha.cm
 have hle2 := hb.le
 have hcm2 := hb.cm
 have hB : Below w.heap.size w (V3 w b1 b2 aa ab xs.length ys.length ca cb).drew := (V3_below w b1 b2 aa ab xs.length ys.length ca cb).drew
 have HN := hid (rneg2_any b2 ab cb ys _ (hb.below hB) (by omega))
 have HC := hid (fun w' (h : Below (V3 w b1 b2 aa ab xs.length ys.length ca cb).drew.heap.size (V3 w b1 b2 aa ab xs.length ys.length ca cb).drew w') => V3_cells (w' := w') (w := w) (b1 := b1) (b2 := b2) (aa := aa) (ab := ab) (n1 := xs.length) (n2 := ys.length) (ca := ca) (cb := cb) (below_undrew h))
 have HB := hid hB
 have HSZ := hid (show (V3 w b1 b2 aa ab xs.length ys.length ca cb).drew.heap.size = w.heap.size + 3 from V3_size w b1 b2 aa ab xs.length ys.length ca cb)
 obtain ⟨B, hBv⟩ : ∃ B, B = -(iv b2 (val ys)) := ⟨_, rfl⟩
 have lB : (nd B.natAbs).length ≤ 4398046511104 := by rw [hBv, Int.natAbs_neg, iv_abs]; exact Nat.le_trans (nd_length_le_of hb.dg) hl2
 rw [← hBv] at HN
 have HV := hid (show iv b1 (val xs) + B = iv b1 (val xs) - iv b2 (val ys) by rw [hBv]; omega)
 have HA := hid (ha.below hB)
 unfold V3 at HN HC HB HSZ HA
 clear ha hb hB hBv
 have hn2 : ¬ (w.heap.size + 1 + 1 = w.heap.size) := by omega
 have hn3 : ¬ (w.heap.size = w.heap.size + 1 + 1) := by omega
 go_enter Tryz.func222, Tryz.ntmps222
 go_wp2_with fail
 obtain ⟨w0, hw0⟩ : ∃ x, x = (((w.alloc (.cells #[.bool b1, .slice aa xs.length ca] 24)).alloc (.cells #[.bool b2, .slice ab ys.length cb] 24)).alloc (.cells #[.bool false, .slice none 0 0] 24)) := ⟨_, rfl⟩
 rw [← hw0] at HN HC HB HSZ HA ⊢
 clear hw0
 obtain ⟨⟨s0, s1, _, _⟩, ⟨s2, s3, _, _⟩, _⟩ := HC.out w0.drew (Below.refl _ _)
 have z0 : w0.cell? ⟨w.heap.size, 0, none⟩ = some (.bool b1) := s0
 have z1 : w0.cell? ⟨w.heap.size, 1, none⟩ = some (.slice aa xs.length ca) := s1
 have z2 : w0.cell? ⟨w.heap.size + 1, 0, none⟩ = some (.bool b2) := s2
 have z3 : w0.cell? ⟨w.heap.size + 1, 1, none⟩ = some (.slice ab ys.length cb) := s3
 have HADD := hid (fun w3 a3 c3 (h3 : Rd w3 a3 c3 (nd B.natAbs)) (f : Below w0.drew.heap.size w0.drew w3) => show Calls Tryz.prog 173 #[.agg #[.bool b1, .slice aa xs.length ca], .agg #[.bool (decide (B < 0)), .slice a3 (nd B.natAbs).length c3]] w3 (RetInt w3.heap.size (iv b1 (val xs) - iv b2 (val ys)) w3) from by
  have h := radd2_any b1 (decide (B < 0)) aa a3 ca c3 xs (nd B.natAbs) w3 (HA.out.below f) h3 hl1 lB
  rw [val_nd, iv_self, HV.out] at h; exact h)
 go_region_held3 (fun w' => w'.cell? ⟨w.heap.size, 0, none⟩ = some (.bool b1) ∧ w'.cell? ⟨w.heap.size, 1, none⟩ = some (.slice aa xs.length ca) ∧ w'.cell? ⟨w.heap.size + 1, 0, none⟩ = some (.bool b2) ∧ w'.cell? ⟨w.heap.size + 1, 1, none⟩ = some (.slice ab ys.length cb)) (go_keep) (first
  | (go_at_call 173; (with_reducible refine (HADD.out w3 a3 c3 o3.rd f3).mono ?_); rintro e w4 ⟨a4, c4, rfl, o4, f4⟩; have f34 := f3.trans (f4.mono f3.size); obtain ⟨⟨r4, r5, _, _⟩, ⟨r6, r7, _, _⟩, k0, k1, k2, k3⟩ := HC.out w4 f34)
  | (go_at_call 203; (with_reducible refine HN.out.mono ?_); rintro e w3 ⟨a3, c3, rfl, o3, f3⟩; obtain ⟨⟨r0, r1, _, _⟩, ⟨r2, r3, _, _⟩, _⟩ := HC.out w3 f3))
 all_goals
  go_wp2
  have hsz := HSZ.out
  refine bodyPost_ret (v := .agg #[.bool (decide (iv b1 (val xs) - iv b2 (val ys) < 0)), .slice a4 (nd (iv b1 (val xs) - iv b2 (val ys)).natAbs).length c4]) (by simp [results, Tryz.results222, go_sem, k0, k1]) rfl ?_
  exact RetInt.fin o4 (by have := f3.size; omega) (HB.out.trans (f34.mono HB.out.size)) (by omega) _ _

theorem rcompare2_any (b1 b2 : Bool) (aa ab : Option Addr) (ca cb : Nat) (xs ys : List Nat) (w : World) (ha : Rd w aa ca xs) (hb : Rd w ab cb ys) (hl1 : xs.length ≤ 4398046511104) (hl2 : ys.length ≤ 4398046511104) :
  Calls Tryz.prog 171 #[.agg #[.bool b1, .slice aa xs.length ca], .agg #[.bool b2, .slice ab ys.length cb]] w (RetB (.int .i64 (cmpI (iv b1 (val xs)) (iv b2 (val ys)))) w) := by
 have hB := B2_below w b1 b2 aa ab xs.length ys.length ca cb
 have HS := hid (rsub2_any b1 b2 aa ab ca cb xs ys _ (ha.below hB) (hb.below hB) hl1 hl2)
 have HB := hid hB
 have hz : (nd (iv b1 (val xs) - iv b2 (val ys)).natAbs).length ≤ 17592186044416 := by
  have h1 := len_add (u := val xs) (v := val ys) (Nat.le_trans (nd_length_le_of ha.dg) hl1) (Nat.le_trans (nd_length_le_of hb.dg) hl2)
  have h2 : (iv b1 (val xs) - iv b2 (val ys)).natAbs ≤ val xs + val ys := by cases b1 <;> cases b2 <;> simp [iv] <;> omega
  have h3 := nd_length_mono h2
  omega
 obtain ⟨z, hzv⟩ : ∃ z, z = iv b1 (val xs) - iv b2 (val ys) := ⟨_, rfl⟩
 rw [cmpI_sub, ← hzv]
 rw [← hzv] at HS hz
 unfold B2 at HS HB
 clear ha hb hB hzv
 go_enter Tryz.func171, Tryz.ntmps171
 go_wp2_with fail
 refine HS.out.mono ?_
 rintro e w3 ⟨a3, c3, rfl, o3, f3⟩
 have hsg := rsign_any (decide (z < 0)) a3 c3 (nd z.natAbs) w3 o3.rd hz
 rw [val_nd, iv_self] at hsg
 have H3 := hid (HB.out.trans (f3.mono HB.out.size))
 clear o3 f3
 go_wp2_with fail
 refine hsg.mono ?_
 rintro e w4 ⟨rfl, f4⟩
 have H4 := hid (H3.out.trans (f4.mono H3.out.size))
 clear hsg f4
 go_wp2
 go_ret
 exact ⟨rfl, H4.out⟩
end Go.Proofs.YtiljjhhkklnlgaaGreatDoor
