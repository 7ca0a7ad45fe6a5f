/-  -/
import Derived.Test.YtiljjhhkklnlgaaGreatDoorQbf

set_option linter.unusedVariables false
set_option linter.unusedSimpArgs false
set_option linter.unusedSectionVars false
set_option maxRecDepth 100000
set_option maxHeartbeats 3200000

namespace Go.Proofs.YtiljjhhkklnlgaaGreatDoor
open Go.RowKit Num

theorem RetRatE.errB {q : Rat} {er : Int} {w w4 : World} (he : er ≠ 0) (hb : Below w.heap.size w w4) :
  RetRatE q er w (.returned (.tuple #[.agg #[.bool false, .slice none 0 0, .slice none 0 0], .int .i64 er])) w4 := by
 have e1 : rnm q er = [] := if_neg he
 have e2 : rdn q er = [] := if_neg he
 have e3 : rsg q er = false := by simp [rsg, he]
 refine ⟨none, 0, none, 0, ?_, ?_, ?_, hb⟩
 ·rw [e1, e2, e3]; rfl
 ·rw [e1]; exact Own.nil _ _
 ·rw [e2]; exact Own.nil _ _
end Go.Proofs.YtiljjhhkklnlgaaGreatDoor

namespace Go.Proofs.YtiljjhhkklnlgaaGreatDoor
open Go.RowKit Num

theorem rdown3_err {w : World} {b : Bool} {ao : Option Addr} {c : Nat} {xs : List Nat} {ad : Option Addr} {d : Nat} {ds : List Nat} {q : Rat} {n : Nat} (h : Rq w b ao c xs ad d ds q n) (k : Int) (hk : k < 0 ∨ 256 < k) (p : Rat) :
  Calls Tryz.prog 137 #[.agg #[.bool b, .slice ao xs.length c, .slice ad ds.length d], .int .i64 k] w (RetRatE p 1 w) := by
 have hle1 := h.rn.le
 have hcm1 := h.rn.cm
 have hle2 := h.rd.le
 have hcm2 := h.rd.cm
 have hB := A2_below w (.cells #[.bool b, .slice ao xs.length c, .slice ad ds.length d] 26) (.cells #[.bool false, .slice none 0 0, .slice none 0 0] 26)
 have HH := hid (A2_heap w (.cells #[.bool b, .slice ao xs.length c, .slice ad ds.length d] 26) (.cells #[.bool false, .slice none 0 0, .slice none 0 0] 26))
 have HSZ := hid (A2_size w (.cells #[.bool b, .slice ao xs.length c, .slice ad ds.length d] 26) (.cells #[.bool false, .slice none 0 0, .slice none 0 0] 26))
 have HB := hid hB
 have hbad := bad_any k (A2 w (.cells #[.bool b, .slice ao xs.length c, .slice ad ds.length d] 26) (.cells #[.bool false, .slice none 0 0, .slice none 0 0] 26)) true (by simp; omega)
 unfold A2 at HH HSZ HB hbad
 clear h hB
 have n01 : ¬ (w.heap.size = w.heap.size + 1 + 1) := by omega
 have n02 : ¬ (w.heap.size + 1 + 1 = w.heap.size) := by omega
 have n03 : ¬ (w.heap.size + 1 = w.heap.size + 1 + 1) := by omega
 have n04 : ¬ (w.heap.size + 1 + 1 = w.heap.size + 1) := by omega
 have n05 : ¬ (w.heap.size = w.heap.size + 1) := by omega
 have n06 : ¬ (w.heap.size + 1 = w.heap.size) := by omega
 go_enter Tryz.func137, Tryz.ntmps137
 go_wp2_with fail
 refine hbad.mono ?_
 rintro e wx ⟨rfl, rfl⟩
 clear hbad
 go_wp2
 refine bodyPost_ret (v := .tuple #[.agg #[.bool false, .slice none 0 0, .slice none 0 0], .int .i64 1]) (by simp [results, Tryz.results137, go_sem]) rfl ?_
 exact RetRatE.errB (by decide) HB.out

theorem rup3_err {w : World} {b : Bool} {ao : Option Addr} {c : Nat} {xs : List Nat} {ad : Option Addr} {d : Nat} {ds : List Nat} {q : Rat} {n : Nat} (h : Rq w b ao c xs ad d ds q n) (k : Int) (hk : k < 0 ∨ 256 < k) (p : Rat) :
  Calls Tryz.prog 138 #[.agg #[.bool b, .slice ao xs.length c, .slice ad ds.length d], .int .i64 k] w (RetRatE p 1 w) := by
 have hle1 := h.rn.le
 have hcm1 := h.rn.cm
 have hle2 := h.rd.le
 have hcm2 := h.rd.cm
 have hB := A2_below w (.cells #[.bool b, .slice ao xs.length c, .slice ad ds.length d] 26) (.cells #[.bool false, .slice none 0 0, .slice none 0 0] 26)
 have HH := hid (A2_heap w (.cells #[.bool b, .slice ao xs.length c, .slice ad ds.length d] 26) (.cells #[.bool false, .slice none 0 0, .slice none 0 0] 26))
 have HSZ := hid (A2_size w (.cells #[.bool b, .slice ao xs.length c, .slice ad ds.length d] 26) (.cells #[.bool false, .slice none 0 0, .slice none 0 0] 26))
 have HB := hid hB
 have hbad := bad_any k (A2 w (.cells #[.bool b, .slice ao xs.length c, .slice ad ds.length d] 26) (.cells #[.bool false, .slice none 0 0, .slice none 0 0] 26)) true (by simp; omega)
 unfold A2 at HH HSZ HB hbad
 clear h hB
 have n01 : ¬ (w.heap.size = w.heap.size + 1 + 1) := by omega
 have n02 : ¬ (w.heap.size + 1 + 1 = w.heap.size) := by omega
 have n03 : ¬ (w.heap.size + 1 = w.heap.size + 1 + 1) := by omega
 have n04 : ¬ (w.heap.size + 1 + 1 = w.heap.size + 1) := by omega
 have n05 : ¬ (w.heap.size = w.heap.size + 1) := by omega
 have n06 : ¬ (w.heap.size + 1 = w.heap.size) := by omega
 go_enter Tryz.func138, Tryz.ntmps138
 go_wp2_with fail
 refine hbad.mono ?_
 rintro e wx ⟨rfl, rfl⟩
 clear hbad
 go_wp2
 refine bodyPost_ret (v := .tuple #[.agg #[.bool false, .slice none 0 0, .slice none 0 0], .int .i64 1]) (by simp [results, Tryz.results138, go_sem]) rfl ?_
 exact RetRatE.errB (by decide) HB.out


theorem rdown3_ok {w : World} {b : Bool} {ao : Option Addr} {c : Nat} {xs : List Nat} {ad : Option Addr} {d : Nat} {ds : List Nat} {q : Rat} {n : Nat} (h : Rq w b ao c xs ad d ds q n) (hn : n ≤ 9999999999) (k : Nat) (hk : k ≤ 256) :
  Calls Tryz.prog 137 #[.agg #[.bool b, .slice ao xs.length c, .slice ad ds.length d], .int .i64 (k : Int)] w (RetRatE (dnQ q k) 0 w) := by
 have hle1 := h.rn.le
 have hcm1 := h.rn.cm
 have hle2 := h.rd.le
 have hcm2 := h.rd.cm
 have hB := A2_below w (.cells #[.bool b, .slice ao xs.length c, .slice ad ds.length d] 26) (.cells #[.bool false, .slice none 0 0, .slice none 0 0] 26)
 have HH := hid (A2_heap w (.cells #[.bool b, .slice ao xs.length c, .slice ad ds.length d] 26) (.cells #[.bool false, .slice none 0 0, .slice none 0 0] 26))
 have HSZ := hid (A2_size w (.cells #[.bool b, .slice ao xs.length c, .slice ad ds.length d] 26) (.cells #[.bool false, .slice none 0 0, .slice none 0 0] 26))
 have HB := hid hB
 have hbad := bad_any (k : Int) (A2 w (.cells #[.bool b, .slice ao xs.length c, .slice ad ds.length d] 26) (.cells #[.bool false, .slice none 0 0, .slice none 0 0] 26)) false (by simp; omega)
 have hr := rdown_any (h.below hB) (by omega) k hk
 obtain ⟨r, hrr⟩ : ∃ r, r = dnQ q k := ⟨_, rfl⟩
 rw [← hrr] at hr ⊢
 unfold A2 at HH HSZ HB hr hbad
 clear h hB hrr
 have n01 : ¬ (w.heap.size = w.heap.size + 1 + 1) := by omega
 have n02 : ¬ (w.heap.size + 1 + 1 = w.heap.size) := by omega
 have n03 : ¬ (w.heap.size + 1 = w.heap.size + 1 + 1) := by omega
 have n04 : ¬ (w.heap.size + 1 + 1 = w.heap.size + 1) := by omega
 have n05 : ¬ (w.heap.size = w.heap.size + 1) := by omega
 have n06 : ¬ (w.heap.size + 1 = w.heap.size) := by omega
 go_enter Tryz.func137, Tryz.ntmps137
 go_wp2_with fail
 obtain ⟨w0, hw0⟩ : ∃ x, x = ((w.alloc (.cells #[.bool b, .slice ao xs.length c, .slice ad ds.length d] 26)).alloc (.cells #[.bool false, .slice none 0 0, .slice none 0 0] 26)) := ⟨_, rfl⟩
 rw [← hw0] at HH HSZ HB hr hbad ⊢
 clear hw0
 refine hbad.mono ?_
 rintro e wx ⟨rfl, rfl⟩
 clear hbad
 obtain ⟨s0, s1, s2, _⟩ := cells3 HH.out.1 (Below.refl _ _)
 go_wp2_with fail
 refine hr.mono ?_
 rintro e w1 ⟨a1, c1, d1, e1, rfl, o1, u1, f1⟩
 obtain ⟨k0, k1, k2, k3, k4, k5⟩ := cells3 HH.out.2 f1
 have H1 := hid (And.intro o1 (And.intro u1 f1))
 clear hr o1 u1 f1
 go_wp2
 have hsz := HSZ.out
 refine bodyPost_ret (v := .tuple #[.agg #[.bool (decide (r.num < 0)), .slice a1 (nd r.num.natAbs).length c1, .slice d1 (nd r.den).length e1], .int .i64 0]) (by simp [results, Tryz.results137, go_sem, k0, k1, k2]) rfl ?_
 exact RetRatE.fin H1.out.1 H1.out.2.1 (by omega) (HB.out.trans (H1.out.2.2.mono HB.out.size)) (by omega) _ _ _

theorem floor_len' (q : Rat) {n k : Nat} (h : Sz q n) (hk : k ≤ 256) : Sz (dnQ q k) (n + 20) := by
 have sU := unit_sz k 9 (by omega)
 have sP := h.mul sU
 have e : dnQ q k = mkRat (q * mkRat ((2 ^ k : Nat) : Int) 1).floor 1 / mkRat ((2 ^ k : Nat) : Int) 1 := by
  unfold dnQ
  rw [Rat.mkRat_one, Rat.mkRat_one, Rat.mkRat_eq_div]
  rfl
 rw [e]
 have lZ := floor_len sP
 have sZ : Sz (mkRat (q * mkRat ((2 ^ k : Nat) : Int) 1).floor 1) (n + 9 + 1) := by
  rw [Rat.mkRat_one]
  exact ⟨lZ, Nat.le_trans (nd_length_le (k := 1) (show (1 : Nat) < 4294967296 ^ 1 by omega)) (by omega)⟩
 exact (sZ.div sU).mono (by omega)

set_option maxHeartbeats 6400000 in
theorem rup3_ok {w : World} {b : Bool} {ao : Option Addr} {c : Nat} {xs : List Nat} {ad : Option Addr} {d : Nat} {ds : List Nat} {q : Rat} {n : Nat} (h : Rq w b ao c xs ad d ds q n) (hn : n ≤ 9999999999) (k : Nat) (hk : k ≤ 256) :
  Calls Tryz.prog 138 #[.agg #[.bool b, .slice ao xs.length c, .slice ad ds.length d], .int .i64 (k : Int)] w (RetRatE (upQ q k) 0 w) := by
 have hle1 := h.rn.le
 have hcm1 := h.rn.cm
 have hle2 := h.rd.le
 have hcm2 := h.rd.cm
 have hB := A2_below w (.cells #[.bool b, .slice ao xs.length c, .slice ad ds.length d] 26) (.cells #[.bool false, .slice none 0 0, .slice none 0 0] 26)
 have HH := hid (A2_heap w (.cells #[.bool b, .slice ao xs.length c, .slice ad ds.length d] 26) (.cells #[.bool false, .slice none 0 0, .slice none 0 0] 26))
 have HSZ := hid (A2_size w (.cells #[.bool b, .slice ao xs.length c, .slice ad ds.length d] 26) (.cells #[.bool false, .slice none 0 0, .slice none 0 0] 26))
 have HB := hid hB
 have hbad := bad_any (k : Int) (A2 w (.cells #[.bool b, .slice ao xs.length c, .slice ad ds.length d] 26) (.cells #[.bool false, .slice none 0 0, .slice none 0 0] 26)) false (by simp; omega)
 have hr := rneg3_any (h.below hB) (by omega)
 have sN := h.sz.neg
 have eU : upQ q k = -(dnQ (-q) k) := rfl
 rw [eU]
 obtain ⟨N, hN⟩ : ∃ r, r = -q := ⟨_, rfl⟩
 rw [← hN] at hr sN ⊢
 have sD := floor_len' N sN hk
 have HD0 := hid (fun w' a c d e B (o : Own B w' a c (nd N.num.natAbs)) (u : Own B w' d e (nd N.den)) => rdown_any (Rq.own o u sN) (by omega) k hk)
 obtain ⟨D, hD⟩ : ∃ r, r = dnQ N k := ⟨_, rfl⟩
 simp only [← hD] at HD0
 rw [← hD] at sD ⊢
 have HN0 := hid (fun w' a c d e B (o : Own B w' a c (nd D.num.natAbs)) (u : Own B w' d e (nd D.den)) => rneg3_any (Rq.own o u sD) (by omega))
 obtain ⟨r, hrr⟩ : ∃ r, r = -D := ⟨_, rfl⟩
 simp only [← hrr] at HN0
 rw [← hrr]
 unfold A2 at HH HSZ HB hr hbad
 clear h hB hrr hN hD eU
 have n01 : ¬ (w.heap.size = w.heap.size + 1 + 1) := by omega
 have n02 : ¬ (w.heap.size + 1 + 1 = w.heap.size) := by omega
 have n03 : ¬ (w.heap.size + 1 = w.heap.size + 1 + 1) := by omega
 have n04 : ¬ (w.heap.size + 1 + 1 = w.heap.size + 1) := by omega
 have n05 : ¬ (w.heap.size = w.heap.size + 1) := by omega
 have n06 : ¬ (w.heap.size + 1 = w.heap.size) := by omega
 go_enter Tryz.func138, Tryz.ntmps138
 go_wp2_with fail
 obtain ⟨w0, hw0⟩ : ∃ x, x = ((w.alloc (.cells #[.bool b, .slice ao xs.length c, .slice ad ds.length d] 26)).alloc (.cells #[.bool false, .slice none 0 0, .slice none 0 0] 26)) := ⟨_, rfl⟩
 rw [← hw0] at HH HSZ HB hr hbad ⊢
 clear hw0
 refine hbad.mono ?_
 rintro e wx ⟨rfl, rfl⟩
 clear hbad
 obtain ⟨s0, s1, s2, _⟩ := cells3 HH.out.1 (Below.refl _ _)
 go_wp2_with fail
 refine hr.mono ?_
 rintro e w1 ⟨a1, c1, d1, e1, rfl, o1, u1, f1⟩
 have hr2 := HD0.out w1 _ _ _ _ _ o1 u1
 have hx1 := o1.rd.le
 have hx2 := o1.rd.cm
 have hx3 := u1.rd.le
 have hx4 := u1.rd.cm
 clear hr s0 s1 s2 o1 u1
 go_wp2_with fail
 refine hr2.mono ?_
 rintro e w2 ⟨a2, c2, d2, e2, rfl, o2, u2, f2⟩
 have hr3 := HN0.out w2 _ _ _ _ _ o2 u2
 have hx5 := o2.rd.le
 have hx6 := o2.rd.cm
 have hx7 := u2.rd.le
 have hx8 := u2.rd.cm
 have p2 := f1.trans (f2.mono f1.size)
 clear hr2 o2 u2 f1 f2
 go_wp2_with fail
 refine hr3.mono ?_
 rintro e w3 ⟨a3, c3, d3, e3, rfl, o3, u3, f3⟩
 have p3 := p2.trans (f3.mono p2.size)
 obtain ⟨k0, k1, k2, k3, k4, k5⟩ := cells3 HH.out.2 p3
 have H1 := hid (And.intro o3 (And.intro u3 (And.intro p3 p2.size)))
 clear hr3 o3 u3 f3 p3 p2
 go_wp2
 have hsz := HSZ.out
 have hs2 := H1.out.2.2.2
 refine bodyPost_ret (v := .tuple #[.agg #[.bool (decide (r.num < 0)), .slice a3 (nd r.num.natAbs).length c3, .slice d3 (nd r.den).length e3], .int .i64 0]) (by simp [results, Tryz.results138, go_sem, k0, k1, k2]) rfl ?_
 exact RetRatE.fin H1.out.1 H1.out.2.1 (by omega) (HB.out.trans (H1.out.2.2.1.mono HB.out.size)) (by omega) _ _ _
end Go.Proofs.YtiljjhhkklnlgaaGreatDoor
