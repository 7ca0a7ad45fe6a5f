/-  -/
import Derived.Test.YtcankknlbljicaaGreatDoorWy

set_option linter.unusedVariables false
set_option linter.unusedSimpArgs false
set_option linter.unusedSectionVars false
set_option maxRecDepth 100000
set_option maxHeartbeats 3200000

namespace Go.Proofs.YtcankknlbljicaaGreatDoor
open Go.RowKit Num

theorem lowest_any (b : Bool) (ao ad : Option Addr) (c d : Nat) (xs ds : List Nat) (w : World) (hx : Rd w ao c xs) (hd : Rd w ad d ds) (hl1 : xs.length ≤ 4398046511104) (hl2 : ds.length ≤ 4398046511104) (hT : Tb w) (h0 : val ds ≠ 0) :
  Calls Tryz.prog 153 #[.agg #[.bool b, .slice ao xs.length c, .slice ad ds.length d]] w (RetRat (rv b (val xs) (val ds)) w) := by
 by_cases h1 : Nat.gcd (val xs) (val ds) = 1
 ·exact lowest_one b ao ad c d xs ds w hx hd hl1 hl2 hT h0 h1
 ·exact lowest_div b ao ad c d xs ds w hx hd hl1 hl2 hT h0 h1
theorem lowest_r {w : World} {b : Bool} {ao : Option Addr} {c : Nat} {xs : List Nat} {ad : Option Addr} {d : Nat} {ds : List Nat} {q : Rat} {n : Nat} (h : Fr w b ao c xs ad d ds q n) (hn : n ≤ 4398046511104) (hT : Tb w) :
  Calls Tryz.prog 153 #[.agg #[.bool b, .slice ao xs.length c, .slice ad ds.length d]] w (RetRat q w) := by
 have h1 := h.ln
 have h2 := h.ld
 have h3 := lowest_any b ao ad c d xs ds w h.rn h.rd (by omega) (by omega) hT h.nz
 rw [show rv b (val xs) (val ds) = q from h.vq] at h3
 exact h3
theorem trim3_any {w : World} {b : Bool} {ao : Option Addr} {c : Nat} {xs : List Nat} {ad : Option Addr} {d : Nat} {ds : List Nat} {q : Rat} {n : Nat} (h : Rq w b ao c xs ad d ds q n) (hn : n ≤ 4398046511103) (hT : Tb w) :
  Calls Tryz.prog 88 #[.agg #[.bool b, .slice ao xs.length c, .slice ad ds.length d]] w (RetRat (q) w) := by
 have hle1 := h.rn.le
 have hcm1 := h.rn.cm
 have hle2 := h.rd.le
 have hcm2 := h.rd.cm
 have hB := A2_below w (.cells #[.bool b, .slice ao xs.length c, .slice ad ds.length d] 26) (.cells #[.bool false, .slice none 0 0, .slice none 0 0] 26)
 have HH := hid (A2_heap w (.cells #[.bool b, .slice ao xs.length c, .slice ad ds.length d] 26) (.cells #[.bool false, .slice none 0 0, .slice none 0 0] 26))
 have HSZ := hid (A2_size w (.cells #[.bool b, .slice ao xs.length c, .slice ad ds.length d] 26) (.cells #[.bool false, .slice none 0 0, .slice none 0 0] 26))
 have HB := hid hB
 have HT := hid (hT.below hB)
 have hr := read_r (h.below hB) hn
 unfold A2 at HH HSZ HB HT hr
 clear h hT hB
 go_enter Tryz.func88, Tryz.ntmps88
 go_wp2_with fail
 obtain ⟨w0, hw0⟩ : ∃ x, x = ((w.alloc (.cells #[.bool b, .slice ao xs.length c, .slice ad ds.length d] 26)).alloc (.cells #[.bool false, .slice none 0 0, .slice none 0 0] 26)) := ⟨_, rfl⟩
 rw [← hw0] at HH HSZ HB HT hr ⊢
 clear hw0
 refine hr.mono ?_
 rintro e w1 ⟨b1, a1, c1, x1, d1, e1, y1, rfl, F1, f1⟩
 have hle3 := F1.rn.le
 have hcm3 := F1.rn.cm
 have hle4 := F1.rd.le
 have hcm4 := F1.rd.cm
 clear hr
 have hl := lowest_r F1 (by omega) (HT.out.below f1)
 have H1 := hid (And.intro f1 f1.size)
 clear F1 f1
 go_wp2_with fail
 refine hl.mono ?_
 rintro e w9 ⟨ar, cr, dr, er, rfl, o1, o2, f9⟩
 have p9 := H1.out.1.trans (f9.mono H1.out.1.size)
 obtain ⟨k0, k1, k2, k3, k4, k5⟩ := cells3 HH.out.2 p9
 have H2 := hid (And.intro o1 (And.intro o2 p9))
 clear hl o1 o2 f9 p9
 go_wp2
 have hsz := HSZ.out
 have hs1 := H1.out.2
 refine bodyPost_ret (v := .agg #[.bool (decide ((q).num < 0)), .slice ar (nd (q).num.natAbs).length cr, .slice dr (nd (q).den).length er]) (by simp [results, Tryz.results88, go_sem, k0, k1, k2]) rfl ?_
 exact RetRat.fin H2.out.1 H2.out.2.1 (by omega) (HB.out.trans (H2.out.2.2.mono HB.out.size)) (by omega) _ _ _

end Go.Proofs.YtcankknlbljicaaGreatDoor

namespace Go.Proofs.YtcankknlbljicaaGreatDoor
open Go.RowKit Num

theorem iof_any (n : Int) (w : World) (h1 : -9223372036854775808 ≤ n) (h2 : n ≤ 9223372036854775807) : Calls Tryz.prog 137 #[.int .i64 n] w (RetInt w.heap.size n w) := by
 by_cases h : n < 0
 ·exact of_neg n w h h1
 ·exact of_nn n w (by omega) h2
theorem riof_any (n : Int) (w : World) (h1 : -9223372036854775808 ≤ n) (h2 : n ≤ 9223372036854775807) : Calls Tryz.prog 78 #[.int .i64 n] w (RetInt w.heap.size n w) := by
 by_cases h : n < 0
 ·exact rof_neg n w h h1
 ·exact rof_nn n w (by omega) h2
theorem cast_low (n : Int) : ((n : Int) : Rat).num = n ∧ ((n : Int) : Rat).den = 1 := ⟨rfl, rfl⟩
theorem nd_one : nd 1 = [1] := by rw [nd_pos (by omega)]; simp [nd_zero]
def rsg (q : Rat) (er : Int) : Bool := decide (er = 0) && decide (q.num < 0)
def rnm (q : Rat) (er : Int) : List Nat := if er = 0 then nd q.num.natAbs else []
def rdn (q : Rat) (er : Int) : List Nat := if er = 0 then nd q.den else []
def RetRatE (q : Rat) (er : Int) (w : World) (e : Ending) (w' : World) : Prop :=
 ∃ ao c ad d, e = .returned (.tuple #[.agg #[.bool (rsg q er), .slice ao (rnm q er).length c, .slice ad (rdn q er).length d], .int .i64 er]) ∧ Own w.heap.size w' ao c (rnm q er) ∧ Own w.heap.size w' ad d (rdn q er) ∧ Below w.heap.size w w'
theorem RetRatE.fin {B g c d : Nat} {q : Rat} {w w4 : World} {ao ad : Option Addr} (h1 : Own B w4 ao c (nd q.num.natAbs)) (h2 : Own B w4 ad d (nd q.den)) (hg : g < B) (hb : Below w.heap.size w w4) (hgw : w.heap.size ≤ g) (v0 v1 v2 : Value) :
  RetRatE q 0 w (.returned (.tuple #[.agg #[.bool (decide (q.num < 0)), .slice ao (nd q.num.natAbs).length c, .slice ad (nd q.den).length d], .int .i64 0])) (((w4.setCell ⟨g, 0, none⟩ v0).setCell ⟨g, 1, none⟩ v1).setCell ⟨g, 2, none⟩ v2) := by
 obtain ⟨a1, a2, a3, a4, h3, h4, h5, h6⟩ := RetRat.fin h1 h2 hg hb hgw v0 v1 v2
 refine ⟨ao, c, ad, d, ?_, ?_, ?_, h6⟩
 ·simp [rsg, rnm, rdn]
 ·simp only [Ending.returned.injEq, Value.agg.injEq] at h3
  simp at h3
  obtain ⟨⟨e1, e2⟩, e3, e4⟩ := h3
  subst e1 e2 e3 e4
  exact h4
 ·simp at h3
  obtain ⟨⟨e1, e2⟩, e3, e4⟩ := h3
  subst e1 e2 e3 e4
  exact h5
theorem RetRatE.err {g : Nat} {q : Rat} {er : Int} {w w4 : World} (he : er ≠ 0) (hb : Below w.heap.size w w4) (hgw : w.heap.size ≤ g) (v0 v1 v2 : Value) :
  RetRatE q er w (.returned (.tuple #[.agg #[.bool false, .slice none 0 0, .slice none 0 0], .int .i64 er])) (((w4.setCell ⟨g, 0, none⟩ v0).setCell ⟨g, 1, none⟩ v1).setCell ⟨g, 2, none⟩ v2) := by
 have e1 : rnm q er = [] := if_neg he
 have e2 : rdn q er = [] := if_neg he
 have e3 : rsg q er = false := by simp [rsg, he]
 refine ⟨none, 0, none, 0, ?_, ?_, ?_, ((hb.setCell (p := ⟨g, 0, none⟩) hgw _).setCell (p := ⟨g, 1, none⟩) hgw _).setCell (p := ⟨g, 2, none⟩) hgw _⟩
 ·rw [e1, e2, e3]; rfl
 ·rw [e1]; exact Own.nil _ _
 ·rw [e2]; exact Own.nil _ _

end Go.Proofs.YtcankknlbljicaaGreatDoor

namespace Go.Proofs.YtcankknlbljicaaGreatDoor
open Go.RowKit Num

theorem of3_any (n : Int) (w : World) (h1 : -9223372036854775808 ≤ n) (h2 : n ≤ 9223372036854775807) : Calls Tryz.prog 80 #[.int .i64 n] w (RetRat ((n : Int) : Rat) w) := by
 have hB := below_alloc w (.cells #[.bool false, .slice none 0 0, .slice none 0 0] 26)
 have HH := hid (heap_alloc_at w (.cells #[.bool false, .slice none 0 0, .slice none 0 0] 26))
 have hsz : (w.alloc (.cells #[.bool false, .slice none 0 0, .slice none 0 0] 26)).heap.size = w.heap.size + 1 := by simp
 have HSZ := hid hsz
 have HB := hid hB
 have hc := iof_any n (w.alloc (.cells #[.bool false, .slice none 0 0, .slice none 0 0] 26)) h1 h2
 clear hB hsz
 go_enter Tryz.func80, Tryz.ntmps80
 go_wp2_with fail
 obtain ⟨w0, hw0⟩ : ∃ x, x = (w.alloc (.cells #[.bool false, .slice none 0 0, .slice none 0 0] 26)) := ⟨_, rfl⟩
 rw [← hw0] at HH HSZ HB hc ⊢
 clear hw0
 refine hc.mono ?_
 rintro e w1 ⟨a1, c1, rfl, o1, f1⟩
 have hct := o1.rd.cm
 have hcl := o1.rd.le
 have K1 := hid ((f1.block w.heap.size (by have := HSZ.out; omega)).trans HH.out)
 obtain ⟨s0, s1, s2, s3, s4, s5⟩ := cells3 K1.out (Below.refl _ _)
 have H1 := hid (And.intro (HB.out.trans (f1.mono HB.out.size)) (And.intro f1.size o1))
 have nl0 : w.heap.size < w1.heap.size := by have := HSZ.out; have := f1.size; omega
 clear hc f1 o1
 go_wp2
 obtain ⟨W, hW⟩ : ∃ W, W = ((((w1.setCell ⟨w.heap.size, 0, none⟩ (.bool (decide (n < 0)))).setCell ⟨w.heap.size, 1, none⟩ (.slice a1 (nd n.natAbs).length c1)).setCell ⟨w.heap.size, 2, none⟩ (.slice (some ⟨w1.heap.size, 0, none⟩) 1 1)).alloc (.cells #[.int .u32 1] 88)) := ⟨_, rfl⟩
 have B1 : W.heap[w.heap.size]? = some (.cells #[.bool (decide (n < 0)), .slice a1 (nd n.natAbs).length c1, .slice (some ⟨w1.heap.size, 0, none⟩) 1 1] 26) := by
  rw [hW]
  (repeat (first | (with_reducible refine heap_at' _ _ _ ?_; (first | omega | (simp only [alloc_size, drew_size, setCell_size]; done) | (simp only [alloc_size, drew_size, setCell_size]; omega))) | (with_reducible apply box2) | (with_reducible apply box3) | (with_reducible refine (heap_set _ _ _ _ _ ?_).trans ?_; (· (first | omega | (simp only [alloc_size, drew_size, setCell_size]; done) | (simp only [alloc_size, drew_size, setCell_size]; omega)))) | (with_reducible refine (Below.heap_alloc _ _ _ ?_).trans ?_; (· (first | omega | (simp only [alloc_size, drew_size, setCell_size]; done) | (simp only [alloc_size, drew_size, setCell_size]; omega)))) | (with_reducible refine (drew_at _ _).trans ?_)))
  exact K1.out
 have B3 : Below w.heap.size w W := by
  rw [hW]
  have := H1.out.1
  (repeat (first | assumption | exact Below.refl _ _ | with_reducible apply Below.drew | with_reducible apply below_al | (with_reducible refine below_set _ _ ?_ ?_; (· (first | omega | (simp only [alloc_size, drew_size, setCell_size]; done) | (simp only [alloc_size, drew_size, setCell_size]; omega))))))
 have B4 : Own w.heap.size W (some ⟨w1.heap.size, 0, none⟩) 1 [1] := by
  have h := Own.one (((w1.setCell ⟨w.heap.size, 0, none⟩ (.bool (decide (n < 0)))).setCell ⟨w.heap.size, 1, none⟩ (.slice a1 (nd n.natAbs).length c1)).setCell ⟨w.heap.size, 2, none⟩ (.slice (some ⟨w1.heap.size, 0, none⟩) 1 1)) w.heap.size 1 (by rw [setCell_size, setCell_size, setCell_size]; omega) (by omega)
  rw [setCell_size, setCell_size, setCell_size] at h
  rw [hW]
  exact h
 have B5 : Own w.heap.size W a1 c1 (nd n.natAbs) := by
  rw [hW]
  refine own_al (Own.mono (B := w0.heap.size) ?_ (by have := HSZ.out; omega)) _
  have := HSZ.out
  repeat refine Own.setOld ?_ (by omega) _
  exact H1.out.2.2
 rw [← hW]
 clear hW
 obtain ⟨u0, u1, u2, _⟩ := cells3 B1 (Below.refl _ _)
 refine bodyPost_ret (v := .agg #[.bool (decide (n < 0)), .slice a1 (nd n.natAbs).length c1, .slice (some ⟨w1.heap.size, 0, none⟩) 1 1]) (by simp [results, Tryz.results80, go_sem, u0, u1, u2]) rfl ?_
 exact ⟨a1, c1, some ⟨w1.heap.size, 0, none⟩, 1, by rw [(cast_low n).1, (cast_low n).2, nd_one]; rfl, by rw [(cast_low n).1]; exact B5, by rw [(cast_low n).2, nd_one]; exact B4, B3⟩

end Go.Proofs.YtcankknlbljicaaGreatDoor

namespace Go.Proofs.YtcankknlbljicaaGreatDoor
open Go.RowKit Num

theorem make_zero (b1 b2 : Bool) (aa ab : Option Addr) (ca cb : Nat) (xs ys : List Nat) (w : World) (ha : Rd w aa ca xs) (hb : Rd w ab cb ys) (hl1 : xs.length ≤ 4398046511104) (hl2 : ys.length ≤ 4398046511104) (h0 : iv b2 (val ys) = 0) (q : Rat) :
  Calls Tryz.prog 136 #[.agg #[.bool b1, .slice aa xs.length ca], .agg #[.bool b2, .slice ab ys.length cb]] w (RetRatE q 3 w) := by
 have hle1 := ha.le
 have hcm1 := ha.cm
 have hle2 := hb.le
 have hcm2 := hb.cm
 have hB := A3_below w (.cells #[.bool b1, .slice aa xs.length ca] 24) (.cells #[.bool b2, .slice ab ys.length cb] 24) (.cells #[.bool false, .slice none 0 0, .slice none 0 0] 26)
 have HH := hid (A3_heap w (.cells #[.bool b1, .slice aa xs.length ca] 24) (.cells #[.bool b2, .slice ab ys.length cb] 24) (.cells #[.bool false, .slice none 0 0, .slice none 0 0] 26))
 have HSZ := hid (A3_size w (.cells #[.bool b1, .slice aa xs.length ca] 24) (.cells #[.bool b2, .slice ab ys.length cb] 24) (.cells #[.bool false, .slice none 0 0, .slice none 0 0] 26))
 have HB := hid hB
 have hs := Sign_any b2 ab cb ys _ (hb.below hB) (by omega)
 unfold A3 at HH HSZ HB hs
 rw [h0] at hs
 have e1 : sgn 0 = 0 := rfl
 rw [e1] at hs
 clear ha hb hB e1 h0
 have n01 : ¬ (w.heap.size = w.heap.size + 1 + 1) := by omega
 have n02 : ¬ (w.heap.size + 1 + 1 = w.heap.size) := by omega
 have n03 : ¬ (w.heap.size + 1 = w.heap.size + 1 + 1) := by omega
 have n04 : ¬ (w.heap.size + 1 + 1 = w.heap.size + 1) := by omega
 have n05 : ¬ (w.heap.size = w.heap.size + 1) := by omega
 have n06 : ¬ (w.heap.size + 1 = w.heap.size) := by omega
 go_enter Tryz.func136, Tryz.ntmps136
 go_wp2_with fail
 obtain ⟨w0, hw0⟩ : ∃ x, x = (((w.alloc (.cells #[.bool b1, .slice aa xs.length ca] 24)).alloc (.cells #[.bool b2, .slice ab ys.length cb] 24)).alloc (.cells #[.bool false, .slice none 0 0, .slice none 0 0] 26)) := ⟨_, rfl⟩
 rw [← hw0] at HH HSZ HB hs ⊢
 clear hw0
 refine hs.mono ?_
 rintro e w1 ⟨rfl, f1⟩
 obtain ⟨k0, k1, k2, k3, k4, k5⟩ := cells3 HH.out.2.2 f1
 have H1 := hid (HB.out.trans (f1.mono HB.out.size))
 clear hs f1
 go_wp2
 refine bodyPost_ret (v := .tuple #[.agg #[.bool false, .slice none 0 0, .slice none 0 0], .int .i64 3]) (by simp [results, Tryz.results136, go_sem, k0, k1, k2]) rfl ?_
 exact RetRatE.err (by decide) H1.out (by omega) _ _ _

theorem make_main (b1 b2 : Bool) (aa ab : Option Addr) (ca cb : Nat) (xs ys : List Nat) (w : World) (ha : Rd w aa ca xs) (hb : Rd w ab cb ys) (hl1 : xs.length ≤ 4398046511104) (hl2 : ys.length ≤ 4398046511104) (hT : Tb w) (h0 : iv b2 (val ys) ≠ 0) :
  Calls Tryz.prog 136 #[.agg #[.bool b1, .slice aa xs.length ca], .agg #[.bool b2, .slice ab ys.length cb]] w (RetRatE (Rat.divInt (iv b1 (val xs)) (iv b2 (val ys))) 0 w) := by
 have hle1 := ha.le
 have hcm1 := ha.cm
 have hle2 := hb.le
 have hcm2 := hb.cm
 have hB := A3_below w (.cells #[.bool b1, .slice aa xs.length ca] 24) (.cells #[.bool b2, .slice ab ys.length cb] 24) (.cells #[.bool false, .slice none 0 0, .slice none 0 0] 26)
 have HH := hid (A3_heap w (.cells #[.bool b1, .slice aa xs.length ca] 24) (.cells #[.bool b2, .slice ab ys.length cb] 24) (.cells #[.bool false, .slice none 0 0, .slice none 0 0] 26))
 have HSZ := hid (A3_size w (.cells #[.bool b1, .slice aa xs.length ca] 24) (.cells #[.bool b2, .slice ab ys.length cb] 24) (.cells #[.bool false, .slice none 0 0, .slice none 0 0] 26))
 have HB := hid hB
 have hs := Sign_any b2 ab cb ys _ (hb.below hB) (by omega)
 unfold A3 at HH HSZ HB hs
 have hs1 : ∀ z : Int, z ≠ 0 → (sgn z == 0) = false := by
  intro z h
  rw [beq_eq_false_iff_ne]
  unfold sgn
  split
  ·decide
  ·decide
 have e1 := hs1 _ h0
 have hy0 : val ys ≠ 0 := fun h => h0 (by rw [h]; cases b2 <;> rfl)
 have hq : mkRat (iv (!(b1 == b2)) (val xs)) (val ys) = _ := make_mk b1 b2 (val xs) (val ys)
 obtain ⟨q, hqq⟩ : ∃ q, q = Rat.divInt (iv b1 (val xs)) (iv b2 (val ys)) := ⟨_, rfl⟩
 rw [← hqq] at hq ⊢
 have hFR := hid (fun (w' : World) (hw : Below w.heap.size w w') => (⟨ha.below hw, hb.below hw, hy0, hq, by omega, by omega⟩ : Fr w' (!(b1 == b2)) aa ca xs ab cb ys q 4398046511104))
 have HT := hid (fun (w' : World) (hw : Below w.heap.size w w') => hT.below hw)
 obtain ⟨z2, hz2⟩ : ∃ z, z = iv b2 (val ys) := ⟨_, rfl⟩
 rw [← hz2] at e1 hs
 clear ha hb hB hs1 h0 hy0 hq hqq hT hz2
 have n01 : ¬ (w.heap.size = w.heap.size + 1 + 1) := by omega
 have n02 : ¬ (w.heap.size + 1 + 1 = w.heap.size) := by omega
 have n03 : ¬ (w.heap.size + 1 = w.heap.size + 1 + 1) := by omega
 have n04 : ¬ (w.heap.size + 1 + 1 = w.heap.size + 1) := by omega
 have n05 : ¬ (w.heap.size = w.heap.size + 1) := by omega
 have n06 : ¬ (w.heap.size + 1 = w.heap.size) := by omega
 go_enter Tryz.func136, Tryz.ntmps136
 go_wp2_with fail
 obtain ⟨w0, hw0⟩ : ∃ x, x = (((w.alloc (.cells #[.bool b1, .slice aa xs.length ca] 24)).alloc (.cells #[.bool b2, .slice ab ys.length cb] 24)).alloc (.cells #[.bool false, .slice none 0 0, .slice none 0 0] 26)) := ⟨_, rfl⟩
 rw [← hw0] at HH HSZ HB hs ⊢
 clear hw0
 refine hs.mono ?_
 rintro e w1 ⟨rfl, f1⟩
 obtain ⟨s0, s1, s2, s3⟩ := pair_cells HH.out.1 f1
 obtain ⟨t0, t1, t2, t3⟩ := pair_cells HH.out.2.1 f1
 have H1 := hid (And.intro f1 (HB.out.trans (f1.mono HB.out.size)))
 clear hs f1
 go_wp2_with fail
 obtain ⟨w2, hw2⟩ : ∃ x, x = w1.setCell ⟨w.heap.size, 0, none⟩ (.bool (!(b1 == b2))) := ⟨_, rfl⟩
 rw [← hw2]
 have p2 : Below w.heap.size w w2 := by rw [hw2]; exact below_set _ _ (Nat.le_refl _) H1.out.2
 have z2s : w2.heap.size = w1.heap.size := by rw [hw2, setCell_size]
 have K2 := hid (show w2.heap[w.heap.size + 2]? = some (.cells #[.bool false, .slice none 0 0, .slice none 0 0] 26) from by rw [hw2, heap_set _ _ _ _ _ (by omega)]; exact (H1.out.1.block (w.heap.size + 2) (by have := HSZ.out; omega)).trans HH.out.2.2)
 have hz1 := H1.out.1.size
 have HZ := hid (show w.heap.size + 3 ≤ w2.heap.size by have := HSZ.out; omega)
 clear hw2 z2s hz1 s0 s1 s2 s3 t0 t1 t2 t3
 have ho := over_any (!(b1 == b2)) aa ab xs.length ca ys.length cb w2
 refine ho.mono ?_
 rintro e w3 ⟨rfl, f3⟩
 have p3 := p2.trans (f3.mono p2.size)
 have hl := lowest_r (hFR.out w3 p3) (Nat.le_refl _) (HT.out w3 p3)
 have H3 := hid (And.intro f3 p3)
 clear ho p2 f3 p3
 go_wp2_with fail
 refine hl.mono ?_
 rintro e w4 ⟨a4, c4, d4, e4, rfl, o4, u4, f4⟩
 have K4 := hid ((f4.block (w.heap.size + 2) (by have := HZ.out; have := H3.out.1.size; omega)).trans ((H3.out.1.block (w.heap.size + 2) (by have := HZ.out; omega)).trans K2.out))
 obtain ⟨k0, k1, k2, k3, k4, k5⟩ := cells3 K4.out (Below.refl _ _)
 have H4 := hid (And.intro o4 (And.intro u4 (H3.out.2.trans (f4.mono H3.out.2.size))))
 have hs3 := H3.out.1.size
 clear hl o4 u4 f4
 go_wp2
 have hz := HZ.out
 refine bodyPost_ret (v := .tuple #[.agg #[.bool (decide (q.num < 0)), .slice a4 (nd q.num.natAbs).length c4, .slice d4 (nd q.den).length e4], .int .i64 0]) (by simp [results, Tryz.results136, go_sem, k0, k1, k2]) rfl ?_
 exact RetRatE.fin H4.out.1 H4.out.2.1 (by omega) H4.out.2.2 (by omega) _ _ _

def zer (z : Int) : Int := if z = 0 then 3 else 0
theorem make_any (b1 b2 : Bool) (aa ab : Option Addr) (ca cb : Nat) (xs ys : List Nat) (w : World) (ha : Rd w aa ca xs) (hb : Rd w ab cb ys) (hl1 : xs.length ≤ 4398046511104) (hl2 : ys.length ≤ 4398046511104) (hT : Tb w) :
  Calls Tryz.prog 136 #[.agg #[.bool b1, .slice aa xs.length ca], .agg #[.bool b2, .slice ab ys.length cb]] w (RetRatE (Rat.divInt (iv b1 (val xs)) (iv b2 (val ys))) (zer (iv b2 (val ys))) w) := by
 by_cases h : iv b2 (val ys) = 0
 ·rw [show zer (iv b2 (val ys)) = 3 from if_pos h]
  exact make_zero b1 b2 aa ab ca cb xs ys w ha hb hl1 hl2 h _
 ·rw [show zer (iv b2 (val ys)) = 0 from if_neg h]
  exact make_main b1 b2 aa ab ca cb xs ys w ha hb hl1 hl2 hT h
end Go.Proofs.YtcankknlbljicaaGreatDoor

namespace Go.Proofs.YtcankknlbljicaaGreatDoor
open Go.RowKit Num

def zeq (q : Rat) : Int := if q = 0 then 3 else 0
theorem RetRatE.fin2 {B g c d : Nat} {q : Rat} {er : Int} {w w4 : World} {ao ad : Option Addr} (h1 : Own B w4 ao c (rnm q er)) (h2 : Own B w4 ad d (rdn q er)) (hg : g < B) (hb : Below w.heap.size w w4) (hgw : w.heap.size ≤ g) (v0 v1 v2 : Value) :
  RetRatE q er w (.returned (.tuple #[.agg #[.bool (rsg q er), .slice ao (rnm q er).length c, .slice ad (rdn q er).length d], .int .i64 er])) (((w4.setCell ⟨g, 0, none⟩ v0).setCell ⟨g, 1, none⟩ v1).setCell ⟨g, 2, none⟩ v2) :=
 ⟨ao, c, ad, d, rfl, (((h1.setOld hg _).setOld hg _).setOld hg _).mono (by omega), (((h2.setOld hg _).setOld hg _).setOld hg _).mono (by omega), below_set _ _ hgw (below_set _ _ hgw (below_set _ _ hgw hb))⟩

end Go.Proofs.YtcankknlbljicaaGreatDoor

namespace Go.Proofs.YtcankknlbljicaaGreatDoor
open Go.RowKit Num

theorem RetRatE.ok {q : Rat} {w : World} {e : Ending} {w' : World} (h : RetRatE q 0 w e w') : ∃ ao c ad d, e = .returned (.tuple #[.agg #[.bool (decide (q.num < 0)), .slice ao (nd q.num.natAbs).length c, .slice ad (nd q.den).length d], .int .i64 0]) ∧ Own w.heap.size w' ao c (nd q.num.natAbs) ∧ Own w.heap.size w' ad d (nd q.den) ∧ Below w.heap.size w w' := by
 obtain ⟨ao, c, ad, d, h6, h7, h8, h9⟩ := h
 simp only [rsg, rnm, rdn, if_true, decide_true, Bool.true_and] at h6 h7 h8
 exact ⟨ao, c, ad, d, h6, h7, h8, h9⟩
theorem RetRatE.bad {q : Rat} {er : Int} {w : World} {e : Ending} {w' : World} (he : er ≠ 0) (h : RetRatE q er w e w') : ∃ ao c ad d, e = .returned (.tuple #[.agg #[.bool false, .slice ao 0 c, .slice ad 0 d], .int .i64 er]) ∧ c ≤ 9223372036854775807 ∧ d ≤ 9223372036854775807 ∧ Below w.heap.size w w' := by
 obtain ⟨ao, c, ad, d, h6, h7, h8, h9⟩ := h
 have e1 : rnm q er = [] := if_neg he
 have e2 : rdn q er = [] := if_neg he
 have e3 : rsg q er = false := by simp [rsg, he]
 rw [e1] at h6 h7
 rw [e2] at h6 h8
 rw [e3] at h6
 exact ⟨ao, c, ad, d, h6, h7.rd.cm, h8.rd.cm, h9⟩

end Go.Proofs.YtcankknlbljicaaGreatDoor
