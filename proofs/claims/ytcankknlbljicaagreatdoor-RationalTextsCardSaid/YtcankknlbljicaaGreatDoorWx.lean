/-  -/
import Derived.Test.YtcankknlbljicaaGreatDoorWw
import Derived.Test.YtcankknlbljicaaGreatDoorWv

set_option linter.unusedVariables false
set_option linter.unusedSimpArgs false
set_option linter.unusedSectionVars false
set_option maxRecDepth 100000
set_option maxHeartbeats 3200000

namespace Go.Proofs.YtcankknlbljicaaGreatDoor
open Go.RowKit Num

theorem isOne_any (ao : Option Addr) (c : Nat) (xs : List Nat) (w : World) (h : Rd w ao c xs) (hl : xs.length ≤ 17592186044416) (r : Bool) (hr : r = true ↔ val xs = 1) :
  Calls Tryz.prog 83 #[.slice ao xs.length c] w fun e w' => e = .returned (.bool r) ∧ w = w' := by
 have hbl := bitlen_any ao c xs w h hl
 have hb1 : blen (val xs) = 1 ↔ val xs = 1 := by
  constructor
  ·intro hb
   have h1 : val xs < 2 ^ 1 := blen_le_iff.1 (by omega)
   have h2 : val xs ≠ 0 := fun h0 => by rw [h0, blen_zero] at hb; omega
   omega
  ·intro h1; rw [h1]; exact blen_unique (by omega) (by simp)
 have hrr : ((blen (val xs) : Int) == 1) = r := by
  rw [Bool.eq_iff_iff, hr, beq_iff_eq, ← hb1]; omega
 obtain ⟨q, hq⟩ : ∃ q, q = blen (val xs) := ⟨_, rfl⟩
 rw [← hq] at hrr hbl
 clear hq h hr hb1
 go_enter Tryz.func83, Tryz.ntmps83
 go_wp2_with fail
 refine hbl.mono ?_
 rintro e w' ⟨rfl, rfl⟩
 clear hbl
 go_wp2
 go_ret
 exact ⟨rfl, rfl⟩

theorem natural_any (ao : Option Addr) (n c : Nat) (w : World) :
  Calls Tryz.prog 192 #[.slice ao n c] w (RetB (.agg #[.bool false, .slice ao n c]) w) := by
 have H := hid (below_alloc w (.cells #[.bool false, .slice ao n c] 24))
 go_enter Tryz.func192, Tryz.ntmps192
 go_wp2
 refine bodyPost_ret (v := .agg #[.bool false, .slice ao n c]) (by simp [results, Tryz.results192, go_sem]) rfl ?_
 exact ⟨rfl, H.out⟩

theorem over_any (b : Bool) (ao ad : Option Addr) (n c m d : Nat) (w : World) :
  Calls Tryz.prog 181 #[.agg #[.bool b, .slice ao n c], .slice ad m d] w (RetB (.agg #[.bool b, .slice ao n c, .slice ad m d]) w) := by
 have h1 := below_alloc w (.cells #[.bool b, .slice ao n c] 24)
 have H := hid (h1.trans ((below_alloc _ (.cells #[.bool b, .slice ao n c, .slice ad m d] 122)).mono h1.size))
 clear h1
 go_enter Tryz.func181, Tryz.ntmps181
 go_wp2
 refine bodyPost_ret (v := .agg #[.bool b, .slice ao n c, .slice ad m d]) (by simp [results, Tryz.results181, go_sem]) rfl ?_
 exact ⟨rfl, H.out⟩

theorem rat_cells {W w' : World} {g : Nat} {v0 v1 v2 : Value} {t : TypeId} (hh : W.heap[g]? = some (.cells #[v0, v1, v2] t (0, 0))) (hb : Below W.heap.size W w') :
  (w'.cell? ⟨g, 0, none⟩ = some v0 ∧ w'.cell? ⟨g, 1, none⟩ = some v1 ∧ w'.cell? ⟨g, 2, none⟩ = some v2) ∧ (w'.frozen? ⟨g, 0, none⟩ = false ∧ w'.frozen? ⟨g, 1, none⟩ = false ∧ w'.frozen? ⟨g, 2, none⟩ = false) := by
 have hg : g < W.heap.size := (Array.getElem?_eq_some_iff.1 hh).1
 have h := (hb.block g hg).trans hh
 simp [World.cell?, World.frozen?, h]
def RetFr (q : Rat) (n m : Nat) (w : World) (e : Ending) (w' : World) : Prop :=
 ∃ b ao c xs ad d ds, e = .returned (.agg #[.bool b, .slice ao xs.length c, .slice ad ds.length d]) ∧ Rd w' ao c xs ∧ Rd w' ad d ds ∧ val ds ≠ 0 ∧ mkRat (iv b (val xs)) (val ds) = q ∧ xs.length ≤ n ∧ ds.length ≤ m ∧ Below w.heap.size w w'

theorem read_any (b : Bool) (ao ad : Option Addr) (c d : Nat) (xs ds : List Nat) (w : World) (hx : Rd w ao c xs) (hd : Rd w ad d ds) (hl : ds.length ≤ 17592186044416) :
  Calls Tryz.prog 141 #[.agg #[.bool b, .slice ao xs.length c, .slice ad ds.length d]] w (RetFr (rv b (val xs) (val ds)) xs.length (ds.length + 1) w) := by
 have hle1 := hx.le
 have hcm1 := hx.cm
 have hle2 := hd.le
 have hcm2 := hd.cm
 have h1 := below_alloc w (.cells #[.bool b, .slice ao xs.length c, .slice ad ds.length d] 26)
 have hB := h1.trans ((below_alloc _ (.cells #[.bool false, .slice none 0 0, .slice none 0 0] 122)).mono h1.size)
 have hbl := bitlen_any ad d ds _ (hd.below hB) hl
 have x1 := heap_alloc_at w (.cells #[.bool b, .slice ao xs.length c, .slice ad ds.length d] 26)
 have z1 : (w.alloc (.cells #[.bool b, .slice ao xs.length c, .slice ad ds.length d] 26)).heap.size = w.heap.size + 1 := by simp
 have x2 := heap_alloc_at (w.alloc (.cells #[.bool b, .slice ao xs.length c, .slice ad ds.length d] 26)) (.cells #[.bool false, .slice none 0 0, .slice none 0 0] 122)
 rw [z1] at x2
 by_cases h0 : val ds = 0
 ·have hb0 : blen (val ds) = 0 := by rw [h0]; rfl
  rw [hb0] at hbl
  have z2 : ((w.alloc (.cells #[.bool b, .slice ao xs.length c, .slice ad ds.length d] 26)).alloc (.cells #[.bool false, .slice none 0 0, .slice none 0 0] 122)).heap.size = w.heap.size + 2 := by simp
  have ho := Own.one ((w.alloc (.cells #[.bool b, .slice ao xs.length c, .slice ad ds.length d] 26)).alloc (.cells #[.bool false, .slice none 0 0, .slice none 0 0] 122)) (w.heap.size + 2) 1 (by omega) (by omega)
  have h3 := below_alloc ((w.alloc (.cells #[.bool b, .slice ao xs.length c, .slice ad ds.length d] 26)).alloc (.cells #[.bool false, .slice none 0 0, .slice none 0 0] 122)) (.cells #[.int .u32 ((1 : Nat) : Int)] 88)
  have y2 := (h3.block (w.heap.size + 1) (by omega)).trans x2
  rw [z2] at ho
  have H := hid (And.intro (hB.trans (h3.mono hB.size)) (And.intro ho y2))
  have HV := hid (show rv b (val xs) (val ds) = mkRat (iv false (val [])) (val [1]) by rw [h0, rv_zero]; rfl)
  clear hx hd h1 hB x1 z1 x2 h3 y2 ho h0
  go_enter Tryz.func141, Tryz.ntmps141
  go_wp2_with fail
  refine hbl.mono ?_
  rintro e w' ⟨rfl, rfl⟩
  clear hbl
  go_wp2_with fail
  refine (over_any _ _ _ _ _ _ _ _).mono ?_
  rintro e w3 ⟨rfl, f3⟩
  obtain ⟨⟨k0, k1, k2⟩, k3, k4, k5⟩ := rat_cells H.out.2.2 f3
  have H3 := hid (And.intro (H.out.2.1.below f3) (H.out.1.trans (f3.mono H.out.1.size)))
  clear f3
  go_wp2
  refine bodyPost_ret (v := .agg #[.bool false, .slice none 0 0, .slice (some ⟨w.heap.size + 2, 0, none⟩) 1 1]) (by simp [results, Tryz.results141, go_sem, k0, k1, k2]) rfl ?_
  refine ⟨false, none, 0, [], _, 1, [1], rfl, Rd.nil (by omega) (fun _ => rfl), ?_, by simp [val], HV.out.symm, Nat.zero_le _, by simp, ?_⟩
  ·refine Own.rd (B := w.heap.size + 2) ?_
   repeat refine Own.setOld ?_ (by omega) _
   exact H3.out.1
  ·repeat refine Below.setCell (p := ⟨_, _, none⟩) ?_ (by dsimp only; omega) _
   exact H3.out.2
 ·have hb0 : ((blen (val ds) : Int) == 0) = false := by
   rw [beq_eq_false_iff_ne]
   intro h
   exact h0 (blen_eq_zero.1 (by omega))
  obtain ⟨q, hq⟩ : ∃ q, q = blen (val ds) := ⟨_, rfl⟩
  rw [← hq] at hbl hb0
  have hB3 := h1.trans ((below_alloc _ (.cells #[.bool b, .slice ao xs.length c, .slice ad ds.length d] 122)).mono h1.size)
  have H := hid (And.intro (hx.below hB3) (And.intro (hd.below hB3) hB3))
  clear hx hd h1 hB x1 z1 x2 hB3 hq
  go_enter Tryz.func141, Tryz.ntmps141
  go_wp2_with fail
  refine hbl.mono ?_
  rintro e w' ⟨rfl, rfl⟩
  clear hbl
  go_wp2
  refine bodyPost_ret (v := .agg #[.bool b, .slice ao xs.length c, .slice ad ds.length d]) (by simp [results, Tryz.results141, go_sem]) rfl ?_
  exact ⟨b, ao, c, xs, ad, d, ds, rfl, H.out.1, H.out.2.1, h0, rfl, Nat.le_refl _, Nat.le_succ _, H.out.2.2⟩
end Go.Proofs.YtcankknlbljicaaGreatDoor

namespace Go.Proofs.YtcankknlbljicaaGreatDoor
open Go.RowKit Num

def RetRat (q : Rat) (w : World) (e : Ending) (w' : World) : Prop :=
 ∃ ao c ad d, e = .returned (.agg #[.bool (decide (q.num < 0)), .slice ao (nd q.num.natAbs).length c, .slice ad (nd q.den).length d]) ∧ Own w.heap.size w' ao c (nd q.num.natAbs) ∧ Own w.heap.size w' ad d (nd q.den) ∧ Below w.heap.size w w'
def F2 (w : World) (b : Bool) (ao ad : Option Addr) (n c m d : Nat) : World :=
 (w.alloc (.cells #[.bool b, .slice ao n c, .slice ad m d] 122)).alloc (.cells #[.bool false, .slice none 0 0, .slice none 0 0] 26)
theorem F2_size (w : World) (b : Bool) (ao ad : Option Addr) (n c m d : Nat) : (F2 w b ao ad n c m d).heap.size = w.heap.size + 2 := by simp [F2]
theorem F2_below (w : World) (b : Bool) (ao ad : Option Addr) (n c m d : Nat) : Below w.heap.size w (F2 w b ao ad n c m d) := by
 have h1 := below_alloc w (.cells #[.bool b, .slice ao n c, .slice ad m d] 122)
 exact h1.trans ((below_alloc _ (.cells #[.bool false, .slice none 0 0, .slice none 0 0] 26)).mono h1.size)
theorem F2_heap (w : World) (b : Bool) (ao ad : Option Addr) (n c m d : Nat) :
  (F2 w b ao ad n c m d).heap[w.heap.size]? = some (.cells #[.bool b, .slice ao n c, .slice ad m d] 122 (0, 0)) ∧ (F2 w b ao ad n c m d).heap[w.heap.size + 1]? = some (.cells #[.bool false, .slice none 0 0, .slice none 0 0] 26 (0, 0)) := by
 have x1 := heap_alloc_at w (.cells #[.bool b, .slice ao n c, .slice ad m d] 122)
 have z1 : (w.alloc (.cells #[.bool b, .slice ao n c, .slice ad m d] 122)).heap.size = w.heap.size + 1 := by simp
 have x2 := heap_alloc_at (w.alloc (.cells #[.bool b, .slice ao n c, .slice ad m d] 122)) (.cells #[.bool false, .slice none 0 0, .slice none 0 0] 26)
 rw [z1] at x2
 have y2 := (below_alloc (w.alloc (.cells #[.bool b, .slice ao n c, .slice ad m d] 122)) (.cells #[.bool false, .slice none 0 0, .slice none 0 0] 26)).block w.heap.size (by omega)
 exact ⟨y2.trans x1, x2⟩
theorem RetRat.fin {B g c d : Nat} {q : Rat} {w w4 : World} {ao ad : Option Addr} (h1 : Own B w4 ao c (nd q.num.natAbs)) (h2 : Own B w4 ad d (nd q.den)) (hg : g < B) (hb : Below w.heap.size w w4) (hgw : w.heap.size ≤ g) (v0 v1 v2 : Value) :
  RetRat q w (.returned (.agg #[.bool (decide (q.num < 0)), .slice ao (nd q.num.natAbs).length c, .slice ad (nd q.den).length d])) (((w4.setCell ⟨g, 0, none⟩ v0).setCell ⟨g, 1, none⟩ v1).setCell ⟨g, 2, none⟩ v2) := by
 refine ⟨ao, c, ad, d, rfl, ?_, ?_, ?_⟩
 ·exact (((h1.setOld hg _).setOld hg _).setOld hg _).mono (by omega)
 ·exact (((h2.setOld hg _).setOld hg _).setOld hg _).mono (by omega)
 ·exact ((hb.setCell (p := ⟨g, 0, none⟩) hgw _).setCell (p := ⟨g, 1, none⟩) hgw _).setCell (p := ⟨g, 2, none⟩) hgw _

theorem lowest_one (b : Bool) (ao ad : Option Addr) (c d : Nat) (xs ds : List Nat) (w : World) (hx : Rd w ao c xs) (hd : Rd w ad d ds) (hl1 : xs.length ≤ 4398046511104) (hl2 : ds.length ≤ 4398046511104) (hT : Tb w) (h0 : val ds ≠ 0) (h1 : Nat.gcd (val xs) (val ds) = 1) :
  Calls Tryz.prog 153 #[.agg #[.bool b, .slice ao xs.length c, .slice ad ds.length d]] w (RetRat (rv b (val xs) (val ds)) w) := by
 have hle1 := hx.le
 have hcm1 := hx.cm
 have hle2 := hd.le
 have hcm2 := hd.cm
 have hB := F2_below w b ao ad xs.length c ds.length d
 have HH := hid (F2_heap w b ao ad xs.length c ds.length d)
 have HSZ := hid (F2_size w b ao ad xs.length c ds.length d)
 have hg := gcd_any ao ad c d xs ds _ (hx.below hB) (hd.below hB) hl1 hl2 (hT.below hB)
 rw [h1] at hg
 have HB := hid hB
 have HR := hid (And.intro (hx.below hB) (hd.below hB))
 obtain ⟨hq1, hq2⟩ := low_one (z := iv b (val xs)) (d := val ds) h0 (by rw [iv_abs]; exact h1)
 obtain ⟨q, hq⟩ : ∃ q, q = rv b (val xs) (val ds) := ⟨_, rfl⟩
 have e1 : q.num = iv b (val xs) := by rw [hq]; exact hq1
 have e2 : q.den = val ds := by rw [hq]; exact hq2
 rw [← hq]
 have HT1 := hid (fun w' (h : Rd w' ao c xs) => show Calls Tryz.prog 203 #[.agg #[.bool b, .slice ao xs.length c]] w' (RetInt w'.heap.size q.num w') from e1 ▸ itrim_any b ao c xs w' h (by omega))
 have HT2 := hid (fun w' (h : Rd w' ad d ds) => show Calls Tryz.prog 155 #[.slice ad ds.length d] w' (RetOwn w'.heap.size (nd q.den) w') from by rw [e2]; exact trim_any ad d ds w' h (by omega))
 unfold F2 at HH HSZ hg HB HR
 clear hx hd hB hT h0 h1 hq1 hq2 hq e1 e2
 go_enter Tryz.func153, Tryz.ntmps153
 go_wp2_with fail
 obtain ⟨w0, hw0⟩ : ∃ x, x = ((w.alloc (.cells #[.bool b, .slice ao xs.length c, .slice ad ds.length d] 122)).alloc (.cells #[.bool false, .slice none 0 0, .slice none 0 0] 26)) := ⟨_, rfl⟩
 rw [← hw0] at HH HSZ HB HR hg ⊢
 clear hw0
 refine hg.mono ?_
 rintro e w1 ⟨a1, c1, rfl, o1, f1⟩
 have hi := isOne_any a1 c1 (nd 1) w1 o1.rd (Nat.le_trans (nd_length_le (k := 1) (by omega)) (by omega)) true (by simp [val_nd])
 clear hg
 go_wp2_with fail
 refine hi.mono ?_
 rintro e w' ⟨rfl, rfl⟩
 clear hi o1
 obtain ⟨⟨s0, s1, s2⟩, _⟩ := rat_cells HH.out.1 f1
 have p0 := f1.trans (below_drewI w0.heap.size w1)
 have HF := hid f1
 go_wp2_with fail
 go_region_held3 (fun w' => w'.cell? ⟨w.heap.size, 0, none⟩ = some (.bool b) ∧ w'.cell? ⟨w.heap.size, 1, none⟩ = some (.slice ao xs.length c) ∧ w'.cell? ⟨w.heap.size, 2, none⟩ = some (.slice ad ds.length d)) (go_keep) (first
  | (go_at_call 155; (with_reducible refine (HT2.out w3 (HR.out.2.below p3)).mono ?_); rintro e w4 ⟨a4, c4, rfl, o4, f4⟩; have p4 := p3.trans (f4.mono p3.size); obtain ⟨⟨r4, r5, r6⟩, _⟩ := rat_cells HH.out.1 p4; obtain ⟨⟨k0, k1, k2⟩, k3, k4, k5⟩ := rat_cells HH.out.2 p4)
  | (go_at_call 203; (with_reducible refine (HT1.out w1.drew (HR.out.1.below p0)).mono ?_); rintro e w3 ⟨a3, c3, rfl, o3, f3⟩; have p3 := p0.trans (f3.mono p0.size); obtain ⟨⟨r0, r1, r2⟩, _⟩ := rat_cells HH.out.1 p3))
 all_goals
  go_wp2
  have hsz := HSZ.out
  have hf1 := HF.out.size
  have hf3 : w1.heap.size ≤ w3.heap.size := f3.size
  have hz1 : w1.drew.heap.size = w1.heap.size := rfl
  refine bodyPost_ret (v := .agg #[.bool (decide (q.num < 0)), .slice a3 (nd q.num.natAbs).length c3, .slice a4 (nd q.den).length c4]) (by simp [results, Tryz.results153, go_sem, k0, k1, k2]) rfl ?_
  exact RetRat.fin (B := w1.heap.size) (o3.below f4) (o4.mono (by omega)) (by omega) (HB.out.trans (p4.mono HB.out.size)) (by omega) _ _ _
end Go.Proofs.YtcankknlbljicaaGreatDoor
