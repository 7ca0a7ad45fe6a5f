/-  -/
import Derived.Test.YtcankknlbljicaaGreatDoorWx

set_option linter.unusedVariables false
set_option linter.unusedSimpArgs false
set_option linter.unusedSectionVars false
set_option maxRecDepth 100000
set_option maxHeartbeats 3200000

namespace Go.Proofs.YtcankknlbljicaaGreatDoor
open Go.RowKit Num

def A2 (w : World) (o1 o2 : Obj) : World := (w.alloc o1).alloc o2
def A3 (w : World) (o1 o2 o3 : Obj) : World := ((w.alloc o1).alloc o2).alloc o3
def A4 (w : World) (o1 o2 o3 o4 : Obj) : World := (((w.alloc o1).alloc o2).alloc o3).alloc o4
theorem A2_size (w : World) (o1 o2 : Obj) : (A2 w o1 o2).heap.size = w.heap.size + 2 := by simp [A2]
theorem A3_size (w : World) (o1 o2 o3 : Obj) : (A3 w o1 o2 o3).heap.size = w.heap.size + 3 := by simp [A3]
theorem below_al {a w : World} (h : Below a.heap.size a w) (o : Obj) : Below a.heap.size a (w.alloc o) := h.alloc h.size o
theorem A2_below (w : World) (o1 o2 : Obj) : Below w.heap.size w (A2 w o1 o2) := below_al (below_alloc w o1) o2
theorem A3_below (w : World) (o1 o2 o3 : Obj) : Below w.heap.size w (A3 w o1 o2 o3) := below_al (below_al (below_alloc w o1) o2) o3
theorem A2_heap (w : World) (o1 o2 : Obj) : (A2 w o1 o2).heap[w.heap.size]? = some o1 ∧ (A2 w o1 o2).heap[w.heap.size + 1]? = some o2 := by
 have z1 : (w.alloc o1).heap.size = w.heap.size + 1 := by simp
 have x2 := heap_alloc_at (w.alloc o1) o2
 rw [z1] at x2
 exact ⟨((below_alloc (w.alloc o1) o2).block _ (by omega)).trans (heap_alloc_at w o1), x2⟩
theorem A3_heap (w : World) (o1 o2 o3 : Obj) : (A3 w o1 o2 o3).heap[w.heap.size]? = some o1 ∧ (A3 w o1 o2 o3).heap[w.heap.size + 1]? = some o2 ∧ (A3 w o1 o2 o3).heap[w.heap.size + 2]? = some o3 := by
 have z1 := A2_size w o1 o2
 obtain ⟨h1, h2⟩ := A2_heap w o1 o2
 have x := heap_alloc_at (A2 w o1 o2) o3
 rw [z1] at x
 have b := below_alloc (A2 w o1 o2) o3
 exact ⟨(b.block _ (by omega)).trans h1, (b.block _ (by omega)).trans h2, x⟩
def Sz (q : Rat) (n : Nat) : Prop := (nd q.num.natAbs).length ≤ n ∧ (nd q.den).length ≤ n
theorem Sz.mono {q : Rat} {n m : Nat} (h : Sz q n) (hm : n ≤ m) : Sz q m := ⟨Nat.le_trans h.1 hm, Nat.le_trans h.2 hm⟩
theorem low_le {z : Int} {d : Nat} (hd : d ≠ 0) : (mkRat z d).num.natAbs ≤ z.natAbs ∧ (mkRat z d).den ≤ d := by
 obtain ⟨h1, h2⟩ := low_parts (z := z) hd
 rw [h1, h2]
 refine ⟨?_, Nat.div_le_self _ _⟩
 rw [Int.natAbs_ediv_of_dvd (Int.ofNat_dvd_left.2 (Nat.gcd_dvd_left z.natAbs d))]
 exact Nat.div_le_self _ _
theorem lt_of_nd {v n : Nat} (h : (nd v).length ≤ n) : v < 4294967296 ^ n := by
 have := val_lt_of (wf_nd v) h
 rwa [val_nd] at this
theorem Sz.of {z : Int} {d n : Nat} (hd : d ≠ 0) (h1 : z.natAbs < 4294967296 ^ n) (h2 : d < 4294967296 ^ n) : Sz (mkRat z d) n := by
 obtain ⟨h3, h4⟩ := low_le (z := z) hd
 exact ⟨nd_length_le (Nat.lt_of_le_of_lt h3 h1), nd_length_le (Nat.lt_of_le_of_lt h4 h2)⟩
theorem Sz.lt {q : Rat} {n : Nat} (h : Sz q n) : q.num.natAbs < 4294967296 ^ n ∧ q.den < 4294967296 ^ n := ⟨lt_of_nd h.1, lt_of_nd h.2⟩
theorem Sz.neg {q : Rat} {n : Nat} (h : Sz q n) : Sz (-q) n := by
 unfold Sz
 rw [Rat.neg_num, Rat.neg_den, Int.natAbs_neg]
 exact h
theorem pow_mul_lt {a b n m : Nat} (h1 : a < 4294967296 ^ n) (h2 : b < 4294967296 ^ m) : a * b < 4294967296 ^ (n + m) := by
 rw [Nat.pow_add]
 exact Nat.mul_lt_mul'' h1 h2
theorem pow_le_succ (n : Nat) : 2 * 4294967296 ^ n ≤ 4294967296 ^ (n + 1) := by
 rw [Nat.pow_succ]
 have := Nat.one_le_two_pow (n := n)
 generalize 4294967296 ^ n = x
 omega
theorem Sz.add {q p : Rat} {n m : Nat} (h1 : Sz q n) (h2 : Sz p m) : Sz (q + p) (n + m + 1) := by
 rw [Rat.add_def']
 refine Sz.of (Nat.mul_ne_zero q.den_nz p.den_nz) ?_ ?_
 ·have e1 := pow_mul_lt h1.lt.1 h2.lt.2
  have e2 := pow_mul_lt h2.lt.1 h1.lt.2
  rw [Nat.add_comm m n] at e2
  have e3 := pow_le_succ (n + m)
  have e4 := Int.natAbs_add_le (q.num * p.den) (p.num * q.den)
  rw [Int.natAbs_mul, Int.natAbs_mul, Int.natAbs_natCast, Int.natAbs_natCast] at e4
  omega
 ·have e1 := pow_mul_lt h1.lt.2 h2.lt.2
  have e3 := pow_le_succ (n + m)
  omega
theorem Sz.sub {q p : Rat} {n m : Nat} (h1 : Sz q n) (h2 : Sz p m) : Sz (q - p) (n + m + 1) := by
 rw [Rat.sub_eq_add_neg]; exact h1.add h2.neg
structure Rq (w : World) (b : Bool) (ao : Option Addr) (c : Nat) (xs : List Nat) (ad : Option Addr) (d : Nat) (ds : List Nat) (q : Rat) (n : Nat) : Prop where
 rn : Rd w ao c xs
 rd : Rd w ad d ds
 vq : rv b (val xs) (val ds) = q
 ln : xs.length ≤ n
 ld : ds.length ≤ n
structure Fr (w : World) (b : Bool) (ao : Option Addr) (c : Nat) (xs : List Nat) (ad : Option Addr) (d : Nat) (ds : List Nat) (q : Rat) (n : Nat) : Prop where
 rn : Rd w ao c xs
 rd : Rd w ad d ds
 nz : val ds ≠ 0
 vq : mkRat (iv b (val xs)) (val ds) = q
 ln : xs.length ≤ n
 ld : ds.length ≤ n
theorem Rq.below {w w' : World} {b : Bool} {ao : Option Addr} {c : Nat} {xs : List Nat} {ad : Option Addr} {d : Nat} {ds : List Nat} {q : Rat} {n : Nat} (h : Rq w b ao c xs ad d ds q n) (hb : Below w.heap.size w w') : Rq w' b ao c xs ad d ds q n :=
 ⟨h.rn.below hb, h.rd.below hb, h.vq, h.ln, h.ld⟩
theorem Fr.below {w w' : World} {b : Bool} {ao : Option Addr} {c : Nat} {xs : List Nat} {ad : Option Addr} {d : Nat} {ds : List Nat} {q : Rat} {n : Nat} (h : Fr w b ao c xs ad d ds q n) (hb : Below w.heap.size w w') : Fr w' b ao c xs ad d ds q n :=
 ⟨h.rn.below hb, h.rd.below hb, h.nz, h.vq, h.ln, h.ld⟩
theorem Fr.mono {w : World} {b : Bool} {ao : Option Addr} {c : Nat} {xs : List Nat} {ad : Option Addr} {d : Nat} {ds : List Nat} {q : Rat} {n m : Nat} (h : Fr w b ao c xs ad d ds q n) (hm : n ≤ m) : Fr w b ao c xs ad d ds q m :=
 ⟨h.rn, h.rd, h.nz, h.vq, Nat.le_trans h.ln hm, Nat.le_trans h.ld hm⟩
theorem Rq.mono {w : World} {b : Bool} {ao : Option Addr} {c : Nat} {xs : List Nat} {ad : Option Addr} {d : Nat} {ds : List Nat} {q : Rat} {n m : Nat} (h : Rq w b ao c xs ad d ds q n) (hm : n ≤ m) : Rq w b ao c xs ad d ds q m :=
 ⟨h.rn, h.rd, h.vq, Nat.le_trans h.ln hm, Nat.le_trans h.ld hm⟩
theorem Fr.neg {w : World} {b : Bool} {ao : Option Addr} {c : Nat} {xs : List Nat} {ad : Option Addr} {d : Nat} {ds : List Nat} {q : Rat} {n : Nat} (h : Fr w b ao c xs ad d ds q n) : Fr w (!b) ao c xs ad d ds (-q) n :=
 ⟨h.rn, h.rd, h.nz, by rw [neg_mk, h.vq], h.ln, h.ld⟩
theorem Rq.sz {w : World} {b : Bool} {ao : Option Addr} {c : Nat} {xs : List Nat} {ad : Option Addr} {d : Nat} {ds : List Nat} {q : Rat} {n : Nat} (h : Rq w b ao c xs ad d ds q n) : Sz q (n + 1) := by
 rw [← h.vq]
 by_cases h0 : val ds = 0
 ·rw [h0, rv_zero]
  exact ⟨by rw [Rat.zero_num, show Int.natAbs 0 = 0 from rfl, nd_zero]; exact Nat.zero_le _, by rw [Rat.zero_den]; exact Nat.le_trans (nd_length_le (k := 1) (by decide)) (by omega)⟩
 ·refine Sz.mono (Sz.of h0 ?_ ?_) (Nat.le_succ n)
  ·rw [iv_abs]; exact val_lt_of h.rn.dg h.ln
  ·exact val_lt_of h.rd.dg h.ld
theorem Fr.sz {w : World} {b : Bool} {ao : Option Addr} {c : Nat} {xs : List Nat} {ad : Option Addr} {d : Nat} {ds : List Nat} {q : Rat} {n : Nat} (h : Fr w b ao c xs ad d ds q n) : Sz q n := by
 rw [← h.vq]
 refine Sz.of h.nz ?_ ?_
 ·rw [iv_abs]; exact val_lt_of h.rn.dg h.ln
 ·exact val_lt_of h.rd.dg h.ld
theorem Rq.own {w : World} {ao ad : Option Addr} {c d B n : Nat} {q : Rat} (h1 : Own B w ao c (nd q.num.natAbs)) (h2 : Own B w ad d (nd q.den)) (hs : Sz q n) : Rq w (decide (q.num < 0)) ao c (nd q.num.natAbs) ad d (nd q.den) q n :=
 ⟨h1.rd, h2.rd, by rw [val_nd, val_nd]; unfold rv; rw [iv_self]; exact Rat.mkRat_self q, hs.1, hs.2⟩
def RetFq (q : Rat) (n : Nat) (w : World) (e : Ending) (w' : World) : Prop :=
 ∃ b ao c xs ad d ds, e = .returned (.agg #[.bool b, .slice ao xs.length c, .slice ad ds.length d]) ∧ Fr w' b ao c xs ad d ds q n ∧ Below w.heap.size w w'
theorem read_r {w : World} {b : Bool} {ao : Option Addr} {c : Nat} {xs : List Nat} {ad : Option Addr} {d : Nat} {ds : List Nat} {q : Rat} {n : Nat} (h : Rq w b ao c xs ad d ds q n) (hn : n ≤ 4398046511103) :
  Calls Tryz.prog 141 #[.agg #[.bool b, .slice ao xs.length c, .slice ad ds.length d]] w (RetFq q (n + 1) w) := by
 have hl := h.ld
 have hl1 := h.ln
 refine (read_any b ao ad c d xs ds w h.rn h.rd (by omega)).mono ?_
 rintro e w' ⟨b', ao', c', xs', ad', d', ds', he, h1, h2, h3, h4, h5, h6, h7⟩
 exact ⟨b', ao', c', xs', ad', d', ds', he, ⟨h1, h2, h3, h4.trans h.vq, by omega, by omega⟩, h7⟩
theorem RetRat.of {q p : Rat} {w : World} {e : Ending} {w' : World} (h : RetRat q w e w') (hq : q = p) : RetRat p w e w' := hq ▸ h
theorem cells3 {W w' : World} {g : Nat} {v0 v1 v2 : Value} {t : TypeId} (hh : W.heap[g]? = some (.cells #[v0, v1, v2] t (0, 0))) (hb : Below W.heap.size W w') :
  w'.cell? ⟨g, 0, none⟩ = some v0 ∧ w'.cell? ⟨g, 1, none⟩ = some v1 ∧ w'.cell? ⟨g, 2, none⟩ = some v2 ∧ w'.frozen? ⟨g, 0, none⟩ = false ∧ w'.frozen? ⟨g, 1, none⟩ = false ∧ w'.frozen? ⟨g, 2, none⟩ = false := by
 obtain ⟨⟨a, b, c⟩, d, e, f⟩ := rat_cells hh hb
 exact ⟨a, b, c, d, e, f⟩
end Go.Proofs.YtcankknlbljicaaGreatDoor

namespace Go.Proofs.YtcankknlbljicaaGreatDoor
open Go.RowKit Num

theorem alloc_size (w : World) (o : Obj) : (w.alloc o).heap.size = w.heap.size + 1 := by simp
theorem drew_size (w : World) : w.drew.heap.size = w.heap.size := rfl
theorem heap_at' (w : World) (o : Obj) (g : Nat) (hg : g = w.heap.size) : (w.alloc o).heap[g]? = some o := by rw [hg]; exact heap_alloc_at w o
theorem drew_at (w : World) (g : Nat) : w.drew.heap[g]? = w.heap[g]? := rfl
theorem cutp {p q : Prop} (h : p) (k : p → q) : q := k h
theorem heap_set (w : World) (g i : Nat) (v : Value) (k : Nat) (h : k ≠ g) : (w.setCell ⟨g, i, none⟩ v).heap[k]? = w.heap[k]? := Below.heap_setCell w ⟨g, i, none⟩ v k h
theorem box2 {w : World} {g : Nat} {p0 p1 v0 v1 : Value} {t : TypeId} (h : w.heap[g]? = some (.cells #[p0, p1] t (0, 0))) :
  ((w.setCell ⟨g, 0, none⟩ v0).setCell ⟨g, 1, none⟩ v1).heap[g]? = some (.cells #[v0, v1] t (0, 0)) :=
 Go.Joins.block_setCell (i := 1) (Go.Joins.block_setCell (i := 0) h _) _
theorem box3 {w : World} {g : Nat} {p0 p1 p2 v0 v1 v2 : Value} {t : TypeId} (h : w.heap[g]? = some (.cells #[p0, p1, p2] t (0, 0))) :
  (((w.setCell ⟨g, 0, none⟩ v0).setCell ⟨g, 1, none⟩ v1).setCell ⟨g, 2, none⟩ v2).heap[g]? = some (.cells #[v0, v1, v2] t (0, 0)) :=
 Go.Joins.block_setCell (i := 2) (Go.Joins.block_setCell (i := 1) (Go.Joins.block_setCell (i := 0) h _) _) _
theorem below_set {u w : World} {g : Nat} (i : Nat) (v : Value) (hg : u.heap.size ≤ g) (h : Below u.heap.size u w) : Below u.heap.size u (w.setCell ⟨g, i, none⟩ v) := h.setCell (p := ⟨g, i, none⟩) hg v
theorem own_al {B c : Nat} {w : World} {ao : Option Addr} {xs : List Nat} (h : Own B w ao c xs) (o : Obj) : Own B (w.alloc o) ao c xs := h.below (below_alloc w o)
theorem own_set {B c g : Nat} {w : World} {ao : Option Addr} {xs : List Nat} (i : Nat) (v : Value) (hn : ∀ a, ao = some a → a.block ≠ g) (h : Own B w ao c xs) : Own B (w.setCell ⟨g, i, none⟩ v) ao c xs :=
 h.keep fun a ha => heap_set w g i v _ (hn a ha)
theorem own_block {B c : Nat} {w : World} {ao : Option Addr} {xs : List Nat} (h : Own B w ao c xs) : ∀ a, ao = some a → B ≤ a.block ∧ a.block < w.heap.size := by
 rintro a rfl
 exact h.block
def P3S (u wx : World) (g4 : Nat) (r : Bool) (aq : Option Addr) (cq : Nat) (xs : List Nat) : Prop :=
 wx.heap[g4]? = some (.cells #[.bool r, .slice aq xs.length cq] 24 (0, 0)) ∧ Own u.heap.size wx aq cq xs ∧ Below u.heap.size u wx
theorem natural_u (u : World) (ao : Option Addr) (n c : Nat) (w : World) (hu : Below u.heap.size u w) :
  Calls Tryz.prog 192 #[.slice ao n c] w (fun e w' => e = .returned (.agg #[.bool false, .slice ao n c]) ∧ Below w.heap.size w w' ∧ Below u.heap.size u w') :=
 (natural_any ao n c w).mono fun _ _ ⟨h1, h2⟩ => ⟨h1, h2, hu.trans (h2.mono hu.size)⟩
theorem idiv_u (u : World) (b1 b2 : Bool) (aa ab : Option Addr) (ca cb : Nat) (xs ys : List Nat) (Q : Int) (w : World) (hu : Below u.heap.size u w) (ha : Rd u aa ca xs) (hb : Rd u ab cb ys) (h0 : val ys ≠ 0) (hl1 : xs.length ≤ 4398046511104) (hl2 : ys.length ≤ 4398046511104) (hQ : iv b1 (val xs) / iv b2 (val ys) = Q) :
  Calls Tryz.prog 191 #[.agg #[.bool b1, .slice aa xs.length ca], .agg #[.bool b2, .slice ab ys.length cb]] w (fun e w' => (∃ aq cq ar cr, ∃ R : Int, e = .returned (.tuple #[.agg #[.bool (decide (Q < 0)), .slice aq (nd Q.natAbs).length cq], .agg #[.bool (decide (R < 0)), .slice ar (nd R.natAbs).length cr], .int .i64 0]) ∧ Own w.heap.size w' aq cq (nd Q.natAbs)) ∧ Below w.heap.size w w' ∧ Below u.heap.size u w') := by
 refine (idiv_any b1 b2 aa ab ca cb xs ys w (ha.below hu) (hb.below hu) h0 hl1 hl2).mono ?_
 rw [hQ]
 rintro e w' ⟨a1, c1, a2, c2, he, h1, _, h3⟩
 exact ⟨⟨a1, c1, a2, c2, _, he, h1⟩, h3, hu.trans (h3.mono hu.size)⟩

set_option maxHeartbeats 6400000 in
theorem lowest_div (b : Bool) (ao ad : Option Addr) (c d : Nat) (xs ds : List Nat) (w : World) (hx : Rd w ao c xs) (hd : Rd w ad d ds) (hl1 : xs.length ≤ 4398046511104) (hl2 : ds.length ≤ 4398046511104) (hT : Tb w) (h0 : val ds ≠ 0) (h1 : Nat.gcd (val xs) (val ds) ≠ 1) :
  Calls Tryz.prog 153 #[.agg #[.bool b, .slice ao xs.length c, .slice ad ds.length d]] w (RetRat (rv b (val xs) (val ds)) w) := by
 have hle1 := hx.le
 have hcm1 := hx.cm
 have hle2 := hd.le
 have hcm2 := hd.cm
 have hB := F2_below w b ao ad xs.length c ds.length d
 have HH := hid (F2_heap w b ao ad xs.length c ds.length d)
 have HSZ := hid (F2_size w b ao ad xs.length c ds.length d)
 have hg := gcd_any ao ad c d xs ds _ (hx.below hB) (hd.below hB) hl1 hl2 (hT.below hB)
 have HB := hid hB
 have HR := hid (And.intro (hx.below hB) (hd.below hB))
 obtain ⟨hq1, hq2⟩ := low_abs (b := b) (n := val xs) h0
 have hG0 : Nat.gcd (val xs) (val ds) ≠ 0 := fun h => h0 (Nat.gcd_eq_zero_iff.1 h).2
 have hGl : (nd (Nat.gcd (val xs) (val ds))).length ≤ 4398046511104 := Nat.le_trans (nd_length_mono (Nat.gcd_le_right _ (Nat.pos_of_ne_zero h0))) (Nat.le_trans (nd_length_le_of hd.dg) hl2)
 obtain ⟨G, hG⟩ : ∃ G, G = Nat.gcd (val xs) (val ds) := ⟨_, rfl⟩
 rw [← hG] at hg hq1 hq2 hG0 hGl h1
 obtain ⟨q, hq⟩ : ∃ q, q = rv b (val xs) (val ds) := ⟨_, rfl⟩
 rw [← hq] at hq1 hq2 ⊢
 have HD0 := hid (fun (u : World) a1 c1 (h : Rd u ao c xs) (h2 : Rd u a1 c1 (nd G)) (w' : World) (hu : Below u.heap.size u w') => idiv_u u b false ao a1 c c1 xs (nd G) q.num w' hu h h2 (by rw [val_nd]; exact hG0) hl1 hGl (by rw [hq1, val_nd]; rfl))
 have HDM := hid (fun w' a1 c1 (h : Rd w' ad d ds) (h2 : Rd w' a1 c1 (nd G)) => show ∃ R, Calls Tryz.prog 199 #[.slice ad ds.length d, .slice a1 (nd G).length c1] w' (RetDiv w'.heap.size (nd q.den) R 0 w') from by
  have h3 := divmod_any ad a1 d c1 ds (nd G) w' h h2 (by rw [val_nd]; exact hG0) hl2
  rw [val_nd, ← hq2] at h3
  exact ⟨_, h3⟩)
 have hG1 : ¬ (val (nd G) = 1) := by rw [val_nd]; exact h1
 unfold F2 at HH HSZ hg HB HR
 clear hx hd hB hT h0 h1 hq1 hq2 hq hG hG0
 go_enter Tryz.func153, Tryz.ntmps153
 go_wp2_with fail
 obtain ⟨w0, hw0⟩ : ∃ x, x = ((w.alloc (.cells #[.bool b, .slice ao xs.length c, .slice ad ds.length d] 122)).alloc (.cells #[.bool false, .slice none 0 0, .slice none 0 0] 26)) := ⟨_, rfl⟩
 rw [← hw0] at HH HSZ HB HR hg ⊢
 clear hw0
 refine hg.mono ?_
 rintro e w1 ⟨a1, c1, rfl, o1, f1⟩
 have hi := isOne_any a1 c1 (nd G) w1 o1.rd (by omega) false (by simp [hG1])
 have hle3 := o1.rd.le
 have hcm3 := o1.rd.cm
 have HO := hid o1
 clear hg hG1 o1
 go_wp2_with fail
 refine hi.mono ?_
 rintro e w' ⟨rfl, rfl⟩
 clear hi
 obtain ⟨⟨s0, s1, s2⟩, _⟩ := rat_cells HH.out.1 f1
 have HF := hid f1
 have hz1 := f1.size
 have hs1 := HSZ.out
 have HH1 := hid ((f1.block w.heap.size (by omega)).trans HH.out.1)
 have HDV := hid (HD0.out w1 a1 c1 (HR.out.1.below f1) HO.out.rd)
 have HN := hid (natural_u w1 a1 (nd G).length c1)
 have kk : Below w1.heap.size w1 w1.drew := below_drewI _ _
 clear f1 hz1 hs1
 go_upto_region 4 with fail
 go_cut [4, 5, 6] from 29 to 38 (fun v4 _ _ wx => ∃ g4 aq cq, v4 = .pointer (some ⟨g4, 0, none⟩) ∧ Hid (P3S w1 wx g4 (decide (q.num < 0)) aq cq (nd q.num.natAbs)))
 case first =>
  have m1 : ¬ (w.heap.size = w1.heap.size) := by have := HF.out.size; have := HSZ.out; omega
  have m2 : ¬ (w1.heap.size = w.heap.size) := fun h => m1 h.symm
  have m3 : ¬ (w.heap.size = w1.heap.size + 1) := by have := HF.out.size; have := HSZ.out; omega
  have m4 : ¬ (w1.heap.size + 1 = w.heap.size) := fun h => m3 h.symm
  have m5 : w.heap.size < w1.heap.size := by have := HF.out.size; have := HSZ.out; omega
  have m6 : w.heap.size + 1 < w1.heap.size := by have := HF.out.size; have := HSZ.out; omega
  go_region_held3 (fun w' => w'.cell? ⟨w.heap.size, 0, none⟩ = some (.bool b) ∧ w'.cell? ⟨w.heap.size, 1, none⟩ = some (.slice ao xs.length c) ∧ w'.cell? ⟨w.heap.size, 2, none⟩ = some (.slice ad ds.length d)) (go_keep) (first
   | (go_at_call 191; (with_reducible refine (HDV.out _ ?_).mono ?_); (repeat (first | with_reducible assumption | with_reducible exact Below.refl _ _ | with_reducible apply Below.drew | with_reducible apply below_al)); rintro e w4 ⟨⟨aq, cq, ar, cr, R, rfl, o4⟩, f4, k4⟩; obtain ⟨r4a, r4b, r4c, _⟩ := cells3 HH1.out k4; have z4 := f4.size; (try simp only [alloc_size, drew_size] at z4); (try (have nl4_0 : w.heap.size < w4.heap.size := by omega)); (try (have nq4_61 : ¬ (w.heap.size = w4.heap.size) := by omega); (have nr4_61 : ¬ (w4.heap.size = w.heap.size) := by omega)); (try (have nq4_187 : ¬ (w.heap.size = w4.heap.size + 1) := by omega); (have nr4_187 : ¬ (w4.heap.size + 1 = w.heap.size) := by omega)); (try (have nl4_323 : w.heap.size + 1 < w4.heap.size := by omega)); (try (have nq4_390 : ¬ (w.heap.size + 1 = w4.heap.size) := by omega); (have nr4_390 : ¬ (w4.heap.size = w.heap.size + 1) := by omega)); (try (have nq4_526 : ¬ (w.heap.size + 1 = w4.heap.size + 1) := by omega); (have nr4_526 : ¬ (w4.heap.size + 1 = w.heap.size + 1) := by omega)); (try (have nl4_670 : w1.heap.size < w4.heap.size := by omega)); (try (have nq4_734 : ¬ (w1.heap.size = w4.heap.size) := by omega); (have nr4_734 : ¬ (w4.heap.size = w1.heap.size) := by omega)); (try (have nq4_864 : ¬ (w1.heap.size = w4.heap.size + 1) := by omega); (have nr4_864 : ¬ (w4.heap.size + 1 = w1.heap.size) := by omega)); (try (have nl4_1002 : w1.heap.size + 1 < w4.heap.size := by omega)); (try (have nq4_1071 : ¬ (w1.heap.size + 1 = w4.heap.size) := by omega); (have nr4_1071 : ¬ (w4.heap.size = w1.heap.size + 1) := by omega)); (try (have nq4_1211 : ¬ (w1.heap.size + 1 = w4.heap.size + 1) := by omega); (have nr4_1211 : ¬ (w4.heap.size + 1 = w1.heap.size + 1) := by omega)); (try (have nl4_1359 : w3.heap.size < w4.heap.size := by omega)); (try (have nq4_1424 : ¬ (w3.heap.size = w4.heap.size) := by omega); (have nr4_1424 : ¬ (w4.heap.size = w3.heap.size) := by omega)); (try (have nq4_1556 : ¬ (w3.heap.size = w4.heap.size + 1) := by omega); (have nr4_1556 : ¬ (w4.heap.size + 1 = w3.heap.size) := by omega)); (try (have nl4_1696 : w3.heap.size + 1 < w4.heap.size := by omega)); (try (have nq4_1765 : ¬ (w3.heap.size + 1 = w4.heap.size) := by omega); (have nr4_1765 : ¬ (w4.heap.size = w3.heap.size + 1) := by omega)); (try (have nq4_1905 : ¬ (w3.heap.size + 1 = w4.heap.size + 1) := by omega); (have nr4_1905 : ¬ (w4.heap.size + 1 = w3.heap.size + 1) := by omega)); (try (refine cutp (p := w4.heap[w1.heap.size]? = some (.cells #[.bool false, .slice none 0 0] 24)) ?_ ?_; (· (repeat (first | (with_reducible refine heap_at' _ _ _ ?_; (first | omega | (simp only [alloc_size, drew_size, setCell_size]; done) | (simp only [alloc_size, drew_size, setCell_size]; omega))) | (with_reducible apply box2) | (with_reducible apply box3) | (with_reducible refine (heap_set _ _ _ _ _ ?_).trans ?_; (· (first | omega | (simp only [alloc_size, drew_size, setCell_size]; done) | (simp only [alloc_size, drew_size, setCell_size]; omega)))) | (with_reducible refine (Below.heap_alloc _ _ _ ?_).trans ?_; (· (first | omega | (simp only [alloc_size, drew_size, setCell_size]; done) | (simp only [alloc_size, drew_size, setCell_size]; omega)))) | (with_reducible refine (drew_at _ _).trans ?_) | (with_reducible refine (f4.block _ ?_).trans ?_; (· (first | omega | (simp only [alloc_size, drew_size, setCell_size]; done) | (simp only [alloc_size, drew_size, setCell_size]; omega)))) | (with_reducible refine (f3.block _ ?_).trans ?_; (· (first | omega | (simp only [alloc_size, drew_size, setCell_size]; done) | (simp only [alloc_size, drew_size, setCell_size]; omega))))))); intro Q0; obtain ⟨qa0, qb0, qc0, qd0⟩ := pair_cells Q0 (Below.refl _ _))); (try (refine cutp (p := w4.heap[w1.heap.size + 1]? = some (.cells #[.bool false, .slice none 0 0] 24)) ?_ ?_; (· (repeat (first | (with_reducible refine heap_at' _ _ _ ?_; (first | omega | (simp only [alloc_size, drew_size, setCell_size]; done) | (simp only [alloc_size, drew_size, setCell_size]; omega))) | (with_reducible apply box2) | (with_reducible apply box3) | (with_reducible refine (heap_set _ _ _ _ _ ?_).trans ?_; (· (first | omega | (simp only [alloc_size, drew_size, setCell_size]; done) | (simp only [alloc_size, drew_size, setCell_size]; omega)))) | (with_reducible refine (Below.heap_alloc _ _ _ ?_).trans ?_; (· (first | omega | (simp only [alloc_size, drew_size, setCell_size]; done) | (simp only [alloc_size, drew_size, setCell_size]; omega)))) | (with_reducible refine (drew_at _ _).trans ?_) | (with_reducible refine (f4.block _ ?_).trans ?_; (· (first | omega | (simp only [alloc_size, drew_size, setCell_size]; done) | (simp only [alloc_size, drew_size, setCell_size]; omega)))) | (with_reducible refine (f3.block _ ?_).trans ?_; (· (first | omega | (simp only [alloc_size, drew_size, setCell_size]; done) | (simp only [alloc_size, drew_size, setCell_size]; omega))))))); intro Q1; obtain ⟨qa1, qb1, qc1, qd1⟩ := pair_cells Q1 (Below.refl _ _))); (try (refine cutp (p := w4.heap[w3.heap.size]? = some (.cells #[.bool false, .slice none 0 0] 24)) ?_ ?_; (· (repeat (first | (with_reducible refine heap_at' _ _ _ ?_; (first | omega | (simp only [alloc_size, drew_size, setCell_size]; done) | (simp only [alloc_size, drew_size, setCell_size]; omega))) | (with_reducible apply box2) | (with_reducible apply box3) | (with_reducible refine (heap_set _ _ _ _ _ ?_).trans ?_; (· (first | omega | (simp only [alloc_size, drew_size, setCell_size]; done) | (simp only [alloc_size, drew_size, setCell_size]; omega)))) | (with_reducible refine (Below.heap_alloc _ _ _ ?_).trans ?_; (· (first | omega | (simp only [alloc_size, drew_size, setCell_size]; done) | (simp only [alloc_size, drew_size, setCell_size]; omega)))) | (with_reducible refine (drew_at _ _).trans ?_) | (with_reducible refine (f4.block _ ?_).trans ?_; (· (first | omega | (simp only [alloc_size, drew_size, setCell_size]; done) | (simp only [alloc_size, drew_size, setCell_size]; omega)))) | (with_reducible refine (f3.block _ ?_).trans ?_; (· (first | omega | (simp only [alloc_size, drew_size, setCell_size]; done) | (simp only [alloc_size, drew_size, setCell_size]; omega))))))); intro Q2; obtain ⟨qa2, qb2, qc2, qd2⟩ := pair_cells Q2 (Below.refl _ _))); (try (refine cutp (p := w4.heap[w3.heap.size + 1]? = some (.cells #[.bool false, .slice none 0 0] 24)) ?_ ?_; (· (repeat (first | (with_reducible refine heap_at' _ _ _ ?_; (first | omega | (simp only [alloc_size, drew_size, setCell_size]; done) | (simp only [alloc_size, drew_size, setCell_size]; omega))) | (with_reducible apply box2) | (with_reducible apply box3) | (with_reducible refine (heap_set _ _ _ _ _ ?_).trans ?_; (· (first | omega | (simp only [alloc_size, drew_size, setCell_size]; done) | (simp only [alloc_size, drew_size, setCell_size]; omega)))) | (with_reducible refine (Below.heap_alloc _ _ _ ?_).trans ?_; (· (first | omega | (simp only [alloc_size, drew_size, setCell_size]; done) | (simp only [alloc_size, drew_size, setCell_size]; omega)))) | (with_reducible refine (drew_at _ _).trans ?_) | (with_reducible refine (f4.block _ ?_).trans ?_; (· (first | omega | (simp only [alloc_size, drew_size, setCell_size]; done) | (simp only [alloc_size, drew_size, setCell_size]; omega)))) | (with_reducible refine (f3.block _ ?_).trans ?_; (· (first | omega | (simp only [alloc_size, drew_size, setCell_size]; done) | (simp only [alloc_size, drew_size, setCell_size]; omega))))))); intro Q3; obtain ⟨qa3, qb3, qc3, qd3⟩ := pair_cells Q3 (Below.refl _ _))))
   | (go_at_call 192; (with_reducible refine (HN.out _ ?_).mono ?_); (repeat (first | with_reducible assumption | with_reducible exact Below.refl _ _ | with_reducible apply Below.drew | with_reducible apply below_al)); rintro e w3 ⟨rfl, f3, k3⟩; obtain ⟨r3a, r3b, r3c, _⟩ := cells3 HH1.out k3; have z3 := f3.size; (try simp only [alloc_size, drew_size] at z3); (try (have nl3_0 : w.heap.size < w3.heap.size := by omega)); (try (have nq3_61 : ¬ (w.heap.size = w3.heap.size) := by omega); (have nr3_61 : ¬ (w3.heap.size = w.heap.size) := by omega)); (try (have nq3_187 : ¬ (w.heap.size = w3.heap.size + 1) := by omega); (have nr3_187 : ¬ (w3.heap.size + 1 = w.heap.size) := by omega)); (try (have nl3_323 : w.heap.size + 1 < w3.heap.size := by omega)); (try (have nq3_390 : ¬ (w.heap.size + 1 = w3.heap.size) := by omega); (have nr3_390 : ¬ (w3.heap.size = w.heap.size + 1) := by omega)); (try (have nq3_526 : ¬ (w.heap.size + 1 = w3.heap.size + 1) := by omega); (have nr3_526 : ¬ (w3.heap.size + 1 = w.heap.size + 1) := by omega)); (try (have nl3_670 : w1.heap.size < w3.heap.size := by omega)); (try (have nq3_734 : ¬ (w1.heap.size = w3.heap.size) := by omega); (have nr3_734 : ¬ (w3.heap.size = w1.heap.size) := by omega)); (try (have nq3_864 : ¬ (w1.heap.size = w3.heap.size + 1) := by omega); (have nr3_864 : ¬ (w3.heap.size + 1 = w1.heap.size) := by omega)); (try (have nl3_1002 : w1.heap.size + 1 < w3.heap.size := by omega)); (try (have nq3_1071 : ¬ (w1.heap.size + 1 = w3.heap.size) := by omega); (have nr3_1071 : ¬ (w3.heap.size = w1.heap.size + 1) := by omega)); (try (have nq3_1211 : ¬ (w1.heap.size + 1 = w3.heap.size + 1) := by omega); (have nr3_1211 : ¬ (w3.heap.size + 1 = w1.heap.size + 1) := by omega))))
  all_goals
   (try clear nq4_61); (try clear nr4_61); (try clear nq4_187); (try clear nr4_187); (try clear nq4_390); (try clear nr4_390); (try clear nq4_526); (try clear nr4_526); (try clear nq4_734); (try clear nr4_734); (try clear nq4_864); (try clear nr4_864); (try clear nq4_1071); (try clear nr4_1071); (try clear nq4_1211); (try clear nr4_1211); (try clear nq4_1424); (try clear nr4_1424); (try clear nq4_1556); (try clear nr4_1556); (try clear nq4_1765); (try clear nr4_1765); (try clear nq4_1905); (try clear nr4_1905); (try clear nq3_61); (try clear nr3_61); (try clear nq3_187); (try clear nr3_187); (try clear nq3_390); (try clear nr3_390); (try clear nq3_526); (try clear nr3_526); (try clear nq3_734); (try clear nr3_734); (try clear nq3_864); (try clear nr3_864); (try clear nq3_1071); (try clear nr3_1071); (try clear nq3_1211); (try clear nr3_1211); (try clear m1); (try clear m2); (try clear m3); (try clear m4)
   have y3 := k3.size
   go_wp2
   go_meet
   have n0 := own_block o4
   have o5 : Own w1.heap.size w4 aq cq (nd q.num.natAbs) := o4.mono (by (first | omega | (simp only [alloc_size, drew_size, setCell_size]; done) | (simp only [alloc_size, drew_size, setCell_size]; omega)))
   (try simp only [alloc_size, drew_size] at n0)
   refine ⟨_, aq, cq, rfl, hid ⟨?_, ?_, ?_⟩⟩
   ·(repeat (first | (with_reducible refine heap_at' _ _ _ ?_; (first | omega | (simp only [alloc_size, drew_size, setCell_size]; done) | (simp only [alloc_size, drew_size, setCell_size]; omega))) | (with_reducible apply box2) | (with_reducible apply box3) | (with_reducible refine (heap_set _ _ _ _ _ ?_).trans ?_; (· (first | omega | (simp only [alloc_size, drew_size, setCell_size]; done) | (simp only [alloc_size, drew_size, setCell_size]; omega)))) | (with_reducible refine (Below.heap_alloc _ _ _ ?_).trans ?_; (· (first | omega | (simp only [alloc_size, drew_size, setCell_size]; done) | (simp only [alloc_size, drew_size, setCell_size]; omega)))) | (with_reducible refine (drew_at _ _).trans ?_) | (with_reducible refine (f4.block _ ?_).trans ?_; (· (first | omega | (simp only [alloc_size, drew_size, setCell_size]; done) | (simp only [alloc_size, drew_size, setCell_size]; omega)))) | (with_reducible refine (f3.block _ ?_).trans ?_; (· (first | omega | (simp only [alloc_size, drew_size, setCell_size]; done) | (simp only [alloc_size, drew_size, setCell_size]; omega))))))
   ·(repeat (first | with_reducible exact o5 | with_reducible refine own_al ?_ _ | (with_reducible refine own_set _ _ ?_ ?_; (· intro a ha; have hn := n0 a ha; omega))))
   ·(repeat (first | with_reducible assumption | with_reducible exact Below.refl _ _ | with_reducible apply Below.drew | with_reducible apply below_al | (with_reducible refine below_set _ _ ?_ ?_; (· (first | omega | (simp only [alloc_size, drew_size, setCell_size]; done) | (simp only [alloc_size, drew_size, setCell_size]; omega))))))
 case rest =>
  obtain ⟨g4, aq, cq, rfl, HS⟩ := hcut
  have HS2 := hid (HF.out.trans (HS.out.2.2.mono HF.out.size))
  obtain ⟨⟨t0, t1, t2⟩, _⟩ := rat_cells HH.out.1 HS2.out
  obtain ⟨R, hdm⟩ := HDM.out wc a1 c1 (HR.out.2.below HS2.out) (HO.out.rd.below HS.out.2.2)
  go_wp2_with fail
  refine hdm.mono ?_
  rintro e w5 ⟨ax, cx, ay, cy, rfl, ox, oy, f5⟩
  have p5 := HS2.out.trans (f5.mono HS2.out.size)
  obtain ⟨u0, u1, _, _⟩ := pair_cells HS.out.1 f5
  obtain ⟨⟨k0, k1, k2⟩, k3, k4, k5⟩ := rat_cells HH.out.2 p5
  have H5 := hid (And.intro (HS.out.2.1.below f5) (And.intro (ox.mono HS.out.2.2.size) (HB.out.trans (p5.mono HB.out.size))))
  clear t0 t1 t2 hdm ox oy f5 p5
  go_wp2
  have hsz := HSZ.out
  have hf1 := HF.out.size
  refine bodyPost_ret (v := .agg #[.bool (decide (q.num < 0)), .slice aq (nd q.num.natAbs).length cq, .slice ax (nd q.den).length cx]) (by simp [results, Tryz.results153, go_sem, k0, k1, k2]) rfl ?_
  exact RetRat.fin (B := w1.heap.size) H5.out.1 H5.out.2.1 (by omega) H5.out.2.2 (by omega) _ _ _
end Go.Proofs.YtcankknlbljicaaGreatDoor

namespace Go.Proofs.YtcankknlbljicaaGreatDoor
open Go.RowKit Num

theorem negated_any (b : Bool) (ao ad : Option Addr) (n c m d : Nat) (w : World) :
  Calls Tryz.prog 178 #[.agg #[.bool b, .slice ao n c, .slice ad m d]] w (RetB (.agg #[.bool (!b), .slice ao n c, .slice ad m d]) w) := by
 have h1 := below_alloc w (.cells #[.bool (!b), .slice ao n c, .slice ad m d] 122)
 have H := hid (h1.trans ((below_alloc _ (.cells #[.bool (!b), .slice ao n c, .slice ad m d] 122)).mono h1.size))
 clear h1
 go_enter Tryz.func178, Tryz.ntmps178
 go_wp2
 refine bodyPost_ret (v := .agg #[.bool (!b), .slice ao n c, .slice ad m d]) (by simp [results, Tryz.results178, go_sem]) rfl ?_
 exact ⟨rfl, H.out⟩
end Go.Proofs.YtcankknlbljicaaGreatDoor
