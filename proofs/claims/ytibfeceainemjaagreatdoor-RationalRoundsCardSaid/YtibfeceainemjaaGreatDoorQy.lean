/- Boxes at a call's beginning; readings of rationals and fractions with their sizes. · Rationals: negated. -/
import Derived.Test.YtibfeceainemjaaGreatDoorQx
import Derived.Test.YtibfeceainemjaaGreatDoorQw
import Derived.Deep.RegionHeld3

set_option linter.unusedVariables false
set_option linter.unusedSimpArgs false
set_option linter.unusedSectionVars false

namespace Go.Proofs.YtibfeceainemjaaGreatDoor
open Go.RowKit Num

def A2 (w : World) (o1 o2 : Obj) : World := (w.alloc o1).alloc o2
def A3 (w : World) (o1 o2 o3 : Obj) : World := ((w.alloc o1).alloc o2).alloc o3
def A4 (w : World) (o1 o2 o3 o4 : Obj) : World := (((w.alloc o1).alloc o2).alloc o3).alloc o4
theorem A2_size (w : World) (o1 o2 : Obj) : (A2 w o1 o2).heap.size = w.heap.size + 2 := by simp [A2]
theorem A3_size (w : World) (o1 o2 o3 : Obj) : (A3 w o1 o2 o3).heap.size = w.heap.size + 3 := by simp [A3]
theorem A4_size (w : World) (o1 o2 o3 o4 : Obj) : (A4 w o1 o2 o3 o4).heap.size = w.heap.size + 4 := by simp [A4]
theorem below_al {a w : World} (h : Below a.heap.size a w) (o : Obj) : Below a.heap.size a (w.alloc o) := h.alloc h.size o
theorem A1_below (w : World) (o1 : Obj) : Below w.heap.size w (w.alloc o1) := below_alloc w o1
theorem A2_below (w : World) (o1 o2 : Obj) : Below w.heap.size w (A2 w o1 o2) := below_al (below_alloc w o1) o2
theorem A3_below (w : World) (o1 o2 o3 : Obj) : Below w.heap.size w (A3 w o1 o2 o3) := below_al (below_al (below_alloc w o1) o2) o3
theorem A4_below (w : World) (o1 o2 o3 o4 : Obj) : Below w.heap.size w (A4 w o1 o2 o3 o4) := below_al (below_al (below_al (below_alloc w o1) o2) o3) o4
theorem A1_heap (w : World) (o1 : Obj) : (w.alloc o1).heap[w.heap.size]? = some o1 := heap_alloc_at w o1
theorem A2_heap (w : World) (o1 o2 : Obj) : (A2 w o1 o2).heap[w.heap.size]? = some o1 ∧ (A2 w o1 o2).heap[w.heap.size + 1]? = some o2 := by
  have z1 : (w.alloc o1).heap.size = w.heap.size + 1 := by simp
  have x2 := heap_alloc_at (w.alloc o1) o2
  rw [z1] at x2
  exact ⟨((below_alloc (w.alloc o1) o2).block _ (by omega)).trans (heap_alloc_at w o1), x2⟩
theorem A3_heap (w : World) (o1 o2 o3 : Obj) : (A3 w o1 o2 o3).heap[w.heap.size]? = some o1 ∧ (A3 w o1 o2 o3).heap[w.heap.size + 1]? = some o2 ∧ (A3 w o1 o2 o3).heap[w.heap.size + 2]? = some o3 := by
  have z1 := A2_size w o1 o2
  obtain ⟨h1, h2⟩ := A2_heap w o1 o2
  have x := heap_alloc_at (A2 w o1 o2) o3
  rw [z1] at x
  have b := below_alloc (A2 w o1 o2) o3
  exact ⟨(b.block _ (by omega)).trans h1, (b.block _ (by omega)).trans h2, x⟩
theorem A4_heap (w : World) (o1 o2 o3 o4 : Obj) : (A4 w o1 o2 o3 o4).heap[w.heap.size]? = some o1 ∧ (A4 w o1 o2 o3 o4).heap[w.heap.size + 1]? = some o2 ∧ (A4 w o1 o2 o3 o4).heap[w.heap.size + 2]? = some o3 ∧ (A4 w o1 o2 o3 o4).heap[w.heap.size + 3]? = some o4 := by
  have z1 := A3_size w o1 o2 o3
  obtain ⟨h1, h2, h3⟩ := A3_heap w o1 o2 o3
  have x := heap_alloc_at (A3 w o1 o2 o3) o4
  rw [z1] at x
  have b := below_alloc (A3 w o1 o2 o3) o4
  exact ⟨(b.block _ (by omega)).trans h1, (b.block _ (by omega)).trans h2, (b.block _ (by omega)).trans h3, x⟩

/-- sizes of both parts -/
def Sz (q : Rat) (n : Nat) : Prop := (nd q.num.natAbs).length ≤ n ∧ (nd q.den).length ≤ n
theorem Sz.mono {q : Rat} {n m : Nat} (h : Sz q n) (hm : n ≤ m) : Sz q m := ⟨Nat.le_trans h.1 hm, Nat.le_trans h.2 hm⟩
theorem low_le {z : Int} {d : Nat} (hd : d ≠ 0) : (mkRat z d).num.natAbs ≤ z.natAbs ∧ (mkRat z d).den ≤ d := by
  obtain ⟨h1, h2⟩ := low_parts (z := z) hd
  rw [h1, h2]
  refine ⟨?_, Nat.div_le_self _ _⟩
  rw [Int.natAbs_ediv_of_dvd (Int.ofNat_dvd_left.2 (Nat.gcd_dvd_left z.natAbs d))]
  exact Nat.div_le_self _ _
theorem lt_of_nd {v n : Nat} (h : (nd v).length ≤ n) : v < 4294967296 ^ n := by
  have := val_lt_of (wf_nd v) h
  rwa [val_nd] at this
theorem Sz.of {z : Int} {d n : Nat} (hd : d ≠ 0) (h1 : z.natAbs < 4294967296 ^ n) (h2 : d < 4294967296 ^ n) : Sz (mkRat z d) n := by
  obtain ⟨h3, h4⟩ := low_le (z := z) hd
  exact ⟨nd_length_le (Nat.lt_of_le_of_lt h3 h1), nd_length_le (Nat.lt_of_le_of_lt h4 h2)⟩
theorem Sz.lt {q : Rat} {n : Nat} (h : Sz q n) : q.num.natAbs < 4294967296 ^ n ∧ q.den < 4294967296 ^ n := ⟨lt_of_nd h.1, lt_of_nd h.2⟩
theorem Sz.pos {q : Rat} {n : Nat} (h : Sz q n) : 1 ≤ n := by
  have h1 := h.lt.2
  have h2 := q.den_pos
  cases n with
  | zero => rw [Nat.pow_zero] at h1; omega
  | succ n => omega
theorem Sz.neg {q : Rat} {n : Nat} (h : Sz q n) : Sz (-q) n := by
  unfold Sz
  rw [Rat.neg_num, Rat.neg_den, Int.natAbs_neg]
  exact h
theorem Sz.abs {q : Rat} {n : Nat} (h : Sz q n) : Sz (rabs q) n := by
  obtain ⟨h1, h2⟩ := rabs_low q
  unfold Sz
  rw [h1, h2, Int.natAbs_natCast]
  exact h
theorem pow_mul_lt {a b n m : Nat} (h1 : a < 4294967296 ^ n) (h2 : b < 4294967296 ^ m) : a * b < 4294967296 ^ (n + m) := by
  rw [Nat.pow_add]
  exact Nat.mul_lt_mul'' h1 h2
theorem Sz.mul {q p : Rat} {n m : Nat} (h1 : Sz q n) (h2 : Sz p m) : Sz (q * p) (n + m) := by
  rw [Rat.mul_def']
  refine Sz.of (Nat.mul_ne_zero q.den_nz p.den_nz) ?_ (pow_mul_lt h1.lt.2 h2.lt.2)
  rw [Int.natAbs_mul]
  exact pow_mul_lt h1.lt.1 h2.lt.1
theorem pow_le_succ (n : Nat) : 2 * 4294967296 ^ n ≤ 4294967296 ^ (n + 1) := by
  rw [Nat.pow_succ]
  have := Nat.one_le_two_pow (n := n)
  generalize 4294967296 ^ n = x
  omega
theorem Sz.add {q p : Rat} {n m : Nat} (h1 : Sz q n) (h2 : Sz p m) : Sz (q + p) (n + m + 1) := by
  rw [Rat.add_def']
  refine Sz.of (Nat.mul_ne_zero q.den_nz p.den_nz) ?_ ?_
  · have e1 := pow_mul_lt h1.lt.1 h2.lt.2
    have e2 := pow_mul_lt h2.lt.1 h1.lt.2
    rw [Nat.add_comm m n] at e2
    have e3 := pow_le_succ (n + m)
    have e4 := Int.natAbs_add_le (q.num * p.den) (p.num * q.den)
    rw [Int.natAbs_mul, Int.natAbs_mul, Int.natAbs_natCast, Int.natAbs_natCast] at e4
    omega
  · have e1 := pow_mul_lt h1.lt.2 h2.lt.2
    have e3 := pow_le_succ (n + m)
    omega
theorem Sz.sub {q p : Rat} {n m : Nat} (h1 : Sz q n) (h2 : Sz p m) : Sz (q - p) (n + m + 1) := by
  rw [Rat.sub_eq_add_neg]; exact h1.add h2.neg
theorem Sz.inv {q : Rat} {n : Nat} (h : Sz q n) : Sz q⁻¹ n := by
  have hp := h.pos
  unfold Sz
  rw [Rat.num_inv, Rat.den_inv]
  have h1 : (q.num.sign * (q.den : Int)).natAbs ≤ q.den := by
    rw [Int.natAbs_mul, Int.natAbs_natCast]
    have : q.num.sign.natAbs ≤ 1 := by
      rcases Int.lt_trichotomy q.num 0 with h | h | h
      · rw [Int.sign_eq_neg_one_of_neg h]; decide
      · rw [h]; decide
      · rw [Int.sign_eq_one_of_pos h]; decide
    calc q.num.sign.natAbs * q.den ≤ 1 * q.den := Nat.mul_le_mul_right _ this
      _ = q.den := Nat.one_mul _
  refine ⟨Nat.le_trans (nd_length_mono h1) h.2, ?_⟩
  split
  · exact nd_length_le (Nat.lt_of_lt_of_le (by omega) (Nat.pow_le_pow_right (n := 4294967296) (by omega) hp))
  · exact h.1
theorem Sz.div {q p : Rat} {n m : Nat} (h1 : Sz q n) (h2 : Sz p m) : Sz (q / p) (n + m) := by
  rw [Rat.div_def]; exact h1.mul h2.inv

/-- a rational as it stands in memory, its value and its size -/
structure Rq (w : World) (b : Bool) (ao : Option Addr) (c : Nat) (xs : List Nat) (ad : Option Addr) (d : Nat) (ds : List Nat) (q : Rat) (n : Nat) : Prop where
  rn : Rd w ao c xs
  rd : Rd w ad d ds
  vq : rv b (val xs) (val ds) = q
  ln : xs.length ≤ n
  ld : ds.length ≤ n
/-- a fraction: its denominator is not 0 -/
structure Fr (w : World) (b : Bool) (ao : Option Addr) (c : Nat) (xs : List Nat) (ad : Option Addr) (d : Nat) (ds : List Nat) (q : Rat) (n : Nat) : Prop where
  rn : Rd w ao c xs
  rd : Rd w ad d ds
  nz : val ds ≠ 0
  vq : mkRat (iv b (val xs)) (val ds) = q
  ln : xs.length ≤ n
  ld : ds.length ≤ n
theorem Rq.below {w w' : World} {b : Bool} {ao : Option Addr} {c : Nat} {xs : List Nat} {ad : Option Addr} {d : Nat} {ds : List Nat} {q : Rat} {n : Nat} (h : Rq w b ao c xs ad d ds q n) (hb : Below w.heap.size w w') : Rq w' b ao c xs ad d ds q n :=
  ⟨h.rn.below hb, h.rd.below hb, h.vq, h.ln, h.ld⟩
theorem Fr.below {w w' : World} {b : Bool} {ao : Option Addr} {c : Nat} {xs : List Nat} {ad : Option Addr} {d : Nat} {ds : List Nat} {q : Rat} {n : Nat} (h : Fr w b ao c xs ad d ds q n) (hb : Below w.heap.size w w') : Fr w' b ao c xs ad d ds q n :=
  ⟨h.rn.below hb, h.rd.below hb, h.nz, h.vq, h.ln, h.ld⟩
theorem Fr.mono {w : World} {b : Bool} {ao : Option Addr} {c : Nat} {xs : List Nat} {ad : Option Addr} {d : Nat} {ds : List Nat} {q : Rat} {n m : Nat} (h : Fr w b ao c xs ad d ds q n) (hm : n ≤ m) : Fr w b ao c xs ad d ds q m :=
  ⟨h.rn, h.rd, h.nz, h.vq, Nat.le_trans h.ln hm, Nat.le_trans h.ld hm⟩
theorem Rq.mono {w : World} {b : Bool} {ao : Option Addr} {c : Nat} {xs : List Nat} {ad : Option Addr} {d : Nat} {ds : List Nat} {q : Rat} {n m : Nat} (h : Rq w b ao c xs ad d ds q n) (hm : n ≤ m) : Rq w b ao c xs ad d ds q m :=
  ⟨h.rn, h.rd, h.vq, Nat.le_trans h.ln hm, Nat.le_trans h.ld hm⟩
theorem Fr.rq {w : World} {b : Bool} {ao : Option Addr} {c : Nat} {xs : List Nat} {ad : Option Addr} {d : Nat} {ds : List Nat} {q : Rat} {n : Nat} (h : Fr w b ao c xs ad d ds q n) : Rq w b ao c xs ad d ds q n :=
  ⟨h.rn, h.rd, h.vq, h.ln, h.ld⟩
theorem Fr.neg {w : World} {b : Bool} {ao : Option Addr} {c : Nat} {xs : List Nat} {ad : Option Addr} {d : Nat} {ds : List Nat} {q : Rat} {n : Nat} (h : Fr w b ao c xs ad d ds q n) : Fr w (!b) ao c xs ad d ds (-q) n :=
  ⟨h.rn, h.rd, h.nz, by rw [neg_mk, h.vq], h.ln, h.ld⟩
theorem Rq.sz {w : World} {b : Bool} {ao : Option Addr} {c : Nat} {xs : List Nat} {ad : Option Addr} {d : Nat} {ds : List Nat} {q : Rat} {n : Nat} (h : Rq w b ao c xs ad d ds q n) : Sz q (n + 1) := by
  rw [← h.vq]
  by_cases h0 : val ds = 0
  · rw [h0, rv_zero]
    exact ⟨by rw [Rat.zero_num, show Int.natAbs 0 = 0 from rfl, nd_zero]; exact Nat.zero_le _, by rw [Rat.zero_den]; exact Nat.le_trans (nd_length_le (k := 1) (by decide)) (by omega)⟩
  · refine Sz.mono (Sz.of h0 ?_ ?_) (Nat.le_succ n)
    · rw [iv_abs]; exact val_lt_of h.rn.dg h.ln
    · exact val_lt_of h.rd.dg h.ld
theorem Fr.sz {w : World} {b : Bool} {ao : Option Addr} {c : Nat} {xs : List Nat} {ad : Option Addr} {d : Nat} {ds : List Nat} {q : Rat} {n : Nat} (h : Fr w b ao c xs ad d ds q n) : Sz q n := by
  rw [← h.vq]
  refine Sz.of h.nz ?_ ?_
  · rw [iv_abs]; exact val_lt_of h.rn.dg h.ln
  · exact val_lt_of h.rd.dg h.ld
/-- a canonical rational of the call's own is read so -/
theorem Rq.own {w : World} {ao ad : Option Addr} {c d B n : Nat} {q : Rat} (h1 : Own B w ao c (nd q.num.natAbs)) (h2 : Own B w ad d (nd q.den)) (hs : Sz q n) : Rq w (decide (q.num < 0)) ao c (nd q.num.natAbs) ad d (nd q.den) q n :=
  ⟨h1.rd, h2.rd, by rw [val_nd, val_nd]; unfold rv; rw [iv_self]; exact Rat.mkRat_self q, hs.1, hs.2⟩
/-- the function returns a fraction -/
def RetFq (q : Rat) (n : Nat) (w : World) (e : Ending) (w' : World) : Prop :=
  ∃ b ao c xs ad d ds, e = .returned (.agg #[.bool b, .slice ao xs.length c, .slice ad ds.length d]) ∧ Fr w' b ao c xs ad d ds q n ∧ Below w.heap.size w w'
theorem read_r {w : World} {b : Bool} {ao : Option Addr} {c : Nat} {xs : List Nat} {ad : Option Addr} {d : Nat} {ds : List Nat} {q : Rat} {n : Nat} (h : Rq w b ao c xs ad d ds q n) (hn : n ≤ 4398046511103) :
    Calls Tryz.prog 98 #[.agg #[.bool b, .slice ao xs.length c, .slice ad ds.length d]] w (RetFq q (n + 1) w) := by
  have hl := h.ld
  have hl1 := h.ln
  refine (read_any b ao ad c d xs ds w h.rn h.rd (by omega)).mono ?_
  rintro e w' ⟨b', ao', c', xs', ad', d', ds', he, h1, h2, h3, h4, h5, h6, h7⟩
  exact ⟨b', ao', c', xs', ad', d', ds', he, ⟨h1, h2, h3, h4.trans h.vq, by omega, by omega⟩, h7⟩
theorem RetRat.of {q p : Rat} {w : World} {e : Ending} {w' : World} (h : RetRat q w e w') (hq : q = p) : RetRat p w e w' := hq ▸ h
/-- the cells of a box of three, of two -/
theorem cells3 {W w' : World} {g : Nat} {v0 v1 v2 : Value} {t : TypeId} (hh : W.heap[g]? = some (.cells #[v0, v1, v2] t (0, 0))) (hb : Below W.heap.size W w') :
    w'.cell? ⟨g, 0, none⟩ = some v0 ∧ w'.cell? ⟨g, 1, none⟩ = some v1 ∧ w'.cell? ⟨g, 2, none⟩ = some v2 ∧ w'.frozen? ⟨g, 0, none⟩ = false ∧ w'.frozen? ⟨g, 1, none⟩ = false ∧ w'.frozen? ⟨g, 2, none⟩ = false := by
  obtain ⟨⟨a, b, c⟩, d, e, f⟩ := rat_cells hh hb
  exact ⟨a, b, c, d, e, f⟩
end Go.Proofs.YtibfeceainemjaaGreatDoor

namespace Go.Proofs.YtibfeceainemjaaGreatDoor
open Go.RowKit Num

set_option maxRecDepth 100000 in
theorem negated_any (b : Bool) (ao ad : Option Addr) (n c m d : Nat) (w : World) :
    Calls Tryz.prog 114 #[.agg #[.bool b, .slice ao n c, .slice ad m d]] w (RetB (.agg #[.bool (!b), .slice ao n c, .slice ad m d]) w) := by
  have h1 := below_alloc w (.cells #[.bool (!b), .slice ao n c, .slice ad m d] 75)
  have H := hid (h1.trans ((below_alloc _ (.cells #[.bool (!b), .slice ao n c, .slice ad m d] 75)).mono h1.size))
  clear h1
  go_enter Tryz.func114, Tryz.ntmps114
  go_wp2
  refine bodyPost_ret (v := .agg #[.bool (!b), .slice ao n c, .slice ad m d]) (by simp [results, Tryz.results114, go_sem]) rfl ?_
  exact ⟨rfl, H.out⟩
end Go.Proofs.YtibfeceainemjaaGreatDoor
