/-  -/
import Derived.Test.YtiljjhhkklnlgaaGreatDoorQeb
import Derived.Test.YtiljjhhkklnlgaaGreatDoorQRp5
import Derived.Test.YtiljjhhkklnlgaaGreatDoorQ3
import Derived.Test.YtiljjhhkklnlgaaGreatDoorQbg
import Derived.Test.YtiljjhhkklnlgaaGreatDoorQu

set_option linter.unusedVariables false
set_option linter.unusedSimpArgs false
set_option linter.unusedSectionVars false
set_option maxRecDepth 100000
set_option maxHeartbeats 3200000

namespace Go.Proofs.YtiljjhhkklnlgaaGreatDoor
open Go.RowKit Num
variable {O : Bs}

def isK (q : Rat) (k : Nat) (cn : Bool) (w : World) (v : Value) : Prop := ∃ b ao c xs ad d ds, v = .agg #[.bool b, .slice ao xs.length c, .slice ad ds.length d] ∧ Rq w b ao c xs ad d ds q k ∧ (cn = true ↔ canon b xs ds)
theorem isK.ext {q : Rat} {k : Nat} {cn : Bool} {w w' : World} {v : Value} (he : Ext w w') (h : isK q k cn w v) : isK q k cn w' v := by
 obtain ⟨b, ao, c, xs, ad, d, ds, rfl, h1, h2⟩ := h
 exact ⟨b, ao, c, xs, ad, d, ds, rfl, ⟨h1.rn.ext he, h1.rd.ext he, h1.vq, h1.ln, h1.ld⟩, h2⟩
def mK (q : Rat) (k : Nat) (cn : Bool) : MP := MP.of (isK q k cn) fun _ _ _ he h => h.ext he
theorem isK.r {q : Rat} {k : Nat} {cn : Bool} {w : World} {v : Value} (h : isK q k cn w v) : isR q k w v := by
 obtain ⟨b, ao, c, xs, ad, d, ds, rfl, h1, h2⟩ := h
 exact ⟨b, ao, c, xs, ad, d, ds, rfl, h1⟩
theorem isR.k {q : Rat} {k : Nat} {w : World} {v : Value} (h : isR q k w v) : ∃ cn, isK q k cn w v := by
 obtain ⟨b, ao, c, xs, ad, d, ds, rfl, h1⟩ := h
 exact ⟨@decide (canon b xs ds) (Classical.propDecidable _), b, ao, c, xs, ad, d, ds, rfl, h1, by simp⟩
theorem isC.k {q : Rat} {k : Nat} {w : World} {v : Value} (h : isC q k w v) : isK q k true w v := by
 obtain ⟨b, ao, c, xs, ad, d, ds, he, h1⟩ := h.r
 obtain ⟨ao', c', ad', d', he', h2, h3, h4⟩ := h
 subst he
 have e1 := Value.agg.inj he'
 simp only [Array.mk.injEq, List.cons.injEq, Value.bool.injEq, Value.slice.injEq, and_true] at e1
 obtain ⟨rfl, ⟨rfl, e2, rfl⟩, ⟨rfl, e3, rfl⟩⟩ := e1
 refine ⟨_, ao, c, nd q.num.natAbs, ad, d, nd q.den, by rw [e2, e3], ⟨h2, h3, by rw [val_nd, val_nd]; unfold rv; rw [iv_self]; exact Rat.mkRat_self q, h4.1, h4.2⟩, ?_⟩
 rw [canon_iff h2.dg h3.dg (q := q) (by rw [val_nd, val_nd]; unfold rv; rw [iv_self]; exact Rat.mkRat_self q)]
 simp
theorem isK.cv {q : Rat} {k : Nat} {cn : Bool} {w : World} {v : Value} (h : isK q k cn w v) : cv 3 v := h.r.cv
theorem isE.r {q : Rat} {er : Int} {k : Nat} {w : World} {v : Value} (h : isE q er k w v) : isR (if er = 0 then q else 0) k w v := by
 by_cases he : er = 0
 ·subst he; rw [if_pos rfl]; exact h.ok.r
 ·obtain ⟨ao, c, ad, d, rfl, h1, h2, h3⟩ := h
  rw [if_neg he]
  refine ⟨_, ao, c, _, ad, d, _, rfl, h1, h2, ?_, ?_, ?_⟩
  ·unfold rdn; rw [if_neg he]; exact rv_zero _ _
  ·unfold rnm; rw [if_neg he]; exact Nat.zero_le _
  ·unfold rdn; rw [if_neg he]; exact Nat.zero_le _
theorem isE.of {q : Rat} {k : Nat} {w : World} {v : Value} (h : isC q k w v) : isE q 0 k w v := by
 obtain ⟨ao, c, ad, d, rfl, h1, h2, h3⟩ := h
 exact ⟨ao, c, ad, d, rfl, h1, h2, fun _ => h3⟩
theorem isE.zero {q : Rat} {er : Int} {k : Nat} {w : World} (he : er ≠ 0) : isE q er k w (.agg #[.bool false, .slice none 0 0, .slice none 0 0]) := by
 have e1 : rnm q er = [] := by unfold rnm; rw [if_neg he]
 have e2 : rdn q er = [] := by unfold rdn; rw [if_neg he]
 have e3 : rsg q er = false := by unfold rsg; simp [he]
 refine ⟨none, 0, none, 0, by rw [e1, e2, e3]; rfl, ?_, ?_, fun h => absurd h he⟩
 ·rw [e1]; exact Rd.nil (by omega) (fun _ => rfl)
 ·rw [e2]; exact Rd.nil (by omega) (fun _ => rfl)
theorem isE.rdiv {p q : Rat} {k : Nat} {w : World} {v : Value} (h : isE (p / q) (zeq q) k w v) : isR (p / q) k w v := by
 have h1 := h.r
 by_cases hq : q = 0
 ·subst hq
  rw [show zeq 0 = 3 from rfl, if_neg (by decide)] at h1
  rw [Rat.div_def, Rat.inv_zero, Rat.mul_zero]
  exact h1
 ·rw [show zeq q = 0 from if_neg hq, if_pos rfl] at h1
  exact h1
theorem isZ.r {w : World} {v : Value} (h : isZ v) : isR 0 0 w v :=
 ⟨false, none, 0, [], none, 0, [], h, Rd.nil (by omega) (fun _ => rfl), Rd.nil (by omega) (fun _ => rfl), rv_zero _ _, Nat.le_refl _, Nat.le_refl _⟩
theorem isZ.e {q : Rat} {er : Int} {k : Nat} {w : World} {v : Value} (he : er ≠ 0) (h : isZ v) : isE q er k w v := h ▸ isE.zero he
theorem isC.e {q : Rat} {er : Int} {k : Nat} {w : World} {v : Value} (he : er = 0) (h : isC q k w v) : isE q er k w v := he ▸ isE.of h
theorem isE.mono {q : Rat} {er : Int} {k m : Nat} {w : World} {v : Value} (h : isE q er k w v) (hk : k ≤ m) : isE q er m w v := by
 obtain ⟨ao, c, ad, d, rfl, h1, h2, h3⟩ := h
 exact ⟨ao, c, ad, d, rfl, h1, h2, fun e => (h3 e).mono hk⟩
theorem RetRat.s {q : Rat} {k : Nat} {w : World} {e : Ending} {w' : World} (hs : Sz q k) (h : RetRat q w e w') : RetM (mC q k) O w e w' := by
 obtain ⟨ao, c, ad, d, rfl, h1, h2, h3⟩ := h
 exact ⟨_, rfl, ⟨ao, c, ad, d, rfl, h1.rd, h2.rd, hs⟩, h3⟩
theorem RetRatE.s {q : Rat} {er : Int} {k : Nat} {w : World} {e : Ending} {w' : World} (hs : Sz q k) (h : RetRatE q er w e w') : RetM (mT (mE q er k) (mV (.int .i64 er))) O w e w' := by
 obtain ⟨ao, c, ad, d, rfl, h1, h2, h3⟩ := h
 exact ⟨_, rfl, ⟨_, _, rfl, ⟨ao, c, ad, d, rfl, h1.rd, h2.rd, fun _ => hs⟩, rfl⟩, h3⟩
theorem RetB.s {x : Value} {w : World} {e : Ending} {w' : World} (h : RetB x w e w') : RetM (mV x) O w e w' := by
 obtain ⟨rfl, h⟩ := h
 exact ⟨_, rfl, rfl, h⟩
theorem Sz.zero : Sz 0 1 := ⟨nd_length_le (show (0 : Nat) < 4294967296 ^ 1 by omega), nd_length_le (show (1 : Nat) < 4294967296 ^ 1 by omega)⟩
theorem Sz.int {z : Int} {k : Nat} (h : z.natAbs < 4294967296 ^ k) (hk : 1 ≤ k) : Sz ((z : Int) : Rat) k := by
 refine ⟨nd_length_le h, nd_length_le ?_⟩
 show 1 < 4294967296 ^ k
 exact Nat.one_lt_pow (by omega) (by omega)
theorem isR.sz {q : Rat} {k : Nat} {w : World} {v : Value} (h : isR q k w v) : Sz q (k + 1) := by
 obtain ⟨b, ao, c, xs, ad, d, ds, rfl, h1⟩ := h
 exact h1.sz

theorem c_add {q p : Rat} {k m : Nat} (hk : k ≤ 999999) (hm : m ≤ 999999) {v u : Value} {w : World} (h : isR q k w v) (g : isR p m w u) (hT : Tb w) : Calls Tryz.prog 143 #[v, u] w (RetM (mC (q + p) (k + m + 3)) O w) := by
 obtain ⟨b1, ao1, c1, xs1, ad1, d1, ds1, rfl, h1⟩ := h
 obtain ⟨b2, ao2, c2, xs2, ad2, d2, ds2, rfl, h2⟩ := g
 exact (add3_any h1 h2 (by omega) (by omega) hT).mono fun _ _ r => RetRat.s (h1.sz.add h2.sz |>.mono (by omega)) r
theorem c_sub {q p : Rat} {k m : Nat} (hk : k ≤ 999999) (hm : m ≤ 999999) {v u : Value} {w : World} (h : isR q k w v) (g : isR p m w u) (hT : Tb w) : Calls Tryz.prog 140 #[v, u] w (RetM (mC (q - p) (k + m + 3)) O w) := by
 obtain ⟨b1, ao1, c1, xs1, ad1, d1, ds1, rfl, h1⟩ := h
 obtain ⟨b2, ao2, c2, xs2, ad2, d2, ds2, rfl, h2⟩ := g
 exact (sub3_any h1 h2 (by omega) (by omega) hT).mono fun _ _ r => RetRat.s (h1.sz.sub h2.sz |>.mono (by omega)) r
theorem c_mul {q p : Rat} {k m : Nat} (hk : k ≤ 999999) (hm : m ≤ 999999) {v u : Value} {w : World} (h : isR q k w v) (g : isR p m w u) (hT : Tb w) : Calls Tryz.prog 142 #[v, u] w (RetM (mC (q * p) (k + m + 3)) O w) := by
 obtain ⟨b1, ao1, c1, xs1, ad1, d1, ds1, rfl, h1⟩ := h
 obtain ⟨b2, ao2, c2, xs2, ad2, d2, ds2, rfl, h2⟩ := g
 exact (mul3_any h1 h2 (by omega) (by omega) hT).mono fun _ _ r => RetRat.s (h1.sz.mul h2.sz |>.mono (by omega)) r
theorem c_div {q p : Rat} {k m : Nat} (hk : k ≤ 999999) (hm : m ≤ 999999) {v u : Value} {w : World} (h : isR q k w v) (g : isR p m w u) (hT : Tb w) : Calls Tryz.prog 204 #[v, u] w (RetM (mT (mE (q / p) (zeq p) (k + m + 3)) (mV (.int .i64 (zeq p)))) O w) := by
 obtain ⟨b1, ao1, c1, xs1, ad1, d1, ds1, rfl, h1⟩ := h
 obtain ⟨b2, ao2, c2, xs2, ad2, d2, ds2, rfl, h2⟩ := g
 exact (div3_any h1 h2 (by omega) (by omega) hT).mono fun _ _ r => RetRatE.s (h1.sz.div h2.sz |>.mono (by omega)) r
theorem c_cmp {q p : Rat} {k m : Nat} (hk : k ≤ 999999) (hm : m ≤ 999999) {v u : Value} {w : World} (h : isR q k w v) (g : isR p m w u) (hT : Tb w) : Calls Tryz.prog 132 #[v, u] w (RetM (mV (.int .i64 (cmpQ q p))) O w) := by
 obtain ⟨b1, ao1, c1, xs1, ad1, d1, ds1, rfl, h1⟩ := h
 obtain ⟨b2, ao2, c2, xs2, ad2, d2, ds2, rfl, h2⟩ := g
 exact (cmp3_any h1 h2 (by omega) (by omega) hT).mono fun _ _ r => RetB.s r
theorem c_sign {q : Rat} {k : Nat} (hk : k ≤ 999999) {v : Value} {w : World} (h : isR q k w v) : Calls Tryz.prog 136 #[v] w (RetM (mV (.int .i64 (sgnQ q))) O w) := by
 obtain ⟨b, ao, c, xs, ad, d, ds, rfl, h1⟩ := h
 exact (sign3_any h1 (by omega)).mono fun _ _ r => RetB.s r
theorem c_abs {q : Rat} {k : Nat} (hk : k ≤ 999999) {v : Value} {w : World} (h : isR q k w v) (hT : Tb w) : Calls Tryz.prog 139 #[v] w (RetM (mC (rabs q) (k + 1)) O w) := by
 obtain ⟨b, ao, c, xs, ad, d, ds, rfl, h1⟩ := h
 exact (abs3_any h1 (by omega) hT).mono fun _ _ r => RetRat.s h1.sz.abs r
theorem c_trim {q : Rat} {k : Nat} (hk : k ≤ 999999) {v : Value} {w : World} (h : isR q k w v) (hT : Tb w) : Calls Tryz.prog 119 #[v] w (RetM (mC q (k + 1)) O w) := by
 obtain ⟨b, ao, c, xs, ad, d, ds, rfl, h1⟩ := h
 exact (trim3_any h1 (by omega) hT).mono fun _ _ r => RetRat.s h1.sz r
theorem r_add {q p : Rat} {k m : Nat} (hk : k ≤ 999999) (hm : m ≤ 999999) {v u : Value} {w : World} (h : isR q k w v) (g : isR p m w u) : Calls Tryz.prog 99 #[v, u] w (RetM (mC (q + p) (k + m + 3)) O w) := by
 obtain ⟨b1, ao1, c1, xs1, ad1, d1, ds1, rfl, h1⟩ := h
 obtain ⟨b2, ao2, c2, xs2, ad2, d2, ds2, rfl, h2⟩ := g
 exact (radd3_any h1 h2 (by omega) (by omega)).mono fun _ _ r => RetRat.s (h1.sz.add h2.sz |>.mono (by omega)) r
theorem r_sub {q p : Rat} {k m : Nat} (hk : k ≤ 999999) (hm : m ≤ 999999) {v u : Value} {w : World} (h : isR q k w v) (g : isR p m w u) : Calls Tryz.prog 141 #[v, u] w (RetM (mC (q - p) (k + m + 3)) O w) := by
 obtain ⟨b1, ao1, c1, xs1, ad1, d1, ds1, rfl, h1⟩ := h
 obtain ⟨b2, ao2, c2, xs2, ad2, d2, ds2, rfl, h2⟩ := g
 exact (rsub3_any h1 h2 (by omega) (by omega)).mono fun _ _ r => RetRat.s (h1.sz.sub h2.sz |>.mono (by omega)) r
theorem r_mul {q p : Rat} {k m : Nat} (hk : k ≤ 999999) (hm : m ≤ 999999) {v u : Value} {w : World} (h : isR q k w v) (g : isR p m w u) : Calls Tryz.prog 100 #[v, u] w (RetM (mC (q * p) (k + m + 3)) O w) := by
 obtain ⟨b1, ao1, c1, xs1, ad1, d1, ds1, rfl, h1⟩ := h
 obtain ⟨b2, ao2, c2, xs2, ad2, d2, ds2, rfl, h2⟩ := g
 exact (rmul3_any h1 h2 (by omega) (by omega)).mono fun _ _ r => RetRat.s (h1.sz.mul h2.sz |>.mono (by omega)) r
theorem r_over {q p : Rat} {k m : Nat} (hk : k ≤ 999999) (hm : m ≤ 999999) {v u : Value} {w : World} (h : isR q k w v) (g : isR p m w u) : Calls Tryz.prog 128 #[v, u] w (RetM (mC (q / p) (k + m + 3)) O w) := by
 obtain ⟨b1, ao1, c1, xs1, ad1, d1, ds1, rfl, h1⟩ := h
 obtain ⟨b2, ao2, c2, xs2, ad2, d2, ds2, rfl, h2⟩ := g
 exact (over3_any h1 h2 (by omega) (by omega)).mono fun _ _ r => RetRat.s (h1.sz.div h2.sz |>.mono (by omega)) r
theorem r_less {q p : Rat} {k m : Nat} (hk : k ≤ 999999) (hm : m ≤ 999999) {v u : Value} {w : World} (h : isR q k w v) (g : isR p m w u) : Calls Tryz.prog 135 #[v, u] w (RetM (mV (.bool (decide (q < p)))) O w) := by
 obtain ⟨b1, ao1, c1, xs1, ad1, d1, ds1, rfl, h1⟩ := h
 obtain ⟨b2, ao2, c2, xs2, ad2, d2, ds2, rfl, h2⟩ := g
 exact (rless3_any h1 h2 (by omega) (by omega)).mono fun _ _ r => RetB.s r
theorem r_trim {q : Rat} {k : Nat} (hk : k ≤ 999999) {v : Value} {w : World} (h : isR q k w v) : Calls Tryz.prog 20 #[v] w (RetM (mC q (k + 1)) O w) := by
 obtain ⟨b, ao, c, xs, ad, d, ds, rfl, h1⟩ := h
 exact (rtrim3_any h1 (by omega)).mono fun _ _ r => RetRat.s h1.sz r
theorem r_sign {q : Rat} {k : Nat} (hk : k ≤ 999999) {v : Value} {w : World} (h : isR q k w v) : Calls Tryz.prog 103 #[v] w (RetM (mV (.int .i64 (sgnQ q))) O w) := by
 obtain ⟨b, ao, c, xs, ad, d, ds, rfl, h1⟩ := h
 exact (rsign3_any h1 (by omega)).mono fun _ _ r => RetB.s r
theorem r_neg {q : Rat} {k : Nat} (hk : k ≤ 999999) {v : Value} {w : World} (h : isR q k w v) : Calls Tryz.prog 169 #[v] w (RetM (mC (-q) (k + 1)) O w) := by
 obtain ⟨b, ao, c, xs, ad, d, ds, rfl, h1⟩ := h
 exact (rneg3_any h1 (by omega)).mono fun _ _ r => RetRat.s h1.sz.neg r
theorem c_of (n : Int) {w : World} (h1 : -9223372036854775808 ≤ n) (h2 : n ≤ 9223372036854775807) : Calls Tryz.prog 111 #[.int .i64 n] w (RetM (mC ((n : Int) : Rat) 2) O w) :=
 (of3_any n w h1 h2).mono fun _ _ r => RetRat.s (Sz.int (by have := nd_int h1 h2; exact lt_of_nd this) (by omega)) r
theorem r_of (n : Int) {w : World} (h1 : -9223372036854775808 ≤ n) (h2 : n ≤ 9223372036854775807) : Calls Tryz.prog 101 #[.int .i64 n] w (RetM (mC ((n : Int) : Rat) 2) O w) :=
 (rof3_any n w h1 h2).mono fun _ _ r => RetRat.s (Sz.int (by have := nd_int h1 h2; exact lt_of_nd this) (by omega)) r
theorem Sz.frac {n m : Int} (h1 : -9223372036854775808 ≤ n) (h2 : n ≤ 9223372036854775807) (h3 : -9223372036854775808 ≤ m) (h4 : m ≤ 9223372036854775807) : Sz (Rat.divInt n m) 2 := by
 by_cases hm : m = 0
 ·subst hm; rw [Rat.divInt_zero]; exact Sz.zero.mono (by omega)
 ·rw [divInt_sign hm]
  refine Sz.of (by omega) ?_ (lt_of_nd (nd_int h3 h4))
  have := lt_of_nd (nd_int h1 h2)
  split <;> omega
theorem c_frac (n m : Int) {w : World} (h1 : -9223372036854775808 ≤ n) (h2 : n ≤ 9223372036854775807) (h3 : -9223372036854775808 ≤ m) (h4 : m ≤ 9223372036854775807) (hT : Tb w) : Calls Tryz.prog 104 #[.int .i64 n, .int .i64 m] w (RetM (mC (Rat.divInt n m) 2) O w) :=
 (frac3_any n m w h1 h2 h3 h4 hT).mono fun _ _ r => RetRat.s (Sz.frac h1 h2 h3 h4) r
theorem r_frac (n m : Int) {w : World} (h1 : -9223372036854775808 ≤ n) (h2 : n ≤ 9223372036854775807) (h3 : -9223372036854775808 ≤ m) (h4 : m ≤ 9223372036854775807) : Calls Tryz.prog 102 #[.int .i64 n, .int .i64 m] w (RetM (mC (Rat.divInt n m) 2) O w) :=
 (rfrac3_any n m w h1 h2 h3 h4).mono fun _ _ r => RetRat.s (Sz.frac h1 h2 h3 h4) r
def bitE (j : Int) : Int := if j < 0 ∨ 256 < j then 1 else 0
theorem bits_of {j : Int} (h : ¬ (j < 0 ∨ 256 < j)) : j = ((j.toNat : Nat) : Int) ∧ j.toNat ≤ 256 := by omega
def dnE (q : Rat) (j : Int) : Rat := if j < 0 ∨ 256 < j then 0 else dnQ q j.toNat
def upE (q : Rat) (j : Int) : Rat := if j < 0 ∨ 256 < j then 0 else upQ q j.toNat
theorem c_down {q : Rat} {k : Nat} (hk : k ≤ 999999) (j : Int) {v : Value} {w : World} (h : isR q k w v) (hT : Tb w) : Calls Tryz.prog 105 #[v, .int .i64 j] w (RetM (mT (mE (dnE q j) (bitE j) (k + 21)) (mV (.int .i64 (bitE j)))) O w) := by
 obtain ⟨b, ao, c, xs, ad, d, ds, rfl, h1⟩ := h
 by_cases hj : j < 0 ∨ 256 < j
 ·rw [show bitE j = 1 from if_pos hj, show dnE q j = 0 from if_pos hj]
  exact (down3_err h1 j hj 0).mono fun _ _ r => RetRatE.s (Sz.zero.mono (by omega)) r
 ·rw [show bitE j = 0 from if_neg hj, show dnE q j = _ from if_neg hj]
  obtain ⟨e, hj⟩ := bits_of hj
  have := down3_ok h1 (by omega) hT j.toNat hj
  rw [← e] at this
  exact this.mono fun _ _ r => RetRatE.s (by exact (floor_len' q h1.sz hj).mono (by omega)) r
theorem c_up {q : Rat} {k : Nat} (hk : k ≤ 999999) (j : Int) {v : Value} {w : World} (h : isR q k w v) (hT : Tb w) : Calls Tryz.prog 106 #[v, .int .i64 j] w (RetM (mT (mE (upE q j) (bitE j) (k + 21)) (mV (.int .i64 (bitE j)))) O w) := by
 obtain ⟨b, ao, c, xs, ad, d, ds, rfl, h1⟩ := h
 by_cases hj : j < 0 ∨ 256 < j
 ·rw [show bitE j = 1 from if_pos hj, show upE q j = 0 from if_pos hj]
  exact (up3_err h1 j hj 0).mono fun _ _ r => RetRatE.s (Sz.zero.mono (by omega)) r
 ·rw [show bitE j = 0 from if_neg hj, show upE q j = _ from if_neg hj]
  obtain ⟨e, hj⟩ := bits_of hj
  have := up3_ok h1 (by omega) hT j.toNat hj
  rw [← e] at this
  exact this.mono fun _ _ r => RetRatE.s (by exact ((floor_len' (-q) h1.sz.neg hj).neg).mono (by omega)) r
theorem r_down {q : Rat} {k : Nat} (hk : k ≤ 999999) (j : Int) {v : Value} {w : World} (h : isR q k w v) : Calls Tryz.prog 137 #[v, .int .i64 j] w (RetM (mT (mE (dnE q j) (bitE j) (k + 21)) (mV (.int .i64 (bitE j)))) O w) := by
 obtain ⟨b, ao, c, xs, ad, d, ds, rfl, h1⟩ := h
 by_cases hj : j < 0 ∨ 256 < j
 ·rw [show bitE j = 1 from if_pos hj, show dnE q j = 0 from if_pos hj]
  exact (rdown3_err h1 j hj 0).mono fun _ _ r => RetRatE.s (Sz.zero.mono (by omega)) r
 ·rw [show bitE j = 0 from if_neg hj, show dnE q j = _ from if_neg hj]
  obtain ⟨e, hj⟩ := bits_of hj
  have := rdown3_ok h1 (by omega) j.toNat hj
  rw [← e] at this
  exact this.mono fun _ _ r => RetRatE.s (by exact (floor_len' q h1.sz hj).mono (by omega)) r
theorem r_up {q : Rat} {k : Nat} (hk : k ≤ 999999) (j : Int) {v : Value} {w : World} (h : isR q k w v) : Calls Tryz.prog 138 #[v, .int .i64 j] w (RetM (mT (mE (upE q j) (bitE j) (k + 21)) (mV (.int .i64 (bitE j)))) O w) := by
 obtain ⟨b, ao, c, xs, ad, d, ds, rfl, h1⟩ := h
 by_cases hj : j < 0 ∨ 256 < j
 ·rw [show bitE j = 1 from if_pos hj, show upE q j = 0 from if_pos hj]
  exact (rup3_err h1 j hj 0).mono fun _ _ r => RetRatE.s (Sz.zero.mono (by omega)) r
 ·rw [show bitE j = 0 from if_neg hj, show upE q j = _ from if_neg hj]
  obtain ⟨e, hj⟩ := bits_of hj
  have := rup3_ok h1 (by omega) j.toNat hj
  rw [← e] at this
  exact this.mono fun _ _ r => RetRatE.s (by exact ((floor_len' (-q) h1.sz.neg hj).neg).mono (by omega)) r
theorem c_valid {q : Rat} {k : Nat} {cn : Bool} (hk : k ≤ 999999) {v : Value} {w : World} (h : isK q k cn w v) (hT : Tb w) : Calls Tryz.prog 115 #[v] w (RetM (mV (.bool cn)) O w) := by
 obtain ⟨b, ao, c, xs, ad, d, ds, rfl, h1, h2⟩ := h
 have := h1.ln
 have := h1.ld
 exact (valid3_any b ao ad c d xs ds w h1.rn h1.rd (by omega) (by omega) hT cn h2).mono fun _ _ r => RetB.s r
theorem r_same {q p : Rat} {k m : Nat} {cn : Bool} {v u : Value} {w : World} (h : isK q k cn w v) (g : isC p m w u) : Calls Tryz.prog 18 #[v, u] w (RetM (mV (.bool (cn && decide (q = p)))) O w) := by
 obtain ⟨b, ao, c, xs, ad, d, ds, rfl, h1, h2⟩ := h
 obtain ⟨ao', c', ad', d', rfl, g1, g2, _⟩ := g
 refine (same3_any b _ ao ad ao' ad' c d c' d' xs ds _ _ (cn && decide (q = p)) w h1.rn h1.rd g1 g2 ?_).mono fun _ _ r => RetB.s r
 rw [Bool.and_eq_true, decide_eq_true_eq, h2, canon_iff h1.rn.dg h1.rd.dg h1.vq]
 constructor
 ·rintro ⟨h3, rfl⟩; exact h3
 ·intro h3
  have e : q = p := by
   rw [← h1.vq, h3.1.1, h3.1.2, h3.2, val_nd, val_nd]; unfold rv; rw [iv_self]; exact Rat.mkRat_self p
  subst e
  exact ⟨h3, rfl⟩
theorem r_sameC {q : Rat} {k m : Nat} {v u : Value} {w : World} (h : isC q k w v) (g : isC q m w u) : Calls Tryz.prog 18 #[v, u] w (RetM (mV (.bool true)) O w) :=
 (r_same h.k g).mono fun _ _ r => by simpa using r
theorem r_sameE {q : Rat} {er : Int} {k m : Nat} {v u : Value} {w : World} (h : isE q er k w v) (g : isE q er m w u) : Calls Tryz.prog 18 #[v, u] w (RetM (mV (.bool true)) O w) := by
 obtain ⟨ao, c, ad, d, rfl, h1, h2, _⟩ := h
 obtain ⟨ao', c', ad', d', rfl, g1, g2, _⟩ := g
 exact (same3_any _ _ ao ad ao' ad' c d c' d' _ _ _ _ true w h1 h2 g1 g2 (by simp)).mono fun _ _ r => RetB.s r
def isS (s : Bool) (w : World) (v : Value) : Prop := ∃ b ao c xs ad d ds, v = .agg #[.bool b, .slice ao xs.length c, .slice ad ds.length d] ∧ Rd w ao c xs ∧ Rd w ad d ds ∧ (s = true ↔ xs.length ≤ 4 ∧ ds.length ≤ 4)
theorem isS.ext {s : Bool} {w w' : World} {v : Value} (he : Ext w w') (h : isS s w v) : isS s w' v := by
 obtain ⟨b, ao, c, xs, ad, d, ds, rfl, h1, h2, h3⟩ := h
 exact ⟨b, ao, c, xs, ad, d, ds, rfl, h1.ext he, h2.ext he, h3⟩
def mS (s : Bool) : MP := MP.of (isS s) fun _ _ _ he h => h.ext he
theorem isS.cv {s : Bool} {w : World} {v : Value} (h : isS s w v) : cv 3 v := by
 obtain ⟨b, ao, c, xs, ad, d, ds, rfl, h1, h2, h3⟩ := h
 exact ⟨_, rfl, rfl, noU3, by simp [Value.oneCell']⟩
theorem isS.r {w : World} {v : Value} (h : isS true w v) : ∃ q, isR q 4 w v := by
 obtain ⟨b, ao, c, xs, ad, d, ds, rfl, h1, h2, h3⟩ := h
 have h4 := h3.1 rfl
 exact ⟨_, b, ao, c, xs, ad, d, ds, rfl, h1, h2, rfl, h4.1, h4.2⟩
theorem k_small {s : Bool} {v : Value} {w : World} (h : isS s w v) : Calls Tryz.prog 13 #[v] w (RetM (mV (.bool s)) O w) := by
 obtain ⟨b, ao, c, xs, ad, d, ds, rfl, h1, h2, h3⟩ := h
 have e1 := h1.le
 have e2 := h1.cm
 have e3 := h2.le
 have e4 := h2.cm
 exact (smallrat_any b ao ad xs.length c ds.length d s w (by omega) (by omega) h3).mono fun _ _ r => RetB.s r
end Go.Proofs.YtiljjhhkklnlgaaGreatDoor

namespace Go.Proofs.YtiljjhhkklnlgaaGreatDoor
open Go.RowKit Num

theorem rlt_le {a b c : Rat} (h1 : a < b) (h2 : b ≤ c) : a < c := Rat.not_le.1 fun h => absurd (Rat.le_trans h2 h) (Rat.not_le.2 h1)
theorem rle_lt {a b c : Rat} (h1 : a ≤ b) (h2 : b < c) : a < c := Rat.not_le.1 fun h => absurd (Rat.le_trans h h1) (Rat.not_le.2 h2)
def mnQ (p q : Rat) : Rat := if q < p then q else p
def mxQ (p q : Rat) : Rat := if p < q then q else p
theorem cmpq_pos {p q : Rat} : 0 < cmpQ p q ↔ q < p := by
 unfold cmpQ
 by_cases h : p < q
 ·rw [if_pos h]; exact ⟨fun h1 => by omega, fun h1 => absurd h (Rat.not_lt.2 (Rat.le_of_lt h1))⟩
 ·rw [if_neg h]
  by_cases h2 : q < p
  ·rw [if_pos h2]; exact ⟨fun _ => h2, fun _ => by omega⟩
  ·rw [if_neg h2]; exact ⟨fun h1 => by omega, fun h1 => absurd h1 h2⟩
theorem cmpq_le {p q : Rat} : cmpQ p q ≤ 0 ↔ ¬ q < p := by rw [← cmpq_pos]; omega
theorem cmpq_ge {p q : Rat} : 0 ≤ cmpQ p q ↔ ¬ p < q := by
 have h := cmpQ_swap p q
 have := @cmpq_pos q p
 rw [← this]; omega
theorem ord_t {p q : Rat} (h : decide ((0 : Int) < cmpQ p q) = true) : mnQ p q = q ∧ mxQ p q = p := by
 have h1 := cmpq_pos.1 (of_decide_eq_true h)
 exact ⟨if_pos h1, if_neg (Rat.not_lt.2 (Rat.le_of_lt h1))⟩
theorem mx_of {p q : Rat} (h : ¬ q < p) : mxQ p q = q := by
 unfold mxQ
 split
 ·rfl
 ·exact Rat.le_antisymm (Rat.not_lt.1 h) (Rat.not_lt.1 ‹_›)
theorem ord_f {p q : Rat} (h : decide ((0 : Int) < cmpQ p q) = false) : mnQ p q = p ∧ mxQ p q = q := by
 have h1 : ¬ q < p := fun h2 => of_decide_eq_false h (cmpq_pos.2 h2)
 exact ⟨if_neg h1, mx_of h1⟩
theorem les_t {p q : Rat} (h : decide (cmpQ p q ≤ (0 : Int)) = true) : mnQ p q = p := if_neg (cmpq_le.1 (of_decide_eq_true h))
theorem les_f {p q : Rat} (h : decide (cmpQ p q ≤ (0 : Int)) = false) : mnQ p q = q := by
 refine if_pos (Classical.byContradiction fun hn => of_decide_eq_false h (cmpq_le.2 hn))
theorem gre_t {p q : Rat} (h : decide ((0 : Int) ≤ cmpQ p q) = true) : mxQ p q = p := if_neg (cmpq_ge.1 (of_decide_eq_true h))
theorem gre_f {p q : Rat} (h : decide ((0 : Int) ≤ cmpQ p q) = false) : mxQ p q = q := by
 refine if_pos (Classical.byContradiction fun hn => of_decide_eq_false h (cmpq_ge.2 hn))
theorem min_t {p q : Rat} (h : decide (q < p) = true) : mnQ p q = q := if_pos (of_decide_eq_true h)
theorem min_f {p q : Rat} (h : decide (q < p) = false) : mnQ p q = p := if_neg (of_decide_eq_false h)
theorem max_t {p q : Rat} (h : decide (p < q) = true) : mxQ p q = q := if_pos (of_decide_eq_true h)
theorem max_f {p q : Rat} (h : decide (p < q) = false) : mxQ p q = p := if_neg (of_decide_eq_false h)
theorem mn_le_mx (p q : Rat) : mnQ p q ≤ mxQ p q := by
 unfold mnQ mxQ
 split
 ·split
  ·exact Rat.le_refl
  ·exact Rat.le_of_lt ‹_›
 ·split
  ·exact Rat.le_of_lt ‹_›
  ·exact Rat.le_refl
theorem mn_le_l (p q : Rat) : mnQ p q ≤ p := by
 unfold mnQ; split
 ·exact Rat.le_of_lt ‹_›
 ·exact Rat.le_refl
theorem mn_le_r (p q : Rat) : mnQ p q ≤ q := by
 unfold mnQ; split
 ·exact Rat.le_refl
 ·exact Rat.not_lt.1 ‹_›
theorem le_mx_l (p q : Rat) : p ≤ mxQ p q := by
 unfold mxQ; split
 ·exact Rat.le_of_lt ‹_›
 ·exact Rat.le_refl
theorem le_mx_r (p q : Rat) : q ≤ mxQ p q := by
 unfold mxQ; split
 ·exact Rat.le_refl
 ·exact Rat.not_lt.1 ‹_›
theorem mn_eq {p q : Rat} (h : p ≤ q) : mnQ p q = p := if_neg (Rat.not_lt.2 h)
theorem mx_eq {p q : Rat} (h : p ≤ q) : mxQ p q = q := mx_of (Rat.not_lt.2 h)
def sgI (p q : Rat) : Int := if sgnQ p = sgnQ q then sgnQ p else 0
theorem sgn_pos {p : Rat} : 0 < sgnQ p ↔ 0 < p := by rw [sgnQ_eq, cmpq_pos]
theorem sgn_neg {p : Rat} : sgnQ p < 0 ↔ p < 0 := by
 rw [sgnQ_eq]
 have h := cmpQ_swap p 0
 have := @cmpq_pos 0 p
 rw [← this]; omega
theorem sgn_rng (p : Rat) : sgnQ p = -1 ∨ sgnQ p = 0 ∨ sgnQ p = 1 := by
 rw [sgnQ_eq]; unfold cmpQ; split
 ·exact Or.inl rfl
 ·split
  ·exact Or.inr (Or.inr rfl)
  ·exact Or.inr (Or.inl rfl)
theorem sgI_pos {p q : Rat} (h : 0 < sgnQ (mnQ p q)) : sgI p q = 1 := by
 have h1 := sgn_pos.1 h
 have hp := sgn_pos.2 (rlt_le h1 (mn_le_l p q))
 have hq := sgn_pos.2 (rlt_le h1 (mn_le_r p q))
 have r1 := sgn_rng p
 have r2 := sgn_rng q
 have e1 : sgnQ p = 1 := by omega
 have e2 : sgnQ q = 1 := by omega
 unfold sgI
 rw [e1, e2, if_pos rfl]
theorem sgI_neg {p q : Rat} (h : sgnQ (mxQ p q) < 0) : sgI p q = -1 := by
 have h1 := sgn_neg.1 h
 have hp := sgn_neg.2 (rle_lt (le_mx_l p q) h1)
 have hq := sgn_neg.2 (rle_lt (le_mx_r p q) h1)
 have r1 := sgn_rng p
 have r2 := sgn_rng q
 have e1 : sgnQ p = -1 := by omega
 have e2 : sgnQ q = -1 := by omega
 unfold sgI
 rw [e1, e2, if_pos rfl]
theorem sgI_zero {p q : Rat} (h1 : ¬ 0 < sgnQ (mnQ p q)) (h2 : ¬ sgnQ (mxQ p q) < 0) : sgI p q = 0 := by
 unfold sgI
 split
 ·rename_i e
  have r1 := sgn_rng p
  have a : ¬ 0 < sgnQ p := by
   intro h
   refine h1 ?_
   unfold mnQ
   split
   ·rw [← e]; exact h
   ·exact h
  have b : ¬ sgnQ p < 0 := by
   intro h
   refine h2 ?_
   unfold mxQ
   split
   ·rw [← e]; exact h
   ·exact h
  omega
 ·rfl
theorem dle {p q : Rat} : decide (cmpQ p q ≤ (0 : Int)) = !(decide (q < p)) := by
 rw [Bool.eq_iff_iff]; simp [cmpq_le]
theorem mn_lt {x p q : Rat} : mnQ p q < x ↔ p < x ∨ q < x := by
 unfold mnQ; split
 ·rename_i h; exact ⟨fun h1 => Or.inr h1, fun h1 => h1.elim (fun h2 => rlt_le h (Rat.le_of_lt h2)) id⟩
 ·rename_i h; exact ⟨fun h1 => Or.inl h1, fun h1 => h1.elim id (fun h2 => rle_lt (Rat.not_lt.1 h) h2)⟩
theorem mx_gt {x p q : Rat} : x < mxQ p q ↔ x < p ∨ x < q := by
 unfold mxQ; split
 ·rename_i h; exact ⟨fun h1 => Or.inr h1, fun h1 => h1.elim (fun h2 => rlt_le h2 (Rat.le_of_lt h)) id⟩
 ·rename_i h; exact ⟨fun h1 => Or.inl h1, fun h1 => h1.elim id (fun h2 => rlt_le h2 (Rat.not_lt.1 h))⟩
theorem in_eq {p q r s : Rat} : ((!(decide (p < mnQ r s)) && !(decide (mxQ r s < p))) && (!(decide (q < mnQ r s)) && !(decide (mxQ r s < q)))) = ((!(decide (mnQ p q < mnQ r s))) && (!(decide (mxQ r s < mxQ p q)))) := by
 rw [Bool.eq_iff_iff]
 simp only [Bool.and_eq_true, Bool.not_eq_true', decide_eq_false_iff_not, mn_lt, mx_gt]
 constructor
 ·rintro ⟨⟨a, b⟩, c, d⟩; exact ⟨fun h => h.elim a c, fun h => h.elim b d⟩
 ·rintro ⟨a, b⟩; exact ⟨⟨fun h => a (Or.inl h), fun h => b (Or.inl h)⟩, fun h => a (Or.inr h), fun h => b (Or.inr h)⟩
theorem va_eq {x y : Bool} {p q : Rat} : ((x && decide (p = mnQ p q)) && (y && decide (q = mxQ p q))) = ((x && y) && !(decide (q < p))) := by
 rw [Bool.eq_iff_iff]
 simp only [Bool.and_eq_true, Bool.not_eq_true', decide_eq_false_iff_not, decide_eq_true_eq]
 constructor
 ·rintro ⟨⟨a, b⟩, c, d⟩
  refine ⟨⟨a, c⟩, fun h => ?_⟩
  have e : mnQ p q = q := if_pos h
  rw [e] at b
  rw [b] at h
  exact Rat.lt_irrefl h
 ·rintro ⟨⟨a, b⟩, c⟩
  exact ⟨⟨a, (if_neg c).symm⟩, b, (mx_of c).symm⟩
theorem sg_t {p q : Rat} (h : decide (sgnQ p ≠ sgnQ q) = true) : (0 : Int) = sgI p q := (if_neg (of_decide_eq_true h)).symm
theorem sg_f {p q : Rat} (h : decide (sgnQ p ≠ sgnQ q) = false) : sgnQ p = sgI p q := by
 have := of_decide_eq_false h
 exact (if_pos (Classical.byContradiction fun hn => this hn)).symm
theorem sg_p {p q : Rat} (h : decide ((0 : Int) < sgnQ (mnQ p q)) = true) : (1 : Int) = sgI p q := (sgI_pos (of_decide_eq_true h)).symm
theorem sg_n {p q : Rat} (h : decide (sgnQ (mxQ p q) < (0 : Int)) = true) : (-1 : Int) = sgI p q := (sgI_neg (of_decide_eq_true h)).symm
theorem sg_z {p q : Rat} (h1 : decide ((0 : Int) < sgnQ (mnQ p q)) = false) (h2 : decide (sgnQ (mxQ p q) < (0 : Int)) = false) : (0 : Int) = sgI p q := (sgI_zero (of_decide_eq_false h1) (of_decide_eq_false h2)).symm
def sqL (p q : Rat) : Rat := if sgI p q = 0 then 0 else mnQ (p * p) (q * q)
theorem sq_t {p q : Rat} (h : decide (sgI p q = (0 : Int)) = true) : sqL p q = (((0 : Int)) : Rat) := if_pos (of_decide_eq_true h)
theorem sq_f {p q : Rat} (h : decide (sgI p q = (0 : Int)) = false) : sqL p q = mnQ (p * p) (q * q) := if_neg (of_decide_eq_false h)
def sgE (p q : Rat) : Int := if sgI p q = 0 then 3 else 0
theorem sgE_t {p q : Rat} (h : decide (sgI p q = (0 : Int)) = true) : sgE p q = 3 := if_pos (of_decide_eq_true h)
theorem sgE_f {p q : Rat} (h : decide (sgI p q = (0 : Int)) = false) : sgE p q = 0 := if_neg (of_decide_eq_false h)
def meE (a b : Rat) : Int := if b < a then 1 else 0
theorem meE_t {a b : Rat} (h : decide ((0 : Int) < cmpQ a b) = true) : meE a b = 1 := if_pos (cmpq_pos.1 (of_decide_eq_true h))
theorem meE_f {a b : Rat} (h : decide ((0 : Int) < cmpQ a b) = false) : meE a b = 0 := if_neg fun h2 => of_decide_eq_false h (cmpq_pos.2 h2)
theorem meE_t' {a b : Rat} (h : decide (b < a) = true) : meE a b = 1 := if_pos (of_decide_eq_true h)
theorem meE_f' {a b : Rat} (h : decide (b < a) = false) : meE a b = 0 := if_neg (of_decide_eq_false h)
theorem hull_le {p q r s : Rat} : mnQ (mnQ p q) (mnQ r s) ≤ mxQ (mxQ p q) (mxQ r s) :=
 Rat.le_trans (mn_le_l _ _) (Rat.le_trans (mn_le_mx p q) (le_mx_l _ _))
def mn4 (a b c d : Rat) : Rat := mnQ (mnQ a b) (mnQ c d)
def mx4 (a b c d : Rat) : Rat := mxQ (mxQ a b) (mxQ c d)
theorem mnQ_comm (a b : Rat) : mnQ a b = mnQ b a := by
 refine Rat.le_antisymm ?_ ?_
 ·rcases (by unfold mnQ; split <;> simp : mnQ b a = b ∨ mnQ b a = a) with h | h <;> rw [h]
  ·exact mn_le_r _ _
  ·exact mn_le_l _ _
 ·rcases (by unfold mnQ; split <;> simp : mnQ a b = a ∨ mnQ a b = b) with h | h <;> rw [h]
  ·exact mn_le_r _ _
  ·exact mn_le_l _ _
theorem mxQ_comm (a b : Rat) : mxQ a b = mxQ b a := by
 refine Rat.le_antisymm ?_ ?_
 ·rcases (by unfold mxQ; split <;> simp : mxQ a b = a ∨ mxQ a b = b) with h | h <;> rw [h]
  ·exact le_mx_r _ _
  ·exact le_mx_l _ _
 ·rcases (by unfold mxQ; split <;> simp : mxQ b a = b ∨ mxQ b a = a) with h | h <;> rw [h]
  ·exact le_mx_r _ _
  ·exact le_mx_l _ _
theorem mnmx (x y : Rat) : (mnQ x y = x ∧ mxQ x y = y) ∨ (mnQ x y = y ∧ mxQ x y = x) := by
 by_cases h : y < x
 ·exact Or.inr ⟨if_pos h, if_neg (Rat.not_lt.2 (Rat.le_of_lt h))⟩
 ·exact Or.inl ⟨if_neg h, mx_of h⟩
theorem mn4_ord {p q x y : Rat} : mn4 (p * x) (p * y) (q * x) (q * y) = mn4 (p * mnQ x y) (p * mxQ x y) (q * mnQ x y) (q * mxQ x y) := by
 rcases mnmx x y with ⟨h1, h2⟩ | ⟨h1, h2⟩ <;> rw [h1, h2]
 unfold mn4
 rw [mnQ_comm (p * x), mnQ_comm (q * x)]
theorem mx4_ord {p q x y : Rat} : mx4 (p * x) (p * y) (q * x) (q * y) = mx4 (p * mnQ x y) (p * mxQ x y) (q * mnQ x y) (q * mxQ x y) := by
 rcases mnmx x y with ⟨h1, h2⟩ | ⟨h1, h2⟩ <;> rw [h1, h2]
 unfold mx4
 rw [mxQ_comm (p * x), mxQ_comm (q * x)]
def btw (p q : Rat) (n : Int) : Rat := mnQ p q + (mxQ p q - mnQ p q) * Rat.divInt (n % 9) 8
theorem err_ne {j : Int} (h : decide (j ≠ (0 : Int)) = true) : j ≠ 0 := of_decide_eq_true h
theorem err_eq {j : Int} (h : decide (j ≠ (0 : Int)) = false) : j = 0 := Classical.byContradiction fun hn => of_decide_eq_false h hn
end Go.Proofs.YtiljjhhkklnlgaaGreatDoor

namespace Go.Proofs.YtiljjhhkklnlgaaGreatDoor
open Go.RowKit Num
variable {O : Bs}

theorem info_Rat : (Tryz.prog.info? 26).map (·.size) = some 3 := by kernel_rfl
theorem info_Interval : (Tryz.prog.info? 37).map (·.size) = some 6 := by kernel_rfl
theorem zero_Rat (w : World) : (zeroValue 26).run Tryz.prog w = .ok (.agg #[.bool false, .slice none 0 0, .slice none 0 0]) w := by kernel_rfl
theorem zero_Interval (w : World) : (zeroValue 37).run Tryz.prog w = .ok (.agg #[.bool false, .slice none 0 0, .slice none 0 0, .bool false, .slice none 0 0, .slice none 0 0]) w := by kernel_rfl
theorem bx_Rat {w : World} {g : Nat} (h : w.heap[g]? = some (.cells (Value.agg #[.bool false, .slice none 0 0, .slice none 0 0]).cells 26 (0, 0))) : bx O 26 3 mTop w g := ⟨_, h, rfl, noU3, by simp [Value.cells, Value.oneCell'], trivial⟩
theorem bx_Interval {w : World} {g : Nat} (h : w.heap[g]? = some (.cells (Value.agg #[.bool false, .slice none 0 0, .slice none 0 0, .bool false, .slice none 0 0, .slice none 0 0]).cells 37 (0, 0))) : bx O 37 6 mTop w g := ⟨_, h, rfl, noU6 noU3 noU3, by simp [Value.cells, Value.oneCell'], trivial⟩
theorem zero6 (w : World) : (mP mZ mZ).S O w (.agg #[.bool false, .slice none 0 0, .slice none 0 0, .bool false, .slice none 0 0, .slice none 0 0]) :=
 ⟨_, _, _, _, _, _, rfl, rfl, rfl⟩
theorem built_zero3 {ρ : Operand → Value} : Tryz.prog.built 26 ((#[] : Array (Nat × Operand)).map fun (i, x) => (i, ρ x)).toList = some #[.bool false, .slice none 0 0, .slice none 0 0] := by kernel_rfl
theorem built_zero6 {ρ : Operand → Value} : Tryz.prog.built 37 ((#[] : Array (Nat × Operand)).map fun (i, x) => (i, ρ x)).toList = some #[.bool false, .slice none 0 0, .slice none 0 0, .bool false, .slice none 0 0, .slice none 0 0] := by kernel_rfl
theorem built_pair0 (x0 x1 x2 y0 y1 y2 : Value) : Tryz.prog.built 37 [(0, .agg #[x0, x1, x2]), (1, .agg #[y0, y1, y2])] = some #[x0, x1, x2, y0, y1, y2] := by kernel_rfl
theorem built_pair {a : Act} {t u : Tmp} {x0 x1 x2 y0 y1 y2 : Value} (h1 : sl a t = .agg #[x0, x1, x2]) (h2 : sl a u = .agg #[y0, y1, y2]) : Tryz.prog.built 37 ((#[(0, Operand.tmp t), (1, Operand.tmp u)] : Array (Nat × Operand)).map fun (i, x) => (i, a.eval x)).toList = some #[x0, x1, x2, y0, y1, y2] := by
 have e1 : a.eval (.tmp t) = .agg #[x0, x1, x2] := h1
 have e2 : a.eval (.tmp u) = .agg #[y0, y1, y2] := h2
 simp only [List.map_toArray, List.map_cons, List.map_nil, e1, e2]
 exact built_pair0 _ _ _ _ _ _
theorem fa_Interval_0 {ρ : Operand → Value} {o : Oper} {w : World} {x : Operand} {g : Nat} (ho : o.op = .fieldAddr 37 x 0) (hx : ρ x = .pointer (some ⟨g, 0, none⟩)) : (execOp ρ o).run Tryz.prog w = .ok (.value (.pointer (some ⟨g, 0, none⟩))) w := run_fieldAddr ho hx Tryz.underlying37 rfl info_Rat
theorem fa_Interval_1 {ρ : Operand → Value} {o : Oper} {w : World} {x : Operand} {g : Nat} (ho : o.op = .fieldAddr 37 x 1) (hx : ρ x = .pointer (some ⟨g, 0, none⟩)) : (execOp ρ o).run Tryz.prog w = .ok (.value (.pointer (some ⟨g, 3, none⟩))) w := run_fieldAddr ho hx Tryz.underlying37 rfl info_Rat
theorem k_mod (n m : Int) {w : World} (hm : 1 ≤ m) (hm2 : m ≤ 1000000) (h1 : -9223372036854775808 ≤ n) (h2 : n ≤ 9223372036854775807) : Calls Tryz.prog 36 #[.int .i64 n, .int .i64 m] w (RetM (mV (.int .i64 (n % m))) O w) :=
 (Mod_all n m w hm hm2 h1 h2).mono fun _ _ r => by obtain ⟨rfl, rfl⟩ := r; exact ⟨_, rfl, rfl, Below.refl _ _⟩
def isA4 (qs : Nat → Rat) (k : Nat) (w : World) (v : Value) : Prop := ∃ x0 x1 x2 x3 x4 x5 x6 x7 x8 x9 xa xb, v = .agg #[x0, x1, x2, x3, x4, x5, x6, x7, x8, x9, xa, xb] ∧ isR (qs 0) k w (.agg #[x0, x1, x2]) ∧ isR (qs 1) k w (.agg #[x3, x4, x5]) ∧ isR (qs 2) k w (.agg #[x6, x7, x8]) ∧ isR (qs 3) k w (.agg #[x9, xa, xb])
def mA4 (qs : Nat → Rat) (k : Nat) : MP := MP.of (isA4 qs k) fun _ _ _ he ⟨x0, x1, x2, x3, x4, x5, x6, x7, x8, x9, xa, xb, h, h0, h1, h2, h3⟩ => ⟨x0, x1, x2, x3, x4, x5, x6, x7, x8, x9, xa, xb, h, h0.ext he, h1.ext he, h2.ext he, h3.ext he⟩
theorem info_Arr4 : (Tryz.prog.info? 105).map (·.size) = some 12 := by kernel_rfl
theorem noU12 {a b c d e f a' b' c' d' e' f' : Value} (h1 : noU #[a, b, c, d, e, f]) (h2 : noU #[a', b', c', d', e', f']) : noU #[a, b, c, d, e, f, a', b', c', d', e', f'] := by
 intro i x
 match i with
 | 0 => exact h1 0 x
 | 1 => exact h1 1 x
 | 2 => exact h1 2 x
 | 3 => exact h1 3 x
 | 4 => exact h1 4 x
 | 5 => exact h1 5 x
 | 6 => exact h2 0 x
 | 7 => exact h2 1 x
 | 8 => exact h2 2 x
 | 9 => exact h2 3 x
 | 10 => exact h2 4 x
 | 11 => exact h2 5 x
 | i + 12 => simp
theorem isA4.cv {qs : Nat → Rat} {k : Nat} {w : World} {v : Value} (h : isA4 qs k w v) : cv 12 v := by
 obtain ⟨x0, x1, x2, x3, x4, x5, x6, x7, x8, x9, xa, xb, rfl, h0, h1, h2, h3⟩ := h
 obtain ⟨_, e0, _, n0, o0⟩ := h0.cv
 obtain ⟨_, e1, _, n1, o1⟩ := h1.cv
 obtain ⟨_, e2, _, n2, o2⟩ := h2.cv
 obtain ⟨_, e3, _, n3, o3⟩ := h3.cv
 obtain rfl := Value.agg.inj e0
 obtain rfl := Value.agg.inj e1
 obtain rfl := Value.agg.inj e2
 obtain rfl := Value.agg.inj e3
 refine ⟨_, rfl, rfl, noU12 (noU6 n0 n1) (noU6 n2 n3), ?_⟩
 simp at o0 o1 o2 o3 ⊢
 simp [o0, o1, o2, o3]
theorem bx.a4 {T : TypeId} {qs : Nat → Rat} {k : Nat} {w : World} {g : Nat} (h : bx O T 12 (mA4 qs k) w g) (i : Nat) (hi : i < 4) : ∃ x0 x1 x2, w.rangeAt g (3 * i) [x0, x1, x2] ∧ isR (qs i) k w (.agg #[x0, x1, x2]) := by
 obtain ⟨cs, e1, e2, e3, e4, x0, x1, x2, x3, x4, x5, x6, x7, x8, x9, xa, xb, he, h0, h1, h2, h3⟩ := h
 obtain rfl := Value.agg.inj he
 have key : ∀ a b c, (∀ j v, [a, b, c][j]? = some v → (#[x0, x1, x2, x3, x4, x5, x6, x7, x8, x9, xa, xb] : Array Value)[3 * i + j]? = some v) → w.rangeAt g (3 * i) [a, b, c] := fun a b c hk j v hv => by
  rw [cell_of_row w g _ _ T (0, 0) e1]; exact hk j v hv
 match i, hi with
 | 0, _ => exact ⟨x0, x1, x2, key _ _ _ (fun j v hv => match j with | 0 => by simpa using hv | 1 => by simpa using hv | 2 => by simpa using hv | j + 3 => by simp at hv), h0⟩
 | 1, _ => exact ⟨x3, x4, x5, key _ _ _ (fun j v hv => match j with | 0 => by simpa using hv | 1 => by simpa using hv | 2 => by simpa using hv | j + 3 => by simp at hv), h1⟩
 | 2, _ => exact ⟨x6, x7, x8, key _ _ _ (fun j v hv => match j with | 0 => by simpa using hv | 1 => by simpa using hv | 2 => by simpa using hv | j + 3 => by simp at hv), h2⟩
 | 3, _ => exact ⟨x9, xa, xb, key _ _ _ (fun j v hv => match j with | 0 => by simpa using hv | 1 => by simpa using hv | 2 => by simpa using hv | j + 3 => by simp at hv), h3⟩
theorem addr_a4 {ρ : Operand → Value} {o : Oper} {w : World} {x y : Operand} {g i : Nat} (ho : o.op = .indexAddr 105 x y) (hx : ρ x = .pointer (some ⟨g, 0, none⟩)) (hy : ρ y = .int .i64 (i : Int)) (hi : i < 4) : (execOp ρ o).run Tryz.prog w = .ok (.value (.pointer (some ⟨g, 3 * i, none⟩))) w := by
 unfold execOp
 rw [ho]
 simp only [hx, hy]
 have h4 : i = 0 ∨ i = 1 ∨ i = 2 ∨ i = 3 := by omega
 rcases h4 with rfl | rfl | rfl | rfl <;> (refine Eq.trans (b := Result.ok (Next.value (Value.pointer (some ⟨g, 3 * _, none⟩))) w) ?_ rfl; kernel_rfl)
theorem run_neqb {ρ : Operand → Value} {o : Oper} {w : World} {x y : Operand} {T' : TypeId} {m n : Bool} (ho : o.op = .binOp .neq 4 x y T') (hx : ρ x = .bool m) (hy : ρ y = .bool n) : (execOp ρ o).run Tryz.prog w = .ok (.value (.bool (m != n))) w := by
 unfold execOp
 rw [ho]
 simp only [hx, hy]
 cases m <;> cases n
 ·refine Eq.trans (b := Result.ok (Next.value (.bool (false != false))) w) ?_ rfl; kernel_rfl
 ·refine Eq.trans (b := Result.ok (Next.value (.bool (false != true))) w) ?_ rfl; kernel_rfl
 ·refine Eq.trans (b := Result.ok (Next.value (.bool (true != false))) w) ?_ rfl; kernel_rfl
 ·refine Eq.trans (b := Result.ok (Next.value (.bool (true != true))) w) ?_ rfl; kernel_rfl
theorem run_neqb_same {ρ : Operand → Value} {o : Oper} {w : World} {x y : Operand} {T' : TypeId} {m : Bool} (ho : o.op = .binOp .neq 4 x y T') (hx : ρ x = .bool m) (hy : ρ y = .bool m) : (execOp ρ o).run Tryz.prog w = .ok (.value (.bool false)) w := by
 rw [run_neqb ho hx hy]; simp
theorem bx_small {T : TypeId} {x y : Bool} {w : World} {g : Nat} (h : bx O T 6 (mP (mS x) (mS y)) w g) (hx : x = true) (hy : y = true) : ∃ p q c d, bx O T 6 (mP (mK p 4 c) (mK q 4 d)) w g := by
 subst hx hy
 obtain ⟨cs, h1, h2, h3, h4, x0, x1, x2, y0, y1, y2, e, k1, k2⟩ := h
 obtain ⟨p, h5⟩ := isS.r k1
 obtain ⟨q, h6⟩ := isS.r k2
 obtain ⟨c, h7⟩ := h5.k
 obtain ⟨d, h8⟩ := h6.k
 exact ⟨p, q, c, d, cs, h1, h2, h3, h4, x0, x1, x2, y0, y1, y2, e, h7, h8⟩
theorem bx_small3 {T : TypeId} {x : Bool} {w : World} {g : Nat} (h : bx O T 3 (mS x) w g) (hx : x = true) : ∃ p c, bx O T 3 (mK p 4 c) w g := by
 subst hx
 obtain ⟨cs, h1, h2, h3, h4, k1⟩ := h
 obtain ⟨p, h5⟩ := isS.r k1
 obtain ⟨c, h7⟩ := h5.k
 exact ⟨p, c, cs, h1, h2, h3, h4, h7⟩
def qs4 (a b c d : Rat) : Nat → Rat | 0 => a | 1 => b | 2 => c | _ => d
def isA4C (qs : Nat → Rat) (k : Nat) (w : World) (v : Value) : Prop := ∃ x0 x1 x2 x3 x4 x5 x6 x7 x8 x9 xa xb, v = .agg #[x0, x1, x2, x3, x4, x5, x6, x7, x8, x9, xa, xb] ∧ isC (qs 0) k w (.agg #[x0, x1, x2]) ∧ isC (qs 1) k w (.agg #[x3, x4, x5]) ∧ isC (qs 2) k w (.agg #[x6, x7, x8]) ∧ isC (qs 3) k w (.agg #[x9, xa, xb])
def mA4C (qs : Nat → Rat) (k : Nat) : MP := MP.of (isA4C qs k) fun _ _ _ he ⟨x0, x1, x2, x3, x4, x5, x6, x7, x8, x9, xa, xb, h, h0, h1, h2, h3⟩ => ⟨x0, x1, x2, x3, x4, x5, x6, x7, x8, x9, xa, xb, h, h0.ext he, h1.ext he, h2.ext he, h3.ext he⟩
theorem isA4C.cv {qs : Nat → Rat} {k : Nat} {w : World} {v : Value} (h : isA4C qs k w v) : cv 12 v := by
 obtain ⟨x0, x1, x2, x3, x4, x5, x6, x7, x8, x9, xa, xb, rfl, h0, h1, h2, h3⟩ := h
 obtain ⟨_, e0, _, n0, o0⟩ := h0.cv
 obtain ⟨_, e1, _, n1, o1⟩ := h1.cv
 obtain ⟨_, e2, _, n2, o2⟩ := h2.cv
 obtain ⟨_, e3, _, n3, o3⟩ := h3.cv
 obtain rfl := Value.agg.inj e0
 obtain rfl := Value.agg.inj e1
 obtain rfl := Value.agg.inj e2
 obtain rfl := Value.agg.inj e3
 refine ⟨_, rfl, rfl, noU12 (noU6 n0 n1) (noU6 n2 n3), ?_⟩
 simp at o0 o1 o2 o3 ⊢
 simp [o0, o1, o2, o3]
theorem bx.a4c {T : TypeId} {qs : Nat → Rat} {k : Nat} {w : World} {g : Nat} (h : bx O T 12 (mA4C qs k) w g) (i : Nat) (hi : i < 4) : ∃ x0 x1 x2, w.rangeAt g (3 * i) [x0, x1, x2] ∧ isC (qs i) k w (.agg #[x0, x1, x2]) := by
 obtain ⟨cs, e1, e2, e3, e4, x0, x1, x2, x3, x4, x5, x6, x7, x8, x9, xa, xb, he, h0, h1, h2, h3⟩ := h
 obtain rfl := Value.agg.inj he
 have key : ∀ a b c, (∀ j v, [a, b, c][j]? = some v → (#[x0, x1, x2, x3, x4, x5, x6, x7, x8, x9, xa, xb] : Array Value)[3 * i + j]? = some v) → w.rangeAt g (3 * i) [a, b, c] := fun a b c hk j v hv => by
  rw [cell_of_row w g _ _ T (0, 0) e1]; exact hk j v hv
 match i, hi with
 | 0, _ => exact ⟨x0, x1, x2, key _ _ _ (fun j v hv => match j with | 0 => by simpa using hv | 1 => by simpa using hv | 2 => by simpa using hv | j + 3 => by simp at hv), h0⟩
 | 1, _ => exact ⟨x3, x4, x5, key _ _ _ (fun j v hv => match j with | 0 => by simpa using hv | 1 => by simpa using hv | 2 => by simpa using hv | j + 3 => by simp at hv), h1⟩
 | 2, _ => exact ⟨x6, x7, x8, key _ _ _ (fun j v hv => match j with | 0 => by simpa using hv | 1 => by simpa using hv | 2 => by simpa using hv | j + 3 => by simp at hv), h2⟩
 | 3, _ => exact ⟨x9, xa, xb, key _ _ _ (fun j v hv => match j with | 0 => by simpa using hv | 1 => by simpa using hv | 2 => by simpa using hv | j + 3 => by simp at hv), h3⟩
theorem index_a4c {ρ : Operand → Value} {o : Oper} {w w' : World} {x y : Operand} {qs : Nat → Rat} {k i : Nat} {v : Value} {C : Value → Prop} (h : isA4C qs k w v) (ho : o.op = .index 105 x y) (hx : ρ x = v) (hy : ρ y = .int .i64 (i : Int)) (hi : i < 4) (hC : ∀ u, isC (qs i) k w u → C u) : ∃ u, (execOp ρ o).run Tryz.prog w' = .ok (.value u) w' ∧ C u := by
 obtain ⟨x0, x1, x2, x3, x4, x5, x6, x7, x8, x9, xa, xb, rfl, h0, h1, h2, h3⟩ := h
 unfold execOp
 rw [ho]
 simp only [hx, hy]
 match i, hi with
 | 0, _ => exact ⟨.agg #[x0, x1, x2], by kernel_rfl, hC _ h0⟩
 | 1, _ => exact ⟨.agg #[x3, x4, x5], by kernel_rfl, hC _ h1⟩
 | 2, _ => exact ⟨.agg #[x6, x7, x8], by kernel_rfl, hC _ h2⟩
 | 3, _ => exact ⟨.agg #[x9, xa, xb], by kernel_rfl, hC _ h3⟩
theorem built_a40 (x0 x1 x2 x3 x4 x5 x6 x7 x8 x9 xa xb : Value) : Tryz.prog.built 105 [(0, .agg #[x0, x1, x2]), (1, .agg #[x3, x4, x5]), (2, .agg #[x6, x7, x8]), (3, .agg #[x9, xa, xb])] = some #[x0, x1, x2, x3, x4, x5, x6, x7, x8, x9, xa, xb] := by kernel_rfl
theorem built_a4 {a : Act} {t u r s : Tmp} {x0 x1 x2 x3 x4 x5 x6 x7 x8 x9 xa xb : Value} (h1 : sl a t = .agg #[x0, x1, x2]) (h2 : sl a u = .agg #[x3, x4, x5]) (h3 : sl a r = .agg #[x6, x7, x8]) (h4 : sl a s = .agg #[x9, xa, xb]) : Tryz.prog.built 105 ((#[(0, Operand.tmp t), (1, Operand.tmp u), (2, Operand.tmp r), (3, Operand.tmp s)] : Array (Nat × Operand)).map fun (i, x) => (i, a.eval x)).toList = some #[x0, x1, x2, x3, x4, x5, x6, x7, x8, x9, xa, xb] := by
 have e1 : a.eval (.tmp t) = .agg #[x0, x1, x2] := h1
 have e2 : a.eval (.tmp u) = .agg #[x3, x4, x5] := h2
 have e3 : a.eval (.tmp r) = .agg #[x6, x7, x8] := h3
 have e4 : a.eval (.tmp s) = .agg #[x9, xa, xb] := h4
 simp only [List.map_toArray, List.map_cons, List.map_nil, e1, e2, e3, e4]
 exact built_a40 _ _ _ _ _ _ _ _ _ _ _ _
theorem args_0 {ρ : Operand → Value} : (#[] : Array Operand).map ρ = #[] := by simp
theorem args_1 {ρ : Operand → Value} {x : Operand} {v : Value} (h : ρ x = v) : #[x].map ρ = #[v] := by simp [h]
theorem args_2 {ρ : Operand → Value} {x y : Operand} {v u : Value} (h : ρ x = v) (g : ρ y = u) : #[x, y].map ρ = #[v, u] := by simp [h, g]
theorem prC {p q : Rat} {k : Nat} {w : World} {v : Value} (h : (mP (mC p k) (mC q k)).S O w v) : (mP (mR p k) (mR q k)).S O w v := mP_imp (fun _ h => isC.r h) (fun _ h => isC.r h) h
theorem prK {p q : Rat} {k : Nat} {x y : Bool} {w : World} {v : Value} (h : (mP (mK p k x) (mK q k y)).S O w v) : (mP (mR p k) (mR q k)).S O w v := mP_imp (fun _ h => isK.r h) (fun _ h => isK.r h) h
theorem bld_pair {a : Act} {w : World} {o : Oper} {t u : Tmp} {m1 m2 : MP} (ho : o.op = .build 37 #[(0, Operand.tmp t), (1, Operand.tmp u)]) (h1 : m1.S O w (sl a t)) (h2 : m2.S O w (sl a u)) (c1 : cv 3 (sl a t)) (c2 : cv 3 (sl a u)) : ∃ v, (execOp a.eval o).run Tryz.prog w = .ok (.value v) w ∧ (mP m1 m2).S O w v := by
 obtain ⟨x0, x1, x2, q1⟩ := cv3 c1
 obtain ⟨y0, y1, y2, q2⟩ := cv3 c2
 rw [q1] at h1
 rw [q2] at h2
 exact ⟨_, run_build_op _ _ ho (built_pair q1 q2), x0, x1, x2, y0, y1, y2, rfl, h1, h2⟩
theorem bld_z6 {a : Act} {w : World} {o : Oper} (ho : o.op = .build 37 #[]) : ∃ v, (execOp a.eval o).run Tryz.prog w = .ok (.value v) w ∧ (mP mZ mZ).S O w v := ⟨_, run_build_op _ _ ho built_zero6, zero6 w⟩
theorem bld_a4c {a : Act} {w : World} {o : Oper} {t u r s : Tmp} {q0 q1 q2 q3 : Rat} {k : Nat} (ho : o.op = .build 105 #[(0, Operand.tmp t), (1, Operand.tmp u), (2, Operand.tmp r), (3, Operand.tmp s)]) (h0 : isC q0 k w (sl a t)) (h1 : isC q1 k w (sl a u)) (h2 : isC q2 k w (sl a r)) (h3 : isC q3 k w (sl a s)) : ∃ v, (execOp a.eval o).run Tryz.prog w = .ok (.value v) w ∧ (mA4C (qs4 q0 q1 q2 q3) k).S O w v := by
 obtain ⟨_, _, _, e0⟩ := cv3 h0.cv
 obtain ⟨_, _, _, e1⟩ := cv3 h1.cv
 obtain ⟨_, _, _, e2⟩ := cv3 h2.cv
 obtain ⟨_, _, _, e3⟩ := cv3 h3.cv
 rw [e0] at h0
 rw [e1] at h1
 rw [e2] at h2
 rw [e3] at h3
 exact ⟨_, run_build_op _ _ ho (built_a4 e0 e1 e2 e3), _, _, _, _, _, _, _, _, _, _, _, _, rfl, h0, h1, h2, h3⟩
theorem idx_a4c {a : Act} {w : World} {o : Oper} {t : Tmp} {y : Operand} {qs : Nat → Rat} {k i : Nat} (h : isA4C qs k w (sl a t)) (hy : a.eval y = .int .i64 (i : Int)) (hi : i < 4) (ho : o.op = .index 105 (.tmp t) y := by rfl) : ∃ v, (execOp a.eval o).run Tryz.prog w = .ok (.value v) w ∧ (mC (qs i) k).S O w v := index_a4c h ho rfl hy hi fun _ hu => hu
end Go.Proofs.YtiljjhhkklnlgaaGreatDoor

namespace Go.Proofs.YtiljjhhkklnlgaaGreatDoor
open Go.RowKit Num

theorem built_ints0 (m n : Int) : Tryz.prog.builtSlice 3 2 [(0, .int .i64 m), (1, .int .i64 n)] = some #[.int .i64 m, .int .i64 n] := by kernel_rfl
theorem run_ints2 {a : Act} {o : Oper} {w : World} {t u : Tmp} {m n : Int} (ho : o.op = .buildSlice 47 2 #[(0, .tmp t), (1, .tmp u)]) (h0 : a.eval (.tmp t) = .int .i64 m) (h1 : a.eval (.tmp u) = .int .i64 n) :
  (execOp a.eval o).run Tryz.prog w = .ok (.value (.slice (some ⟨w.heap.size, 0, none⟩) 2 2)) (w.alloc (.cells #[.int .i64 m, .int .i64 n] 3)) := by
 refine run_buildSliceR ho Tryz.underlying47 ?_
 simp only [List.map_toArray, List.map_cons, List.map_nil, h0, h1]
 exact built_ints0 _ _
theorem run_load_i {ρ : Operand → Value} {o : Oper} {w : World} {x : Operand} {g off : Nat} {n : Int} (ho : o.op = .load 3 x) (hx : ρ x = .pointer (some ⟨g, off, none⟩)) (hc : w.cell? ⟨g, off, none⟩ = some (.int .i64 n)) : (execOp ρ o).run Tryz.prog w = .ok (.value (.int .i64 n)) w := by
 unfold execOp
 rw [ho]
 simp [hx, Instr.loadAt, Instr.sureAddr, go_sem, loadVar, isAgg, run_underlying Tryz.underlying3, hc]
theorem addr_sli2_0 {ρ : Operand → Value} {o : Oper} {w : World} {x y : Operand} {g : Nat} (ho : o.op = .indexAddr 47 x y) (hx : ρ x = .slice (some ⟨g, 0, none⟩) 2 2) (hy : ρ y = .int .i64 0) : (execOp ρ o).run Tryz.prog w = .ok (.value (.pointer (some ⟨g, 0, none⟩))) w := by
 unfold execOp
 rw [ho]
 simp only [hx, hy]
 refine Eq.trans (b := Result.ok (Next.value (Value.pointer (some ⟨g, 0, none⟩))) w) ?_ rfl
 kernel_rfl
theorem addr_sli2_1 {ρ : Operand → Value} {o : Oper} {w : World} {x y : Operand} {g : Nat} (ho : o.op = .indexAddr 47 x y) (hx : ρ x = .slice (some ⟨g, 0, none⟩) 2 2) (hy : ρ y = .int .i64 1) : (execOp ρ o).run Tryz.prog w = .ok (.value (.pointer (some ⟨g, 1, none⟩))) w := by
 unfold execOp
 rw [ho]
 simp only [hx, hy]
 refine Eq.trans (b := Result.ok (Next.value (Value.pointer (some ⟨g, 1, none⟩))) w) ?_ rfl
 kernel_rfl
theorem t_newS {P : Program} {ops : Array Oper} {rest : List Oper} {o : Oper} {a : Act} {w W0 : World} {Q : Exit → Act → World → Prop} {N : Nat} {O O0 : Bs} {L : List (Nat × MP)} {X : List RX} (S : St N O0 O W0 a w L X) {d : Tmp} {T : TypeId} {n k : Nat} (m : MP) {cs : Array Value} (hr : (execOp a.eval o).run P w = .ok (.value (.slice (some ⟨w.heap.size, 0, none⟩) k k)) (w.alloc (.cells cs T)))
  (hm : ∀ O' w' g, (∀ v, m.S O w v → m.S O' w' v) → w'.heap[g]? = some (.cells cs T (0, 0)) → bx O' T n m w' g)
  (h : ∀ O' a' w' g, St N O0 O' W0 a' w' (setL d (mV (.slice (some ⟨g, 0, none⟩) k k)) L) (.box g T n m :: X) → wpList P ops Q rest a' w') (hg : o.guard = none := by rfl) (hd : o.dst = some d := by rfl) (hlt : d < N := by decide) : wpList P ops Q (o :: rest) a w :=
 tl_newS hg hd hr (by rw [S.z]; exact hlt) fun a' w' g z d' hs hf hge hc hb => by
  have hA : ∀ x, x = g → w.heap.size ≤ x := fun x e => by rw [e, hge]; exact Nat.le_refl _
  have hlt' : g < w'.heap.size := (Array.getElem?_eq_some_iff.1 hc).1
  have S1 := S.more (A := fun x => x = g) hA hb ((S.s.more hA).kp (Kp.of hb)) (fun x e => e ▸ hlt')
  refine h (fun x => O x ∨ x = g) a' w' g (St.add ⟨z.trans S.z, d'.trans S.d, S1.B, S1.s.set hs hf, S1.x, S1.o, S1.ob, S1.b0⟩ (fun x e => by cases e; exact ⟨Or.inr rfl, by rw [hge]; exact S.B.size⟩) (hm _ w' g (fun v hv => m.mono _ _ _ _ (Kp.of hb) (m.more _ _ _ _ hA hv)) hc) fun p hp x e e2 => ?_)
  cases e
  have := p.lt _ _ _ (S.x.f p hp) e2
  omega
theorem t_ints2 {P : Program} {ops : Array Oper} {rest : List Oper} {o : Oper} {a : Act} {w W0 : World} {Q : Exit → Act → World → Prop} {N : Nat} {O O0 : Bs} {L : List (Nat × MP)} {X : List RX} (S : St N O0 O W0 a w L X) {d : Tmp} {T : TypeId} {x y : Int} (hr : (execOp a.eval o).run P w = .ok (.value (.slice (some ⟨w.heap.size, 0, none⟩) 2 2)) (w.alloc (.cells #[.int .i64 x, .int .i64 y] T)))
  (h : ∀ O' a' w' g, St N O0 O' W0 a' w' (setL d (mV (.slice (some ⟨g, 0, none⟩) 2 2)) L) (.box g T 2 (mV (.agg #[.int .i64 x, .int .i64 y])) :: X) → wpList P ops Q rest a' w') (hg : o.guard = none := by rfl) (hd : o.dst = some d := by rfl) (hlt : d < N := by decide) : wpList P ops Q (o :: rest) a w :=
 t_newS S (mV _) hr (fun _ _ _ _ hh => bx_ints hh) h hg hd hlt
end Go.Proofs.YtiljjhhkklnlgaaGreatDoor

namespace Go.Proofs.YtiljjhhkklnlgaaGreatDoor
open Go.ChangeShapes Go.WideShapes Go.ChangeAt Go.RowKit
variable {O : Bs}

theorem rat_of_trod {H : Type} {enc : TypeId × Value → H} {W : World} {base fuel : Nat} {v0 v1 v2 : Value} {y : _}
  (hf : DataW.trod enc Tryz.prog W base (fun _ => true) true fuel 26 [v0, v1, v2] = some y) : ∃ x, (mS x).S O W (.agg #[v0, v1, v2]) := by
 obtain ⟨y0, y1, n, hx, _, h0, h1⟩ := trod_struct2 Tryz.underlying26 hf
 have c24 : Tryz.prog.cellsOf 24 = 2 := by kernel_rfl
 have c22 : Tryz.prog.cellsOf 22 = 1 := by kernel_rfl
 simp only [c24, c22] at h0 h1
 have h0' : DataW.trod enc Tryz.prog W base (fun _ => true) true n 24 [v0, v1] = some y0 := by simpa using h0
 have h1' : DataW.trod enc Tryz.prog W base (fun _ => true) true n 22 [v2] = some y1 := by simpa using h1
 obtain ⟨z0, z1, m, hx2, _, g0, g1⟩ := trod_struct2 Tryz.underlying24 h0'
 have c4 : Tryz.prog.cellsOf 4 = 1 := by kernel_rfl
 simp only [c4, c22] at g0 g1
 have g0' : DataW.trod enc Tryz.prog W base (fun _ => true) true m 4 [v0] = some z0 := by simpa using g0
 have g1' : DataW.trod enc Tryz.prog W base (fun _ => true) true m 22 [v1] = some z1 := by simpa using g1
 obtain ⟨b, hb, _⟩ := DataW.trod_bool Tryz.underlying4 g0'
 simp only [List.cons.injEq, and_true] at hb
 subst hb
 have key : ∀ (m : Nat) (v : Value) y, DataW.trod enc Tryz.prog W base (fun _ => true) true m 22 [v] = some y → ∃ ao cap, ∃ xs : List Nat, v = .slice ao xs.length cap ∧ Rd W ao cap xs := by
  intro m v y h
  rcases open_ints Tryz.underlying22 Tryz.underlying97 (by kernel_rfl) h with ⟨hcs, _⟩ | ⟨x, l, c, zs, hcs, _, hl, hm, hz, _, hcell, hwz⟩
  ·simp only [List.cons.injEq, and_true] at hcs
   subst hcs
   exact ⟨none, 0, [], rfl, Rd.nil (by omega) (fun _ => rfl)⟩
  ·simp only [List.cons.injEq, and_true] at hcs
   subst hcs
   obtain ⟨xs, hl', hr⟩ := IsRow.rd (w := W) (a := some x) (len := l) (cap := c) (zs := zs) (.inr ⟨x, rfl, hl, hm, by simpa using hz, hcell, hwz⟩)
   subst hl'
   exact ⟨some x, c, xs, rfl, hr⟩
 obtain ⟨a1, c1, xs, rfl, r1⟩ := key m v1 _ g1'
 obtain ⟨a2, c2, ds, rfl, r2⟩ := key n v2 _ h1'
 exact ⟨decide (xs.length ≤ 4 ∧ ds.length ≤ 4), b, a1, c1, xs, a2, c2, ds, rfl, r1, r2, by simp⟩

theorem open_ratS {H : Type} {enc : TypeId × Value → H} {W : World} {r : Reach} {b0 base : Nat} {v : Value} {d : DataW H} {p : List MemPlace}
  (hv : Value.okWide Tryz.prog W r b0 26 v) (h : DataW.Trod enc Tryz.prog W base (fun _ => true) true 26 v d p) : ∃ x, (mS x).S O W v := by
 obtain ⟨cs, rfl, hsz⟩ := okWide_struct Tryz.underlying26 hv
 obtain ⟨v0, v1, v2, rfl⟩ := Go.Joins.array3 (hsz.trans (show Tryz.prog.cellsOf 26 = 3 by kernel_rfl))
 obtain ⟨fuel, hf⟩ := h
 exact rat_of_trod (by simpa [Value.cells] using hf)

theorem array6 {cs : Array Value} (h : cs.size = 6) : ∃ a b c d e f, cs = #[a, b, c, d, e, f] := by
 refine ⟨cs[0], cs[1], cs[2], cs[3], cs[4], cs[5], ?_⟩
 apply Array.ext
 ·simp [h]
 ·intro i h1 h2
  have : i < 6 := by omega
  match i, this with
  | 0, _ => rfl
  | 1, _ => rfl
  | 2, _ => rfl
  | 3, _ => rfl
  | 4, _ => rfl
  | 5, _ => rfl

theorem open_interval {H : Type} {enc : TypeId × Value → H} {W : World} {r : Reach} {b0 base : Nat} {v : Value} {d : DataW H} {p : List MemPlace}
  (hv : Value.okWide Tryz.prog W r b0 37 v) (h : DataW.Trod enc Tryz.prog W base (fun _ => true) true 37 v d p) : ∃ x y, (mP (mS x) (mS y)).S O W v := by
 obtain ⟨cs, rfl, hsz⟩ := okWide_struct Tryz.underlying37 hv
 obtain ⟨v0, v1, v2, v3, v4, v5, rfl⟩ := array6 (hsz.trans (show Tryz.prog.cellsOf 37 = 6 by kernel_rfl))
 obtain ⟨fuel, hf⟩ := h
 obtain ⟨y0, y1, n, hx, _, h0, h1⟩ := trod_struct2 Tryz.underlying37 hf
 have c26 : Tryz.prog.cellsOf 26 = 3 := by kernel_rfl
 simp only [c26, Value.cells] at h0 h1
 have h0' : DataW.trod enc Tryz.prog W base (fun _ => true) true n 26 [v0, v1, v2] = some y0 := by simpa using h0
 have h1' : DataW.trod enc Tryz.prog W base (fun _ => true) true n 26 [v3, v4, v5] = some y1 := by simpa using h1
 obtain ⟨x, k0⟩ := rat_of_trod h0'
 obtain ⟨y, k1⟩ := rat_of_trod h1'
 exact ⟨x, y, v0, v1, v2, v3, v4, v5, rfl, k0, k1⟩
end Go.Proofs.YtiljjhhkklnlgaaGreatDoor
