/-  -/
import Derived.Test.YtbjijmjhlpkomaaGreatDoorQIv4

set_option linter.unusedVariables false
set_option linter.unusedSimpArgs false
set_option linter.unusedSectionVars false
set_option maxRecDepth 100000
set_option maxHeartbeats 3200000

namespace Go.Proofs.YtbjijmjhlpkomaaGreatDoor
open Go.RowKit Num

theorem btw_of {p q : Rat} {n : Int} : mnQ p q + (mxQ (mnQ p q) (mxQ p q) - mnQ (mnQ p q) (mxQ p q)) * Rat.divInt (n % 9) 8 = btw p q n := by
 rw [mn_eq (mn_le_mx p q), mx_eq (mn_le_mx p q)]; rfl
theorem eighths (n : Int) : 0 ≤ Rat.divInt (n % 9) 8 ∧ Rat.divInt (n % 9) 8 ≤ 1 := by
 have h1 : 0 ≤ n % 9 := Int.emod_nonneg _ (by omega)
 have h2 : n % 9 ≤ 8 := by omega
 constructor
 · exact (Rat.divInt_nonneg_iff_of_pos_right (by omega)).2 h1
 · rw [Rat.le_iff_sub_nonneg]
   have e : (1 : Rat) - Rat.divInt (n % 9) 8 = Rat.divInt (8 - n % 9) 8 := by
     rw [show (8 : Int) = ((8 : Nat) : Int) from rfl, Rat.divInt_ofNat, Rat.divInt_ofNat, Rat.mkRat_eq_div, Rat.mkRat_eq_div, Rat.intCast_sub]
     grind
   rw [e]
   exact (Rat.divInt_nonneg_iff_of_pos_right (by omega)).2 (by omega)
theorem btw_in (p q : Rat) (n : Int) : mnQ p q ≤ btw p q n ∧ btw p q n ≤ mxQ p q := by
 have h := mn_le_mx p q
 have ⟨h1, h2⟩ := eighths n
 unfold btw
 generalize Rat.divInt (n % 9) 8 = t at *
 generalize mnQ p q = a at *
 generalize mxQ p q = b at *
 have h3 : 0 ≤ b - a := (Rat.le_iff_sub_nonneg _ _).1 h
 have h4 := Rat.mul_nonneg h3 h1
 have h5 := Rat.mul_le_mul_of_nonneg_left h2 h3
 constructor <;> grind
theorem mnQ_le {x a b : Rat} : mnQ a b ≤ x ↔ a ≤ x ∨ b ≤ x := by
 constructor
 · intro h
   rcases (by unfold mnQ; split <;> simp : mnQ a b = b ∨ mnQ a b = a) with e | e <;> rw [e] at h
   · exact Or.inr h
   · exact Or.inl h
 · rintro (h | h)
   · exact Rat.le_trans (mn_le_l _ _) h
   · exact Rat.le_trans (mn_le_r _ _) h
theorem le_mxQ {x a b : Rat} : x ≤ mxQ a b ↔ x ≤ a ∨ x ≤ b := by
 constructor
 · intro h
   rcases (by unfold mxQ; split <;> simp : mxQ a b = b ∨ mxQ a b = a) with e | e <;> rw [e] at h
   · exact Or.inr h
   · exact Or.inl h
 · rintro (h | h)
   · exact Rat.le_trans h (le_mx_l _ _)
   · exact Rat.le_trans h (le_mx_r _ _)
theorem le_mnQ {x a b : Rat} : x ≤ mnQ a b ↔ x ≤ a ∧ x ≤ b := by
 constructor
 · intro h; exact ⟨Rat.le_trans h (mn_le_l _ _), Rat.le_trans h (mn_le_r _ _)⟩
 · rintro ⟨h1, h2⟩
   rcases (by unfold mnQ; split <;> simp : mnQ a b = b ∨ mnQ a b = a) with e | e <;> rw [e] <;> assumption
theorem mxQ_le {x a b : Rat} : mxQ a b ≤ x ↔ a ≤ x ∧ b ≤ x := by
 constructor
 · intro h; exact ⟨Rat.le_trans (le_mx_l _ _) h, Rat.le_trans (le_mx_r _ _) h⟩
 · rintro ⟨h1, h2⟩
   rcases (by unfold mxQ; split <;> simp : mxQ a b = b ∨ mxQ a b = a) with e | e <;> rw [e] <;> assumption
theorem mul_btw {x c d y : Rat} (h1 : c ≤ y) (h2 : y ≤ d) : mnQ (x * c) (x * d) ≤ x * y ∧ x * y ≤ mxQ (x * c) (x * d) := by
 by_cases h : 0 ≤ x
 · exact ⟨mnQ_le.2 (Or.inl (Rat.mul_le_mul_of_nonneg_left h1 h)), le_mxQ.2 (Or.inr (Rat.mul_le_mul_of_nonneg_left h2 h))⟩
 · have h0 : 0 ≤ -x := by grind
   have e1 := Rat.mul_le_mul_of_nonneg_left h1 h0
   have e2 := Rat.mul_le_mul_of_nonneg_left h2 h0
   exact ⟨mnQ_le.2 (Or.inr (by grind)), le_mxQ.2 (Or.inl (by grind))⟩
theorem mul4 {a b c d x y : Rat} (hx1 : a ≤ x) (hx2 : x ≤ b) (hy1 : c ≤ y) (hy2 : y ≤ d) : mn4 (a * c) (a * d) (b * c) (b * d) ≤ x * y ∧ x * y ≤ mx4 (a * c) (a * d) (b * c) (b * d) := by
 have h1 := mul_btw (x := x) hy1 hy2
 have h2 := mul_btw (x := c) hx1 hx2
 have h3 := mul_btw (x := d) hx1 hx2
 rw [Rat.mul_comm c a, Rat.mul_comm c b, Rat.mul_comm c x] at h2
 rw [Rat.mul_comm d a, Rat.mul_comm d b, Rat.mul_comm d x] at h3
 unfold mn4 mx4
 constructor
 · refine Rat.le_trans ?_ h1.1
   rw [le_mnQ]
   constructor
   · refine Rat.le_trans ?_ h2.1
     rw [le_mnQ]
     exact ⟨Rat.le_trans (mn_le_l _ _) (mn_le_l _ _), Rat.le_trans (mn_le_r _ _) (mn_le_l _ _)⟩
   · refine Rat.le_trans ?_ h3.1
     rw [le_mnQ]
     exact ⟨Rat.le_trans (mn_le_l _ _) (mn_le_r _ _), Rat.le_trans (mn_le_r _ _) (mn_le_r _ _)⟩
 · refine Rat.le_trans h1.2 ?_
   rw [mxQ_le]
   constructor
   · refine Rat.le_trans h2.2 ?_
     rw [mxQ_le]
     exact ⟨Rat.le_trans (le_mx_l _ _) (le_mx_l _ _), Rat.le_trans (le_mx_l _ _) (le_mx_r _ _)⟩
   · refine Rat.le_trans h3.2 ?_
     rw [mxQ_le]
     exact ⟨Rat.le_trans (le_mx_r _ _) (le_mx_l _ _), Rat.le_trans (le_mx_r _ _) (le_mx_r _ _)⟩
theorem mn4_sw {p q x y : Rat} : mn4 (p * x) (p * y) (q * x) (q * y) = mn4 (mnQ p q * x) (mnQ p q * y) (mxQ p q * x) (mxQ p q * y) := by
 rcases mnmx p q with ⟨h1, h2⟩ | ⟨h1, h2⟩ <;> rw [h1, h2]
 unfold mn4
 rw [mnQ_comm]
theorem mx4_sw {p q x y : Rat} : mx4 (p * x) (p * y) (q * x) (q * y) = mx4 (mnQ p q * x) (mnQ p q * y) (mxQ p q * x) (mxQ p q * y) := by
 rcases mnmx p q with ⟨h1, h2⟩ | ⟨h1, h2⟩ <;> rw [h1, h2]
 unfold mx4
 rw [mxQ_comm]
def inQ (x lo hi : Rat) : Prop := lo ≤ x ∧ x ≤ hi
theorem mulI {p q r s x y : Rat} (hx : inQ x (mnQ p q) (mxQ p q)) (hy : inQ y (mnQ r s) (mxQ r s)) : inQ (x * y) (mn4 (p * r) (p * s) (q * r) (q * s)) (mx4 (p * r) (p * s) (q * r) (q * s)) := by
 rw [mn4_ord, mx4_ord, mn4_sw, mx4_sw]
 exact mul4 hx.1 hx.2 hy.1 hy.2
theorem addI {p q r s x y : Rat} (hx : inQ x (mnQ p q) (mxQ p q)) (hy : inQ y (mnQ r s) (mxQ r s)) : inQ (x + y) (mnQ p q + mnQ r s) (mxQ p q + mxQ r s) := by
 obtain ⟨h1, h2⟩ := hx
 obtain ⟨h3, h4⟩ := hy
 exact ⟨by grind, by grind⟩
theorem subI {p q r s x y : Rat} (hx : inQ x (mnQ p q) (mxQ p q)) (hy : inQ y (mnQ r s) (mxQ r s)) : inQ (x - y) (mnQ p q - mxQ r s) (mxQ p q - mnQ r s) := by
 obtain ⟨h1, h2⟩ := hx
 obtain ⟨h3, h4⟩ := hy
 exact ⟨by grind, by grind⟩
theorem sq_nonneg (x : Rat) : 0 ≤ x * x := by
 by_cases h : 0 ≤ x
 · exact Rat.mul_nonneg h h
 · have h0 : 0 ≤ -x := by grind
   have := Rat.mul_nonneg h0 h0
   grind
theorem sgI_cases (p q : Rat) : (sgI p q = 0) ∨ (0 < mnQ p q) ∨ (mxQ p q < 0) := by
 by_cases h1 : 0 < sgnQ (mnQ p q)
 · exact Or.inr (Or.inl (sgn_pos.1 h1))
 · by_cases h2 : sgnQ (mxQ p q) < 0
   · exact Or.inr (Or.inr (sgn_neg.1 h2))
   · exact Or.inl (sgI_zero h1 h2)
theorem squareI {p q x : Rat} (hx : inQ x (mnQ p q) (mxQ p q)) : inQ (x * x) (sqL p q) (mxQ (p * p) (q * q)) := by
 obtain ⟨h1, h2⟩ := hx
 have key : ∀ a b : Rat, a ≤ x → x ≤ b → x * x ≤ mxQ (a * a) (b * b) ∧ (0 < a → a * a ≤ x * x) ∧ (b < 0 → b * b ≤ x * x) := by
   intro a b ha hb
   refine ⟨?_, fun h => ?_, fun h => ?_⟩
   · rw [le_mxQ]
     by_cases h : 0 ≤ x
     · have e1 := Rat.mul_le_mul_of_nonneg_left hb h
       have e2 := Rat.mul_le_mul_of_nonneg_right hb (Rat.le_trans h hb)
       exact Or.inr (Rat.le_trans e1 e2)
     · have h0 : 0 ≤ -x := by grind
       have h3 : 0 ≤ -a := by grind
       have e0 : -x ≤ -a := by grind
       have e1 := Rat.mul_le_mul_of_nonneg_left e0 h0
       have e2 := Rat.mul_le_mul_of_nonneg_right e0 h3
       exact Or.inl (by grind)
   · have h0 : 0 ≤ a := Rat.le_of_lt h
     have h3 : 0 ≤ x := Rat.le_trans h0 ha
     exact Rat.le_trans (Rat.mul_le_mul_of_nonneg_left ha h0) (Rat.mul_le_mul_of_nonneg_right ha h3)
   · have h0 : 0 ≤ -b := by grind
     have e0 : -b ≤ -x := by grind
     have h3 : 0 ≤ -x := Rat.le_trans h0 e0
     have e1 := Rat.mul_le_mul_of_nonneg_left e0 h0
     have e2 := Rat.mul_le_mul_of_nonneg_right e0 h3
     grind
 have k := key _ _ h1 h2
 constructor
 · unfold sqL
   split
   · exact sq_nonneg x
   · rename_i hs
     rcases sgI_cases p q with h | h | h
     · exact absurd h hs
     · refine Rat.le_trans ?_ (k.2.1 h)
       rcases mnmx p q with ⟨e, _⟩ | ⟨e, _⟩ <;> rw [e]
       · exact mn_le_l _ _
       · exact mn_le_r _ _
     · refine Rat.le_trans ?_ (k.2.2 h)
       rcases mnmx p q with ⟨_, e⟩ | ⟨_, e⟩ <;> rw [e]
       · exact mn_le_r _ _
       · exact mn_le_l _ _
 · refine Rat.le_trans k.1 ?_
   rcases mnmx p q with ⟨e1, e2⟩ | ⟨e1, e2⟩ <;> rw [e1, e2]
   · exact Rat.le_refl
   · rw [mxQ_comm]; exact Rat.le_refl
theorem inv_pos_le {a b : Rat} (h : 0 < a) (hab : a ≤ b) : b⁻¹ ≤ a⁻¹ := by
 have hb : 0 < b := rlt_le h hab
 have ha' : 0 < a⁻¹ := Rat.inv_pos.2 h
 have hb' : 0 < b⁻¹ := Rat.inv_pos.2 hb
 have e1 := Rat.mul_le_mul_of_nonneg_right (Rat.mul_le_mul_of_nonneg_left hab (Rat.le_of_lt ha')) (Rat.le_of_lt hb')
 rw [Rat.inv_mul_cancel a (fun e => Rat.lt_irrefl (e ▸ h)), Rat.one_mul, Rat.mul_assoc, Rat.mul_inv_cancel b (fun e => Rat.lt_irrefl (e ▸ hb)), Rat.mul_one] at e1
 exact e1
theorem invI {r s y : Rat} (hs : sgI r s ≠ 0) (hy : inQ y (mnQ r s) (mxQ r s)) : inQ (y⁻¹) (mnQ r⁻¹ s⁻¹) (mxQ r⁻¹ s⁻¹) := by
 obtain ⟨h1, h2⟩ := hy
 have sym : ∀ a b : Rat, a⁻¹ = a⁻¹ ∧ mnQ r⁻¹ s⁻¹ = mnQ (mnQ r s)⁻¹ (mxQ r s)⁻¹ ∧ mxQ r⁻¹ s⁻¹ = mxQ (mnQ r s)⁻¹ (mxQ r s)⁻¹ := by
   intro a b
   refine ⟨rfl, ?_, ?_⟩
   · rcases mnmx r s with ⟨e1, e2⟩ | ⟨e1, e2⟩ <;> rw [e1, e2]
     rw [mnQ_comm]
   · rcases mnmx r s with ⟨e1, e2⟩ | ⟨e1, e2⟩ <;> rw [e1, e2]
     rw [mxQ_comm]
 unfold inQ
 rw [(sym 0 0).2.1, (sym 0 0).2.2]
 rcases sgI_cases r s with h | h | h
 · exact absurd h hs
 · exact ⟨mnQ_le.2 (Or.inr (inv_pos_le (rlt_le h h1) h2)), le_mxQ.2 (Or.inl (inv_pos_le h h1))⟩
 · have hn : ∀ a b : Rat, b < 0 → a ≤ b → b⁻¹ ≤ a⁻¹ := by
     intro a b hb hab
     have e := inv_pos_le (a := -b) (b := -a) (by grind) (by grind)
     have n1 : (-a)⁻¹ = -(a⁻¹) := by grind
     have n2 : (-b)⁻¹ = -(b⁻¹) := by grind
     rw [n1, n2] at e
     grind
   exact ⟨mnQ_le.2 (Or.inr (hn _ _ h h2)), le_mxQ.2 (Or.inl (hn _ _ (rle_lt h2 h) h1))⟩
theorem divI {p q r s x y : Rat} (hs : sgI r s ≠ 0) (hx : inQ x (mnQ p q) (mxQ p q)) (hy : inQ y (mnQ r s) (mxQ r s)) :
   inQ (x / y) (mn4 (p * mnQ r⁻¹ s⁻¹) (p * mxQ r⁻¹ s⁻¹) (q * mnQ r⁻¹ s⁻¹) (q * mxQ r⁻¹ s⁻¹)) (mx4 (p * mnQ r⁻¹ s⁻¹) (p * mxQ r⁻¹ s⁻¹) (q * mnQ r⁻¹ s⁻¹) (q * mxQ r⁻¹ s⁻¹)) := by
 rw [← mn4_ord, ← mx4_ord, Rat.div_def]
 exact mulI hx (invI hs hy)
theorem one_over (r : Rat) : ((1 : Int) : Rat) / r = r⁻¹ := by
 rw [Rat.div_def]; exact Rat.one_mul _
theorem inB {x lo hi : Rat} (h : inQ x lo hi) (hl : lo ≤ hi) : ((!(decide (x < mnQ lo hi))) && (!(decide (mxQ lo hi < x)))) = true := by
 rw [mn_eq hl, mx_eq hl]
 simp [Rat.not_lt.2 h.1, Rat.not_lt.2 h.2]
theorem inB1 {x lo hi : Rat} (h : inQ x lo hi) : ((!(decide (x < mnQ lo hi))) && (!(decide (mxQ lo hi < x)))) = true := inB h (Rat.le_trans h.1 h.2)
theorem inC0 {x p q : Rat} (h : inQ x (mnQ p q) (mxQ p q)) : ((decide (cmpQ (mnQ p q) x ≤ 0)) && (decide (cmpQ x (mxQ p q) ≤ 0))) = true := by
 rw [dle, dle]
 simp [Rat.not_lt.2 h.1, Rat.not_lt.2 h.2]
theorem divB {p q r s x y : Rat} (hx : inQ x (mnQ p q) (mxQ p q)) (hy : inQ y (mnQ r s) (mxQ r s)) (lo hi : Rat)
   (hlo : lo = if sgE r s = 0 then mn4 (p * mnQ (((1 : Int) : Rat) / r) (((1 : Int) : Rat) / s)) (p * mxQ (((1 : Int) : Rat) / r) (((1 : Int) : Rat) / s)) (q * mnQ (((1 : Int) : Rat) / r) (((1 : Int) : Rat) / s)) (q * mxQ (((1 : Int) : Rat) / r) (((1 : Int) : Rat) / s)) else 0)
   (hhi : hi = if sgE r s = 0 then mx4 (p * mnQ (((1 : Int) : Rat) / r) (((1 : Int) : Rat) / s)) (p * mxQ (((1 : Int) : Rat) / r) (((1 : Int) : Rat) / s)) (q * mnQ (((1 : Int) : Rat) / r) (((1 : Int) : Rat) / s)) (q * mxQ (((1 : Int) : Rat) / r) (((1 : Int) : Rat) / s)) else 0) :
   ((decide (sgE r s = 0)) && (!((!(decide (x / y < mnQ lo hi))) && (!(decide (mxQ lo hi < x / y)))))) = false := by
 by_cases h : sgE r s = 0
 · rw [if_pos h] at hlo hhi
   have hs : sgI r s ≠ 0 := by
     intro h0
     unfold sgE at h
     rw [if_pos h0] at h
     exact absurd h (by decide)
   have := inB1 (divI hs hx hy)
   rw [hlo, hhi, one_over, one_over, this]
   simp
 · simp [h]
end Go.Proofs.YtbjijmjhlpkomaaGreatDoor

namespace Go.Proofs.YtbjijmjhlpkomaaGreatDoor
open Go.RowKit Num

theorem l4_between {p0 q0 : Rat} {k0 : Nat} (j1 : Int) {v0 : Value} {w : World} (hk0 : k0 ≤ 99) (hj1a : -9223372036854775808 ≤ j1) (hj1b : j1 ≤ 9223372036854775807) (pf0 : (mP (mR p0 k0) (mR q0 k0)).S w v0) :
   Calls Tryz.prog 59 #[v0, .int .i64 j1] w (RetS (mC (btw p0 q0 j1) (k0 + k0 + k0 + k0 + k0 + k0 + k0 + k0 + k0 + k0 + k0 + k0 + 40)).S w) := by
 obtain ⟨c0, rfl, n0, u0, o0⟩ := (mP.cv (fun _ h => (isR.cv h)) (fun _ h => (isR.cv h)) pf0)
 refine calls_abs 16 Tryz.func59 rfl rfl (by simp) ?_
 intro a0 z0 d0 ha
 have s0_0 : sl a0 0 = .agg c0 := ha 0 (by simp)
 have s0_1 : sl a0 1 = .int .i64 j1 := ha 1 (by simp)
 have B0 : Below w.heap.size w w := Below.refl _ _
 refine wp_seq ?_
 refine wp_region_seq 0 (mG []) (by rw [z0]; kernel_rfl) (mG_mono _) (ops_ok trivial) ?_
 intro a1 w2 ms3
 have B4 := B0.trans (ms3.b.mono B0.size)
 have z5 := ms3.sz.trans z0
 have d6 := ms3.df.trans d0
 have s7 := (ms3.fr 0 (out_of (by kernel_rfl))).trans s0_0
 have s8 := (ms3.fr 1 (out_of (by kernel_rfl))).trans s0_1
 refine tl_new rfl rfl (run_box_op rfl (ev s7)) (by rw [z5]; decide) ?_
 intro a9 w10 g11 z12 d13 s14 fr15 hg16 hc17 hb18
 have z19 := z12.trans z5
 have d20 := d13.trans d6
 have s22 := (fr15 1 (by decide)).trans s8
 have B23 := B4.trans (hb18.mono B4.size)
 have lw25 : w.heap.size ≤ g11 := by have := B4.size; omega
 have x24 : bx 44 6 (mP (mR p0 k0) (mR q0 k0)) w10 g11 := ⟨c0, hc17, n0, u0, o0, (mP (mR p0 k0) (mR q0 k0)).mono _ _ _ (Ext.of B23) pf0⟩
 refine tl_new rfl rfl (run_alloc_op rfl zero_Rat) (by rw [z19]; decide) ?_
 intro a26 w27 g28 z29 d30 s31 fr32 hg33 hc34 hb35
 have z36 := z29.trans z19
 have d37 := d30.trans d20
 have s39 := (fr32 1 (by decide)).trans s22
 have s40 := (fr32 2 (by decide)).trans s14
 have B41 := B23.trans (hb35.mono B23.size)
 have ne43 : g11 ≠ g28 := by have := x24.lt; omega
 have x42 := bx.below hb35 x24
 have lw45 : w.heap.size ≤ g28 := by have := B23.size; omega
 have x44 := bx_Rat hc34
 refine wpList_nil (then_normal ?_)
 refine wp_seq ?_
 refine wp_region_seq 2 (mG [(mP (mR p0 k0) (mR q0 k0)).b, (mP (mC (mnQ p0 q0) (k0 + k0 + 1)) (mC (mxQ p0 q0) (k0 + k0 + 1))).b]) (by rw [z36]; kernel_rfl) (mG_mono _) (ops_ok ⟨?_, ?_, trivial⟩) ?_
 · refine opk_pure rfl rfl fun a w hb hf hd => ?_
   obtain ⟨cs, h1, h2, h3, h4, h5⟩ := bx.below hb x42
   exact ⟨_, run_load_row _ _ rfl (ev ((hf 2 (out_of (by kernel_rfl))).trans s40)) h1 Tryz.underlying44 rfl (by rw [h2]; exact info_Interval), fun _ _ => h5⟩
 · refine opk_call rfl rfl fun a w hb hf hd => ?_
   have e0 : a.eval (.tmp 5) = sl a 5 := rfl
   exact ⟨42, #[sl a 5], run_call rfl rfl (fun _ _ => by kernel_rfl) (args_1 e0), (r4_trim  (by omega) (mP_imp (m1' := (mR p0 k0)) (m2' := (mR q0 k0)) (fun _ h => h) (fun _ h => h) (hd.at 0 rfl rfl rfl rfl))).mono fun _ _ r => RetS.imp (fun _ _ h => fun _ _ => (mP_imp (fun _ h => (isC.mono h (by omega))) (fun _ h => (isC.mono h (by omega))) h)) r⟩
 intro a46 w47 ms48
 have B49 := B41.trans (ms48.b.mono B41.size)
 have z50 := ms48.sz.trans z36
 have d51 := ms48.df.trans d37
 have s52 := (ms48.fr 1 (out_of (by kernel_rfl))).trans s39
 have s53 := (ms48.fr 2 (out_of (by kernel_rfl))).trans s40
 have s54 := (ms48.fr 4 (out_of (by kernel_rfl))).trans s31
 have x55 := bx.below ms48.b x42
 have x56 := bx.below ms48.b x44
 have s57 : (mP (mC (mnQ p0 q0) (k0 + k0 + 1)) (mC (mxQ p0 q0) (k0 + k0 + 1))).S w47 (sl a46 6) := ms48.g 1 _ 6 rfl (by decide) trivial rfl
 refine tl_put rfl rfl rfl (m' := (mP (mC (mnQ p0 q0) (k0 + k0 + 1)) (mC (mxQ p0 q0) (k0 + k0 + 1)))) x55 (ev s53) s57 (mP.cv (fun _ h => (isC.cv h)) (fun _ h => (isC.cv h)) s57) info_Interval ?_
 intro w58 x59 ex60 ot61 bl62
 have B63 := bl62 w (by omega) B49
 have x64 := ot61 (by omega) x56
 have s65 := (mP (mC (mnQ p0 q0) (k0 + k0 + 1)) (mC (mxQ p0 q0) (k0 + k0 + 1))).mono _ _ _ ex60 s57
 refine wpList_nil (then_normal ?_)
 refine wp_seq ?_
 refine wp_region_mono 9 [] (mG [(mV (.pointer (some ⟨g11, 0, none⟩))).b, (mC (mnQ p0 q0) (k0 + k0 + 1)).b, (mP (mC (mnQ p0 q0) (k0 + k0 + 1)) (mC (mxQ p0 q0) (k0 + k0 + 1))).b, (mC ((mxQ (mnQ p0 q0) (mxQ p0 q0)) - (mnQ (mnQ p0 q0) (mxQ p0 q0))) (k0 + k0 + 1 + k0 + k0 + 1 + k0 + k0 + 1 + k0 + k0 + 1 + 5)).b, (mV (.int .i64 j1)).b, (mV (.int .i64 (j1 % 9))).b, (mC (Rat.divInt (j1 % 9) 8) 2).b, (mC (((mxQ (mnQ p0 q0) (mxQ p0 q0)) - (mnQ (mnQ p0 q0) (mxQ p0 q0))) * (Rat.divInt (j1 % 9) 8)) (k0 + k0 + 1 + k0 + k0 + 1 + k0 + k0 + 1 + k0 + k0 + 1 + 5 + 5)).b, (mC ((mnQ p0 q0) + (((mxQ (mnQ p0 q0) (mxQ p0 q0)) - (mnQ (mnQ p0 q0) (mxQ p0 q0))) * (Rat.divInt (j1 % 9) 8))) (k0 + k0 + 1 + k0 + k0 + 1 + k0 + k0 + 1 + k0 + k0 + 1 + k0 + k0 + 1 + 5 + 5 + 3)).b]) (by kernel_rfl) (by rw [z50]; kernel_rfl) (fun h => absurd rfl h) (mG_mono _) (ops_ok ⟨?_, ?_, ?_, ?_, ?_, ?_, ?_, ?_, ?_, trivial⟩) ?_
 · exact opk_pure rfl rfl fun a w hb hf hd => ⟨_, fa_Interval_0 rfl (ev ((hf 2 (out_of (by kernel_rfl))).trans s53)), fun _ _ => rfl⟩
 · refine opk_pure rfl rfl fun a w hb hf hd => ?_
   obtain ⟨x0, x1, x2, h1, h2⟩ := (bx.below hb x59).lo
   exact ⟨_, run_load_mid _ _ rfl (ev (hd.at 0 rfl rfl rfl rfl)) h1 Tryz.underlying26 rfl info_Rat, fun _ _ => h2⟩
 · refine opk_pure rfl rfl fun a w hb hf hd => ?_
   obtain ⟨cs, h1, h2, h3, h4, h5⟩ := bx.below hb x59
   exact ⟨_, run_load_row _ _ rfl (ev ((hf 2 (out_of (by kernel_rfl))).trans s53)) h1 Tryz.underlying44 rfl (by rw [h2]; exact info_Interval), fun _ _ => h5⟩
 · refine opk_call rfl rfl fun a w hb hf hd => ?_
   have e0 : a.eval (.tmp 9) = sl a 9 := rfl
   exact ⟨46, #[sl a 9], run_call rfl rfl (fun _ _ => by kernel_rfl) (args_1 e0), (r4_width  (by omega) (mP_imp (m1' := (mR (mnQ p0 q0) (k0 + k0 + 1))) (m2' := (mR (mxQ p0 q0) (k0 + k0 + 1))) (fun _ h => (isC.r h)) (fun _ h => (isC.r h)) (hd.at 0 rfl rfl rfl rfl))).mono fun _ _ r => RetS.imp (fun _ _ h => fun _ _ => (isC.mono h (by omega))) r⟩
 · exact opk_pure rfl rfl fun a w hb hf hd => ⟨_, run_move rfl, fun _ _ => ((hf 1 (out_of (by kernel_rfl))).trans s52)⟩
 · refine opk_call rfl rfl fun a w hb hf hd => ?_
   have e0 : a.eval (.tmp 11) = .int .i64 j1 := (hd.at 0 rfl rfl rfl rfl)
   exact ⟨17, #[.int .i64 j1, .int .i64 9], run_call rfl rfl (fun _ _ => by kernel_rfl) (args_2 e0 rfl), (k_mod j1 9 (by omega) (by omega) (by omega) (by omega)).mono fun _ _ r => RetS.imp (fun _ _ h => fun _ _ => h) r⟩
 · refine opk_call rfl rfl fun a w hb hf hd => ?_
   have e0 : a.eval (.tmp 12) = .int .i64 (j1 % 9) := (hd.at 0 rfl rfl rfl rfl)
   exact ⟨66, #[.int .i64 (j1 % 9), .int .i64 8], run_call rfl rfl (fun _ _ => by kernel_rfl) (args_2 e0 rfl), (r_frac (j1 % 9) 8 (by omega) (by omega) (by omega) (by omega)).mono fun _ _ r => RetS.imp (fun _ _ h => fun _ _ => (isC.mono h (by omega))) r⟩
 · refine opk_call rfl rfl fun a w hb hf hd => ?_
   have e0 : a.eval (.tmp 10) = sl a 10 := rfl
   have e1 : a.eval (.tmp 13) = sl a 13 := rfl
   exact ⟨63, #[sl a 10, sl a 13], run_call rfl rfl (fun _ _ => by kernel_rfl) (args_2 e0 e1), (r_mul (by omega) (by omega) (isC.r (hd.at 0 rfl rfl rfl rfl)) (isC.r (hd.at 1 rfl rfl rfl rfl))).mono fun _ _ r => RetS.imp (fun _ _ h => fun _ _ => (isC.mono h (by omega))) r⟩
 · refine opk_call rfl rfl fun a w hb hf hd => ?_
   have e0 : a.eval (.tmp 8) = sl a 8 := rfl
   have e1 : a.eval (.tmp 14) = sl a 14 := rfl
   exact ⟨61, #[sl a 8, sl a 14], run_call rfl rfl (fun _ _ => by kernel_rfl) (args_2 e0 e1), (r_add (by omega) (by omega) (isC.r (hd.at 0 rfl rfl rfl rfl)) (isC.r (hd.at 1 rfl rfl rfl rfl))).mono fun _ _ r => RetS.imp (fun _ _ h => fun _ _ => (isC.mono h (by omega))) r⟩
 intro a66 w67 ms68
 have B69 := B63.trans (ms68.b.mono B63.size)
 have d71 := ms68.df.trans d51
 have s73 := (ms68.fr 4 (out_of (by kernel_rfl))).trans s54
 have x74 := bx.below ms68.b x59
 have x75 := bx.below ms68.b x64
 have s76 : (mC ((mnQ p0 q0) + (((mxQ (mnQ p0 q0) (mxQ p0 q0)) - (mnQ (mnQ p0 q0) (mxQ p0 q0))) * (Rat.divInt (j1 % 9) 8))) (k0 + k0 + 1 + k0 + k0 + 1 + k0 + k0 + 1 + k0 + k0 + 1 + k0 + k0 + 1 + 5 + 5 + 3)).S w67 (sl a66 15) := ms68.g 8 _ 15 rfl (by decide) trivial rfl
 refine tl_put rfl rfl rfl (m' := (mC ((mnQ p0 q0) + (((mxQ (mnQ p0 q0) (mxQ p0 q0)) - (mnQ (mnQ p0 q0) (mxQ p0 q0))) * (Rat.divInt (j1 % 9) 8))) (k0 + k0 + 1 + k0 + k0 + 1 + k0 + k0 + 1 + k0 + k0 + 1 + k0 + k0 + 1 + 5 + 5 + 3))) x75 (ev s73) s76 (isC.cv s76) info_Rat ?_
 intro w77 x78 ex79 ot80 bl81
 have B82 := bl81 w (by omega) B69
 have x83 := ot80 (by omega) x74
 have s84 := (mC ((mnQ p0 q0) + (((mxQ (mnQ p0 q0) (mxQ p0 q0)) - (mnQ (mnQ p0 q0) (mxQ p0 q0))) * (Rat.divInt (j1 % 9) 8))) (k0 + k0 + 1 + k0 + k0 + 1 + k0 + k0 + 1 + k0 + k0 + 1 + k0 + k0 + 1 + 5 + 5 + 3)).mono _ _ _ ex79 s76
 refine wpList_nil (then_normal ?_)
 refine wp_ret ?_
 exact end_cell rfl d71 s73 x78 Tryz.underlying26 rfl info_Rat B82 (fun v h => (isC.mono (isC.of h btw_of) (by omega)))
end Go.Proofs.YtbjijmjhlpkomaaGreatDoor
