/-  -/
import Derived.Test.YtcankknlbljicaaGreatDoorZfj

set_option linter.unusedVariables false
set_option linter.unusedSimpArgs false
set_option linter.unusedSectionVars false
set_option maxRecDepth 100000
set_option maxHeartbeats 3200000

namespace Go.Proofs.YtcankknlbljicaaGreatDoor
set_option linter.unusedVariables false

theorem mulQ_len1 (a b : List Rat) : (mulQ a b).length ≤ a.length + b.length - 1 := by
 unfold mulQ
 split
 ·simp
 ·rw [outQ_len]; exact Nat.le_refl _
theorem mulQ_len0 {a b : List Rat} (h : b.length = 0) : (mulQ a b).length = 0 := by
 unfold mulQ; rw [if_pos (Or.inr h)]; rfl
theorem ofN_len {f g : List Rat} {d : Rat} {G : Nat} (hG : g.length ≤ G) : ∀ i, (ofN f g d i).length ≤ 1 + i * (G - 1)
 | 0 => by simp [ofN]
 | i + 1 => by
  have ih := ofN_len (f := f) (d := d) hG i
  simp only [ofN]
  rw [addQ_len, List.length_singleton, Nat.succ_mul]
  by_cases h : g.length = 0
  ·rw [mulQ_len0 h]; omega
  ·have := mulQ_len1 (ofN f g d i) g
   omega
def oB (G A B D : Nat) : Nat → Nat
 | 0 => 0
 | i + 1 => (1 + i * (G - 1)) * (oB G A B D i * B) + A * (D ^ i * D)
theorem sgl_bi {x : Rat} {B : Nat} (h : Bi x B) (j : Nat) : Bi (([x] : List Rat).getD j 0) B := by
 cases j with
 | zero => exact h
 | succ j => rw [getQ_cs, getQ_nil]; exact Bi.zero _
theorem mulQ_bi {ps qs : List Rat} {A B L : Nat} (h1 : ∀ j, Bi (ps.getD j 0) A) (h2 : ∀ j, Bi (qs.getD j 0) B) (hL : ps.length ≤ L) (j : Nat) : Bi ((mulQ ps qs).getD j 0) (L * (A * B)) := by
 rw [mulQ_get, conv]
 refine (Bi.sumN (B := A * B) fun i hi => ?_).mono (Nat.mul_le_mul_right _ hL)
 split
 ·exact (h1 i).mul (h2 _)
 ·exact Bi.zero _
theorem ofN_bi {f g : List Rat} {d : Rat} {G A B D : Nat} (hG : g.length ≤ G) (hf : ∀ j, Bi (f.getD j 0) A) (hg : ∀ j, Bi (g.getD j 0) B) (hd : Bi d D) : ∀ i j, Bi ((ofN f g d i).getD j 0) (oB G A B D i)
 | 0, j => by simp only [ofN, getQ_nil]; exact Bi.zero _
 | i + 1, j => by
  simp only [ofN, oB]
  rw [addQ_get]
  exact (mulQ_bi (ofN_bi hG hf hg hd i) hg (ofN_len hG i) j).add (sgl_bi ((hf _).mul ((hd.pow i).mul hd)) j)
structure PS (ps qs : List Rat) (N G A B C D : Nat) : Prop where
 n : ps.length ≤ N
 g : qs.length ≤ G
 p : PB ps C A
 q : PB qs D B
theorem PS.len {ps qs : List Rat} {N G A B C D : Nat} (h : PS ps qs N G A B C D) (i : Nat) (hi : i ≤ (clq ps).length) : (ofN (clq ps) (clq qs) (clr qs) i).length ≤ 1 + N * (G - 1) := by
 have h1 := clq_len ps
 have h2 := h.n
 refine Nat.le_trans (ofN_len (Nat.le_trans (clq_len qs) h.g) i) ?_
 exact Nat.add_le_add_left (Nat.mul_le_mul_right _ (by omega)) 1
theorem PS.z {ps qs : List Rat} {N G A B C D K : Nat} (h : PS ps qs N G A B C D) (hk : ∀ i, i ≤ N → oB G A B D i < 4294967296 ^ K) (hK : 1 ≤ K) (i j : Nat) (hi : i ≤ (clq ps).length) : Sz ((ofN (clq ps) (clq qs) (clr qs) i).getD j 0) K := by
 have h1 := clq_len ps
 have h2 := h.n
 exact (ofN_bi (Nat.le_trans (clq_len qs) h.g) (fun j => clq_bi h.p j) (fun j => clq_bi h.q j) (clr_bi h.q) i j).sz (hk i (by omega)) hK
theorem PS.d {ps qs : List Rat} {N G A B C D K : Nat} (h : PS ps qs N G A B C D) (hk : ∀ i, i ≤ N → D ^ i < 4294967296 ^ K) (hK : 1 ≤ K) (i : Nat) (hi : i ≤ (clq ps).length) : Sz (clr qs ^ i) K := by
 have h1 := clq_len ps
 have h2 := h.n
 exact ((clr_bi h.q).pow i).sz (hk i (by omega)) hK
theorem PS.f {ps qs : List Rat} {N G A B C D K M : Nat} (h : PS ps qs N G A B C D) (hk : ∀ i, i ≤ N → oB G A B D i < 4294967296 ^ K) (hK : 1 ≤ K) (hm : ∀ i, i ≤ N → C * D ^ i < 4294967296 ^ M) (hM : 1 ≤ M) (j : Nat) : Sz ((comP ps qs).getD j 0) (K + M) := by
 have h1 := clq_len ps
 have h2 := h.n
 unfold comP
 rw [getQ_div, getQ_cut]
 exact Sz.div (h.z hk hK _ j (Nat.le_refl _)) (((clr_bi h.p).mul ((clr_bi h.q).pow _)).sz (hm _ (by omega)) hM)
theorem comP_len {ps qs : List Rat} {N G A B C D : Nat} (h : PS ps qs N G A B C D) : (comP ps qs).length ≤ 1 + N * (G - 1) := by
 unfold comP
 rw [List.length_map]
 exact Nat.le_trans (cutQ_le _) (h.len _ (Nat.le_refl _))
theorem clr_nat2 {qs : List Rat} {C B : Nat} (h : PB qs C B) : ∃ d : Nat, clr qs = ((d : Int) : Rat) ∧ 0 < d ∧ d ≤ C := by
 obtain ⟨c, hc, h⟩ := h
 obtain ⟨d, e, hd, _⟩ := h.clr_dvd qs.length (Nat.le_refl _)
 rw [List.take_length] at e
 exact ⟨d, e, Nat.pos_of_dvd_of_pos hd h.1, Nat.le_trans (Nat.le_of_dvd h.1 hd) hc⟩
theorem nat_powQ (d : Nat) : ∀ n : Nat, ((d : Int) : Rat) ^ n = (((d ^ n : Nat) : Int) : Rat)
 | 0 => by rw [Rat.pow_zero]; rfl
 | n + 1 => by rw [Rat.pow_succ, nat_powQ d n, Nat.pow_succ, Int.natCast_mul, Rat.intCast_mul]
theorem comP_pb {ps qs : List Rat} {N G A B C D X : Nat} (h : PS ps qs N G A B C D) (hX : ∀ i, i ≤ N → oB G A B D i ≤ X) : PB (comP ps qs) (C * D ^ N) X := by
 obtain ⟨a, e1, a1, a2⟩ := clr_nat2 h.p
 obtain ⟨b, e2, b1, b2⟩ := clr_nat2 h.q
 have h1 := clq_len ps
 have h2 := h.n
 have hD : 0 < D := h.q.pos
 refine ⟨a * b ^ (clq ps).length, Nat.mul_le_mul a2 (Nat.le_trans (Nat.pow_le_pow_left b2 _) (Nat.pow_le_pow_right hD (by omega))), Nat.mul_pos a1 (Nat.pow_pos b1), fun j => ?_⟩
 unfold comP
 have hb := (ofN_bi (Nat.le_trans (clq_len qs) h.g) (fun j => clq_bi h.p j) (fun j => clq_bi h.q j) (clr_bi h.q) (clq ps).length j).mono (hX _ (by omega))
 have hne : clr ps * clr qs ^ (clq ps).length ≠ 0 := mul_ne0 (clr_ne ps) (pow_ne0 (clr_ne qs) _)
 have e : (((a * b ^ (clq ps).length : Nat) : Int) : Rat) = clr ps * clr qs ^ (clq ps).length := by
  rw [Int.natCast_mul, Rat.intCast_mul, ← nat_powQ, ← e1, ← e2]
 rw [getQ_div, getQ_cut, e, Rat.div_mul_cancel hne]
 exact hb

def pB (G A : Nat) : Nat → Nat
 | 0 => 1
 | i + 1 => (1 + i * (G - 1)) * (pB G A i * A)

end Go.Proofs.YtcankknlbljicaaGreatDoor

namespace Go.Proofs.YtcankknlbljicaaGreatDoor
set_option linter.unusedVariables false

def szb (q : Rat) (K : Nat) : Bool := decide (q.num.natAbs < 4294967296 ^ K) && decide (q.den < 4294967296 ^ K)
theorem szb_sz {q : Rat} {K : Nat} (h : szb q K = true) : Sz q K := by
 unfold szb at h
 rw [Bool.and_eq_true, decide_eq_true_eq, decide_eq_true_eq] at h
 rw [← Rat.mkRat_self q]
 exact Sz.of q.den_nz h.1 h.2
def szl (a : List Rat) (K : Nat) : Bool := decide (1 ≤ K) && a.all fun q => szb q K
theorem szl_sz {a : List Rat} {K : Nat} (h : szl a K = true) (j : Nat) : Sz (a.getD j 0) K := by
 unfold szl at h
 rw [Bool.and_eq_true, decide_eq_true_eq] at h
 by_cases hj : j < a.length
 ·rw [List.getD_eq_getElem?_getD, List.getElem?_eq_getElem hj]
  exact szb_sz (List.all_eq_true.1 h.2 _ (List.getElem_mem hj))
 ·rw [getQ_out (by omega)]; exact Sz.mono Sz.zero h.1
def upto (n : Nat) (f : Nat → Bool) : Bool := (List.range (n + 1)).all f
theorem upto_at {n : Nat} {f : Nat → Bool} (h : upto n f = true) {i : Nat} (hi : i ≤ n) : f i = true :=
 List.all_eq_true.1 h i (List.mem_range.2 (by omega))
def gzb (K : Nat) (s : List Rat × List Rat × Rat × Rat) : Bool :=
 szl s.1 K && (szl s.2.1 K && (szb s.2.2.1 K && (szb s.2.2.2 K && (upto (s.1.length + 1 - s.2.1.length) (fun t => szl (redN s.1 s.2.1 t) K) && (upto (s.1.length - s.2.1.length) (fun i => szb (s.2.2.2 ^ i) K) && upto (s.1.length - s.2.1.length) (fun i => szb (s.2.1.getD (s.2.1.length - 1) 0 ^ i) K))))))
theorem gz_at {ps qs : List Rat} {K M : Nat} (hM : gM ps qs ≤ M) (h : upto M (fun t => gzb K (gN ps qs t)) = true) (P Q : List Rat) (l c : Rat) (g : GI ps qs P Q l c) : GZ P Q l c K := by
 obtain ⟨t, e, ht⟩ := g.at'
 have h1 := upto_at h (i := t) (by omega)
 rw [e] at h1
 unfold gzb at h1
 simp only [Bool.and_eq_true] at h1
 obtain ⟨h1, h2, h3, h4, h5, h6, h7⟩ := h1
 exact ⟨szl_sz h1, szl_sz h2, szb_sz h3, szb_sz h4, fun t j ht => szl_sz (upto_at h5 ht) j, fun i hi => szb_sz (upto_at h6 hi), fun i hi => szb_sz (upto_at h7 hi)⟩
abbrev awp1 : List Rat := [((0 : Int) : Rat), ((0 : Int) : Rat), ((1 : Int) : Rat)]
abbrev awp2 : List Rat := [((-1 : Int) : Rat), ((1 : Int) : Rat)]
abbrev awp3 : List Rat := [((0 : Int) : Rat), ((0 : Int) : Rat), ((-1 : Int) : Rat), ((1 : Int) : Rat)]
theorem aw_q : decide (dvq awp1 awp2 = [((1 : Int) : Rat), ((1 : Int) : Rat)]) = true := by decide +kernel
theorem aw_r : decide (dvr awp1 awp2 = [((1 : Int) : Rat)]) = true := by decide +kernel
theorem aw_s : decide (sqP awp3 = [((0 : Int) : Rat), ((-1 : Int) : Rat), ((1 : Int) : Rat)]) = true := by decide +kernel
theorem aw_1 : upto 2 (fun t => szl (redN (clq awp1) (clq awp2) t) 1) = true := by decide +kernel
theorem aw_2 : upto 2 (fun t => szb (clr awp1 * (clq awp2).getD ((clq awp2).length - 1) 0 ^ t) 1) = true := by decide +kernel
theorem aw_n : (clq awp1).length + 1 - (clq awp2).length ≤ 2 := by decide +kernel
theorem aw_g : upto 7 (fun t => gzb 2 (gN awp3 (cutQ (derQ awp3)) t)) = true := by decide +kernel
theorem aw_gm : gM awp3 (cutQ (derQ awp3)) ≤ 7 := by decide +kernel
theorem aw_3 : upto 4 (fun t => szl (redN (clq awp3) (clq (gcdP awp3 (cutQ (derQ awp3)))) t) 1) = true := by decide +kernel
theorem aw_4 : upto 4 (fun t => szb (clr awp3 * (clq (gcdP awp3 (cutQ (derQ awp3)))).getD ((clq (gcdP awp3 (cutQ (derQ awp3)))).length - 1) 0 ^ t) 1) = true := by decide +kernel
theorem aw_n3 : (clq awp3).length + 1 - (clq (gcdP awp3 (cutQ (derQ awp3)))).length ≤ 4 := by decide +kernel
theorem aw_e0 : decide (dve awp2 = 0) = true := by decide +kernel
theorem aw_d : decide (((cutn [] : Nat) : Int) - 1 = -1) = true := by decide
end Go.Proofs.YtcankknlbljicaaGreatDoor

namespace Go.Proofs.YtcankknlbljicaaGreatDoor
set_option linter.unusedVariables false

def Dv (d p : List Rat) : Prop := ∃ s, ∀ x, pv p x = pv d x * pv s x
structure IsG (g p q : List Rat) : Prop where
 l : Dv g p
 r : Dv g q
 b : ∃ a b, ∀ x, pv g x = pv a x * pv p x + pv b x * pv q x
theorem pv_one (x : Rat) : pv [1] x = 1 := by simp only [pv]; grind
theorem IsG.base {p q : List Rat} (h : ∀ x, pv q x = 0) : IsG p p q :=
 ⟨⟨[1], fun x => by rw [pv_one]; grind⟩, ⟨[], fun x => by rw [h]; simp only [pv]; grind⟩, [1], [], fun x => by rw [pv_one]; simp only [pv]; grind⟩
theorem IsG.step {g p q r s : List Rat} {k m : Rat} (hk : k ≠ 0) (hm : m ≠ 0) (e : ∀ x, pv r x * k = m * pv p x - pv s x * pv q x) (h : IsG g q r) : IsG g p q := by
 obtain ⟨⟨u, h1⟩, ⟨v, h2⟩, a, b, h3⟩ := h
 refine ⟨⟨(addQ (v.map fun t => t * k) (mulQ s u)).map fun t => t / m, fun x => ?_⟩, ⟨u, h1⟩, b.map fun t => t * (m / k), addQ a (((mulQ b s).map fun t => t / k).map fun t => -t), fun x => ?_⟩
 ·rw [pv_divc, pv_add, pv_mulc, pv_mulQ]
  have h4 := e x
  rw [h1, h2] at h4
  have e1 := Rat.div_mul_cancel (a := pv v x * k + pv s x * pv u x) hm
  generalize (pv v x * k + pv s x * pv u x) / m = y at *
  have e3 : m * (pv p x - pv g x * y) = 0 := by grind
  have := (Rat.mul_eq_zero.1 e3).resolve_left hm
  grind
 ·rw [pv_mulc, pv_add, pv_neg, pv_divc, pv_mulQ, h3]
  have h4 := e x
  have e1 := Rat.div_mul_cancel (a := m) hk
  have e2 := Rat.div_mul_cancel (a := pv b x * pv s x) hk
  generalize pv b x * pv s x / k = y at *
  generalize m / k = z at *
  have e3 : k * (pv a x * pv q x + pv b x * pv r x - (pv b x * z * pv p x + (pv a x + -y) * pv q x)) = 0 := by grind
  have := (Rat.mul_eq_zero.1 e3).resolve_left hk
  grind
def GJ (ps qs : List Rat) (t : Nat) (s : List Rat × List Rat × Rat × Rat) : Prop :=
 s.2.1.length ≤ s.1.length ∧ s.2.2.1 ≠ 0 ∧ s.2.2.2 ≠ 0 ∧ (0 < s.2.1.length → s.2.1.getD (s.2.1.length - 1) 0 ≠ 0) ∧ (s.2.1.length = 0 ∨ t + s.2.1.length ≤ gM ps qs) ∧ ∀ g, IsG g s.1 s.2.1 → IsG g ps qs
def Mon (g : List Rat) : Prop := cutQ g = g ∧ (cutn g = 0 ∨ g.getD (cutn g - 1) 0 = 1)
theorem IsG.mul {g p q : List Rat} (h : IsG g p q) (r : List Rat) : IsG (mulP g r) (mulP p r) (mulP q r) := by
 obtain ⟨⟨s, h1⟩, ⟨t, h2⟩, a, b, h3⟩ := h
 exact ⟨⟨s, fun x => by rw [pv_mul, pv_mul, h1]; grind⟩, ⟨t, fun x => by rw [pv_mul, pv_mul, h2]; grind⟩, a, b, fun x => by rw [pv_mul, pv_mul, pv_mul, h3]; grind⟩
end Go.Proofs.YtcankknlbljicaaGreatDoor

namespace Go.Proofs.YtcankknlbljicaaGreatDoor
set_option linter.unusedVariables false

theorem sgl_szs {n : Nat} {f : Nat → Nat} {K : Nat} (h : upto n (fun i => decide (f i < 4294967296 ^ K)) = true) (i : Nat) (hi : i ≤ n) : f i < 4294967296 ^ K := of_decide_eq_true (upto_at h hi)
theorem le_all {n X : Nat} {f : Nat → Nat} (h : upto n (fun i => decide (f i ≤ X)) = true) (i : Nat) (hi : i ≤ n) : f i ≤ X := of_decide_eq_true (upto_at h hi)
theorem cps_f {p q : List Rat} (hp : p.length ≤ 6) (hq : q.length ≤ 5) : decide ((192 : Int) < ((cutn p : Int) - 1) * ((cutn q : Int) - 1)) = false := by
 have h1 := cutn_le p
 have h2 := cutn_le q
 refine decide_eq_false ?_
 have hc : cutn p = 0 ∨ cutn p = 1 ∨ cutn p = 2 ∨ cutn p = 3 ∨ cutn p = 4 ∨ cutn p = 5 ∨ cutn p = 6 := by omega
 rcases hc with e | e | e | e | e | e | e <;> rw [e] <;> omega
theorem cps_0 {p q : List Rat} (hp : p.length ≤ 6) (hq : q.length ≤ 5) : decide (cpsE p q = 0) = true := by rw [cpsE_f (cps_f hp hq)]; rfl
theorem cps_eq {p q : List Rat} (hp : p.length ≤ 6) (hq : q.length ≤ 5) : cpsP p q = comP p q := cpsP_f (cps_f hp hq)
theorem cmp_same {a b : Rat} (h : a = b) : decide (cmpQ a b = 0) = true := by
 rw [h]
 unfold cmpQ
 rw [if_neg (Rat.lt_irrefl), if_neg (Rat.lt_irrefl)]; rfl
theorem val_add (p q : List Rat) (x : Rat) : decide (cmpQ ((comP (cutQ (addQ p q)) [x]).getD 0 0) ((comP p [x]).getD 0 0 + (comP q [x]).getD 0 0) = 0) = true :=
 cmp_same (by rw [val_pv, val_pv, val_pv, pv_cut, pv_add])
theorem val_mul (p q : List Rat) (x : Rat) : decide (cmpQ ((comP (mulP p q) [x]).getD 0 0) ((comP p [x]).getD 0 0 * (comP q [x]).getD 0 0) = 0) = true :=
 cmp_same (by rw [val_pv, val_pv, val_pv, pv_mul])
theorem val_com {p q : List Rat} (hp : p.length ≤ 6) (hq : q.length ≤ 5) (x : Rat) : decide (cmpQ ((comP (cpsP p q) [x]).getD 0 0) ((comP p [(comP q [x]).getD 0 0]).getD 0 0) = 0) = true :=
 cmp_same (by rw [val_pv, val_pv, val_pv, cps_eq hp hq, com_pv])
theorem cps_pb {p q : List Rat} {C B : Nat} (hp : p.length ≤ 6) (hq : q.length ≤ 5) (h : PB (comP p q) C B) : PB (cpsP p q) C B := by rw [cps_eq hp hq]; exact h
theorem cps_len {p q : List Rat} {n : Nat} (hp : p.length ≤ 6) (hq : q.length ≤ 5) (h : (comP p q).length ≤ n) : (cpsP p q).length ≤ n := by rw [cps_eq hp hq]; exact h
theorem add_le {a b : List Rat} {m n : Nat} (h1 : a.length ≤ m) (h2 : b.length ≤ n) : (cutQ (addQ a b)).length ≤ max m n := Nat.le_trans (cutQ_le _) (by rw [addQ_len]; omega)
theorem sgl_len (x : Rat) : ([x] : List Rat).length ≤ 1 := Nat.le_refl 1
abbrev btwQ (r s : Rat) (n : Int) : Rat := mnQ r s + (mxQ (mnQ r s) (mxQ r s) - mnQ (mnQ r s) (mxQ r s)) * Rat.divInt (n % 13) 12
end Go.Proofs.YtcankknlbljicaaGreatDoor
