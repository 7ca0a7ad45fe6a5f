/-  -/
import Derived.Test.YtcankknlbljicaaGreatDoorXfj

set_option linter.unusedVariables false
set_option linter.unusedSimpArgs false
set_option linter.unusedSectionVars false
set_option maxRecDepth 100000
set_option maxHeartbeats 3200000

namespace Go.Proofs.YtcankknlbljicaaGreatDoor
set_option linter.unusedVariables false

theorem mulQ_len1 (a b : List Rat) : (mulQ a b).length ≤ a.length + b.length - 1 := by
 unfold mulQ
 split
 ·simp
 ·rw [outQ_len]; exact Nat.le_refl _
theorem mulQ_len0 {a b : List Rat} (h : b.length = 0) : (mulQ a b).length = 0 := by
 unfold mulQ; rw [if_pos (Or.inr h)]; rfl
theorem ofN_len {f g : List Rat} {d : Rat} {G : Nat} (hG : g.length ≤ G) : ∀ i,(ofN f g d i).length ≤ 1 + i * (G - 1)
 | 0 => by simp [ofN]
 | i + 1 => by
  have ih := ofN_len (f := f) (d := d) hG i
  simp only [ofN]
  rw [addQ_len,List.length_singleton,Nat.succ_mul]
  by_cases h : g.length = 0
  ·rw [mulQ_len0 h]; omega
  ·have := mulQ_len1 (ofN f g d i) g
   omega
def oB (G A B D : Nat) : Nat → Nat
 | 0 => 0
 | i + 1 => (1 + i * (G - 1)) * (oB G A B D i * B) + A * (D ^ i * D)
theorem sgl_bi {x : Rat} {B : Nat} (h : Bi x B) (j : Nat) : Bi (([x] : List Rat).getD j 0) B := by
 cases j with
 | zero => exact h
 | succ j => rw [getQ_cs,getQ_nil]; exact Bi.zero _
theorem mulQ_bi {ps qs : List Rat} {A B L : Nat} (h1 : ∀ j,Bi (ps.getD j 0) A) (h2 : ∀ j,Bi (qs.getD j 0) B) (hL : ps.length ≤ L) (j : Nat) : Bi ((mulQ ps qs).getD j 0) (L * (A * B)) := by
 rw [mulQ_get,conv]
 refine (Bi.sumN (B := A * B) fun i hi => ?_).mono (Nat.mul_le_mul_right _ hL)
 split
 ·exact (h1 i).mul (h2 _)
 ·exact Bi.zero _
theorem ofN_bi {f g : List Rat} {d : Rat} {G A B D : Nat} (hG : g.length ≤ G) (hf : ∀ j,Bi (f.getD j 0) A) (hg : ∀ j,Bi (g.getD j 0) B) (hd : Bi d D) : ∀ i j,Bi ((ofN f g d i).getD j 0) (oB G A B D i)
 | 0,j => by simp only [ofN,getQ_nil]; exact Bi.zero _
 | i + 1,j => by
  simp only [ofN,oB]
  rw [addQ_get]
  exact (mulQ_bi (ofN_bi hG hf hg hd i) hg (ofN_len hG i) j).add (sgl_bi ((hf _).mul ((hd.pow i).mul hd)) j)
structure PS (ps qs : List Rat) (N G A B C D : Nat) : Prop where
 n : ps.length ≤ N
 g : qs.length ≤ G
 p : PB ps C A
 q : PB qs D B
theorem PS.len {ps qs : List Rat} {N G A B C D : Nat} (h : PS ps qs N G A B C D) (i : Nat) (hi : i ≤ (clq ps).length) : (ofN (clq ps) (clq qs) (clr qs) i).length ≤ 1 + N * (G - 1) := by
 have h1 := clq_len ps
 have h2 := h.n
 refine Nat.le_trans (ofN_len (Nat.le_trans (clq_len qs) h.g) i) ?_
 exact Nat.add_le_add_left (Nat.mul_le_mul_right _ (by omega)) 1
theorem PS.z {ps qs : List Rat} {N G A B C D K : Nat} (h : PS ps qs N G A B C D) (hk : ∀ i,i ≤ N → oB G A B D i < 4294967296 ^ K) (hK : 1 ≤ K) (i j : Nat) (hi : i ≤ (clq ps).length) : Sz ((ofN (clq ps) (clq qs) (clr qs) i).getD j 0) K := by
 have h1 := clq_len ps
 have h2 := h.n
 exact (ofN_bi (Nat.le_trans (clq_len qs) h.g) (fun j => clq_bi h.p j) (fun j => clq_bi h.q j) (clr_bi h.q) i j).sz (hk i (by omega)) hK
theorem PS.d {ps qs : List Rat} {N G A B C D K : Nat} (h : PS ps qs N G A B C D) (hk : ∀ i,i ≤ N → D ^ i < 4294967296 ^ K) (hK : 1 ≤ K) (i : Nat) (hi : i ≤ (clq ps).length) : Sz (clr qs ^ i) K := by
 have h1 := clq_len ps
 have h2 := h.n
 exact ((clr_bi h.q).pow i).sz (hk i (by omega)) hK
theorem PS.f {ps qs : List Rat} {N G A B C D K M : Nat} (h : PS ps qs N G A B C D) (hk : ∀ i,i ≤ N → oB G A B D i < 4294967296 ^ K) (hK : 1 ≤ K) (hm : ∀ i,i ≤ N → C * D ^ i < 4294967296 ^ M) (hM : 1 ≤ M) (j : Nat) : Sz ((comP ps qs).getD j 0) (K + M) := by
 have h1 := clq_len ps
 have h2 := h.n
 unfold comP
 rw [getQ_div,getQ_cut]
 exact Sz.div (h.z hk hK _ j (Nat.le_refl _)) (((clr_bi h.p).mul ((clr_bi h.q).pow _)).sz (hm _ (by omega)) hM)

def pB (G A : Nat) : Nat → Nat
 | 0 => 1
 | i + 1 => (1 + i * (G - 1)) * (pB G A i * A)

theorem evN_sz {qs : List Rat} {x : Rat} {k m : Nat} (hq : ∀ j,Sz (qs.getD j 0) k) (hx : Sz x m) : ∀ t,Sz (evN qs x t) (t * (k + m + 1) + 1)
 | 0 => by simp only [evN]; exact Sz.mono Sz.zero (by omega)
 | t + 1 => by
  simp only [evN]
  rw [Nat.succ_mul]
  exact (((evN_sz hq hx t).mul hx).add (hq _)).mono (by omega)
theorem mnQ_or (a b : Rat) : mnQ a b = a ∨ mnQ a b = b := by unfold mnQ; split <;> simp
theorem mxQ_or (a b : Rat) : mxQ a b = a ∨ mxQ a b = b := by unfold mxQ; split <;> simp
theorem mnQ_sz {a b : Rat} {k : Nat} (ha : Sz a k) (hb : Sz b k) : Sz (mnQ a b) k := by rcases mnQ_or a b with e | e <;> rw [e] <;> assumption
theorem mxQ_sz {a b : Rat} {k : Nat} (ha : Sz a k) (hb : Sz b k) : Sz (mxQ a b) k := by rcases mxQ_or a b with e | e <;> rw [e] <;> assumption
theorem encN_sz {ps : List Rat} {p q : Rat} {k m : Nat} (hs : ∀ j,Sz (ps.getD j 0) k) (hp : Sz p m) (hq : Sz q m) : ∀ i,Sz (encN ps p q i).1 (i * (k + m + 1) + 1) ∧ Sz (encN ps p q i).2 (i * (k + m + 1) + 1)
 | 0 => by
  have h0 : Sz ((0 : Int) : Rat) 1 := Sz.zero
  exact ⟨(mnQ_sz h0 h0).mono (by omega),(mxQ_sz h0 h0).mono (by omega)⟩
 | i + 1 => by
  obtain ⟨h1,h2⟩ := encN_sz hs hp hq i
  have a1 := mnQ_sz (mnQ_sz (h1.mul hp) (h1.mul hq)) (mnQ_sz (h2.mul hp) (h2.mul hq))
  have a2 := mxQ_sz (mxQ_sz (h1.mul hp) (h1.mul hq)) (mxQ_sz (h2.mul hp) (h2.mul hq))
  have c := hs (ps.length - i - 1)
  simp only [encN]
  rw [Nat.succ_mul]
  exact ⟨((mnQ_sz a1 a2).add (mnQ_sz (mnQ_sz c c) (mxQ_sz c c))).mono (by omega),((mxQ_sz a1 a2).add (mxQ_sz (mnQ_sz c c) (mxQ_sz c c))).mono (by omega)⟩
theorem lin_btw {a b c d x : Rat} (h1 : a ≤ x) (h2 : x ≤ b) : mnQ (a * c + d) (b * c + d) ≤ x * c + d ∧ x * c + d ≤ mxQ (a * c + d) (b * c + d) := by
 unfold mnQ mxQ
 by_cases hc : 0 ≤ c
 ·have e1 := Rat.mul_nonneg (show 0 ≤ x - a by grind) hc
  have e2 := Rat.mul_nonneg (show 0 ≤ b - x by grind) hc
  constructor <;> split <;> grind
 ·have e1 := Rat.mul_nonneg (show 0 ≤ x - a by grind) (show 0 ≤ -c by grind)
  have e2 := Rat.mul_nonneg (show 0 ≤ b - x by grind) (show 0 ≤ -c by grind)
  constructor <;> split <;> grind
theorem mnQ_le2 {a b c d : Rat} (h1 : a ≤ c) (h2 : b ≤ d) : mnQ a b ≤ mnQ c d := by unfold mnQ; split <;> split <;> grind
theorem mxQ_le2 {a b c d : Rat} (h1 : a ≤ c) (h2 : b ≤ d) : mxQ a b ≤ mxQ c d := by unfold mxQ; split <;> split <;> grind
theorem enc_mul {l h p q e x : Rat} (h1 : l ≤ e) (h2 : e ≤ h) (h3 : p ≤ x) (h4 : x ≤ q) : mn4 (l * p) (l * q) (h * p) (h * q) ≤ e * x ∧ e * x ≤ mx4 (l * p) (l * q) (h * p) (h * q) := by
 have a1 := lin_btw (c := e) (d := 0) h3 h4
 have a2 := lin_btw (c := p) (d := 0) h1 h2
 have a3 := lin_btw (c := q) (d := 0) h1 h2
 unfold mn4 mx4
 simp only [Rat.add_zero] at a1 a2 a3
 rw [Rat.mul_comm p e,Rat.mul_comm q e,Rat.mul_comm x e] at a1
 constructor
 ·refine Rat.le_trans ?_ a1.1
  have := mnQ_le2 a2.1 a3.1
  refine Rat.le_trans ?_ this
  unfold mnQ; grind
 ·refine Rat.le_trans a1.2 ?_
  have := mxQ_le2 a2.2 a3.2
  refine Rat.le_trans this ?_
  unfold mxQ; grind
theorem encN_in {ps : List Rat} {p q x : Rat} (h1 : p ≤ x) (h2 : x ≤ q) : ∀ i,(encN ps p q i).1 ≤ evN ps x i ∧ evN ps x i ≤ (encN ps p q i).2
 | 0 => by simp only [encN,evN,mnQ,mxQ]; constructor <;> grind
 | i + 1 => by
  obtain ⟨a,b⟩ := encN_in h1 h2 i
  have c := enc_mul a b h1 h2
  simp only [encN,evN]
  generalize mn4 _ _ _ _ = u at *
  generalize mx4 _ _ _ _ = v at *
  generalize ps.getD (ps.length - i - 1) 0 = d
  unfold mnQ mxQ
  constructor <;> grind
end Go.Proofs.YtcankknlbljicaaGreatDoor

namespace Go.Proofs.YtcankknlbljicaaGreatDoor
set_option linter.unusedVariables false

def szb (q : Rat) (K : Nat) : Bool := decide (q.num.natAbs < 4294967296 ^ K) && decide (q.den < 4294967296 ^ K)
theorem szb_sz {q : Rat} {K : Nat} (h : szb q K = true) : Sz q K := by
 unfold szb at h
 rw [Bool.and_eq_true,decide_eq_true_eq,decide_eq_true_eq] at h
 rw [← Rat.mkRat_self q]
 exact Sz.of q.den_nz h.1 h.2
def szl (a : List Rat) (K : Nat) : Bool := decide (1 ≤ K) && a.all fun q => szb q K
theorem szl_sz {a : List Rat} {K : Nat} (h : szl a K = true) (j : Nat) : Sz (a.getD j 0) K := by
 unfold szl at h
 rw [Bool.and_eq_true,decide_eq_true_eq] at h
 by_cases hj : j < a.length
 ·rw [List.getD_eq_getElem?_getD,List.getElem?_eq_getElem hj]
  exact szb_sz (List.all_eq_true.1 h.2 _ (List.getElem_mem hj))
 ·rw [getQ_out (by omega)]; exact Sz.mono Sz.zero h.1
def upto (n : Nat) (f : Nat → Bool) : Bool := (List.range (n + 1)).all f
theorem upto_at {n : Nat} {f : Nat → Bool} (h : upto n f = true) {i : Nat} (hi : i ≤ n) : f i = true :=
 List.all_eq_true.1 h i (List.mem_range.2 (by omega))
def gzb (K : Nat) (s : List Rat × List Rat × Rat × Rat) : Bool :=
 szl s.1 K && (szl s.2.1 K && (szb s.2.2.1 K && (szb s.2.2.2 K && (upto (s.1.length + 1 - s.2.1.length) (fun t => szl (redN s.1 s.2.1 t) K) && (upto (s.1.length - s.2.1.length) (fun i => szb (s.2.2.2 ^ i) K) && upto (s.1.length - s.2.1.length) (fun i => szb (s.2.1.getD (s.2.1.length - 1) 0 ^ i) K))))))
theorem gz_at {ps qs : List Rat} {K M : Nat} (hM : gM ps qs ≤ M) (h : upto M (fun t => gzb K (gN ps qs t)) = true) (P Q : List Rat) (l c : Rat) (g : GI ps qs P Q l c) : GZ P Q l c K := by
 obtain ⟨t,e,ht⟩ := g.at'
 have h1 := upto_at h (i := t) (by omega)
 rw [e] at h1
 unfold gzb at h1
 simp only [Bool.and_eq_true] at h1
 obtain ⟨h1,h2,h3,h4,h5,h6,h7⟩ := h1
 exact ⟨szl_sz h1,szl_sz h2,szb_sz h3,szb_sz h4,fun t j ht => szl_sz (upto_at h5 ht) j,fun i hi => szb_sz (upto_at h6 hi),fun i hi => szb_sz (upto_at h7 hi)⟩
abbrev awp1 : List Rat := [((0 : Int) : Rat),((0 : Int) : Rat),((1 : Int) : Rat)]
abbrev awp2 : List Rat := [((-1 : Int) : Rat),((1 : Int) : Rat)]
abbrev awp3 : List Rat := [((0 : Int) : Rat),((0 : Int) : Rat),((-1 : Int) : Rat),((1 : Int) : Rat)]
theorem aw_q : decide (dvq awp1 awp2 = [((1 : Int) : Rat),((1 : Int) : Rat)]) = true := by decide +kernel
theorem aw_r : decide (dvr awp1 awp2 = [((1 : Int) : Rat)]) = true := by decide +kernel
theorem aw_s : decide (sqP awp3 = [((0 : Int) : Rat),((-1 : Int) : Rat),((1 : Int) : Rat)]) = true := by decide +kernel
theorem aw_1 : upto 2 (fun t => szl (redN (clq awp1) (clq awp2) t) 1) = true := by decide +kernel
theorem aw_2 : upto 2 (fun t => szb (clr awp1 * (clq awp2).getD ((clq awp2).length - 1) 0 ^ t) 1) = true := by decide +kernel
theorem aw_n : (clq awp1).length + 1 - (clq awp2).length ≤ 2 := by decide +kernel
theorem aw_g : upto 7 (fun t => gzb 2 (gN awp3 (cutQ (derQ awp3)) t)) = true := by decide +kernel
theorem aw_gm : gM awp3 (cutQ (derQ awp3)) ≤ 7 := by decide +kernel
theorem aw_3 : upto 4 (fun t => szl (redN (clq awp3) (clq (gcdP awp3 (cutQ (derQ awp3)))) t) 1) = true := by decide +kernel
theorem aw_4 : upto 4 (fun t => szb (clr awp3 * (clq (gcdP awp3 (cutQ (derQ awp3)))).getD ((clq (gcdP awp3 (cutQ (derQ awp3)))).length - 1) 0 ^ t) 1) = true := by decide +kernel
theorem aw_n3 : (clq awp3).length + 1 - (clq (gcdP awp3 (cutQ (derQ awp3)))).length ≤ 4 := by decide +kernel
theorem aw_e0 : decide (dve awp2 = 0) = true := by decide +kernel
theorem aw_d : decide (((cutn [] : Nat) : Int) - 1 = -1) = true := by decide
end Go.Proofs.YtcankknlbljicaaGreatDoor

namespace Go.Proofs.YtcankknlbljicaaGreatDoor
set_option linter.unusedVariables false

def Dv (d p : List Rat) : Prop := ∃ s,∀ x,pv p x = pv d x * pv s x
structure IsG (g p q : List Rat) : Prop where
 l : Dv g p
 r : Dv g q
 b : ∃ a b,∀ x,pv g x = pv a x * pv p x + pv b x * pv q x
theorem pv_one (x : Rat) : pv [1] x = 1 := by simp only [pv]; grind
theorem IsG.base {p q : List Rat} (h : ∀ x,pv q x = 0) : IsG p p q :=
 ⟨⟨[1],fun x => by rw [pv_one]; grind⟩,⟨[],fun x => by rw [h]; simp only [pv]; grind⟩,[1],[],fun x => by rw [pv_one]; simp only [pv]; grind⟩
theorem IsG.step {g p q r s : List Rat} {k m : Rat} (hk : k ≠ 0) (hm : m ≠ 0) (e : ∀ x,pv r x * k = m * pv p x - pv s x * pv q x) (h : IsG g q r) : IsG g p q := by
 obtain ⟨⟨u,h1⟩,⟨v,h2⟩,a,b,h3⟩ := h
 refine ⟨⟨(addQ (v.map fun t => t * k) (mulQ s u)).map fun t => t / m,fun x => ?_⟩,⟨u,h1⟩,b.map fun t => t * (m / k),addQ a (((mulQ b s).map fun t => t / k).map fun t => -t),fun x => ?_⟩
 ·rw [pv_divc,pv_add,pv_mulc,pv_mulQ]
  have h4 := e x
  rw [h1,h2] at h4
  have e1 := Rat.div_mul_cancel (a := pv v x * k + pv s x * pv u x) hm
  generalize (pv v x * k + pv s x * pv u x) / m = y at *
  have e3 : m * (pv p x - pv g x * y) = 0 := by grind
  have := (Rat.mul_eq_zero.1 e3).resolve_left hm
  grind
 ·rw [pv_mulc,pv_add,pv_neg,pv_divc,pv_mulQ,h3]
  have h4 := e x
  have e1 := Rat.div_mul_cancel (a := m) hk
  have e2 := Rat.div_mul_cancel (a := pv b x * pv s x) hk
  generalize pv b x * pv s x / k = y at *
  generalize m / k = z at *
  have e3 : k * (pv a x * pv q x + pv b x * pv r x - (pv b x * z * pv p x + (pv a x + -y) * pv q x)) = 0 := by grind
  have := (Rat.mul_eq_zero.1 e3).resolve_left hk
  grind
def GJ (ps qs : List Rat) (t : Nat) (s : List Rat × List Rat × Rat × Rat) : Prop :=
 s.2.1.length ≤ s.1.length ∧ s.2.2.1 ≠ 0 ∧ s.2.2.2 ≠ 0 ∧ (0 < s.2.1.length → s.2.1.getD (s.2.1.length - 1) 0 ≠ 0) ∧ (s.2.1.length = 0 ∨ t + s.2.1.length ≤ gM ps qs) ∧ ∀ g,IsG g s.1 s.2.1 → IsG g ps qs
def Mon (g : List Rat) : Prop := cutQ g = g ∧ (cutn g = 0 ∨ g.getD (cutn g - 1) 0 = 1)
theorem IsG.mul {g p q : List Rat} (h : IsG g p q) (r : List Rat) : IsG (mulP g r) (mulP p r) (mulP q r) := by
 obtain ⟨⟨s,h1⟩,⟨t,h2⟩,a,b,h3⟩ := h
 exact ⟨⟨s,fun x => by rw [pv_mul,pv_mul,h1]; grind⟩,⟨t,fun x => by rw [pv_mul,pv_mul,h2]; grind⟩,a,b,fun x => by rw [pv_mul,pv_mul,pv_mul,h3]; grind⟩
end Go.Proofs.YtcankknlbljicaaGreatDoor

namespace Go.Proofs.YtcankknlbljicaaGreatDoor
set_option linter.unusedVariables false

theorem mx_of5 {r s : Rat} : mxQ (mnQ r s) (mxQ r s) = mxQ r s := by unfold mxQ mnQ; split <;> split <;> grind
theorem mn_of5 {r s : Rat} : mnQ (mnQ r s) (mxQ r s) = mnQ r s := by unfold mxQ mnQ; split <;> split <;> grind
theorem mn_mx (r s : Rat) : mnQ r s ≤ mxQ r s := by unfold mxQ mnQ; split <;> split <;> grind
theorem frac_01 (n : Int) : 0 ≤ Rat.divInt (n % 13) 12 ∧ Rat.divInt (n % 13) 12 ≤ 1 := by
 have h1 : 0 ≤ n % 13 ∧ n % 13 ≤ 12 := by omega
 generalize n % 13 = a at *
 have hc : a = 0 ∨ a = 1 ∨ a = 2 ∨ a = 3 ∨ a = 4 ∨ a = 5 ∨ a = 6 ∨ a = 7 ∨ a = 8 ∨ a = 9 ∨ a = 10 ∨ a = 11 ∨ a = 12 := by omega
 rcases hc with rfl | rfl | rfl | rfl | rfl | rfl | rfl | rfl | rfl | rfl | rfl | rfl | rfl <;> decide +kernel
theorem frac_sz (n : Int) : Sz (Rat.divInt (n % 13) 12) 1 := by
 have h1 : 0 ≤ n % 13 ∧ n % 13 ≤ 12 := by omega
 generalize n % 13 = a at *
 rw [show (12 : Int) = ((12 : Nat) : Int) from rfl,Rat.divInt_ofNat]
 exact Sz.of (by decide) (by omega) (by decide)
theorem ratQ_sz (t : Int) : Sz (ratQ t) 1 := by
 have h := (PB.sgl (by decide) (ratQ_bi t) : PB [ratQ t] 840 10080).sz (k := 1) (by decide) (by decide) 0
 rwa [getQ_c0] at h
abbrev btwQ (r s : Rat) (n : Int) : Rat := mnQ r s + (mxQ (mnQ r s) (mxQ r s) - mnQ (mnQ r s) (mxQ r s)) * Rat.divInt (n % 13) 12
theorem btwQ_in (r s : Rat) (n : Int) : mnQ r s ≤ btwQ r s n ∧ btwQ r s n ≤ mxQ r s := by
 show mnQ r s ≤ mnQ r s + (mxQ (mnQ r s) (mxQ r s) - mnQ (mnQ r s) (mxQ r s)) * Rat.divInt (n % 13) 12 ∧ mnQ r s + (mxQ (mnQ r s) (mxQ r s) - mnQ (mnQ r s) (mxQ r s)) * Rat.divInt (n % 13) 12 ≤ mxQ r s
 rw [mx_of5,mn_of5]
 have h1 := mn_mx r s
 obtain ⟨h2,h3⟩ := frac_01 n
 generalize Rat.divInt (n % 13) 12 = f at *
 have a1 := Rat.mul_nonneg (show 0 ≤ mxQ r s - mnQ r s by grind) h2
 have a2 := Rat.mul_nonneg (show 0 ≤ mxQ r s - mnQ r s by grind) (show 0 ≤ 1 - f by grind)
 constructor <;> grind
theorem btwQ_sz {r s : Rat} (hr : Sz r 1) (hs : Sz s 1) (n : Int) : Sz (btwQ r s n) 6 := by
 have a := mnQ_sz hr hs
 have b := mxQ_sz hr hs
 exact (a.add (((mxQ_sz a b).sub (mnQ_sz a b)).mul (frac_sz n))).mono (by omega)
theorem enc_ok (ps : List Rat) (r s : Rat) (n : Int) : ((!(decide (evN ps (btwQ r s n) ps.length < mnQ (encN ps (mnQ r s) (mxQ r s) ps.length).1 (encN ps (mnQ r s) (mxQ r s) ps.length).2))) && (!(decide (mxQ (encN ps (mnQ r s) (mxQ r s) ps.length).1 (encN ps (mnQ r s) (mxQ r s) ps.length).2 < evN ps (btwQ r s n) ps.length)))) = true := by
 obtain ⟨h1,h2⟩ := btwQ_in r s n
 obtain ⟨h3,h4⟩ := encN_in (ps := ps) h1 h2 ps.length
 generalize evN ps (btwQ r s n) ps.length = y at *
 generalize (encN ps (mnQ r s) (mxQ r s) ps.length).1 = l at *
 generalize (encN ps (mnQ r s) (mxQ r s) ps.length).2 = u at *
 rw [Bool.and_eq_true,Bool.not_eq_true',Bool.not_eq_true',decide_eq_false_iff_not,decide_eq_false_iff_not]
 unfold mnQ mxQ
 constructor <;> split <;> grind
end Go.Proofs.YtcankknlbljicaaGreatDoor
