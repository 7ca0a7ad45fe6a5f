/-  -/
import Derived.Test.YtcankknlbljicaaGreatDoorXff

set_option linter.unusedVariables false
set_option linter.unusedSimpArgs false
set_option linter.unusedSectionVars false
set_option maxRecDepth 100000
set_option maxHeartbeats 3200000

namespace Go.Proofs.YtcankknlbljicaaGreatDoor
set_option linter.unusedVariables false
def pv : List Rat → Rat → Rat
 | [],_ => 0
 | q :: r,x => q + x * pv r x
def pvd : List Rat → Rat → Rat
 | [],_ => 0
 | q :: r,x => pv r x + x * pvd r x
theorem getQ_nil (n : Nat) : ([] : List Rat).getD n 0 = 0 := by simp
theorem getQ_c0 (q : Rat) (r : List Rat) : (q :: r).getD 0 0 = q := by simp
theorem getQ_cs (q : Rat) (r : List Rat) (n : Nat) : (q :: r).getD (n + 1) 0 = r.getD n 0 := by simp
theorem pv_zero {a : List Rat} (h : ∀ n,a.getD n 0 = 0) (x : Rat) : pv a x = 0 := by
 induction a with
 | nil => rfl
 | cons q r ih =>
  have h0 := h 0
  rw [getQ_c0] at h0
  simp only [pv]
  rw [ih fun n => by rw [← getQ_cs q r n]; exact h (n + 1),h0]; grind
theorem pv_congr {a b : List Rat} (h : ∀ n,a.getD n 0 = b.getD n 0) (x : Rat) : pv a x = pv b x := by
 induction a generalizing b with
 | nil => exact (pv_zero (fun n => by rw [← h n,getQ_nil]) x).symm
 | cons q r ih =>
  cases b with
  | nil => exact pv_zero (fun n => by rw [h n,getQ_nil]) x
  | cons p s =>
   have h0 := h 0
   rw [getQ_c0,getQ_c0] at h0
   simp only [pv]
   rw [h0,ih (b := s) fun n => by have := h (n + 1); rwa [getQ_cs,getQ_cs] at this]
theorem pv_cut (a : List Rat) (x : Rat) : pv (cutQ a) x = pv a x := pv_congr (fun n => getQ_cut a n) x
theorem pv_mulc (a : List Rat) (c x : Rat) : pv (a.map fun q => q * c) x = pv a x * c := by
 induction a with
 | nil => simp [pv,Rat.zero_mul]
 | cons q r ih => simp only [List.map_cons,pv,ih]; grind
theorem pv_divc (a : List Rat) (c x : Rat) : pv (a.map fun q => q / c) x = pv a x / c := by
 have e : (fun q : Rat => q / c) = fun q => q * c⁻¹ := funext fun q => Rat.div_def q c
 rw [e,pv_mulc,Rat.div_def]
theorem pv_neg (a : List Rat) (x : Rat) : pv (a.map fun q => -q) x = -pv a x := by
 induction a with
 | nil => simp [pv]
 | cons q r ih => simp only [List.map_cons,pv,ih]; grind
def addL : List Rat → List Rat → List Rat
 | [],b => b
 | q :: r,[] => q :: r
 | q :: r,p :: s => (q + p) :: addL r s
theorem addL_get : ∀ (a b : List Rat) (n : Nat),(addL a b).getD n 0 = a.getD n 0 + b.getD n 0
 | [],b,n => by rw [getQ_nil,Rat.zero_add]; rfl
 | q :: r,[],n => by rw [getQ_nil,Rat.add_zero]; rfl
 | q :: r,p :: s,0 => by simp [addL]
 | q :: r,p :: s,n + 1 => by simp only [addL,getQ_cs]; exact addL_get r s n
theorem pv_addL : ∀ (a b : List Rat) (x : Rat),pv (addL a b) x = pv a x + pv b x
 | [],b,x => by simp only [addL,pv]; grind
 | q :: r,[],x => by simp only [addL,pv]; grind
 | q :: r,p :: s,x => by simp only [addL,pv,pv_addL r s x]; grind
theorem pv_add (a b : List Rat) (x : Rat) : pv (addQ a b) x = pv a x + pv b x := by
 rw [← pv_addL]; exact pv_congr (fun n => by rw [addQ_get,addL_get]) x
theorem sumN_first (n : Nat) (f : Nat → Rat) : sumN (n + 1) f = f 0 + sumN n fun i => f (i + 1) := by
 induction n with
 | zero => simp only [sumN]; grind
 | succ n ih => rw [sumN,ih]; simp only [sumN]; grind
def mulL : List Rat → List Rat → List Rat
 | [],_ => []
 | q :: r,b => addL (b.map fun p => p * q) (0 :: mulL r b)
theorem pv_mulL : ∀ (a b : List Rat) (x : Rat),pv (mulL a b) x = pv a x * pv b x
 | [],b,x => by simp only [mulL,pv]; grind
 | q :: r,b,x => by simp only [mulL,pv_addL,pv_mulc,pv,pv_mulL r b x]; grind
theorem mulL_get : ∀ (a b : List Rat) (n : Nat),(mulL a b).getD n 0 = conv a b n
 | [],b,n => by simp [mulL,conv,sumN]
 | q :: r,b,n => by
  unfold conv
  rw [List.length_cons,sumN_first,mulL,addL_get,getQ_mul,if_pos (Nat.zero_le _),Nat.sub_zero,getQ_c0,Rat.mul_comm]
  congr 1
  cases n with
  | zero =>
   rw [getQ_c0]
   exact (sumN_zero fun i _ => if_neg (by omega)).symm
  | succ n =>
   rw [getQ_cs,mulL_get r b n]
   unfold conv
   refine sumN_congr fun i _ => ?_
   rw [getQ_cs]
   by_cases h : i ≤ n
   ·rw [if_pos h,if_pos (by omega),show n + 1 - (i + 1) = n - i by omega]
   ·rw [if_neg h,if_neg (by omega)]
theorem pv_mulQ (a b : List Rat) (x : Rat) : pv (mulQ a b) x = pv a x * pv b x := by
 rw [← pv_mulL]; exact pv_congr (fun n => by rw [mulQ_get,mulL_get]) x
theorem pv_mul (a b : List Rat) (x : Rat) : pv (mulP a b) x = pv a x * pv b x := by
 unfold mulP; rw [pv_cut,pv_mulQ,pv_cut,pv_cut]

set_option linter.unusedVariables false
def absQ (q : Rat) : Rat := if q < 0 then -q else q
def bnd : List Rat → Rat
 | [] => 0
 | q :: r => absQ q + bnd r

end Go.Proofs.YtcankknlbljicaaGreatDoor

namespace Go.Proofs.YtcankknlbljicaaGreatDoor
set_option linter.unusedVariables false
def dvS (F G : List Rat) (x : Rat) (t : Nat) : Rat := sumN t fun i => (redN F G i).getD (F.length - i - 1) 0 / (G.getD (G.length - 1) 0 ^ i * G.getD (G.length - 1) 0) * x ^ (F.length - G.length - i)


end Go.Proofs.YtcankknlbljicaaGreatDoor

namespace Go.Proofs.YtcankknlbljicaaGreatDoor
set_option linter.unusedVariables false

def Bi (q : Rat) (B : Nat) : Prop := ∃ n : Int,q = (n : Rat) ∧ n.natAbs ≤ B
theorem Bi.mono {q : Rat} {B C : Nat} (h : Bi q B) (hl : B ≤ C) : Bi q C := by
 obtain ⟨n,e,h1⟩ := h; exact ⟨n,e,Nat.le_trans h1 hl⟩
theorem Bi.mul {p q : Rat} {B C : Nat} (h1 : Bi p B) (h2 : Bi q C) : Bi (p * q) (B * C) := by
 obtain ⟨n,rfl,a⟩ := h1
 obtain ⟨m,rfl,b⟩ := h2
 exact ⟨n * m,(Rat.intCast_mul n m).symm,by rw [Int.natAbs_mul]; exact Nat.mul_le_mul a b⟩
theorem Bi.add {p q : Rat} {B C : Nat} (h1 : Bi p B) (h2 : Bi q C) : Bi (p + q) (B + C) := by
 obtain ⟨n,rfl,a⟩ := h1
 obtain ⟨m,rfl,b⟩ := h2
 exact ⟨n + m,(Rat.intCast_add n m).symm,by omega⟩
theorem Bi.sub {p q : Rat} {B C : Nat} (h1 : Bi p B) (h2 : Bi q C) : Bi (p - q) (B + C) := by
 obtain ⟨n,rfl,a⟩ := h1
 obtain ⟨m,rfl,b⟩ := h2
 exact ⟨n - m,(Rat.intCast_sub n m).symm,by omega⟩
theorem Bi.zero (B : Nat) : Bi 0 B := ⟨0,rfl,Nat.zero_le _⟩
theorem Bi.int {z : Int} {B : Nat} (h : z.natAbs ≤ B) : Bi (z : Rat) B := ⟨z,rfl,h⟩
theorem Bi.pow {q : Rat} {B : Nat} (h : Bi q B) : ∀ n : Nat,Bi (q ^ n) (B ^ n)
 | 0 => by rw [Rat.pow_zero]; exact ⟨1,rfl,by simp⟩
 | n + 1 => by rw [Rat.pow_succ,Nat.pow_succ]; exact (Bi.pow h n).mul h
theorem Bi.sz {q : Rat} {B k : Nat} (h : Bi q B) (hB : B < 4294967296 ^ k) (hk : 1 ≤ k) : Sz q k := by
 obtain ⟨n,rfl,a⟩ := h
 exact Sz.int (Nat.lt_of_le_of_lt a hB) hk
theorem Bi.sumN {n : Nat} {f : Nat → Rat} {B : Nat} (h : ∀ i,i < n → Bi (f i) B) : Bi (sumN n f) (n * B) := by
 induction n with
 | zero => exact Bi.zero _
 | succ n ih => unfold Go.Proofs.YtcankknlbljicaaGreatDoor.sumN; rw [Nat.succ_mul]; exact (ih fun i hi => h i (by omega)).add (h n (by omega))
def PX (qs : List Rat) (C B : Nat) : Prop := 0 < C ∧ ∀ j,Bi (qs.getD j 0 * ((C : Int) : Rat)) B
theorem nat_ne0 {C : Nat} (h : 0 < C) : ((C : Int) : Rat) ≠ 0 := fun e => by
 have := Rat.intCast_eq_zero_iff.1 e
 omega
theorem rat_mk {q : Rat} {C : Nat} {n : Int} (h : 0 < C) (e : q * ((C : Int) : Rat) = (n : Rat)) : q = mkRat n C := by
 rw [Rat.mkRat_eq_div,← e]
 exact (Rat.mul_div_cancel (nat_ne0 h)).symm
theorem den_dvdC {q : Rat} {C : Nat} {n : Int} (h : 0 < C) (e : q * ((C : Int) : Rat) = (n : Rat)) : q.den ∣ C := by
 rw [rat_mk h e,Rat.den_mkRat,if_neg (by omega)]
 exact Nat.div_dvd_of_dvd (Nat.gcd_dvd_left _ _)
theorem PX.sz {qs : List Rat} {C B k : Nat} (h : PX qs C B) (hC : C < 4294967296 ^ k) (hB : B < 4294967296 ^ k) (j : Nat) : Sz (qs.getD j 0) k := by
 obtain ⟨n,e,a⟩ := h.2 j
 rw [rat_mk h.1 e]
 exact Sz.of (by have := h.1; omega) (Nat.lt_of_le_of_lt a hB) hC
theorem PX.mono {qs : List Rat} {C B B' : Nat} (h : PX qs C B) (hB : B ≤ B') : PX qs C B' := ⟨h.1,fun j => (h.2 j).mono hB⟩
theorem PX.congr {ps qs : List Rat} {C B : Nat} (h : PX ps C B) (e : ∀ j,qs.getD j 0 = ps.getD j 0) : PX qs C B := ⟨h.1,fun j => by rw [e]; exact h.2 j⟩
theorem PX.cut {qs : List Rat} {C B : Nat} (h : PX qs C B) : PX (cutQ qs) C B := h.congr fun j => getQ_cut qs j
theorem PX.up {qs : List Rat} {C B : Nat} (h : PX qs C B) (m : Nat) (hm : 0 < m) : PX qs (C * m) (B * m) :=
 ⟨Nat.mul_pos h.1 hm,fun j => by
  rw [Int.natCast_mul,Rat.intCast_mul,← Rat.mul_assoc]
  exact (h.2 j).mul (Bi.int (by omega))⟩
theorem PX.mulQ {ps qs : List Rat} {C D A B : Nat} (h1 : PX ps C A) (h2 : PX qs D B) : PX (mulQ ps qs) (C * D) (ps.length * (A * B)) :=
 ⟨Nat.mul_pos h1.1 h2.1,fun j => by
  rw [mulQ_get,conv,← sumN_mul]
  refine Bi.sumN fun i hi => ?_
  split
  ·rw [Int.natCast_mul,Rat.intCast_mul,show ps.getD i 0 * qs.getD (j - i) 0 * (((C : Int) : Rat) * ((D : Int) : Rat)) = (ps.getD i 0 * ((C : Int) : Rat)) * (qs.getD (j - i) 0 * ((D : Int) : Rat)) by grind]
   exact (h1.2 i).mul (h2.2 _)
  ·rw [Rat.zero_mul]; exact Bi.zero _⟩
theorem PX.mul {ps qs : List Rat} {C D A B L : Nat} (h1 : PX ps C A) (h2 : PX qs D B) (hL : ps.length ≤ L) : PX (mulP ps qs) (C * D) (L * (A * B)) := by
 unfold mulP
 exact ((h1.cut.mulQ h2.cut).cut).mono (Nat.mul_le_mul_right _ (Nat.le_trans (cutQ_le ps) hL))
theorem PX.clr_dvd {qs : List Rat} {C B : Nat} (h : PX qs C B) : ∀ i,i ≤ qs.length → ∃ d : Nat,clr (qs.take i) = ((d : Int) : Rat) ∧ d ∣ C ∧ ∀ j,j < i → ∃ n : Int,qs.getD j 0 * ((d : Int) : Rat) = (n : Rat)
 | 0,_ => ⟨1,rfl,Nat.one_dvd _,fun j hj => absurd hj (Nat.not_lt_zero j)⟩
 | i + 1,hi => by
  obtain ⟨d,e,⟨m,hm⟩,h1⟩ := PX.clr_dvd h i (by omega)
  have hC := h.1
  have hm0 : 0 < m := Nat.pos_of_ne_zero fun e => by rw [hm,e] at hC; omega
  obtain ⟨n,hn,_⟩ := h.2 i
  have hd : (qs.getD i 0 * ((d : Int) : Rat)).den ∣ m := den_dvdC (n := n) hm0 (by rw [Rat.mul_assoc,← Rat.intCast_mul,← Int.natCast_mul,← hm]; exact hn)
  refine ⟨d * (qs.getD i 0 * ((d : Int) : Rat)).den,?_,?_,fun j hj => ?_⟩
  ·rw [clr_succ (by omega),e,Int.natCast_mul,Rat.intCast_mul]
  ·rw [hm]; exact Nat.mul_dvd_mul_left d hd
  ·rw [Int.natCast_mul,Rat.intCast_mul,← Rat.mul_assoc]
   by_cases hj2 : j < i
   ·obtain ⟨n,hn⟩ := h1 j hj2
    rw [hn,← Rat.intCast_mul]
    exact ⟨_,rfl⟩
   ·obtain rfl : j = i := by omega
    exact ⟨(qs.getD j 0 * ((d : Int) : Rat)).num,by
     have := Rat.mul_inv_cancel
     rw [Rat.mul_comm]
     generalize qs.getD j 0 * ((d : Int) : Rat) = q
     have e1 := Rat.mkRat_self q
     rw [Rat.mkRat_eq_div] at e1
     have e2 : ((q.den : Int) : Rat) ≠ 0 := nat_ne0 q.den_pos
     have e3 := Rat.div_mul_cancel (a := ((q.num : Int) : Rat)) e2
     have e4 : ((q.num : Int) : Rat) / ((q.den : Int) : Rat) = q := e1
     rw [e4] at e3
     rw [Rat.mul_comm]; exact e3⟩
theorem PX.clr_bi {qs : List Rat} {C B : Nat} (h : PX qs C B) : Bi (clr qs) C := by
 obtain ⟨d,e,hd,_⟩ := PX.clr_dvd h qs.length (Nat.le_refl _)
 rw [List.take_length] at e
 rw [e]
 exact Bi.int (Nat.le_of_dvd h.1 hd)
theorem PX.clq_bi {qs : List Rat} {C B : Nat} (h : PX qs C B) (j : Nat) : Bi ((clq qs).getD j 0) B := by
 obtain ⟨d,e,⟨m,hm⟩,h1⟩ := PX.clr_dvd h qs.length (Nat.le_refl _)
 rw [List.take_length] at e
 unfold clq
 rw [getQ_mul,getQ_cut,e]
 by_cases hj : j < qs.length
 ·obtain ⟨n,hn⟩ := h1 j hj
  obtain ⟨n2,hn2,hb⟩ := h.2 j
  refine ⟨n,hn,?_⟩
  have h3 : (n : Rat) * ((m : Int) : Rat) = (n2 : Rat) := by rw [← hn,← hn2,hm,Rat.mul_assoc,← Rat.intCast_mul,← Int.natCast_mul]
  rw [← Rat.intCast_mul] at h3
  have h4 := Rat.intCast_inj.1 h3
  have hC := h.1
  have hm0 : 0 < m := Nat.pos_of_ne_zero fun e => by rw [hm,e] at hC; omega
  have h5 : n.natAbs * m = n2.natAbs := by rw [← h4,Int.natAbs_mul]; rfl
  have h6 : n.natAbs ≤ n.natAbs * m := Nat.le_mul_of_pos_right _ hm0
  omega
 ·rw [getQ_out (by omega),Rat.zero_mul]; exact Bi.zero _
def PB (qs : List Rat) (C B : Nat) : Prop := ∃ c,c ≤ C ∧ PX qs c B
theorem PX.pb {qs : List Rat} {C B : Nat} (h : PX qs C B) : PB qs C B := ⟨C,Nat.le_refl _,h⟩
theorem PB.sz {qs : List Rat} {C B k : Nat} (h : PB qs C B) (hC : C < 4294967296 ^ k) (hB : B < 4294967296 ^ k) (j : Nat) : Sz (qs.getD j 0) k := by
 obtain ⟨c,h1,h2⟩ := h; exact h2.sz (Nat.lt_of_le_of_lt h1 hC) hB j
theorem PB.mono {qs : List Rat} {C B C' B' : Nat} (h : PB qs C B) (hC : C ≤ C') (hB : B ≤ B') : PB qs C' B' := by
 obtain ⟨c,h1,h2⟩ := h; exact ⟨c,Nat.le_trans h1 hC,h2.mono hB⟩
theorem PB.cut {qs : List Rat} {C B : Nat} (h : PB qs C B) : PB (cutQ qs) C B := by
 obtain ⟨c,h1,h2⟩ := h; exact ⟨c,h1,h2.cut⟩
theorem PB.mul {ps qs : List Rat} {C D A B L : Nat} (h1 : PB ps C A) (h2 : PB qs D B) (hL : ps.length ≤ L) : PB (mulP ps qs) (C * D) (L * (A * B)) := by
 obtain ⟨c,a1,a2⟩ := h1
 obtain ⟨d,b1,b2⟩ := h2
 exact ⟨c * d,Nat.mul_le_mul a1 b1,a2.mul b2 hL⟩
theorem PX.add {ps qs : List Rat} {C A B : Nat} (h1 : PX ps C A) (h2 : PX qs C B) : PX (addQ ps qs) C (A + B) :=
 ⟨h1.1,fun j => by rw [addQ_get,Rat.add_mul]; exact (h1.2 j).add (h2.2 j)⟩
theorem PB.add {ps qs : List Rat} {C D A B : Nat} (h1 : PB ps C A) (h2 : PB qs D B) : PB (addQ ps qs) (C * D) (A * D + B * C) := by
 obtain ⟨c,a1,a2⟩ := h1
 obtain ⟨d,b1,b2⟩ := h2
 have e2 := b2.up c a2.1
 rw [Nat.mul_comm d c] at e2
 exact ⟨c * d,Nat.mul_le_mul a1 b1,((a2.up d b2.1).add e2).mono (Nat.add_le_add (Nat.mul_le_mul_left _ b1) (Nat.mul_le_mul_left _ a1))⟩
theorem clr_bi {qs : List Rat} {C B : Nat} (h : PB qs C B) : Bi (clr qs) C := by
 obtain ⟨c,h1,h2⟩ := h; exact h2.clr_bi.mono h1
theorem clq_bi {qs : List Rat} {C B : Nat} (h : PB qs C B) (j : Nat) : Bi ((clq qs).getD j 0) B := by
 obtain ⟨c,h1,h2⟩ := h; exact h2.clq_bi j
theorem PB.sgl {x : Rat} {C B : Nat} (hC : 0 < C) (h : Bi (x * ((C : Int) : Rat)) B) : PB [x] C B := PX.pb ⟨hC,fun j => by
 cases j with
 | zero => exact h
 | succ j => rw [getQ_cs,getQ_nil,Rat.zero_mul]; exact Bi.zero _⟩
theorem PB.one {qs : List Rat} {C B : Nat} (h : PB qs C B) (j : Nat) : PB [qs.getD j 0] C B := by
 obtain ⟨c,h1,h2⟩ := h
 exact (PB.sgl h2.1 (h2.2 j)).mono h1 (Nat.le_refl _)
theorem ratQ_bi (t : Int) : Bi (ratQ t * (((840 : Nat) : Int) : Rat)) 10080 := by
 unfold ratQ
 have h1 : -12 ≤ t % 25 - 12 ∧ t % 25 - 12 ≤ 12 := by omega
 have h2 : 0 ≤ Int.tdiv t 25 % 8 ∧ Int.tdiv t 25 % 8 ≤ 7 := by omega
 generalize t % 25 - 12 = a at *
 generalize Int.tdiv t 25 % 8 = b at *
 have key : ∀ (d m : Int),d ≠ 0 → d * m = 840 → m.natAbs ≤ 840 → Bi (Rat.divInt a d * (((840 : Nat) : Int) : Rat)) 10080 := by
  intro d m hd hm hmb
  refine ⟨a * m,?_,?_⟩
  ·rw [Rat.divInt_eq_div,Rat.intCast_mul]
   have e : (((840 : Nat) : Int) : Rat) = (d : Rat) * (m : Rat) := by rw [← Rat.intCast_mul,hm]; rfl
   have hd2 : (d : Rat) ≠ 0 := fun e => hd (Rat.intCast_eq_zero_iff.1 e)
   rw [e,← Rat.mul_assoc,Rat.div_mul_cancel hd2]
  ·rw [Int.natAbs_mul]
   exact Nat.le_trans (Nat.mul_le_mul (show a.natAbs ≤ 12 by omega) hmb) (by decide)
 have hb : b = 0 ∨ b = 1 ∨ b = 2 ∨ b = 3 ∨ b = 4 ∨ b = 5 ∨ b = 6 ∨ b = 7 := by omega
 rcases hb with rfl | rfl | rfl | rfl | rfl | rfl | rfl | rfl
 ·exact key _ 840 (by decide) (by decide) (by decide)
 ·exact key _ 420 (by decide) (by decide) (by decide)
 ·exact key _ 280 (by decide) (by decide) (by decide)
 ·exact key _ 210 (by decide) (by decide) (by decide)
 ·exact key _ 168 (by decide) (by decide) (by decide)
 ·exact key _ 140 (by decide) (by decide) (by decide)
 ·exact key _ 120 (by decide) (by decide) (by decide)
 ·exact key _ 105 (by decide) (by decide) (by decide)
theorem polQ_pb (ts : List Int) (n : Nat) : PB (polQ ts n) 840 10080 := by
 unfold polQ
 refine PB.cut (PX.pb ⟨by decide,fun j => ?_⟩)
 by_cases hj : j < (ts.take (n + 1)).length
 ·rw [List.getD_eq_getElem?_getD,List.getElem?_map,List.getElem?_eq_getElem hj]
  exact ratQ_bi _
 ·rw [getQ_out (by rw [List.length_map]; omega),Rat.zero_mul]; exact Bi.zero _
theorem polQ_len (ts : List Int) (n : Nat) : (polQ ts n).length ≤ n + 1 := by
 unfold polQ
 refine Nat.le_trans (cutQ_le _) ?_
 rw [List.length_map,List.length_take]; omega
end Go.Proofs.YtcankknlbljicaaGreatDoor
