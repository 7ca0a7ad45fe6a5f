/-  -/
import Derived.Test.YtcankknlbljicaaGreatDoorYfj

set_option linter.unusedVariables false
set_option linter.unusedSimpArgs false
set_option linter.unusedSectionVars false
set_option maxRecDepth 100000
set_option maxHeartbeats 3200000

namespace Go.Proofs.YtcankknlbljicaaGreatDoor
set_option linter.unusedVariables false

theorem mulQ_len1 (a b:List Rat):(mulQ a b).length≤a.length + b.length - 1:=by
 unfold mulQ
 split
 ·simp
 ·rw [outQ_len]; exact Nat.le_refl _
theorem mulQ_len0 {a b:List Rat} (h:b.length=0):(mulQ a b).length=0:=by
 unfold mulQ; rw [if_pos (Or.inr h)]; rfl
theorem ofN_len {f g:List Rat} {d:Rat} {G:Nat} (hG:g.length≤G):∀ i,(ofN f g d i).length≤1 + i * (G - 1)
 | 0=>by simp [ofN]
 | i + 1=>by
  have ih:=ofN_len (f:=f) (d:=d) hG i
  simp only [ofN]
  rw [addQ_len,List.length_singleton,Nat.succ_mul]
  by_cases h:g.length=0
  ·rw [mulQ_len0 h]; omega
  ·have:=mulQ_len1 (ofN f g d i) g
   omega
def oB (G A B D:Nat):Nat→Nat
 | 0=>0
 | i + 1=>(1 + i * (G - 1)) * (oB G A B D i * B) + A * (D ^ i * D)
theorem sgl_bi {x:Rat} {B:Nat} (h:Bi x B) (j:Nat):Bi (([x]:List Rat).getD j 0) B:=by
 cases j with
 | zero=>exact h
 | succ j=>rw [getQ_cs,getQ_nil]; exact Bi.zero _
theorem mulQ_bi {ps qs:List Rat} {A B L:Nat} (h1:∀ j,Bi (ps.getD j 0) A) (h2:∀ j,Bi (qs.getD j 0) B) (hL:ps.length≤L) (j:Nat):Bi ((mulQ ps qs).getD j 0) (L * (A * B)):=by
 rw [mulQ_get,conv]
 refine (Bi.sumN (B:=A * B) fun i hi=>?_).mono (Nat.mul_le_mul_right _ hL)
 split
 ·exact (h1 i).mul (h2 _)
 ·exact Bi.zero _
theorem ofN_bi {f g:List Rat} {d:Rat} {G A B D:Nat} (hG:g.length≤G) (hf:∀ j,Bi (f.getD j 0) A) (hg:∀ j,Bi (g.getD j 0) B) (hd:Bi d D):∀ i j,Bi ((ofN f g d i).getD j 0) (oB G A B D i)
 | 0,j=>by simp only [ofN,getQ_nil]; exact Bi.zero _
 | i + 1,j=>by
  simp only [ofN,oB]
  rw [addQ_get]
  exact (mulQ_bi (ofN_bi hG hf hg hd i) hg (ofN_len hG i) j).add (sgl_bi ((hf _).mul ((hd.pow i).mul hd)) j)
structure PS (ps qs:List Rat) (N G A B C D:Nat):Prop where
 n:ps.length≤N
 g:qs.length≤G
 p:PB ps C A
 q:PB qs D B
theorem PS.len {ps qs:List Rat} {N G A B C D:Nat} (h:PS ps qs N G A B C D) (i:Nat) (hi:i≤(clq ps).length):(ofN (clq ps) (clq qs) (clr qs) i).length≤1 + N * (G - 1):=by
 have h1:=clq_len ps
 have h2:=h.n
 refine Nat.le_trans (ofN_len (Nat.le_trans (clq_len qs) h.g) i) ?_
 exact Nat.add_le_add_left (Nat.mul_le_mul_right _ (by omega)) 1
theorem PS.z {ps qs:List Rat} {N G A B C D K:Nat} (h:PS ps qs N G A B C D) (hk:∀ i,i≤N→oB G A B D i < 4294967296 ^ K) (hK : 1≤K) (i j:Nat) (hi:i≤(clq ps).length):Sz ((ofN (clq ps) (clq qs) (clr qs) i).getD j 0) K:=by
 have h1:=clq_len ps
 have h2:=h.n
 exact (ofN_bi (Nat.le_trans (clq_len qs) h.g) (fun j=>clq_bi h.p j) (fun j=>clq_bi h.q j) (clr_bi h.q) i j).sz (hk i (by omega)) hK
theorem PS.d {ps qs:List Rat} {N G A B C D K:Nat} (h:PS ps qs N G A B C D) (hk:∀ i,i≤N→D ^ i < 4294967296 ^ K) (hK : 1≤K) (i:Nat) (hi:i≤(clq ps).length):Sz (clr qs ^ i) K:=by
 have h1:=clq_len ps
 have h2:=h.n
 exact ((clr_bi h.q).pow i).sz (hk i (by omega)) hK
theorem PS.f {ps qs:List Rat} {N G A B C D K M:Nat} (h:PS ps qs N G A B C D) (hk:∀ i,i≤N→oB G A B D i < 4294967296 ^ K) (hK : 1≤K) (hm:∀ i,i≤N→C * D ^ i < 4294967296 ^ M) (hM : 1≤M) (j:Nat):Sz ((comP ps qs).getD j 0) (K + M):=by
 have h1:=clq_len ps
 have h2:=h.n
 unfold comP
 rw [getQ_div,getQ_cut]
 exact Sz.div (h.z hk hK _ j (Nat.le_refl _)) (((clr_bi h.p).mul ((clr_bi h.q).pow _)).sz (hm _ (by omega)) hM)
theorem comP_len {ps qs:List Rat} {N G A B C D:Nat} (h:PS ps qs N G A B C D):(comP ps qs).length≤1 + N * (G - 1):=by
 unfold comP
 rw [List.length_map]
 exact Nat.le_trans (cutQ_le _) (h.len _ (Nat.le_refl _))
theorem nat_powQ (d:Nat):∀ n:Nat,((d:Int):Rat) ^ n=(((d ^ n:Nat):Int):Rat)
 | 0=>by rw [Rat.pow_zero]; rfl
 | n + 1=>by rw [Rat.pow_succ,nat_powQ d n,Nat.pow_succ,Int.natCast_mul,Rat.intCast_mul]

def pB (G A:Nat):Nat→Nat
 | 0=>1
 | i + 1=>(1 + i * (G - 1)) * (pB G A i * A)

end Go.Proofs.YtcankknlbljicaaGreatDoor

namespace Go.Proofs.YtcankknlbljicaaGreatDoor
set_option linter.unusedVariables false

def szb (q:Rat) (K:Nat):Bool:=decide (q.num.natAbs < 4294967296 ^ K) && decide (q.den < 4294967296 ^ K)
theorem szb_sz {q:Rat} {K:Nat} (h:szb q K=true):Sz q K:=by
 unfold szb at h
 rw [Bool.and_eq_true,decide_eq_true_eq,decide_eq_true_eq] at h
 rw [← Rat.mkRat_self q]
 exact Sz.of q.den_nz h.1 h.2
def szl (a:List Rat) (K:Nat):Bool:=decide (1≤K) && a.all fun q=>szb q K
theorem szl_sz {a:List Rat} {K:Nat} (h:szl a K=true) (j:Nat):Sz (a.getD j 0) K:=by
 unfold szl at h
 rw [Bool.and_eq_true,decide_eq_true_eq] at h
 by_cases hj:j < a.length
 ·rw [List.getD_eq_getElem?_getD,List.getElem?_eq_getElem hj]
  exact szb_sz (List.all_eq_true.1 h.2 _ (List.getElem_mem hj))
 ·rw [getQ_out (by omega)]; exact Sz.mono Sz.zero h.1
def upto (n:Nat) (f:Nat→Bool):Bool:=(List.range (n + 1)).all f
theorem upto_at {n:Nat} {f:Nat→Bool} (h:upto n f=true) {i:Nat} (hi:i≤n):f i=true :=
 List.all_eq_true.1 h i (List.mem_range.2 (by omega))
def gzb (K:Nat) (s:List Rat × List Rat × Rat × Rat):Bool :=
 szl s.1 K && (szl s.2.1 K && (szb s.2.2.1 K && (szb s.2.2.2 K && (upto (s.1.length + 1 - s.2.1.length) (fun t=>szl (redN s.1 s.2.1 t) K) && (upto (s.1.length - s.2.1.length) (fun i=>szb (s.2.2.2 ^ i) K) && upto (s.1.length - s.2.1.length) (fun i=>szb (s.2.1.getD (s.2.1.length - 1) 0 ^ i) K))))))
theorem gz_at {ps qs:List Rat} {K M:Nat} (hM:gM ps qs≤M) (h:upto M (fun t=>gzb K (gN ps qs t))=true) (P Q:List Rat) (l c:Rat) (g:GI ps qs P Q l c):GZ P Q l c K:=by
 obtain ⟨t,e,ht⟩:=g.at'
 have h1:=upto_at h (i:=t) (by omega)
 rw [e] at h1
 unfold gzb at h1
 simp only [Bool.and_eq_true] at h1
 obtain ⟨h1,h2,h3,h4,h5,h6,h7⟩:=h1
 exact ⟨szl_sz h1,szl_sz h2,szb_sz h3,szb_sz h4,fun t j ht=>szl_sz (upto_at h5 ht) j,fun i hi=>szb_sz (upto_at h6 hi),fun i hi=>szb_sz (upto_at h7 hi)⟩
abbrev awp1:List Rat:=[((0:Int):Rat),((0:Int):Rat),((1:Int):Rat)]
abbrev awp2:List Rat:=[((-1:Int):Rat),((1:Int):Rat)]
abbrev awp3:List Rat:=[((0:Int):Rat),((0:Int):Rat),((-1:Int):Rat),((1:Int):Rat)]
theorem aw_q:decide (dvq awp1 awp2 = [((1:Int):Rat),((1:Int):Rat)])=true:=by decide +kernel
theorem aw_r:decide (dvr awp1 awp2 = [((1:Int):Rat)])=true:=by decide +kernel
theorem aw_s:decide (sqP awp3 = [((0:Int):Rat),((-1:Int):Rat),((1:Int):Rat)])=true:=by decide +kernel
theorem aw_1:upto 2 (fun t=>szl (redN (clq awp1) (clq awp2) t) 1)=true:=by decide +kernel
theorem aw_2:upto 2 (fun t=>szb (clr awp1 * (clq awp2).getD ((clq awp2).length - 1) 0 ^ t) 1)=true:=by decide +kernel
theorem aw_n:(clq awp1).length + 1 - (clq awp2).length≤2:=by decide +kernel
theorem aw_g:upto 7 (fun t=>gzb 2 (gN awp3 (cutQ (derQ awp3)) t))=true:=by decide +kernel
theorem aw_gm:gM awp3 (cutQ (derQ awp3))≤7:=by decide +kernel
theorem aw_3:upto 4 (fun t=>szl (redN (clq awp3) (clq (gcdP awp3 (cutQ (derQ awp3)))) t) 1)=true:=by decide +kernel
theorem aw_4:upto 4 (fun t=>szb (clr awp3 * (clq (gcdP awp3 (cutQ (derQ awp3)))).getD ((clq (gcdP awp3 (cutQ (derQ awp3)))).length - 1) 0 ^ t) 1)=true:=by decide +kernel
theorem aw_n3:(clq awp3).length + 1 - (clq (gcdP awp3 (cutQ (derQ awp3)))).length≤4:=by decide +kernel
theorem aw_e0:decide (dve awp2=0)=true:=by decide +kernel
theorem aw_d:decide (((cutn []:Nat):Int) - 1 = -1)=true:=by decide
end Go.Proofs.YtcankknlbljicaaGreatDoor

namespace Go.Proofs.YtcankknlbljicaaGreatDoor
set_option linter.unusedVariables false

def Dv (d p:List Rat):Prop:=∃ s,∀ x,pv p x=pv d x * pv s x
structure IsG (g p q:List Rat):Prop where
 l:Dv g p
 r:Dv g q
 b:∃ a b,∀ x,pv g x=pv a x * pv p x + pv b x * pv q x
theorem pv_one (x:Rat):pv [1] x=1:=by simp only [pv]; grind
theorem pv_c (c x:Rat):pv [c] x=c:=by simp only [pv]; grind
theorem IsG.swap {g p q:List Rat} (h:IsG g p q):IsG g q p:=by
 obtain ⟨h1,h2,a,b,h3⟩:=h
 exact ⟨h2,h1,b,a,fun x=>by rw [h3]; grind⟩
theorem IsG.base {p q:List Rat} (h:∀ x,pv q x=0):IsG p p q :=
 ⟨⟨[1],fun x=>by rw [pv_one]; grind⟩,⟨[],fun x=>by rw [h]; simp only [pv]; grind⟩,[1],[],fun x=>by rw [pv_one]; simp only [pv]; grind⟩
theorem IsG.unit {g p p' q:List Rat} {c:Rat} (hc:c≠0) (e:∀ x,pv p' x=c * pv p x) (h:IsG g p' q):IsG g p q:=by
 obtain ⟨⟨s,h1⟩,h2,a,b,h3⟩:=h
 refine ⟨⟨s.map fun t=>t / c,fun x=>?_⟩,h2,a.map fun t=>t * c,b,fun x=>?_⟩
 ·rw [pv_divc]
  have:=h1 x
  rw [e] at this
  have e2:=Rat.div_mul_cancel (a:=pv s x) hc
  generalize pv s x / c=y at *
  have e3:c * (pv p x - pv g x * y)=0:=by grind
  have:=(Rat.mul_eq_zero.1 e3).resolve_left hc
  grind
 ·rw [pv_mulc,h3,e]; grind
theorem IsG.unitG {g g' p q:List Rat} {c:Rat} (hc:c≠0) (e:∀ x,pv g x=c * pv g' x) (h:IsG g p q):IsG g' p q:=by
 obtain ⟨⟨s,h1⟩,⟨t,h2⟩,a,b,h3⟩:=h
 refine ⟨⟨s.map fun t=>t * c,fun x=>?_⟩,⟨t.map fun t=>t * c,fun x=>?_⟩,a.map fun t=>t / c,b.map fun t=>t / c,fun x=>?_⟩
 ·rw [pv_mulc,h1,e]; grind
 ·rw [pv_mulc,h2,e]; grind
 ·rw [pv_divc,pv_divc]
  have h4:=h3 x
  rw [e] at h4
  have e1:=Rat.div_mul_cancel (a:=pv a x) hc
  have e2:=Rat.div_mul_cancel (a:=pv b x) hc
  generalize pv a x / c=y at *
  generalize pv b x / c=z at *
  have e3:c * (pv g' x - (y * pv p x + z * pv q x))=0:=by grind
  have:=(Rat.mul_eq_zero.1 e3).resolve_left hc
  grind
theorem IsG.step {g p q r s:List Rat} {k m:Rat} (hk:k≠0) (hm:m≠0) (e:∀ x,pv r x * k=m * pv p x - pv s x * pv q x) (h:IsG g q r):IsG g p q:=by
 obtain ⟨⟨u,h1⟩,⟨v,h2⟩,a,b,h3⟩:=h
 refine ⟨⟨(addQ (v.map fun t=>t * k) (mulQ s u)).map fun t=>t / m,fun x=>?_⟩,⟨u,h1⟩,b.map fun t=>t * (m / k),addQ a (((mulQ b s).map fun t=>t / k).map fun t=>-t),fun x=>?_⟩
 ·rw [pv_divc,pv_add,pv_mulc,pv_mulQ]
  have h4:=e x
  rw [h1,h2] at h4
  have e1:=Rat.div_mul_cancel (a:=pv v x * k + pv s x * pv u x) hm
  generalize (pv v x * k + pv s x * pv u x) / m=y at *
  have e3:m * (pv p x - pv g x * y)=0:=by grind
  have:=(Rat.mul_eq_zero.1 e3).resolve_left hm
  grind
 ·rw [pv_mulc,pv_add,pv_neg,pv_divc,pv_mulQ,h3]
  have h4:=e x
  have e1:=Rat.div_mul_cancel (a:=m) hk
  have e2:=Rat.div_mul_cancel (a:=pv b x * pv s x) hk
  generalize pv b x * pv s x / k=y at *
  generalize m / k=z at *
  have e3:k * (pv a x * pv q x + pv b x * pv r x - (pv b x * z * pv p x + (pv a x + -y) * pv q x))=0:=by grind
  have:=(Rat.mul_eq_zero.1 e3).resolve_left hk
  grind
theorem sum_poly (n:Nat) (c:Nat→Rat) (e:Nat→Nat):∃ S,∀ x,pv S x=sumN n fun i=>c i * x ^ e i:=by
 induction n with
 | zero=>exact ⟨[],fun x=>rfl⟩
 | succ n ih =>
  obtain ⟨S,h⟩:=ih
  refine ⟨addQ S (List.replicate (e n) 0 ++ [c n]),fun x=>?_⟩
  rw [pv_add,h,pv_shift,pv_c]
  simp only [sumN]; grind
theorem mon_unit (q:List Rat):∃ c,c≠0∧∀ x,pv (monP q) x=c * pv q x:=by
 by_cases h:cutn q=0
 ·refine ⟨1,by decide,fun x=>?_⟩
  rw [monP_nil (by rw [cutQ_length,h]; rfl),pv_cutn0 h]; simp only [pv]; grind
 ·have hl:=cutn_top h
  refine ⟨((cutQ q).getD ((cutQ q).length - 1) 0)⁻¹,?_,fun x=>?_⟩
  ·rw [getQ_cut,cutQ_length]
   intro e
   have:=Rat.mul_inv_cancel _ hl
   rw [e,Rat.mul_zero] at this
   exact absurd this (by decide)
  ·unfold monP
   rw [pv_divc,pv_cut,Rat.div_def,Rat.mul_comm]
theorem prim_unit (q:List Rat):∃ c,c≠0∧∀ x,pv (primP q) x=c * pv q x:=by
 obtain ⟨c,hc,h⟩:=mon_unit q
 refine ⟨clr (monP q) * c,mul_ne0 (clr_ne _) hc,fun x=>?_⟩
 unfold primP
 rw [clq_pv,h]; grind
def GJ (ps qs:List Rat) (t:Nat) (s:List Rat × List Rat × Rat × Rat):Prop :=
 s.2.1.length≤s.1.length∧s.2.2.1≠0∧s.2.2.2≠0∧(0 < s.2.1.length→s.2.1.getD (s.2.1.length - 1) 0≠0)∧(s.2.1.length=0 ∨ t + s.2.1.length≤gM ps qs)∧∀ g,IsG g s.1 s.2.1→IsG g ps qs
theorem gst_G {P Q:List Rat} {l c:Rat} (hq : 0 < Q.length) (h0:Q.getD (Q.length - 1) 0≠0) (hl:l≠0) (hc:c≠0) {g:List Rat} (h:IsG g Q ((cutQ (remQ P Q)).map fun q=>q / (l * (c ^ (P.length - Q.length))))):IsG g P Q:=by
 obtain ⟨S,hS⟩:=sum_poly (P.length + 1 - Q.length) (fun i=>(redN P Q i).getD (P.length - i - 1) 0 / (Q.getD (Q.length - 1) 0 ^ i * Q.getD (Q.length - 1) 0)) (fun i=>P.length - Q.length - i)
 have hd:=mul_ne0 hl (pow_ne0 hc (P.length - Q.length))
 refine IsG.step (s:=S.map fun t=>t * Q.getD (Q.length - 1) 0 ^ (P.length + 1 - Q.length)) hd (pow_ne0 h0 (P.length + 1 - Q.length)) (fun x=>?_) h
 rw [pv_divc,pv_cut,Rat.div_mul_cancel hd,pv_mulc,hS]
 unfold remQ
 rw [pv_redN (by omega) h0 x _ (Nat.le_refl _)]
 unfold dvS
 grind
theorem GJ_all (ps qs:List Rat):∀ t,GJ ps qs t (gN ps qs t)
 | 0=>by
  obtain ⟨c,hc,e1⟩:=prim_unit ps
  obtain ⟨d,hd,e2⟩:=prim_unit qs
  have h1:=primP_lead ps
  have h2:=primP_lead qs
  unfold gN
  by_cases h:(primP ps).length < (primP qs).length
  ·rw [if_pos h]
   exact ⟨by dsimp only; omega,one_ne,one_ne,h1,Or.inr (by dsimp only [gM]; omega),fun g hg=>IsG.unit hc e1 (IsG.swap (IsG.unit hd e2 hg))⟩
  ·rw [if_neg h]
   exact ⟨by dsimp only; omega,one_ne,one_ne,h2,Or.inr (by dsimp only [gM]; omega),fun g hg=>IsG.unit hc e1 (IsG.swap (IsG.unit hd e2 (IsG.swap hg)))⟩
 | t + 1=>by
  obtain ⟨h1,h2,h3,h4,h5,h6⟩:=GJ_all ps qs t
  show GJ ps qs (t + 1) (gst (gN ps qs t))
  generalize gN ps qs t=s at *
  unfold gst
  by_cases hq:s.2.1.length=0
  ·rw [if_pos hq]
   exact ⟨h1,h2,h3,h4,Or.inl hq,h6⟩
  ·rw [if_neg hq]
   have hr:=remQ_len s.1 s.2.1
   have hl:=h4 (by omega)
   refine ⟨by dsimp only; rw [List.length_map]; omega,hl,?_,cut_div_lead (mul_ne0 h2 (pow_ne0 h3 _)),?_,fun g hg=>h6 g (gst_G (by omega) hl h2 h3 hg)⟩
   ·dsimp only
    split
    ·exact div_ne0 (pow_ne0 hl _) (pow_ne0 h3 _)
    ·exact h3
   ·dsimp only
    rw [List.length_map]
    rcases h5 with h5 | h5
    ·exact absurd h5 hq
    ·exact Or.inr (by omega)
theorem IsG.mon {g p q:List Rat} (h:IsG g p q):IsG (monP g) p q:=by
 obtain ⟨c,hc,e⟩:=mon_unit g
 refine h.unitG (c:=c⁻¹) ?_ fun x=>?_
 ·intro e
  have:=Rat.mul_inv_cancel _ hc
  rw [e,Rat.mul_zero] at this
  exact absurd this (by decide)
 ·rw [e,← Rat.mul_assoc,Rat.inv_mul_cancel _ hc,Rat.one_mul]
theorem gcd_is (ps qs:List Rat):IsG (gcdP ps qs) ps qs:=by
 obtain ⟨h1,h2,h3,h4,h5,h6⟩:=GJ_all ps qs (gM ps qs)
 unfold gcdP
 refine IsG.mon (h6 _ (IsG.base fun x=>?_))
 rw [List.eq_nil_of_length_eq_zero (show (gN ps qs (gM ps qs)).2.1.length=0 by omega)]; rfl
def Mon (g:List Rat):Prop:=cutQ g=g∧(cutn g=0 ∨ g.getD (cutn g - 1) 0=1)
theorem mon_mon (g:List Rat):Mon (monP g):=by
 by_cases h:cutn g=0
 ·rw [monP_nil (by rw [cutQ_length,h]; rfl)]; exact ⟨rfl,Or.inl rfl⟩
 ·have hl:=cutn_top h
  have hl2:(cutQ g).getD ((cutQ g).length - 1) 0≠0:=by rw [getQ_cut,cutQ_length]; exact hl
  have hc:cutQ (monP g)=monP g:=by unfold monP; rw [cutQ_div hl2,cut_cut]
  have hn:cutn (monP g)=cutn g:=by unfold monP; rw [cutn_scale hl2,cutn_cut]
  refine ⟨hc,Or.inr ?_⟩
  rw [hn]
  unfold monP
  rw [getQ_div,getQ_cut,getQ_cut,cutQ_length,Rat.div_def,Rat.mul_inv_cancel _ hl]
theorem cutn_one {s:List Rat} (h:cutn s=1) (x:Rat):pv s x=s.getD 0 0:=by
 rw [pv_congr (b:=[s.getD 0 0]) (fun n=>by
  cases n with
  | zero=>rw [getQ_c0]
  | succ n=>rw [getQ_cs,getQ_nil]; exact getQ_hi (by omega)) x,pv_c]
theorem dv_cutn {g p s:List Rat} (h:∀ x,pv p x=pv g x * pv s x) (hp:cutn p≠0):cutn g≠0∧cutn s≠0∧cutn p=cutn g + cutn s - 1:=by
 have hg:cutn g≠0:=fun e=>hp (by
  rw [cutn_pv (b:=[]) fun x=>by rw [h,pv_cutn0 e]; simp only [pv]; grind]; rfl)
 have hs:cutn s≠0:=fun e=>hp (by
  rw [cutn_pv (b:=[]) fun x=>by rw [h,pv_cutn0 e]; simp only [pv]; grind]; rfl)
 exact ⟨hg,hs,by rw [cutn_pv (b:=mulQ g s) fun x=>by rw [h,pv_mulQ],cutn_mulQ hg hs]⟩
theorem mon_uniq {g g':List Rat} (h1:Mon g) (h2:Mon g') (d1:Dv g g') (d2:Dv g' g):g=g':=by
 obtain ⟨s,hs⟩:=d1
 obtain ⟨t,ht⟩:=d2
 refine can_inj h1.1 h2.1 fun x=>?_
 by_cases h0:cutn g=0
 ·rw [hs,pv_cutn0 h0]; grind
 ·obtain ⟨a1,a2,a3⟩:=dv_cutn ht h0
  obtain ⟨b1,b2,b3⟩:=dv_cutn hs a1
  have e1:cutn s=1:=by omega
  have e2:cutn g'=cutn g:=by omega
  have hc:=fun x=>cutn_one e1 x
  have e3:g'.getD (cutn g' - 1) 0=g.getD (cutn g - 1) 0 * s.getD 0 0:=by
   rw [pv_inj (a:=g') (b:=g.map fun q=>q * s.getD 0 0) fun x=>by rw [hs,pv_mulc,hc],getQ_mul,e2]
  rw [h2.2.resolve_left a1,h1.2.resolve_left h0,Rat.one_mul] at e3
  rw [hs,hc,← e3,Rat.mul_one]
theorem isG_dv {g g' p q:List Rat} (h:IsG g p q) (h':IsG g' p q):Dv g g':=by
 obtain ⟨s,hs⟩:=h.l
 obtain ⟨t,ht⟩:=h.r
 obtain ⟨a,b,e⟩:=h'.b
 exact ⟨addQ (mulQ a s) (mulQ b t),fun x=>by rw [e,hs,ht,pv_add,pv_mulQ,pv_mulQ]; grind⟩
theorem isG_uniq {g g' p q:List Rat} (h:IsG g p q) (h':IsG g' p q) (m:Mon g) (m':Mon g'):g=g':=mon_uniq m m' (isG_dv h h') (isG_dv h' h)
theorem gcd_mon (ps qs:List Rat):Mon (gcdP ps qs):=mon_mon _
theorem IsG.mul {g p q:List Rat} (h:IsG g p q) (r:List Rat):IsG (mulP g r) (mulP p r) (mulP q r):=by
 obtain ⟨⟨s,h1⟩,⟨t,h2⟩,a,b,h3⟩:=h
 exact ⟨⟨s,fun x=>by rw [pv_mul,pv_mul,h1]; grind⟩,⟨t,fun x=>by rw [pv_mul,pv_mul,h2]; grind⟩,a,b,fun x=>by rw [pv_mul,pv_mul,pv_mul,h3]; grind⟩
end Go.Proofs.YtcankknlbljicaaGreatDoor

namespace Go.Proofs.YtcankknlbljicaaGreatDoor
set_option linter.unusedVariables false

theorem sgl_szs {n:Nat} {f:Nat→Nat} {K:Nat} (h:upto n (fun i=>decide (f i < 4294967296 ^ K))=true) (i:Nat) (hi:i≤n):f i < 4294967296 ^ K:=of_decide_eq_true (upto_at h hi)
theorem sgl_len (x:Rat):([x]:List Rat).length≤1:=Nat.le_refl 1
abbrev btwQ (r s:Rat) (n:Int):Rat:=mnQ r s + (mxQ (mnQ r s) (mxQ r s) - mnQ (mnQ r s) (mxQ r s)) * Rat.divInt (n % 13) 12
end Go.Proofs.YtcankknlbljicaaGreatDoor
