/-  -/
import Derived.Test.YtcankknlbljicaaGreatDoorYfl

set_option linter.unusedVariables false
set_option linter.unusedSimpArgs false
set_option linter.unusedSectionVars false
set_option maxRecDepth 100000
set_option maxHeartbeats 3200000

namespace Go.Proofs.YtcankknlbljicaaGreatDoor
set_option linter.unusedVariables false

theorem redN_scale (P Q:List Rat) (a b:Rat):∀ t,t≤P.length + 1 - Q.length→1≤Q.length→∀ j,(redN P Q t).getD j 0 * (a * b ^ t)=(redN (P.map fun q=>q * a) (Q.map fun q=>q * b) t).getD j 0
 | 0,_,_,j=>by simp only [redN]; rw [Rat.pow_zero,Rat.mul_one,getQ_mul]
 | t + 1,ht,h1,j=>by
  have ih:=redN_scale P Q a b t (by omega) h1
  have hl:(Q.map fun q=>q * b).length=Q.length:=List.length_map _
  have hp:(P.map fun q=>q * a).length=P.length:=List.length_map _
  rw [redN_succ,redN_succ,red_get h1 (by rw [redN_len]; omega),red_get (by omega) (by rw [redN_len]; omega),redN_len,redN_len,hl,hp,getQ_mul,Rat.pow_succ,← ih,← ih]
  by_cases h:P.length - t - Q.length≤j
  ·rw [if_pos h,if_pos h,getQ_mul]; grind
  ·rw [if_neg h,if_neg h]; grind
theorem PX.red {P Q:List Rat} {C D A B:Nat} (hP:PX P C A) (hQ:PX Q D B) (h1 : 1≤Q.length) (t:Nat) (ht:t≤P.length + 1 - Q.length):PX (redN P Q t) (C * D ^ t) (A * (2 * B) ^ t) :=
 ⟨Nat.mul_pos hP.1 (Nat.pow_pos hQ.1),fun j=>by
  rw [Int.natCast_mul,Rat.intCast_mul,← nat_powQ,redN_scale P Q _ _ t ht h1]
  exact redN_bi (fun j=>by rw [getQ_mul]; exact hP.2 j) (fun j=>by rw [getQ_mul]; exact hQ.2 j) t (by rw [List.length_map,List.length_map]; exact ht) j⟩
theorem PB.red {P Q:List Rat} {C D A B:Nat} (hP:PB P C A) (hQ:PB Q D B) (h1 : 1≤Q.length) (t:Nat) (ht:t≤P.length + 1 - Q.length):PB (redN P Q t) (C * D ^ t) (A * (2 * B) ^ t):=by
 obtain ⟨c,a1,a2⟩:=hP
 obtain ⟨d,b1,b2⟩:=hQ
 exact ⟨c * d ^ t,Nat.mul_le_mul a1 (Nat.pow_le_pow_left b1 t),a2.red b2 h1 t ht⟩
theorem PB.divc {qs:List Rat} {l:Rat} {C D A B:Nat} (h:PB qs C B) (hl:PB [l] D A) (h0:l≠0):PB (qs.map fun q=>q / l) (C * A) (B * D):=by
 obtain ⟨c,a1,a2,a3⟩:=h
 obtain ⟨d,b1,b2,b3⟩:=hl
 obtain ⟨n,e,hn⟩:=b3 0
 rw [getQ_c0] at e
 have hd:=nat_ne0 b2
 have hn0:n≠0:=fun h=>by rw [h] at e; exact mul_ne0 h0 hd e
 refine ⟨c * n.natAbs,Nat.mul_le_mul a1 hn,Nat.mul_pos a2 (by omega),fun j=>?_⟩
 rw [getQ_div]
 have key:((n.natAbs:Int):Rat)=l * (((n.sign:Int):Rat) * ((d:Int):Rat)):=by
  rw [show l * (((n.sign:Int):Rat) * ((d:Int):Rat))=(l * ((d:Int):Rat)) * ((n.sign:Int):Rat) by grind,e,← Rat.intCast_mul,Int.mul_sign_self]
 rw [Int.natCast_mul,Rat.intCast_mul,key]
 have e2:=Rat.div_mul_cancel (a:=qs.getD j 0) h0
 generalize qs.getD j 0 / l=y at *
 rw [show y * (((c:Int):Rat) * (l * (((n.sign:Int):Rat) * ((d:Int):Rat))))=(y * l * ((c:Int):Rat)) * (((n.sign:Int):Rat) * ((d:Int):Rat)) by grind,e2]
 have hs:Bi (((n.sign:Int):Rat) * ((d:Int):Rat)) D:=by
  have h1:Bi ((n.sign:Int):Rat) 1:=Bi.int (by
   rcases Int.lt_trichotomy n 0 with h | h | h
   ·rw [Int.sign_eq_neg_one_of_neg h]; decide
   ·exact absurd h hn0
   ·rw [Int.sign_eq_one_of_pos h]; decide)
  exact (h1.mul (Bi.int (B:=D) (by omega))).mono (by omega)
 exact (a3 j).mul hs
theorem PB.smul {a b:Rat} {C D A B:Nat} (h1:PB [a] C A) (h2:PB [b] D B):PB [a * b] (C * D) (A * B):=by
 obtain ⟨c,a1,a2,a3⟩:=h1
 obtain ⟨d,b1,b2,b3⟩:=h2
 have e1:=a3 0
 have e2:=b3 0
 rw [getQ_c0] at e1 e2
 refine (PB.sgl (C:=c * d) (Nat.mul_pos a2 b2) ?_).mono (Nat.mul_le_mul a1 b1) (Nat.le_refl _)
 rw [Int.natCast_mul,Rat.intCast_mul,show a * b * (((c:Int):Rat) * ((d:Int):Rat))=(a * ((c:Int):Rat)) * (b * ((d:Int):Rat)) by grind]
 exact e1.mul e2
theorem PB.s1:PB [((1:Int):Rat)] 1 1:=PB.sgl (by decide) ⟨1,by decide +kernel,by decide⟩
theorem PB.spow {a:Rat} {C A:Nat} (h:PB [a] C A):∀ n:Nat,PB [a ^ n] (C ^ n) (A ^ n)
 | 0=>by rw [Rat.pow_zero]; exact PB.s1
 | n + 1=>by rw [Rat.pow_succ,Nat.pow_succ,Nat.pow_succ]; exact (PB.spow h n).smul h
theorem PB.sdiv {a b:Rat} {C D A B:Nat} (h1:PB [a] C A) (h2:PB [b] D B) (h0:b≠0):PB [a / b] (C * B) (A * D):=h1.divc h2 h0
def WB (qs:List Rat) (u:Nat):Prop:=∃ x,2 * x≤u∧PB qs x x
theorem WB.up {qs:List Rat} {u v:Nat} (h:WB qs u) (hu:u≤v):WB qs v:=by
 obtain ⟨x,h1,h2⟩:=h; exact ⟨x,Nat.le_trans h1 hu,h2⟩
theorem WB.szs {qs:List Rat} {u K:Nat} (h:WB qs u) (hu:u≤4294967296 ^ K) (j:Nat):Sz (qs.getD j 0) K:=by
 obtain ⟨x,h1,h2⟩:=h
 have:=h2.pos
 exact h2.sz (by omega) (by omega) j
theorem WB.sz1 {q:Rat} {u K:Nat} (h:WB [q] u) (hu:u≤4294967296 ^ K):Sz q K:=by
 have:=h.szs hu 0; rwa [getQ_c0] at this
theorem WB.one {qs:List Rat} {u:Nat} (h:WB qs u) (j:Nat):WB [qs.getD j 0] u:=by
 obtain ⟨x,h1,h2⟩:=h; exact ⟨x,h1,h2.one j⟩
theorem WB.pos {qs:List Rat} {u:Nat} (h:WB qs u) : 2≤u:=by
 obtain ⟨x,h1,h2⟩:=h; have:=h2.pos; omega
theorem p3a:∀ g:Nat,1≤g→4 * g + 5≤3 ^ (g + 1)
 | 0,h=>absurd h (by decide)
 | 1,_=>by decide
 | g + 2,_=>by have:=p3a (g + 1) (by omega); have e : 3 ^ (g + 2 + 1)=3 ^ (g + 1 + 1) * 3:=Nat.pow_succ _ _; omega
theorem p3b:∀ g:Nat,1≤g→4 * g - 1≤3 ^ g
 | 0,h=>absurd h (by decide)
 | 1,_=>by decide
 | g + 2,_=>by have:=p3b (g + 1) (by omega); have e : 3 ^ (g + 2)=3 ^ (g + 1) * 3:=Nat.pow_succ _ _; omega
theorem p3c (g:Nat):g + 2≤3 ^ (g + 1):=by
 cases g with
 | zero=>decide
 | succ g=>have:=p3a (g + 1) (by omega); omega
theorem p3d:∀ g:Nat,g + 1≤3 ^ g
 | 0=>by decide
 | g + 1=>by have:=p3d g; rw [Nat.pow_succ]; omega
theorem WB.rem {P Q:List Rat} {l c:Rat} {u v a b w:Nat} (hP:WB P u) (hQ:WB Q v) (hl:WB [l] a) (hc:WB [c] b) (l0:l≠0) (c0:c≠0) (h1 : 1≤Q.length) (h2:Q.length≤P.length)
  (hw:u * v ^ (P.length - Q.length + 1) * (a * b ^ (P.length - Q.length))≤w):WB ((cutQ (remQ P Q)).map fun q=>q / (l * (c ^ (P.length - Q.length)))) w:=by
 obtain ⟨x,x1,x2⟩:=hP
 obtain ⟨y,y1,y2⟩:=hQ
 obtain ⟨z,z1,z2⟩:=hl
 obtain ⟨t,t1,t2⟩:=hc
 have hr:PB (cutQ (remQ P Q)) _ _:=(x2.red y2 h1 (P.length + 1 - Q.length) (Nat.le_refl _)).cut
 have hd:=z2.smul (t2.spow (P.length - Q.length))
 have hq:=hr.divc hd (mul_ne0 l0 (pow_ne0 c0 _))
 rw [show P.length + 1 - Q.length=P.length - Q.length + 1 by omega] at hq
 refine ⟨x * (2 * y) ^ (P.length - Q.length + 1) * (z * t ^ (P.length - Q.length)),?_,?_⟩
 ·refine Nat.le_trans ?_ hw
  rw [show 2 * (x * (2 * y) ^ (P.length - Q.length + 1) * (z * t ^ (P.length - Q.length)))=2 * x * (2 * y) ^ (P.length - Q.length + 1) * (z * t ^ (P.length - Q.length)) by simp only [Nat.mul_assoc]]
  exact Nat.mul_le_mul (Nat.mul_le_mul x1 (Nat.pow_le_pow_left y1 _)) (Nat.mul_le_mul (by omega) (Nat.pow_le_pow_left (by omega) _))
 ·have e:=hq.mono (C':=x * (2 * y) ^ (P.length - Q.length + 1) * (z * t ^ (P.length - Q.length))) (B':=x * (2 * y) ^ (P.length - Q.length + 1) * (z * t ^ (P.length - Q.length))) (Nat.mul_le_mul_right _ (Nat.mul_le_mul_left _ (Nat.pow_le_pow_left (by omega) _))) (Nat.le_refl _)
  exact e
theorem WB.pow {q:Rat} {u w:Nat} (h:WB [q] u) {n:Nat} (hn : 1≤n) (hw:u ^ n≤w):WB [q ^ n] w:=by
 obtain ⟨x,x1,x2⟩:=h
 refine ⟨x ^ n,Nat.le_trans ?_ hw,x2.spow n⟩
 refine Nat.le_trans ?_ (Nat.pow_le_pow_left x1 n)
 rw [Nat.mul_pow]
 exact Nat.mul_le_mul_right _ (by
  obtain ⟨m,rfl⟩:∃ m,n=m + 1:=⟨n - 1,by omega⟩
  rw [Nat.pow_succ]
  have:=Nat.pow_pos (a:=2) (n:=m) (by decide)
  omega)
theorem WB.s1 {u:Nat} (h : 2≤u):WB [((1:Int):Rat)] u:=⟨1,h,PB.s1⟩
theorem WB.pow' {q:Rat} {u w:Nat} (h:WB [q] u) (n:Nat) (hw:u ^ (n + 1)≤w):WB [q ^ n] w:=by
 have hu:=h.pos
 cases n with
 | zero=>rw [Rat.pow_zero]; exact WB.s1 (by rw [Nat.pow_one] at hw; omega)
 | succ n=>exact h.pow (by omega) (Nat.le_trans (Nat.pow_le_pow_right (by omega) (by omega)) hw)
theorem WB.frac {a b:Rat} {u v w:Nat} (h1:WB [a] u) (h2:WB [b] v) (h0:b≠0) (hw:u * v≤w):WB [a / b] w:=by
 obtain ⟨x,x1,x2⟩:=h1
 obtain ⟨y,y1,y2⟩:=h2
 refine ⟨x * y,Nat.le_trans ?_ hw,x2.sdiv y2 h0⟩
 rw [← Nat.mul_assoc]
 exact Nat.mul_le_mul x1 (by omega)
theorem div_pow1 (a c:Rat):a ^ (0 + 1) / c ^ 0=a:=by
 rw [Rat.pow_zero,Rat.pow_succ,Rat.pow_zero,Rat.one_mul,Rat.div_def]; grind
def GS (n0 u0:Nat) (s:List Rat × List Rat × Rat × Rat):Prop :=
 (s.1.length≤n0∧s.2.1.length≤s.1.length∧WB s.1 u0∧WB s.2.1 u0∧s.2.2.1=((1:Int):Rat)∧s.2.2.2=((1:Int):Rat)) ∨
 ∃ d u,u=u0 ^ 3 ^ d∧d + s.1.length≤n0∧s.2.1.length < s.1.length∧WB s.1 u∧WB s.2.1 (u ^ 3)∧WB [s.2.2.1] u∧WB [s.2.2.2] u
theorem pow_3 (u0 d:Nat):(u0 ^ 3 ^ d) ^ 3=u0 ^ 3 ^ (d + 1):=by rw [← Nat.pow_mul,Nat.pow_succ]
theorem pow_3g (u0 d g:Nat):(u0 ^ 3 ^ d) ^ 3 ^ g=u0 ^ 3 ^ (d + g):=by rw [← Nat.pow_mul,← Nat.pow_add]
theorem GS_all {ps qs:List Rat} {n0 u0:Nat} (hp:WB (primP ps) u0) (hq:WB (primP qs) u0) (lp:(primP ps).length≤n0) (lq:(primP qs).length≤n0):∀ t,GS n0 u0 (gN ps qs t)
 | 0=>by
  refine Or.inl ?_
  unfold gN
  by_cases h:(primP ps).length < (primP qs).length
  ·rw [if_pos h]; exact ⟨lq,by dsimp only; omega,hq,hp,rfl,rfl⟩
  ·rw [if_neg h]; exact ⟨lp,by dsimp only; omega,hp,hq,rfl,rfl⟩
 | t + 1=>by
  have ih:=GS_all hp hq lp lq t
  obtain ⟨j1,j2,j3,j4,_,_⟩:=GJ_all ps qs t
  show GS n0 u0 (gst (gN ps qs t))
  generalize gN ps qs t=s at *
  obtain ⟨P,Q,l,c⟩:=s
  dsimp only at j1 j2 j3 j4
  by_cases hq0:Q.length=0
  ·unfold gst; rw [if_pos hq0]; exact ih
  ·unfold gst
   rw [if_neg hq0]
   have hr:=remQ_len P Q
   have h1 : 1≤Q.length:=by omega
   have lead0:=j4 (by omega)
   have hu0:=hp.pos
   refine Or.inr ?_
   rcases ih with ⟨a1,a2,a3,a4,a5,a6⟩ | ⟨d,u,e,b1,b2,b3,b4,b5,b6⟩
   ·dsimp only at a1 a2 a3 a4 a5 a6
    refine ⟨P.length - Q.length,u0 ^ 3 ^ (P.length - Q.length),rfl,by dsimp only; omega,by dsimp only; rw [List.length_map]; omega,?_,?_,?_,?_⟩
    ·exact a4.up (Nat.le_self_pow (Nat.ne_of_gt (Nat.pow_pos (by decide))) _)
    ·dsimp only
     rw [pow_3]
     subst a5 a6
     obtain ⟨x,x1,x2⟩:=a3
     obtain ⟨y,y1,y2⟩:=a4
     have hr2:PB (cutQ (remQ P Q)) _ _:=(x2.red y2 h1 (P.length + 1 - Q.length) (Nat.le_refl _)).cut
     have hd:=PB.s1.smul (PB.s1.spow (P.length - Q.length))
     have hq2:=hr2.divc hd (mul_ne0 one_ne (pow_ne0 one_ne _))
     rw [show P.length + 1 - Q.length=P.length - Q.length + 1 by omega,Nat.one_pow,Nat.one_mul,Nat.mul_one,Nat.mul_one] at hq2
     refine ⟨x * (2 * y) ^ (P.length - Q.length + 1),?_,hq2.mono (Nat.mul_le_mul_left _ (Nat.pow_le_pow_left (by omega) _)) (Nat.le_refl _)⟩
     rw [← Nat.mul_assoc]
     refine Nat.le_trans (Nat.mul_le_mul x1 (Nat.pow_le_pow_left y1 _)) ?_
     rw [Nat.mul_comm,← Nat.pow_succ]
     exact Nat.pow_le_pow_right (by omega) (p3c _)
    ·dsimp only
     exact (a4.one _).up (Nat.le_self_pow (Nat.ne_of_gt (Nat.pow_pos (by decide))) _)
    ·dsimp only
     subst a6
     split
     ·rename_i hg
      refine WB.frac (v:=2) ((a4.one _).pow (by omega) (Nat.le_refl _)) ?_ (pow_ne0 one_ne _) ?_
      ·rw [show ((1:Int):Rat) ^ (P.length - Q.length - 1)=((1:Int):Rat) by
        generalize P.length - Q.length - 1=k
        induction k with
        | zero=>exact Rat.pow_zero _
        | succ k ih=>rw [Rat.pow_succ,ih]; decide +kernel]
       exact WB.s1 (Nat.le_refl 2)
      ·refine Nat.le_trans (Nat.mul_le_mul_left _ hu0) ?_
       rw [← Nat.pow_succ]
       exact Nat.pow_le_pow_right (by omega) (p3d _)
     ·exact WB.s1 (Nat.le_trans hu0 (Nat.le_self_pow (Nat.ne_of_gt (Nat.pow_pos (by decide))) _))
   ·dsimp only at b1 b2 b3 b4 b5 b6
    have hu:=b3.pos
    have hg : 1≤P.length - Q.length:=by omega
    refine ⟨d + (P.length - Q.length),u ^ 3 ^ (P.length - Q.length),by rw [e,pow_3g],by dsimp only; omega,by dsimp only; rw [List.length_map]; omega,?_,?_,?_,?_⟩
    ·exact b4.up (Nat.pow_le_pow_right (by omega) (by
      have:=Nat.pow_le_pow_right (n:=3) (by decide) hg
      omega))
    ·dsimp only
     refine WB.rem b3 b4 b5 b6 j2 j3 h1 j1 ?_
     rw [← Nat.pow_mul,← Nat.pow_mul]
     generalize P.length - Q.length=g at *
     rw [show u * u ^ (3 * (g + 1)) * (u * u ^ g)=u ^ (4 * g + 5) by
      rw [show 4 * g + 5=(1 + 3 * (g + 1)) + (1 + g) by omega,Nat.pow_add,Nat.pow_add,Nat.pow_add,Nat.pow_one]]
     exact Nat.pow_le_pow_right (by omega) (by have:=p3a g hg; rw [Nat.pow_succ] at this; exact this)
    ·dsimp only
     exact (b4.one _).up (Nat.pow_le_pow_right (by omega) (by
      have:=Nat.pow_le_pow_right (n:=3) (by decide) hg
      omega))
    ·dsimp only
     rw [if_pos (by omega)]
     generalize P.length - Q.length=g at *
     obtain ⟨k,rfl⟩:∃ k,g=k + 1:=⟨g - 1,by omega⟩
     rw [Nat.add_sub_cancel]
     cases k with
     | zero =>
      rw [div_pow1]
      exact (b4.one _).up (Nat.le_refl _)
     | succ k =>
      refine WB.frac ((b4.one _).pow (by omega) (Nat.le_refl _)) (b6.pow (by omega) (Nat.le_refl _)) (pow_ne0 j3 _) ?_
      rw [← Nat.pow_mul,← Nat.pow_add]
      exact Nat.pow_le_pow_right (by omega) (by have:=p3b (k + 1 + 1) (by omega); omega)
theorem WB.red {P Q:List Rat} {u v w:Nat} (hP:WB P u) (hQ:WB Q v) (h1 : 1≤Q.length) (t:Nat) (ht:t≤P.length + 1 - Q.length) (hw:u * v ^ t≤w):WB (redN P Q t) w:=by
 obtain ⟨x,x1,x2⟩:=hP
 obtain ⟨y,y1,y2⟩:=hQ
 refine ⟨x * (2 * y) ^ t,Nat.le_trans ?_ hw,(x2.red y2 h1 t ht).mono (Nat.mul_le_mul_left _ (Nat.pow_le_pow_left (by omega) _)) (Nat.le_refl _)⟩
 rw [← Nat.mul_assoc]
 exact Nat.mul_le_mul x1 (Nat.pow_le_pow_left y1 t)
theorem redN_nil_sz {P Q:List Rat} {K:Nat} (h:Q.length=0) (hp:∀ j,Sz (P.getD j 0) K) (hK : 1≤K) (t j:Nat):Sz ((redN P Q t).getD j 0) K:=by
 cases t with
 | zero=>exact hp j
 | succ t=>rw [redN_succ,redQ_nil h]; exact Sz.mono Sz.zero hK
theorem zero_pow_sz {K:Nat} (hK : 1≤K) (n:Nat):Sz ((0:Rat) ^ n) K:=by
 cases n with
 | zero=>rw [Rat.pow_zero]; exact (Bi.int (z:=1) (B:=1) (by decide)).sz (Nat.lt_of_lt_of_le (by decide : 1 < 4294967296 ^ 1) (Nat.pow_le_pow_right (by decide) hK)) hK
 | succ n=>rw [Rat.pow_succ,Rat.mul_zero]; exact Sz.mono Sz.zero hK
theorem one_powQ (n:Nat):((1:Int):Rat) ^ n=((1:Int):Rat):=by
 induction n with
 | zero=>exact Rat.pow_zero _
 | succ k ih=>rw [Rat.pow_succ,ih]; decide +kernel
theorem GZ_of {ps qs:List Rat} {n0 u0 K:Nat} (hp:WB (primP ps) u0) (hq:WB (primP qs) u0) (lp:(primP ps).length≤n0) (lq:(primP qs).length≤n0) (hK:u0 ^ 3 ^ n0≤4294967296 ^ K) (P Q:List Rat) (l c:Rat) (g:GI ps qs P Q l c):GZ P Q l c K:=by
 obtain ⟨t,e,ht⟩:=g.at'
 have h:=GS_all hp hq lp lq t
 rw [e] at h
 have hu0:=hp.pos
 have hK1 : 1≤K:=by
  cases K with
  | zero =>
   have:=Nat.le_self_pow (Nat.ne_of_gt (Nat.pow_pos (n:=n0) (show 0 < 3 by decide))) u0
   rw [Nat.pow_zero] at hK
   omega
  | succ K=>omega
 rcases h with ⟨a1,a2,a3,a4,a5,a6⟩ | ⟨d,u,e,b1,b2,b3,b4,b5,b6⟩
 ·dsimp only at a1 a2 a3 a4 a5 a6
  have top:∀ m,m≤n0 + 1→u0 ^ m≤4294967296 ^ K:=fun m hm=>Nat.le_trans (Nat.pow_le_pow_right (by omega) (by have:=p3d n0; omega)) hK
  have hu:u0≤4294967296 ^ K:=by have:=top 1 (by omega); rwa [Nat.pow_one] at this
  subst a5 a6
  refine ⟨fun j=>a3.szs hu j,fun j=>a4.szs hu j,(WB.s1 hu0).sz1 hu,(WB.s1 hu0).sz1 hu,fun t j ht=>?_,fun i _=>by rw [one_powQ]; exact (WB.s1 hu0).sz1 hu,fun i hi=>?_⟩
  ·by_cases h0:Q.length=0
   ·exact redN_nil_sz h0 (fun j=>a3.szs hu j) hK1 t j
   ·refine (a3.red a4 (by omega) t ht (Nat.le_refl _)).szs ?_ j
    rw [Nat.mul_comm,← Nat.pow_succ]
    exact top _ (by omega)
  ·exact ((a4.one _).pow' i (Nat.le_refl _)).sz1 (top _ (by omega))
 ·dsimp only at b1 b2 b3 b4 b5 b6
  have hu:=b3.pos
  have top:∀ m g,m≤3 ^ g→d + g≤n0→u ^ m≤4294967296 ^ K:=fun m g hm hg=>by
   refine Nat.le_trans (Nat.pow_le_pow_right (by omega) hm) ?_
   rw [e,pow_3g]
   exact Nat.le_trans (Nat.pow_le_pow_right (by omega) (Nat.pow_le_pow_right (by decide) hg)) hK
  have hu1:u≤4294967296 ^ K:=by have:=top 1 0 (by decide) (by omega); rwa [Nat.pow_one] at this
  have hu3:=top 3 1 (by decide) (by omega)
  refine ⟨fun j=>b3.szs hu1 j,fun j=>b4.szs hu3 j,b5.sz1 hu1,b6.sz1 hu1,fun t j ht=>?_,fun i hi=>?_,fun i hi=>?_⟩
  ·by_cases h0:Q.length=0
   ·exact redN_nil_sz h0 (fun j=>b3.szs hu1 j) hK1 t j
   ·refine (b3.red b4 (by omega) t ht (Nat.le_refl _)).szs ?_ j
    rw [← Nat.pow_mul,Nat.mul_comm,← Nat.pow_succ]
    exact top _ (P.length - Q.length + 1) (by have:=p3a (P.length - Q.length) (by omega); omega) (by omega)
  ·exact (b6.pow' i (Nat.le_refl _)).sz1 (top _ (P.length - Q.length) (by have:=p3d (P.length - Q.length); omega) (by omega))
  ·by_cases h0:Q.length=0
   ·rw [getQ_out (by omega)]; exact zero_pow_sz hK1 i
   ·refine ((b4.one _).pow' i (Nat.le_refl _)).sz1 ?_
    rw [← Nat.pow_mul]
    exact top _ (P.length - Q.length + 1) (by have:=p3a (P.length - Q.length) (by omega); omega) (by omega)
theorem PB.monic {qs:List Rat} {C B:Nat} (h:PB qs C B) (hB : 0 < B):PB (monP qs) B B:=by
 by_cases h0:cutn qs=0
 ·rw [monP_nil (by rw [cutQ_length,h0]; rfl)]
  exact PX.pb ⟨hB,fun j=>by rw [getQ_nil,Rat.zero_mul]; exact Bi.zero _⟩
 ·obtain ⟨c,_,a2,a3⟩:=h
  have hl:=cutn_top h0
  obtain ⟨n,e,hn⟩:=a3 (cutn qs - 1)
  have hc:=nat_ne0 a2
  have hn0:n≠0:=fun h=>by rw [h] at e; exact mul_ne0 hl hc e
  refine ⟨n.natAbs,hn,by omega,fun j=>?_⟩
  unfold monP
  rw [getQ_div,getQ_cut,getQ_cut,cutQ_length]
  have key:((n.natAbs:Int):Rat)=qs.getD (cutn qs - 1) 0 * ((c:Int):Rat) * ((n.sign:Int):Rat):=by
   rw [e,← Rat.intCast_mul,Int.mul_sign_self]
  rw [key]
  have e2:=Rat.div_mul_cancel (a:=qs.getD j 0) hl
  generalize qs.getD j 0 / qs.getD (cutn qs - 1) 0=y at *
  rw [show y * (qs.getD (cutn qs - 1) 0 * ((c:Int):Rat) * ((n.sign:Int):Rat))=(y * qs.getD (cutn qs - 1) 0 * ((c:Int):Rat)) * ((n.sign:Int):Rat) by grind,e2]
  have h1:Bi ((n.sign:Int):Rat) 1:=Bi.int (by
   rcases Int.lt_trichotomy n 0 with h | h | h
   ·rw [Int.sign_eq_neg_one_of_neg h]; decide
   ·exact absurd h hn0
   ·rw [Int.sign_eq_one_of_pos h]; decide)
  exact ((a3 j).mul h1).mono (by omega)
theorem prim_wb {qs:List Rat} {C B:Nat} (h:PB qs C B) (hB : 0 < B):WB (primP qs) (2 * B) :=
 ⟨B,Nat.le_refl _,(PX.pb (C:=1) (B:=B) ⟨by decide,fun j=>by
  have:=clq_bi (h.monic hB) j
  unfold primP
  rw [show (((1:Nat):Int):Rat)=1 from rfl,Rat.mul_one]
  exact this⟩).mono hB (Nat.le_refl _)⟩
theorem prim_le {qs:List Rat} {n:Nat} (h:qs.length≤n):(primP qs).length≤n:=Nat.le_trans (primP_len qs) h
theorem gcd_pb {ps qs:List Rat} {n0 u0:Nat} (hp:WB (primP ps) u0) (hq:WB (primP qs) u0) (lp:(primP ps).length≤n0) (lq:(primP qs).length≤n0):PB (gcdP ps qs) (u0 ^ 3 ^ n0) (u0 ^ 3 ^ n0):=by
 have h:=GS_all hp hq lp lq (gM ps qs)
 have hu0:=hp.pos
 unfold gcdP
 have hW:WB (gN ps qs (gM ps qs)).1 (u0 ^ 3 ^ n0):=by
  rcases h with ⟨a1,a2,a3,_⟩ | ⟨d,u,e,b1,b2,b3,_⟩
  ·exact a3.up (Nat.le_self_pow (Nat.ne_of_gt (Nat.pow_pos (by decide))) _)
  ·refine b3.up ?_
   rw [e]
   exact Nat.pow_le_pow_right (by omega) (Nat.pow_le_pow_right (by decide) (by omega))
 obtain ⟨x,x1,x2⟩:=hW
 exact (x2.monic x2.pos).mono (by omega) (by omega)
theorem mulP_len1 {a b:List Rat} {m n:Nat} (h1:a.length≤m) (h2:b.length≤n):(mulP a b).length≤m + n - 1:=by
 unfold mulP
 have h3:=cutQ_le (mulQ (cutQ a) (cutQ b))
 have h4:=mulQ_len1 (cutQ a) (cutQ b)
 have h5:=cutQ_le a
 have h6:=cutQ_le b
 omega

end Go.Proofs.YtcankknlbljicaaGreatDoor

namespace Go.Proofs.YtcankknlbljicaaGreatDoor
set_option linter.unusedVariables false

def Cop (a b:List Rat):Prop:=∃ u v,∀ x,pv u x * pv a x + pv v x * pv b x=1
theorem Cop.symm {a b:List Rat} (h:Cop a b):Cop b a:=by
 obtain ⟨u,v,h⟩:=h; exact ⟨v,u,fun x=>by rw [← h x]; grind⟩
theorem Cop.mul {a b c d:List Rat} (h1:Cop a b) (h2:Cop a c) (e:∀ x,pv d x=pv b x * pv c x):Cop a d:=by
 obtain ⟨u,v,h1⟩:=h1
 obtain ⟨s,t,h2⟩:=h2
 refine ⟨addQ (addQ (mulQ (mulQ u s) a) (mulQ (mulQ u t) c)) (mulQ (mulQ v b) s),mulQ v t,fun x=>?_⟩
 simp only [pv_add,pv_mulQ,e]
 have e1:=h1 x
 have e2:=h2 x
 have:(pv u x * pv a x + pv v x * pv b x) * (pv s x * pv a x + pv t x * pv c x)=1:=by rw [e1,e2,Rat.one_mul]
 grind
theorem Cop.mulL {a b c d:List Rat} (h1:Cop a c) (h2:Cop b c) (e:∀ x,pv d x=pv a x * pv b x):Cop d c:=(Cop.mul h1.symm h2.symm e).symm
theorem Cop.add {a b d s:List Rat} (h:Cop a b) (e:∀ x,pv d x=pv b x + pv s x * pv a x):Cop a d:=by
 obtain ⟨u,v,h⟩:=h
 refine ⟨addQ u ((mulQ v s).map fun q=>-q),v,fun x=>?_⟩
 simp only [pv_add,pv_neg,pv_mulQ,e]
 rw [← h x]; grind
theorem factor (f:List Rat) (a:Rat):∃ s,∀ x,pv f x=pv f a + (x - a) * pv s x:=by
 induction f with
 | nil=>exact ⟨[],fun x=>by simp only [pv]; grind⟩
 | cons q r ih =>
  obtain ⟨s,h⟩:=ih
  refine ⟨addQ [pv r a] (0 :: s),fun x=>?_⟩
  rw [pv_add,pv_c]
  simp only [pv]
  rw [h x]; grind
theorem pv_lin (a x:Rat):pv [-a,((1:Int):Rat)] x=x - a:=by
 simp only [pv]
 rw [show ((1:Int):Rat)=1 from rfl]; grind
theorem pvd_lin (a x:Rat):pvd [-a,((1:Int):Rat)] x=1:=by
 simp only [pvd,pv]
 rw [show ((1:Int):Rat)=1 from rfl]; grind
theorem inv_mul {a:Rat} (h:a≠0):a⁻¹ * a=1:=Rat.inv_mul_cancel a h
theorem Cop.lin {f:List Rat} {a:Rat} (h:pv f a≠0):Cop [-a,((1:Int):Rat)] f:=by
 obtain ⟨s,hs⟩:=factor f a
 refine ⟨s.map fun q=>q * (-(pv f a)⁻¹),[(pv f a)⁻¹],fun x=>?_⟩
 rw [pv_mulc,pv_c,pv_lin,hs x]
 have:=inv_mul h
 grind
def qd (e:Rat):List Rat:=[e,((0:Int):Rat),((1:Int):Rat)]
theorem pv_qd (e x:Rat):pv (qd e) x=e + x * x:=by
 simp only [qd,pv]
 rw [show ((1:Int):Rat)=1 from rfl,show ((0:Int):Rat)=0 from rfl]; grind
theorem pvd_qd (e x:Rat):pvd (qd e) x=2 * x:=by
 simp only [qd,pvd,pv]
 rw [show ((1:Int):Rat)=1 from rfl,show ((0:Int):Rat)=0 from rfl]; grind
theorem Cop.qd2 {e:Rat} (h : 0 < e):Cop (qd e) [0,2]:=by
 refine ⟨[e⁻¹],[0,-(e⁻¹ / 2)],fun x=>?_⟩
 rw [pv_c,pv_qd]
 have:=inv_mul (a:=e) (by grind)
 simp only [pv]
 grind
theorem sq_pos {a e:Rat} (h : 0 < e):e + a * a≠0:=by
 have : 0≤a * a:=by
  by_cases h1 : 0≤a
  ·exact Rat.mul_nonneg h1 h1
  ·have:=Rat.mul_nonneg (show 0≤-a by grind) (show 0≤-a by grind)
   grind
 grind
structure SqJ (p R H M N rs:List Rat):Prop where
 pe:∀ x,pv p x=pv R x * pv H x
 d:∀ x,pvd p x=pv H x * pv M x
 cm:Cop R M
 n:∀ x,pvd R x=pv N x
 cn:Cop R N
 ce:∀ e,0 < e→Cop R (qd e)
 z:∀ x,x ∈ rs→pv R x=0
 nz:∀ x,x ∉ rs→pv R x≠0
 deg:cutn R=rs.length + 1
 h0:cutn H≠0
theorem cutn_sgl {c:Rat} (h:c≠0):cutn [c]=1:=by simp [cutn,h]
theorem Cop.const {c:Rat} (h:c≠0) (b:List Rat):Cop [c] b:=⟨[c⁻¹],[],fun x=>by rw [pv_c,pv_c,inv_mul h]; simp only [pv]; grind⟩
theorem SqJ.init {c:Rat} (h:c≠0):SqJ [c] [c] [1] [] [] [] :=
 ⟨fun x=>by rw [pv_one]; grind,fun x=>by simp only [pvd,pv]; grind,Cop.const h _,fun x=>by simp only [pvd,pv]; grind,Cop.const h _,fun e _=>Cop.const h _,fun x hx=>(by cases hx),fun x _=>(by rw [pv_c]; exact h),cutn_sgl h,(by rw [cutn_sgl (by decide)]; decide)⟩
theorem cutn_lin (a:Rat):cutn [-a,((1:Int):Rat)]=2:=by simp [cutn]
theorem pow_cutn {f:List Rat} (hf:cutn f≠0):∀ n,cutn (powN f n)≠0
 | 0=>by simp [powN,cutn]
 | n + 1=>by
  have:=pow_cutn hf n
  simp only [powN]
  rw [cutn_mulQ this hf]; omega
theorem SqJ.step {p p' R H M N rs:List Rat} {a:Rat} {n:Nat} (h:SqJ p R H M N rs) (ha:a ∉ rs) (hn : 1≤n) (e:∀ x,pv p' x=pv p x * (x - a) ^ n):∃ H' M' N',SqJ p' (mulQ R [-a,((1:Int):Rat)]) H' M' N' (rs ++ [a]):=by
 have hRa:=h.nz a ha
 have cl:Cop R [-a,((1:Int):Rat)]:=(Cop.lin hRa).symm
 refine ⟨mulQ H (powN [-a,((1:Int):Rat)] (n - 1)),addQ (mulQ M [-a,((1:Int):Rat)]) (R.map fun q=>q * ((n:Int):Rat)),addQ (mulQ N [-a,((1:Int):Rat)]) R,?_⟩
 have hM:∀ x,pv (addQ (mulQ M [-a,((1:Int):Rat)]) (R.map fun q=>q * ((n:Int):Rat))) x=pv M x * (x - a) + pv R x * ((n:Int):Rat):=fun x=>by rw [pv_add,pv_mulQ,pv_lin,pv_mulc]
 have hN:∀ x,pv (addQ (mulQ N [-a,((1:Int):Rat)]) R) x=pv N x * (x - a) + pv R x:=fun x=>by rw [pv_add,pv_mulQ,pv_lin]
 have hn0:((n:Int):Rat)≠0:=nat_ne0 hn
 have hk:∀ x:Rat,(x - a) ^ n=(x - a) ^ (n - 1) * (x - a):=fun x=>by rw [← Rat.pow_succ,Nat.sub_add_cancel hn]
 refine ⟨fun x=>?_,fun x=>?_,?_,fun x=>?_,?_,fun e he=>?_,fun x hx=>?_,fun x hx=>?_,?_,?_⟩
 ·rw [e,h.pe,pv_mulQ,pv_mulQ,powN_pv,pv_lin,hk]; grind
 ·rw [pvd_mul (a:=p) (b:=powN [-a,((1:Int):Rat)] n) (fun x=>by rw [e,powN_pv,pv_lin]) x,pvd_pow x n (powN [-a,((1:Int):Rat)] n) fun x=>powN_pv _ x n,h.d,h.pe,hM,powN_pv,pv_mulQ,powN_pv,pv_lin,pvd_lin,hk]; grind
 ·refine Cop.mulL (a:=R) (b:=[-a,((1:Int):Rat)]) ?_ (Cop.lin ?_) fun x=>pv_mulQ _ _ x
  ·refine Cop.add (b:=mulQ M [-a,((1:Int):Rat)]) (s:=[((n:Int):Rat)]) (Cop.mul h.cm cl fun x=>pv_mulQ _ _ x) fun x=>?_
   rw [hM,pv_mulQ,pv_lin,pv_c]; grind
  ·rw [hM,show a - a=0 by grind,Rat.mul_zero,Rat.zero_add]
   exact mul_ne0 hRa hn0
 ·rw [pvd_mul (a:=R) (b:=[-a,((1:Int):Rat)]) (fun x=>pv_mulQ _ _ x) x,h.n,pvd_lin,pv_lin,hN]; grind
 ·refine Cop.mulL (a:=R) (b:=[-a,((1:Int):Rat)]) ?_ (Cop.lin ?_) fun x=>pv_mulQ _ _ x
  ·refine Cop.add (b:=mulQ N [-a,((1:Int):Rat)]) (s:=[1]) (Cop.mul h.cn cl fun x=>pv_mulQ _ _ x) fun x=>?_
   rw [hN,pv_mulQ,pv_lin,pv_one]; grind
  ·rw [hN,show a - a=0 by grind,Rat.mul_zero,Rat.zero_add]
   exact hRa
 ·exact Cop.mulL (h.ce e he) (Cop.lin (by rw [pv_qd]; exact sq_pos he)) fun x=>pv_mulQ _ _ x
 ·rw [pv_mulQ,pv_lin]
  rcases List.mem_append.1 hx with hx | hx
  ·rw [h.z x hx,Rat.zero_mul]
  ·obtain rfl:x=a:=by simpa using hx
   rw [show x - x=0 by grind,Rat.mul_zero]
 ·rw [pv_mulQ,pv_lin]
  rw [List.mem_append,not_or,List.mem_singleton] at hx
  exact mul_ne0 (h.nz x hx.1) fun e=>hx.2 (by grind)
 ·rw [cutn_mulQ (by rw [h.deg]; omega) (by rw [cutn_lin]; omega),h.deg,cutn_lin,List.length_append,List.length_singleton]; omega
 ·have:=pow_cutn (f:=[-a,((1:Int):Rat)]) (by rw [cutn_lin]; omega) (n - 1)
  have:=h.h0
  rw [cutn_mulQ h.h0 (by assumption)]; omega
theorem SqJ.congr {p p' R H M N rs:List Rat} (h:SqJ p R H M N rs) (e:∀ x,pv p' x=pv p x):SqJ p' R H M N rs :=
 ⟨fun x=>by rw [e,h.pe],fun x=>by rw [pvd_congr e,h.d],h.cm,h.n,h.cn,h.ce,h.z,h.nz,h.deg,h.h0⟩
theorem mulP_comm (a b:List Rat):mulP a b=mulP b a:=cut_inj fun x=>by rw [pv_mulQ,pv_mulQ,pv_cut,pv_cut,Rat.mul_comm]
theorem PB.mulR {ps qs:List Rat} {C D A B L:Nat} (h1:PB ps C A) (h2:PB qs D B) (hL:qs.length≤L):PB (mulP ps qs) (C * D) (L * (A * B)):=by
 rw [mulP_comm,Nat.mul_comm C D,Nat.mul_comm A B]
 exact h2.mul h1 hL
theorem PB.der {ps:List Rat} {C A L:Nat} (h:PB ps C A) (hL:ps.length≤L):PB (cutQ (derQ ps)) C (L * A):=by
 obtain ⟨c,a1,a2,a3⟩:=h
 refine PB.cut ⟨c,a1,a2,fun j=>?_⟩
 rw [derQ_get]
 by_cases hj:j + 1 < ps.length
 ·rw [Rat.mul_assoc]
  exact ((Bi.int (B:=L) (by omega)).mul (a3 (j + 1)))
 ·rw [getQ_out (by omega),Rat.mul_zero,Rat.zero_mul]; exact Bi.zero _
structure SqF (p R H M N rs:List Rat):Prop where
 pe:∀ x,pv p x=pv R x * pv H x
 d:∀ x,pvd p x=pv H x * pv M x
 cm:Cop R M
 n:∀ x,pvd R x=pv N x
 cn:Cop R N
 z:∀ x,x ∈ rs→pv R x=0
 deg:cutn R=rs.length + 1 ∨ cutn R=rs.length + 3
 h0:cutn H≠0
theorem SqJ.fin {p R H M N rs:List Rat} (h:SqJ p R H M N rs):SqF p R H M N rs:=⟨h.pe,h.d,h.cm,h.n,h.cn,h.z,Or.inl h.deg,h.h0⟩
theorem cutn_qd (e:Rat):cutn (qd e)=3:=by simp [qd,cutn]
theorem SqJ.quad {p p' R H M N rs:List Rat} {e:Rat} (h:SqJ p R H M N rs) (he : 0 < e) (e1:∀ x,pv p' x=pv p x * pv (qd e) x):∃ M' N',SqF p' (mulQ R (qd e)) H M' N' rs:=by
 have hE:=h.ce e he
 have h2:∀ x,pv [0,2] x=2 * x:=fun x=>by simp only [pv]; grind
 refine ⟨addQ (mulQ M (qd e)) (mulQ R [0,2]),addQ (mulQ N (qd e)) (mulQ R [0,2]),?_⟩
 have key:∀ {M:List Rat},Cop R M→Cop (mulQ R (qd e)) (addQ (mulQ M (qd e)) (mulQ R [0,2])):=fun {M} hc=>by
  refine Cop.mulL (a:=R) (b:=qd e) ?_ ?_ fun x=>pv_mulQ _ _ x
  ·refine Cop.add (b:=mulQ M (qd e)) (s:=[0,2]) (Cop.mul hc hE fun x=>pv_mulQ _ _ x) fun x=>?_
   rw [pv_add,pv_mulQ R]; grind
  ·refine Cop.add (b:=mulQ R [0,2]) (s:=M) (Cop.mul hE.symm (Cop.qd2 he) fun x=>pv_mulQ _ _ x) fun x=>?_
   rw [pv_add,pv_mulQ M]; grind
 refine ⟨fun x=>?_,fun x=>?_,key h.cm,fun x=>?_,key h.cn,fun x hx=>?_,Or.inr ?_,h.h0⟩
 ·rw [e1,h.pe,pv_mulQ]; grind
 ·rw [pvd_mul e1 x,h.d,h.pe,pvd_qd,pv_add,pv_mulQ,pv_mulQ,h2]; grind
 ·rw [pvd_mul (a:=R) (b:=qd e) (fun x=>pv_mulQ _ _ x) x,h.n,pvd_qd,pv_add,pv_mulQ,pv_mulQ,h2]
 ·rw [pv_mulQ,h.z x hx,Rat.zero_mul]
 ·rw [cutn_mulQ (by rw [h.deg]; omega) (by rw [cutn_qd]; omega),h.deg,cutn_qd]; omega
theorem mon_same {a b:List Rat} {c:Rat} (hc:c≠0) (e:∀ x,pv a x=c * pv b x):monP a=monP b:=by
 obtain ⟨k,hk,h1⟩:=mon_unit a
 obtain ⟨l,hl,h2⟩:=mon_unit b
 refine mon_uniq (mon_mon a) (mon_mon b) ⟨[l * (k * c)⁻¹],fun x=>?_⟩ ⟨[k * c * l⁻¹],fun x=>?_⟩
 ·rw [pv_c,h1,h2,e]
  have:=inv_mul (mul_ne0 hk hc)
  grind
 ·rw [pv_c,h1,h2,e]
  have:=inv_mul hl
  grind
theorem SqF.isG {p R H M N rs:List Rat} (h:SqF p R H M N rs):IsG H p (cutQ (derQ p)):=by
 obtain ⟨u,v,e⟩:=h.cm
 refine ⟨⟨R,fun x=>by rw [h.pe]; grind⟩,⟨M,fun x=>by rw [pv_cut,pv_der,h.d]⟩,u,v,fun x=>?_⟩
 rw [pv_cut,pv_der,h.d,h.pe]
 have:=e x
 grind
theorem mon_cutn (g:List Rat):cutn (monP g)=cutn g:=by
 obtain ⟨c,hc,e⟩:=mon_unit g
 rw [cutn_pv (b:=g.map fun q=>q / c⁻¹) fun x=>by rw [e,pv_divc,Rat.div_def,Rat.inv_inv]; grind]
 exact cutn_scale (fun e=>by
  have:=inv_mul hc
  rw [e,Rat.zero_mul] at this
  exact absurd this (by decide)) g
theorem SqF.sq {p R H M N rs:List Rat} (h:SqF p R H M N rs):sqP p=monP R:=by
 have hG:sqG p=monP H:=isG_uniq (gcd_is p _) h.isG.mon (gcd_mon _ _) (mon_mon H)
 have h0:(clq (sqG p)).length≠0:=by rw [clq_cutn,hG,mon_cutn]; exact h.h0
 obtain ⟨c,hc,e⟩:=mon_unit H
 have hd:dve (sqG p)=0:=if_neg h0
 unfold sqP
 rw [hd,if_neg (by decide)]
 have h1:∀ x,pv (dvq p (sqG p)) x * pv (sqG p) x + pv (dvr p (sqG p)) x=pv (R.map fun q=>q / c) x * pv (sqG p) x + pv [] x:=fun x=>by
  rw [← div_pv h0,h.pe,hG,e,pv_divc]
  have:=Rat.div_mul_cancel (a:=pv R x) hc
  simp only [pv]
  grind
 have h2:=(div_uniq h1 (dvr_low h0) (by
  have:cutn (sqG p)≠0:=by rwa [clq_cutn] at h0
  show cutn [] < _; simp only [cutn]; omega)).1
 refine mon_same (c:=c⁻¹) (fun e=>?_) fun x=>?_
 ·have:=inv_mul hc
  rw [e,Rat.zero_mul] at this
  exact absurd this (by decide)
 ·rw [h2,pv_divc,Rat.div_def,Rat.mul_comm]
theorem SqF.root {p R H M N rs:List Rat} (h:SqF p R H M N rs) {x:Rat} (hx:x ∈ rs):pv (sqP p) x=0∧pvd (sqP p) x≠0:=by
 rw [h.sq]
 obtain ⟨c,hc,e⟩:=mon_unit R
 obtain ⟨u,v,hb⟩:=h.cn
 have hz:=h.z x hx
 refine ⟨by rw [e,hz,Rat.mul_zero],?_⟩
 rw [pvd_congr (b:=R.map fun q=>q * c) (fun x=>by rw [e,pv_mulc]; grind) x,pvd_mulc,h.n]
 refine mul_ne0 (fun e2=>?_) hc
 have:=hb x
 rw [hz,e2,Rat.mul_zero,Rat.mul_zero] at this
 exact absurd this (by decide +kernel)
theorem SqF.gcd1 {p R H M N rs:List Rat} (h:SqF p R H M N rs):gcdP (sqP p) (cutQ (derQ (sqP p))) = [1]:=by
 rw [h.sq]
 obtain ⟨c,hc,e⟩:=mon_unit R
 obtain ⟨u,v,hb⟩:=h.cn
 have hd:∀ x,pv (cutQ (derQ (monP R))) x=pv N x * c:=fun x=>by
  rw [pv_cut,pv_der,pvd_congr (b:=R.map fun q=>q * c) (fun x=>by rw [e,pv_mulc]; grind) x,pvd_mulc,h.n]
 refine isG_uniq (gcd_is _ _) ⟨⟨monP R,fun x=>?_⟩,⟨cutQ (derQ (monP R)),fun x=>?_⟩,u.map fun q=>q * c⁻¹,v.map fun q=>q * c⁻¹,fun x=>?_⟩ (gcd_mon _ _) ⟨by decide +kernel,Or.inr (by decide +kernel)⟩
 ·rw [pv_one]; grind
 ·rw [pv_one]; grind
 ·rw [pv_one,pv_mulc,pv_mulc,hd,e]
  have:=inv_mul hc
  have:=hb x
  grind
theorem SqF.degs {p R H M N rs:List Rat} (h:SqF p R H M N rs):cutn (sqP p)=rs.length + 1 ∨ cutn (sqP p)=rs.length + 3:=by
 rw [h.sq,mon_cutn]; exact h.deg
end Go.Proofs.YtcankknlbljicaaGreatDoor

namespace Go.Proofs.YtcankknlbljicaaGreatDoor
open Go.RowKit Num
set_option maxRecDepth 100000

def mTx (x:Value) (ts:List Int) (k:Nat):MP where
 S O w v:=v = .agg #[x,.int .i64 (k:Int)]∧isSl O w 0 (lI ts 0) x
 fr:=false
 mono O w w' v hk h:=⟨h.1,(mSl 0 (lI ts 0)).mono O w w' x hk h.2⟩
 more O A w v hA h:=⟨h.1,(mSl 0 (lI ts 0)).more O A w x hA h.2⟩
 less O O' w v hO h:=⟨h.1,(mSl 0 (lI ts 0)).less O O' w x hO h.2⟩
 free h:=by cases h
def mTp (ts:List Int) (k:Nat):MP where
 S O w v:=∃ x,(mTx x ts k).S O w v
 fr:=false
 mono O w w' v hk h:=by obtain ⟨x,h⟩:=h; exact ⟨x,(mTx x ts k).mono O w w' v hk h⟩
 more O A w v hA h:=by obtain ⟨x,h⟩:=h; exact ⟨x,(mTx x ts k).more O A w v hA h⟩
 less O O' w v hO h:=by obtain ⟨x,h⟩:=h; exact ⟨x,(mTx x ts k).less O O' w v hO h⟩
 free h:=by cases h
theorem noU_tp {ao:Option Addr} {n c:Nat} {k:Int}:noU #[.slice ao n c,.int .i64 k]:=by
 intro i x
 match i with
 | 0=>simp
 | 1=>simp
 | i + 2=>simp
theorem mTp_cv {ts:List Int} {k:Nat} {O:Bs} {w:World} {v:Value} (h:(mTp ts k).S O w v):cv 2 v:=by
 obtain ⟨x,rfl,ao,c,rfl,_⟩:=h
 exact ⟨_,rfl,rfl,noU_tp,by simp [Value.oneCell']⟩
section
variable {O : Bs} {w : World}
theorem built_tp1 (ao:Option Addr) (n c:Nat):Tryz.prog.built 110 [(0,.slice ao n c)]=some #[.slice ao n c,.int .i64 0]:=by kernel_rfl
theorem bld_tp {a:Act} {o:Oper} {t:Tmp} {ts:List Int} (h:(mSl 0 (lI ts 0)).S O w (sl a t)) (ho:o.op = .build 110 #[(0,.tmp t)]:=by rfl):∃ v,(execOp a.eval o).run Tryz.prog w = .ok (.value v) w∧(mTp ts 0).S O w v:=by
 have h':=h
 obtain ⟨ao,c,q1,_⟩:=h
 have e1:a.eval (.tmp t)=_:=q1
 rw [q1] at h'
 refine ⟨_,run_build_op _ _ ho (cells:=#[.slice ao (lI ts 0).length c,.int .i64 0]) ?_,_,rfl,h'⟩
 simp only [List.map_toArray,List.map_cons,List.map_nil,e1]
 exact built_tp1 _ _ _
theorem run_nil {P:Program} {ρ:Operand→Value} {o:Oper} {x:Operand} {g off:Nat} (ho:o.op = .nilCheck x) (hx : ρ x = .pointer (some ⟨g,off,none⟩)):(execOp ρ o).run P w = .ok (.value (.pointer (some ⟨g,off,none⟩))) w:=by
 unfold execOp; simp [ho,hx,go_sem]
theorem infoL_:(Tryz.prog.info? 49).map (·.size)=some 1:=by kernel_rfl
theorem infoI_:(Tryz.prog.info? 3).map (·.size)=some 1:=by kernel_rfl
theorem fa_Tape_0 {ρ:Operand→Value} {o:Oper} {x:Operand} {g:Nat} (ho:o.op = .fieldAddr 110 x 0) (hx : ρ x = .pointer (some ⟨g,0,none⟩)):(execOp ρ o).run Tryz.prog w = .ok (.value (.pointer (some ⟨g,0,none⟩))) w:=run_fieldAddr ho hx Tryz.underlying110 rfl infoL_
theorem fa_Tape_1 {ρ:Operand→Value} {o:Oper} {x:Operand} {g:Nat} (ho:o.op = .fieldAddr 110 x 1) (hx : ρ x = .pointer (some ⟨g,0,none⟩)):(execOp ρ o).run Tryz.prog w = .ok (.value (.pointer (some ⟨g,1,none⟩))) w:=run_fieldAddr ho hx Tryz.underlying110 rfl infoI_
theorem ld_Tx0 {ρ:Operand→Value} {o:Oper} {x:Operand} {g:Nat} {T:TypeId} {y:Value} {ts:List Int} {k:Nat} (h:bx O T 2 (mTx y ts k) w g) (hx : ρ x = .pointer (some ⟨g,0,none⟩)) (ho:o.op = .load 49 x:=by rfl):∃ v,(execOp ρ o).run Tryz.prog w = .ok (.value v) w∧(mSl 0 (lI ts 0)).S O w v:=by
 obtain ⟨cs,h1,h2,h3,h4,e,h5⟩:=h
 obtain rfl:=Value.agg.inj e
 have hc:w.cell? ⟨g,0,none⟩=some y:=by rw [cell_of_row w g 0 _ T (0,0) h1]; rfl
 refine ⟨y,?_,h5⟩
 unfold execOp
 simp [ho,hx,Instr.loadAt,Instr.sureAddr,go_sem,loadVar,isAgg,run_underlying Tryz.underlying49,hc]
theorem ld_Tx1 {ρ:Operand→Value} {o:Oper} {x:Operand} {g:Nat} {T:TypeId} {y:Value} {ts:List Int} {k:Nat} (h:bx O T 2 (mTx y ts k) w g) (hx : ρ x = .pointer (some ⟨g,1,none⟩)) (ho:o.op = .load 3 x:=by rfl):(execOp ρ o).run Tryz.prog w = .ok (.value (.int .i64 (k:Int))) w:=by
 obtain ⟨cs,h1,h2,h3,h4,e,h5⟩:=h
 obtain rfl:=Value.agg.inj e
 have hc:w.cell? ⟨g,1,none⟩=some (.int .i64 (k:Int)):=by rw [cell_of_row w g 1 _ T (0,0) h1]; rfl
 unfold execOp
 simp [ho,hx,Instr.loadAt,Instr.sureAddr,go_sem,loadVar,isAgg,run_underlying Tryz.underlying3,hc]
theorem run_sto1 {ρ:Operand→Value} {o:Oper} {x y:Operand} {ad:Addr} {j l:Int} (ho:o.op = .store 3 x y) (hx : ρ x = .pointer (some ad)) (hy : ρ y = .int .i64 l) (hc:w.cell? ad=some (.int .i64 j)) (hz:w.frozen? ad=false):(execOp ρ o).run Tryz.prog w = .ok .skip (w.setCell ad (.int .i64 l)):=by
 unfold execOp
 simp [ho,hx,hy,Instr.storeAt,Instr.sureAddr,go_sem,storeVar,isAgg,run_underlying Tryz.underlying3,hc,hz]
structure Frame (g:Nat) (w w':World):Prop where
 b:∀ k,k < w.heap.size→k≠g→w'.heap[k]?=w.heap[k]?
 e:Ext w w'
def RX.frame (g:Nat) (we:World):RX where
 b:=none
 F O w:=Frame g we w∧∀ x,O x→x=g ∨ we.heap.size≤x
 lt _ _ _ _ h:=by cases h
 kept O w w' hk _ h:=by
  refine ⟨⟨fun k h1 h2=>?_,h.1.e.trans hk.e⟩,h.2⟩
  have e:=h.1.b k h1 h2
  rw [← e]
  refine hk.b k ?_ fun hO=>?_
  ·rw [Array.getElem?_eq_getElem h1] at e
   exact (Array.getElem?_eq_some_iff.1 e).1
  ·rcases h.2 k hO with h3 | h3
   ·exact h2 h3
   ·omega
 more O A w hA h:=by
  refine ⟨h.1,fun x hx=>?_⟩
  rcases hx with hx | hx
  ·exact h.2 x hx
  ·by_cases h1:x=g
   ·exact Or.inl h1
   ·refine Or.inr (Nat.le_of_not_lt fun h2=>?_)
    have e:=h.1.b x h2 h1
    rw [Array.getElem?_eq_getElem h2] at e
    have:=(Array.getElem?_eq_some_iff.1 e).1
    have:=hA x hx
    omega
 less O O' w hO h:=⟨h.1,fun x hx=>h.2 x (hO x hx)⟩
def RetX (r:Value) (g:Nat) (T:TypeId) (n:Nat) (m:MP) (we:World) (e:Ending) (w':World):Prop:=e = .returned r∧bx (fun x=>x=g) T n m w' g∧Frame g we w'∧w'.os=we.os∧w'.tape=we.tape∧w'.output=we.output
theorem own_fr {g:Nat} {T:TypeId} {n:Nat} {m:MP} (hb:bx (fun x=>x=g) T n m w g):OwnOk (fun x=>x=g) { w with heap:=#[] } w [.box g T n m,.frame g w]:=by
 refine ⟨fun p hp=>?_,fun p hp x hx=>?_,?_⟩
 ·rcases List.mem_cons.1 hp with rfl | hp
  ·exact hb
  ·obtain rfl:p=RX.frame g w:=by simpa using hp
   exact ⟨⟨fun _ _ _=>rfl,Ext.refl w⟩,fun x hx=>Or.inl hx⟩
 ·rcases List.mem_cons.1 hp with rfl | hp
  ·cases hx; exact ⟨rfl,Nat.zero_le _⟩
  ·obtain rfl:p=RX.frame g w:=by simpa using hp
   cases hx
 ·refine List.Pairwise.cons (fun q hq x hx h2=>?_) (List.Pairwise.cons (fun q hq=>by cases hq) List.Pairwise.nil)
  obtain rfl:q=RX.frame g w:=by simpa using hq
  cases h2
theorem st_startX {P:Program} {f:FuncId} {fn:Func} {c:Code} {args:Array Value} {R:Ending→World→Prop} {g:Nat} {T:TypeId} {n:Nat} {m:MP} (N:Nat) (hf:P.funcs[f]?=some fn) (ms:List MP) (hm:AllA (fun x=>x=g) w ms args.toList) (hb:bx (fun x=>x=g) T n m w g)
  (h:∀ a,St N (fun _=>False) (fun x=>x=g) { w with heap:=#[] } a w (numL 0 ms) [.box g T n m,.frame g w]→c.wp P (bodyPost P fn R) a w) (hb1:fn.body=some c:=by rfl) (hn:fn.ntmps=N:=by rfl) (hN:args.size≤N:=by simp):Calls P f args w R :=
 calls_abs N hf hb1 hn hN fun a z d ha=>h a ⟨z,d,⟨rfl,rfl,rfl,Nat.zero_le _,fun k hk=>absurd hk (Nat.not_lt_zero k)⟩,numL_ok ms _ 0 hm fun j hj=>by
  have:=ha j (by simpa using hj)
  rw [Nat.zero_add,this]
  simp [Array.getD_eq_getD_getElem?,List.getD_eq_getElem?_getD],own_fr hb,fun _ h=>h.elim,fun x hx=>hx ▸ hb.lt,fun _ h=>h.elim⟩
theorem st_endX {P:Program} {fn:Func} {N:Nat} {O O0:Bs} {we w:World} {a:Act} {L:List (Nat × MP)} {X:List RX} {p:Tmp} {r r':Value} {g n:Nat} {T:TypeId} {m m':MP} (S:St N O0 O { we with heap:=#[] } a w L X) (i k j:Nat) (hi:L[i]?=some (p,mV r)) (hk:X[k]?=some (.box g T n m)) (hj:X[j]?=some (.frame g we)) (hr:r=r') (hm:∀ v,m.S (fun x=>x=g) w v→m'.S (fun x=>x=g) w v) (hf:fn.results = #[.tmp p]:=by rfl):bodyPost P fn (RetX r' g T n m' we) .ret a w:=by
 subst hr
 have hO:∀ x,x=g→O x:=fun x e=>e ▸ (S.x.o _ (List.mem_of_getElem? hk) g rfl).1
 refine ⟨S.d,_,results_tmp hf a.tmps P w,?_,?_,(S.f j hj).1,S.B.os,S.B.tape,S.B.output⟩
 ·exact congrArg Ending.returned (S.sl i hi)
 ·obtain ⟨cs,h1,h2,h3,h4,h5⟩:=S.bx k hk
  exact ⟨cs,h1,h2,h3,h4,hm _ (m.less _ _ _ _ hO h5)⟩
section
variable {P : Program} {ops : Array Oper} {rest : List Oper} {o : Oper} {a : Act} {W0 : World} {Q : Exit → Act → World → Prop} {N : Nat} {O0 : Bs} {L : List (Nat × MP)} {X : List RX}
theorem t_sto_tx (S:St N O0 O W0 a w L X) (i k:Nat) {t:Tmp} {y:Operand} {g:Nat} {T0:TypeId} {v:Value} {ts:List Int} {j l:Nat} (hk:X[k]?=some (.box g T0 2 (mTx v ts j))) (hi:L[i]?=some (t,mV (.pointer (some ⟨g,1,none⟩)))) (hy:a.eval y = .int .i64 (l:Int))
  (h:∀ w',St N O0 O W0 a w' L (X.set k (.box g T0 2 (mTx v ts l)))→wpList Tryz.prog ops Q rest a w') (ho:o.op = .store 3 (.tmp t) y:=by rfl) (hg:o.guard=none:=by rfl) (hd:o.dst=none:=by rfl):wpList Tryz.prog ops Q (o :: rest) a w:=by
 have hO:=(S.x.o _ (List.mem_of_getElem? hk) g rfl).1
 have hb:=S.bx k hk
 have kp:=bx.kp #[v,.int .i64 (l:Int)] hb hO
 obtain ⟨cs,h1,h2,h3,h4,e,h5⟩:=hb
 obtain rfl:=Value.agg.inj e
 refine wpList_plain hg fun K hK=>?_
 have hx:a.eval (.tmp t) = .pointer (some ⟨g,1,none⟩):=S.e i hi
 have hc:w.cell? ⟨g,1,none⟩=some (.int .i64 (j:Int)):=by rw [cell_of_row w g 1 _ T0 (0,0) h1]; rfl
 have hrow:w.setCell ⟨g,1,none⟩ (.int .i64 (l:Int))=w.setRow g #[v,.int .i64 (l:Int)]:=by
  rw [setCell_eq_setRow w g 1 _ T0 (0,0) _ h1]; rfl
 have hrun:(execOp a.eval o).run Tryz.prog w = .ok .skip (w.setRow g #[v,.int .i64 (l:Int)]):=by
  rw [← hrow]
  exact run_sto1 ho hx hy hc (by simp [World.frozen?,h1])
 unfold Oper.wp
 rw [hrun]
 refine hK _ _ ?_
 rw [hd]
 refine h _ (S.put k hk rfl kp (q:=.box g T0 2 (mTx v ts l)) ⟨_,setRow_heap w g _ _ T0 (0,0) h1,rfl,?_,?_,rfl,(mSl 0 (lI ts 0)).mono _ _ _ _ kp h5⟩ rfl)
 ·obtain ⟨ao,c,rfl,_⟩:=h5; exact noU_tp
 ·obtain ⟨ao,c,rfl,_⟩:=h5; simp [Value.oneCell']
theorem St.putW {w':World} (S:St N O0 O W0 a w L X) (k:Nat) {g:Nat} {p q:RX} (hk:X[k]?=some p) (hpg:p.b=some g) (fr:Frame g w w') (hB:Below W0.heap.size W0 w') (hq:q.F O w') (hb:q.b=some g) (hs:w.heap.size≤w'.heap.size):St N O0 O W0 a w' L (X.set k q):=by
 obtain ⟨hlt,he⟩:=List.getElem?_eq_some_iff.1 hk
 have hO:=S.x.o p (List.mem_of_getElem? hk) g hpg
 have kp:Kp O w w':=⟨fr.e,fun x hx hn=>fr.b x hx fun e=>hn (e ▸ hO.1)⟩
 have hg:∀ (l:Nat) (hl:l < X.length),((X.set k q)[l]'(by rw [List.length_set]; exact hl)).b=X[l].b:=by
  intro l hl
  rw [List.getElem_set]
  by_cases hkl:k=l
  ·rw [if_pos hkl]; subst hkl; rw [hb,he,hpg]
  ·rw [if_neg hkl]
 have hpw:=List.pairwise_iff_getElem.1 S.x.ap
 refine ⟨S.z,S.d,hB,S.s.kp kp,⟨?_,?_,?_⟩,S.o,S.ob.mono hs,S.b0⟩
 ·intro r hr
  obtain ⟨i,hi,rfl⟩:=List.getElem_of_mem hr
  rw [List.length_set] at hi
  rw [List.getElem_set]
  by_cases hik:k=i
  ·rw [if_pos hik]; exact hq
  ·rw [if_neg hik]
   refine (X[i]).kept O w _ kp (fun x hx=>fr.b x (X[i].lt O w x (S.x.f _ (List.getElem_mem hi)) hx) ?_) (S.x.f _ (List.getElem_mem hi))
   intro e
   subst e
   rcases Nat.lt_or_gt_of_ne hik with h1 | h1
   ·exact hpw k i hlt hi h1 x (by rw [he]; exact hpg) hx
   ·exact hpw i k hi hlt h1 x hx (by rw [he]; exact hpg)
 ·intro r hr
  obtain ⟨i,hi,rfl⟩:=List.getElem_of_mem hr
  rw [List.length_set] at hi
  rw [hg i hi]
  exact S.x.o _ (List.getElem_mem hi)
 ·rw [List.pairwise_iff_getElem]
  intro i j hi hj hij
  rw [List.length_set] at hi hj
  rw [hg i hi,hg j hj]
  exact hpw i j hi hj hij
theorem Frame.size {g:Nat} {w w':World} (h:Frame g w w') (hg:g < w'.heap.size):w.heap.size≤w'.heap.size:=by
 refine Nat.le_of_not_lt fun h1=>?_
 by_cases e:w.heap.size - 1=g
 ·omega
 ·have:=h.b (w.heap.size - 1) (by omega) e
  rw [Array.getElem?_eq_none (by omega),Array.getElem?_eq_getElem (by omega)] at this
  cases this
theorem t_callX (S:St N O0 O W0 a w L X) (k:Nat) {d:Tmp} {f:FuncId} {xs:Array Operand} {tys:Array TypeId} {vs:Array Value} {g:Nat} {T:TypeId} {ts:List Int} {j l:Nat} {r:Int} (ho:o.op = .call { callee:=.value (.func f),args:=xs,argTypes:=tys }) (ha:xs.map a.eval=vs) (hk:X[k]?=some (.box g T 2 (mTp ts j)))
  (hr:∀ x,bx (fun x=>x=g) T 2 (mTx x ts j) w g→Calls P f vs w (RetX (.int .i64 r) g T 2 (mTx x ts l) w))
  (h:∀ a' w',St N O0 O W0 a' w' (setL d (mV (.int .i64 r)) L) (X.set k (.box g T 2 (mTp ts l)))→wpList P ops Q rest a' w')
  (hg:o.guard=none:=by rfl) (hd:o.dst=some d:=by rfl) (hlt:d < N:=by decide) (hc:∀ vs w,(callFunc f vs).run P w = .ok (.enter f vs) w:=by intro _ _; kernel_rfl):wpList P ops Q (o :: rest) a w :=
 wpList_plain hg fun _ hK=>by
  have hrun:=run_call (ρ:=a.eval) (w:=w) ho rfl hc ha
  have hO:=(S.x.o _ (List.mem_of_getElem? hk) g rfl)
  obtain ⟨cs,h1,h2,h3,h4,x,e,h5⟩:=S.bx k hk
  unfold Oper.wp
  rw [hrun]
  refine (hr x ⟨cs,h1,h2,h3,h4,e,(mSl 0 (lI ts 0)).less O _ w x (fun y hy=>hy ▸ hO.1) h5⟩).mono ?_
  rintro e' w' ⟨rfl,hb,fr,q1,q2,q3⟩
  refine hK _ _ ?_
  rw [hd]
  have hsz:=fr.size hb.lt
  have kp:Kp O w w':=⟨fr.e,fun x hx hn=>fr.b x hx fun e=>hn (e ▸ hO.1)⟩
  obtain ⟨cs',k1,k2,k3,k4,e2,k5⟩:=hb
  have S2:=S.putW k (q:=.box g T 2 (mTp ts l)) hk rfl fr ⟨q1.trans S.B.os,q2.trans S.B.tape,q3.trans S.B.output,Nat.le_trans S.B.size hsz,fun y hy=>(fr.b y (Nat.lt_of_lt_of_le hy S.B.size) (by omega)).trans (S.B.block y hy)⟩ ⟨cs',k1,k2,k3,k4,x,e2,(mSl 0 (lI ts 0)).mono _ _ _ _ kp h5⟩ rfl hsz
  exact h _ _ ⟨(put_size _ _ _).trans S2.z,(put_defers _ _ _).trans S2.d,S2.B,S2.s.set (by rw [sl_put _ (by rw [S2.z]; exact hlt)]; rfl) (fun t ht=>sl_other _ fun e=>ht e.symm),S2.x,S2.o,S2.ob,S2.b0⟩
end
end
end Go.Proofs.YtcankknlbljicaaGreatDoor

namespace Go.Proofs.YtcankknlbljicaaGreatDoor
open Go.RowKit Num

set_option maxRecDepth 100000
set_option maxHeartbeats 2000000

def nxV (ts:List Int) (j:Nat) (n:Int):Int:=if j < ts.length then ts.getD j 0 % n else 0
def nxA (ts:List Int) (j:Nat):Nat:=if j < ts.length then j + 1 else j
theorem nxV_t {ts:List Int} {j:Nat} {n:Int} (h:(ts.length:Int)≤(j:Int)) : 0=nxV ts j n:=(if_neg (by omega)).symm
theorem nxV_f {ts:List Int} {j:Nat} {n:Int} (h:¬ (ts.length:Int)≤(j:Int)):ts.getD j 0 % n=nxV ts j n:=(if_pos (by omega)).symm
theorem nxA_t {ts:List Int} {j:Nat} (h:(ts.length:Int)≤(j:Int)):nxA ts j=j:=if_neg (by omega)
theorem nxA_f {ts:List Int} {j:Nat} (h:¬ (ts.length:Int)≤(j:Int)):nxA ts j=j + 1:=if_pos (by omega)
theorem nxA_le {ts:List Int} {j:Nat} (h:j≤ts.length):nxA ts j≤ts.length:=by unfold nxA; split <;> omega
theorem nxV_b {ts:List Int} {j:Nat} {n:Int} (h : 0 < n) : 0≤nxV ts j n∧nxV ts j n < n:=by
  unfold nxV; split
  · exact ⟨Int.emod_nonneg _ (by omega),Int.emod_lt_of_pos _ h⟩
  · omega
theorem k_next {ts:List Int} {j:Nat} {n:Int} {g:Nat} {x:Value} {w:World} (hl:ts.length≤9223372036854775807) (hI:∀ i:Nat,-9223372036854775808≤ts.getD i 0∧ts.getD i 0≤9223372036854775807) (hn0 : 1≤n) (hn1:n≤1000000) (hj:j≤ts.length) (hb:bx (fun y=>y=g) 110 2 (mTx x ts j) w g) :
    Calls Tryz.prog 126 #[.pointer (some ⟨g,0,none⟩),.int .i64 (n)] w (RetX (.int .i64 (nxV ts j n)) g 110 2 (mTx x ts ((nxA ts j))) w):=by
 refine st_startX 35 Tryz.func126 [(mV (.pointer (some ⟨g,0,none⟩))),(mV (.int .i64 (n)))] ⟨rfl,rfl,trivial⟩ hb fun a S=>?_
 have hIj:=hI (j + 1 - 1)
 refine wp_seq ?_
 refine st_seq S 0 [] [(false,0),(false,1)] trivial (L':=[(0,?_),(1,?_)]) ?_ fun a1 w2 S3=>?_
 rotate_left 2
 · rfl
 refine t_asgC S3 fun a5 S6=>?_
 refine wpList_nil (then_normal ?_)
 refine wp_seq ?_
 refine wp_seq ?_
 refine st_mono S6 10 [?_,?_,?_,?_,?_,?_,?_,?_,?_,?_] [(true,9),(false,0),(false,1),(false,2)] ⟨?_,?_,?_,?_,?_,?_,?_,?_,?_,?_,trivial⟩ (L':=[(14,?_),(4,?_),(0,?_),(1,?_)]) ?_ fun a7 w8 S9=>?_
 rotate_left 14
 · exact opV S6.r fun c=>run_v (run_move rfl) (c.q 1 rfl)
 · exact opV S6.r fun c=>run_nil rfl (c.e 0 rfl)
 · exact opV S6.r fun c=>fa_Tape_1 rfl (c.e 0 rfl)
 · exact opV S6.r fun c=>ld_Tx1 (c.bx 0 rfl) (c.e 0 rfl)
 · exact opV S6.r fun c=>run_v (run_move rfl) (c.q 1 rfl)
 · exact opV S6.r fun c=>run_nil rfl (c.e 0 rfl)
 · exact opV S6.r fun c=>fa_Tape_0 rfl (c.e 0 rfl)
 · exact opP S6.r fun c=>ld_Tx0 (c.bx 0 rfl) (c.e 0 rfl)
 · exact opV S6.r fun c=>len_L ts.length Tryz.underlying49 (c.h 0 rfl) (lI_len _ _)
 · exact opV S6.r fun c=>run_geq rfl (c.e 0 rfl) (c.e 1 rfl)
 · rfl
 refine wpList_nil (then_normal ?_)
 refine cond_b _ (ev (S9.sl 0 rfl)) (fun hb11=>?_) (fun hb11=>?_)
 ·have hb11p:=of_decide_eq_true hb11
  refine wp_seq ?_
  refine st_seq S9 0 [] [(false,1),(false,2),(false,3)] trivial (L':=[(4,?_),(0,?_),(1,?_)]) ?_ fun a12 w13 S14=>?_
  rotate_left 3
  · rfl
  refine t_asgC S14 fun a16 S17=>?_
  refine wpList_nil (then_normal ?_)
  refine wp_ret ?_
  exact st_endX S17 0 0 1 rfl rfl rfl (congrArg (Value.int .i64) (nxV_t (of_decide_eq_true hb11))) (fun v h=>by rw [nxA_t (of_decide_eq_true hb11)]; exact h)
 ·have hb11p:=of_decide_eq_false hb11
  have hlt:=of_decide_eq_false hb11
  refine wp_skip (then_normal ?_)
  refine wp_seq ?_
  refine st_seq S9 7 [?_,?_,?_,?_,?_,?_,?_] [(true,4),(true,6),(false,1),(false,2),(false,3)] ⟨?_,?_,?_,?_,?_,?_,?_,trivial⟩ (L':=[(19,?_),(21,?_),(4,?_),(0,?_),(1,?_)]) ?_ fun a18 w19 S20=>?_
  rotate_left 12
  · exact opV S9.r fun c=>run_v (run_move rfl) (c.q 2 rfl)
  · exact opV S9.r fun c=>run_nil rfl (c.e 0 rfl)
  · exact opV S9.r fun c=>fa_Tape_1 rfl (c.e 0 rfl)
  · exact opV S9.r fun c=>ld_Tx1 (c.bx 0 rfl) (c.e 0 rfl)
  · exact opV S9.r fun c=>run_add rfl (c.e 0 rfl) rfl (by omega) (by omega)
  · exact opV S9.r fun c=>run_nil rfl (c.e 0 rfl)
  · exact opV S9.r fun c=>fa_Tape_1 rfl (c.e 0 rfl)
  · rfl
  refine t_sto_tx S20 1 0 (l:=j + 1) rfl rfl ((S20.e 0 rfl).trans (congrArg (Value.int .i64) (by omega))) fun w22 S23=>?_
  refine wpList_nil (then_normal ?_)
  refine wp_seq ?_
  refine st_mono S23 14 [?_,?_,?_,?_,?_,?_,?_,?_,?_,?_,?_,?_,?_,?_] [(true,13)] ⟨?_,?_,?_,?_,?_,?_,?_,?_,?_,?_,?_,?_,?_,?_,trivial⟩ (L':=[(4,?_)]) ?_ fun a24 w25 S26=>?_
  rotate_left 15
  · exact opV S23.r fun c=>run_v (run_move rfl) (c.q 3 rfl)
  · exact opV S23.r fun c=>run_nil rfl (c.e 0 rfl)
  · exact opV S23.r fun c=>fa_Tape_0 rfl (c.e 0 rfl)
  · exact opP S23.r fun c=>ld_Tx0 (c.bx 0 rfl) (c.e 0 rfl)
  · exact opV S23.r fun c=>run_v (run_move rfl) (c.q 3 rfl)
  · exact opV S23.r fun c=>run_nil rfl (c.e 0 rfl)
  · exact opV S23.r fun c=>fa_Tape_1 rfl (c.e 0 rfl)
  · exact opV S23.r fun c=>ld_Tx1 (c.bx 0 rfl) (c.e 0 rfl)
  · exact opV S23.r fun c=>run_sub rfl (c.e 0 rfl) rfl (by omega) (by omega)
  · exact opP S23.r fun c=>ix_sl Tryz.underlying49 infoIz (c.h 0 rfl) (c.e 1 rfl) (i:=(j + 1) - 1) (by omega) (lI_get (by omega))
  · exact opP S23.r fun c=>ld_pt0 (c.h 0 rfl) Tryz.underlying3
  · exact opV S23.r fun c=>run_v (run_move rfl) (c.q 4 rfl)
  · exact opC S23.r rfl fun c B=>⟨_,args_2 (c.e 0 rfl) (c.e 1 rfl),(k_mod (ts.getD ((j + 1) - 1) 0) (n) (by omega) (by omega) (by omega) (by omega))⟩
  · exact opV S23.r fun c=>run_v (run_assign rfl) (c.e 0 rfl)
  · rfl
  refine wpList_nil (then_normal ?_)
  refine wp_ret ?_
  exact st_endX S26 0 0 1 rfl rfl rfl (congrArg (Value.int .i64) (nxV_f (of_decide_eq_false hb11))) (fun v h=>by rw [nxA_f (of_decide_eq_false hb11)]; exact h)
end Go.Proofs.YtcankknlbljicaaGreatDoor

namespace Go.Proofs.YtcankknlbljicaaGreatDoor
open Go.RowKit Num



abbrev rtX (ts:List Int) (j:Nat):Rat:=Rat.divInt (nxV ts j 25 % 25 - 12) 12
def rtE (x:Rat) (p:List Rat):Nat→List Rat
 | 0=>p
 | k + 1=>mulP (rtE x p k) [-x,((1:Int):Rat)]
def rtS (ts:List Int) (s:Nat × List Rat × List Rat):Nat × List Rat × List Rat :=
 if rtX ts s.1 ∈ s.2.2 then (nxA ts s.1,s.2.1,s.2.2) else (nxA ts (nxA ts s.1),rtE (rtX ts s.1) s.2.1 ((nxV ts (nxA ts s.1) 3).toNat + 1),s.2.2 ++ [rtX ts s.1])
def rtP0 (ts:List Int):List Rat:=if nxV ts (nxA ts 0) 2=1 then cutQ ([(((1 + nxV ts 0 3:Int)):Rat)].map fun q=>q * (((-1:Int):Rat))) else [(((1 + nxV ts 0 3:Int)):Rat)]
def rtN (ts:List Int):Nat→Nat × List Rat × List Rat
 | 0=>(nxA ts (nxA ts (nxA ts 0)),rtP0 ts,[])
 | t + 1=>rtS ts (rtN ts t)
def rtM (ts:List Int):Nat:=(nxV ts (nxA ts (nxA ts 0)) 4).toNat
def rtP (ts:List Int):List Rat:=if nxV ts (rtN ts (rtM ts)).1 2=1 then mulP (rtN ts (rtM ts)).2.1 [Rat.divInt (1 + nxV ts (nxA ts (rtN ts (rtM ts)).1) 4) 16,((0:Int):Rat),((1:Int):Rat)] else (rtN ts (rtM ts)).2.1
def rtR (ts:List Int):List Rat:=(rtN ts (rtM ts)).2.2
theorem rtM_le (ts:List Int):rtM ts≤3:=by have:=nxV_b (ts:=ts) (j:=nxA ts (nxA ts 0)) (n:=4) (by decide); unfold rtM; omega
theorem rt_le (ts:List Int):∀ t,(rtN ts t).1≤ts.length
 | 0=>nxA_le (nxA_le (nxA_le (Nat.zero_le _)))
 | t + 1=>by
  have:=rt_le ts t
  simp only [rtN,rtS]
  split
  ·exact nxA_le this
  ·exact nxA_le (nxA_le this)
theorem rtX_bi (ts:List Int) (j:Nat):Bi (rtX ts j * (((12:Nat):Int):Rat)) 12:=by
 unfold rtX
 have h1 : -12≤nxV ts j 25 % 25 - 12∧nxV ts j 25 % 25 - 12≤12:=by omega
 generalize nxV ts j 25 % 25 - 12=a at *
 refine ⟨a,?_,by omega⟩
 rw [Rat.divInt_eq_div]
 exact Rat.div_mul_cancel (by decide)
theorem rtF_pb (ts:List Int) (j:Nat):PB [-(rtX ts j),((1:Int):Rat)] 12 12:=PX.pb ⟨by decide,fun i=>by
 match i with
 | 0 =>
  obtain ⟨n,e,h⟩:=rtX_bi ts j
  refine ⟨-n,?_,by omega⟩
  rw [getQ_c0,Rat.neg_mul,e,Rat.intCast_neg]
 | 1=>exact ⟨12,by rw [getQ_cs,getQ_c0]; decide +kernel,by decide⟩
 | i + 2=>rw [getQ_cs,getQ_cs,getQ_nil,Rat.zero_mul]; exact Bi.zero _⟩
theorem rtE_pb {ts:List Int} {j:Nat} {p:List Rat} {e:Nat} (hl:p.length≤e + 1) (hp:PB p (12 ^ e) (3 * 24 ^ e)):∀ k,e + k≤9→(rtE (rtX ts j) p k).length≤e + k + 1∧PB (rtE (rtX ts j) p k) (12 ^ (e + k)) (3 * 24 ^ (e + k))
 | 0,_=>⟨hl,hp⟩
 | k + 1,hk=>by
  obtain ⟨h1,h2⟩:=rtE_pb (ts:=ts) (j:=j) hl hp k (by omega)
  simp only [rtE]
  refine ⟨?_,?_⟩
  ·have:=mulP_len1 h1 (show [-(rtX ts j),((1:Int):Rat)].length≤2 from Nat.le_refl 2)
   omega
  ·refine (h2.mulR (rtF_pb ts j) (show _≤2 from Nat.le_refl 2)).mono ?_ ?_
   ·rw [← Nat.add_assoc,Nat.pow_succ]; exact Nat.le_refl _
   ·rw [← Nat.add_assoc,Nat.pow_succ]; omega
theorem rt0_pb (ts:List Int):(rtP0 ts).length≤1∧PB (rtP0 ts) 1 3:=by
 have hb:=nxV_b (ts:=ts) (j:=0) (n:=3) (by decide)
 have h1:PX [(((1 + nxV ts 0 3:Int)):Rat)] 1 3:=⟨by decide,fun i=>by
  match i with
  | 0=>exact ⟨1 + nxV ts 0 3,by rw [getQ_c0]; exact Rat.mul_one _,by omega⟩
  | i + 1=>rw [getQ_cs,getQ_nil,Rat.zero_mul]; exact Bi.zero _⟩
 unfold rtP0
 split
 ·refine ⟨Nat.le_trans (cutQ_le _) (Nat.le_refl 1),PB.cut (PX.pb ⟨by decide,fun i=>?_⟩)⟩
  rw [getQ_mul]
  obtain ⟨n,e,h⟩:=h1.2 i
  refine ⟨-n,?_,by omega⟩
  rw [show (((-n:Int)):Rat) = -((n:Int):Rat) from Rat.intCast_neg n,← e,show (((-1:Int)):Rat) = -1 by decide +kernel]; grind
 ·exact ⟨Nat.le_refl 1,h1.pb⟩
theorem rt_pb (ts:List Int):∀ t,t≤3→(rtN ts t).2.1.length≤3 * t + 1∧PB (rtN ts t).2.1 (12 ^ (3 * t)) (3 * 24 ^ (3 * t))
 | 0,_=>rt0_pb ts
 | t + 1,ht=>by
  obtain ⟨h1,h2⟩:=rt_pb ts t (by omega)
  have hb:=nxV_b (ts:=ts) (j:=nxA ts (rtN ts t).1) (n:=3) (by decide)
  simp only [rtN,rtS]
  split
  ·exact ⟨by dsimp only; omega,h2.mono (Nat.pow_le_pow_right (by decide) (by omega)) (Nat.mul_le_mul_left _ (Nat.pow_le_pow_right (by decide) (by omega)))⟩
  ·obtain ⟨h3,h4⟩:=rtE_pb (ts:=ts) (j:=(rtN ts t).1) h1 h2 ((nxV ts (nxA ts (rtN ts t).1) 3).toNat + 1) (by omega)
   exact ⟨by dsimp only; omega,h4.mono (Nat.pow_le_pow_right (by decide) (by omega)) (Nat.mul_le_mul_left _ (Nat.pow_le_pow_right (by decide) (by omega)))⟩
theorem rtE_sz {ts:List Int} {t k:Nat} (ht:t < 3) (hk:k≤3) (j:Nat):Sz ((rtE (rtX ts (rtN ts t).1) (rtN ts t).2.1 k).getD j 0) 3:=by
 obtain ⟨h1,h2⟩:=rt_pb ts t (by omega)
 have h:=(rtE_pb (ts:=ts) (j:=(rtN ts t).1) h1 h2 k (by omega)).2
 refine (h.mono (C':=12 ^ 9) (B':=3 * 24 ^ 9) (Nat.pow_le_pow_right (by decide) (by omega)) (Nat.mul_le_mul_left _ (Nat.pow_le_pow_right (by decide) (by omega)))).sz (by decide +kernel) (by decide +kernel) j
theorem rtN_sz {ts:List Int} {t:Nat} (ht:t≤3) (j:Nat):Sz ((rtN ts t).2.1.getD j 0) 3:=by
 obtain ⟨h1,h2⟩:=rt_pb ts t ht
 exact (h2.mono (C':=12 ^ 9) (B':=3 * 24 ^ 9) (Nat.pow_le_pow_right (by decide) (by omega)) (Nat.mul_le_mul_left _ (Nat.pow_le_pow_right (by decide) (by omega)))).sz (by decide +kernel) (by decide +kernel) j
theorem rt_rl (ts:List Int):∀ t,(rtN ts t).2.2.length≤t
 | 0=>Nat.le_refl 0
 | t + 1=>by
  have:=rt_rl ts t
  simp only [rtN,rtS]
  split
  ·dsimp only; omega
  ·dsimp only; rw [List.length_append,List.length_singleton]; omega
theorem rt0_t {ts:List Int} (h:decide (nxV ts (nxA ts 0) 2=1)=true):(rtN ts 0).2.1=cutQ ([(((1 + nxV ts 0 3:Int)):Rat)].map fun q=>q * (((-1:Int):Rat))):=if_pos (of_decide_eq_true h)
theorem rt0_f {ts:List Int} (h:decide (nxV ts (nxA ts 0) 2=1)=false):(rtN ts 0).2.1 = [(((1 + nxV ts 0 3:Int)):Rat)]:=if_neg (of_decide_eq_false h)
theorem mem_take0 {x:Rat} {l:List Rat}:false=decide (x ∈ l.take 0):=by simp
theorem cmp_mem {x:Rat} {l:List Rat} {i:Nat} (hi:i < l.length):(decide (x ∈ l.take i) || decide (cmpQ x (l.getD i 0)=0))=decide (x ∈ l.take (i + 1)):=by
 have h1:(cmpQ x (l.getD i 0)=0) ↔ x=l.getD i 0:=⟨cmp0_eq,fun h=>by
  rw [h]; unfold cmpQ
  rw [if_neg Rat.lt_irrefl,if_neg Rat.lt_irrefl]⟩
 rw [take_succ_getD hi]
 generalize l.getD i 0=y at *
 by_cases h2:x ∈ l.take i
 ·simp [h2]
 ·by_cases h3:x=y
  ·rw [decide_eq_true (h1.2 h3)]; simp [h3]
  ·rw [decide_eq_false fun h=>h3 (h1.1 h)]; simp [h2,h3]
theorem rtS_t {ts:List Int} {t i:Nat} (hi:(rtN ts t).2.2.length≤i) (h:decide (rtX ts (rtN ts t).1 ∈ (rtN ts t).2.2.take i)=true):rtN ts (t + 1)=(nxA ts (rtN ts t).1,(rtN ts t).2.1,(rtN ts t).2.2):=by
 have h:=of_decide_eq_true h
 rw [List.take_of_length_le hi] at h
 exact if_pos h
theorem rtS_f {ts:List Int} {t i k:Nat} (hi:(rtN ts t).2.2.length≤i) (h:decide (rtX ts (rtN ts t).1 ∈ (rtN ts t).2.2.take i)=false) (hk:k=(nxV ts (nxA ts (rtN ts t).1) 3).toNat + 1):rtN ts (t + 1)=(nxA ts (nxA ts (rtN ts t).1),rtE (rtX ts (rtN ts t).1) (rtN ts t).2.1 k,(rtN ts t).2.2 ++ [rtX ts (rtN ts t).1]):=by
 have h:=of_decide_eq_false h
 rw [List.take_of_length_le hi] at h
 rw [hk]
 exact if_neg h
theorem rtP_t {ts:List Int} {t:Nat} (ht:t=rtM ts) (h:decide (nxV ts (rtN ts t).1 2=1)=true):rtP ts=mulP (rtN ts t).2.1 [Rat.divInt (1 + nxV ts (nxA ts (rtN ts t).1) 4) 16,((0:Int):Rat),((1:Int):Rat)]:=by subst ht; exact if_pos (of_decide_eq_true h)
theorem rtP_f {ts:List Int} {t:Nat} (ht:t=rtM ts) (h:decide (nxV ts (rtN ts t).1 2=1)=false):rtP ts=(rtN ts t).2.1:=by subst ht; exact if_neg (of_decide_eq_false h)
theorem rtM0 {ts:List Int}:nxV ts (nxA ts (nxA ts 0)) 4=((rtM ts:Nat):Int) - (((0:Nat)):Int):=by
 have:=nxV_b (ts:=ts) (j:=nxA ts (nxA ts 0)) (n:=4) (by decide)
 unfold rtM; omega
theorem rtG_pb (ts:List Int) (j:Nat):PB [Rat.divInt (1 + nxV ts j 4) 16,((0:Int):Rat),((1:Int):Rat)] 16 16:=PX.pb ⟨by decide,fun i=>by
 have hb:=nxV_b (ts:=ts) (j:=j) (n:=4) (by decide)
 match i with
 | 0 =>
  refine ⟨1 + nxV ts j 4,?_,by omega⟩
  rw [getQ_c0,Rat.divInt_eq_div]
  exact Rat.div_mul_cancel (by decide)
 | 1=>exact ⟨0,by rw [getQ_cs,getQ_c0]; decide +kernel,by decide⟩
 | 2=>exact ⟨16,by rw [getQ_cs,getQ_cs,getQ_c0]; decide +kernel,by decide⟩
 | i + 3=>rw [getQ_cs,getQ_cs,getQ_cs,getQ_nil,Rat.zero_mul]; exact Bi.zero _⟩
theorem rtP_pb (ts:List Int):(rtP ts).length≤12∧PB (rtP ts) (12 ^ 9 * 16) (3 * (3 * 24 ^ 9 * 16)):=by
 have hM:=rtM_le ts
 obtain ⟨h1,h2⟩:=rt_pb ts (rtM ts) hM
 have h3:=h2.mono (C':=12 ^ 9) (B':=3 * 24 ^ 9) (Nat.pow_le_pow_right (by decide) (by omega)) (Nat.mul_le_mul_left _ (Nat.pow_le_pow_right (by decide) (by omega)))
 unfold rtP
 split
 ·refine ⟨?_,h3.mulR (rtG_pb ts _) (Nat.le_refl 3)⟩
  have:=mulP_len1 h1 (show [Rat.divInt (1 + nxV ts (nxA ts (rtN ts (rtM ts)).1) 4) 16,((0:Int):Rat),((1:Int):Rat)].length≤3 from Nat.le_refl 3)
  omega
 ·exact ⟨by omega,h3.mono (by decide +kernel) (by decide +kernel)⟩
theorem rtP_sz {ts:List Int} (j:Nat):Sz ((rtP ts).getD j 0) 4:=(rtP_pb ts).2.sz (by decide +kernel) (by decide +kernel) j
theorem rtR_eq {ts:List Int} {t:Nat} (ht:t=rtM ts):rtR ts=(rtN ts t).2.2:=by subst ht; rfl
end Go.Proofs.YtcankknlbljicaaGreatDoor

namespace Go.Proofs.YtcankknlbljicaaGreatDoor
open Go.RowKit Num



theorem rtE_pv (x:Rat) (p:List Rat) (z:Rat):∀ k,pv (rtE x p k) z=pv p z * (z - x) ^ k
 | 0=>by simp only [rtE]; rw [Rat.pow_zero,Rat.mul_one]
 | k + 1=>by simp only [rtE]; rw [pv_mul,rtE_pv x p z k,pv_lin,Rat.pow_succ]; grind
theorem PB.congr {ps qs:List Rat} {C B:Nat} (h:PB ps C B) (e:∀ j,qs.getD j 0=ps.getD j 0):PB qs C B:=by
 obtain ⟨c,h1,h2⟩:=h; exact ⟨c,h1,h2.congr e⟩
theorem PB.mulQR {ps qs:List Rat} {C D A B L:Nat} (h1:PB ps C A) (h2:PB qs D B) (hL:qs.length≤L):PB (mulQ ps qs) (C * D) (L * (A * B)) :=
 (h1.mulR h2 hL).congr (pv_inj fun x=>by rw [pv_mulQ,pv_mul])
theorem rt_rx (ts:List Int):∀ t x,x ∈ (rtN ts t).2.2→∃ j,x=rtX ts j
 | 0,x,h=>by cases h
 | t + 1,x,h=>by
  simp only [rtN,rtS] at h
  split at h
  ·exact rt_rx ts t x h
  ·rcases List.mem_append.1 h with h | h
   ·exact rt_rx ts t x h
   ·exact ⟨_,by simpa using h⟩
theorem rtR_pb (ts:List Int) (i:Nat):PB [(rtR ts).getD i 0] 12 12:=by
 refine PB.sgl (by decide) ?_
 by_cases h:i < (rtR ts).length
 ·obtain ⟨j,e⟩:=rt_rx ts (rtM ts) ((rtR ts).getD i 0) (by
   rw [List.getD_eq_getElem?_getD,List.getElem?_eq_getElem h]; exact List.getElem_mem h)
  rw [e]; exact rtX_bi ts j
 ·rw [getQ_out (by omega),Rat.zero_mul]; exact Bi.zero _
theorem rt_sq0 (ts:List Int):∃ R H M N,SqJ (rtP0 ts) R H M N []∧PB R 1 3:=by
 have hb:=nxV_b (ts:=ts) (j:=0) (n:=3) (by decide)
 have hc:(((1 + nxV ts 0 3:Int)):Rat)≠0:=fun e=>by
  have:=Rat.intCast_eq_zero_iff.1 e
  omega
 have h1:PB [(((1 + nxV ts 0 3:Int)):Rat)] 1 3:=PX.pb ⟨by decide,fun i=>by
  match i with
  | 0=>exact ⟨1 + nxV ts 0 3,by rw [getQ_c0]; exact Rat.mul_one _,by omega⟩
  | i + 1=>rw [getQ_cs,getQ_nil,Rat.zero_mul]; exact Bi.zero _⟩
 unfold rtP0
 split
 ·have hc2 : -(((1 + nxV ts 0 3:Int)):Rat)≠0:=fun e=>hc (by grind)
  refine ⟨_,_,_,_,(SqJ.init hc2).congr fun x=>?_,?_⟩
  ·rw [pv_cut,pv_mulc,pv_c,pv_c,show (((-1:Int)):Rat) = -1 by decide +kernel]; grind
  ·obtain ⟨c,a1,a2,a3⟩:=h1
   refine ⟨c,a1,a2,fun i=>?_⟩
   obtain ⟨n,e,h⟩:=a3 i
   refine ⟨-n,?_,by omega⟩
   rw [show (((-n:Int)):Rat) = -((n:Int):Rat) from Rat.intCast_neg n,← e]
   cases i with
   | zero=>rw [getQ_c0,getQ_c0]; grind
   | succ i=>rw [getQ_cs,getQ_cs,getQ_nil]; grind
 ·exact ⟨_,_,_,_,SqJ.init hc,h1⟩
theorem rt_sq (ts:List Int):∀ t,t≤3→∃ R H M N,SqJ (rtN ts t).2.1 R H M N (rtN ts t).2.2∧PB R (12 ^ t) (3 * 24 ^ t)
 | 0,_=>rt_sq0 ts
 | t + 1,ht=>by
  obtain ⟨R,H,M,N,h,hp⟩:=rt_sq ts t (by omega)
  simp only [rtN,rtS]
  split
  ·exact ⟨R,H,M,N,h,hp.mono (Nat.pow_le_pow_right (by decide) (by omega)) (Nat.mul_le_mul_left _ (Nat.pow_le_pow_right (by decide) (by omega)))⟩
  ·rename_i hx
   obtain ⟨H',M',N',h2⟩:=h.step (p':=rtE (rtX ts (rtN ts t).1) (rtN ts t).2.1 ((nxV ts (nxA ts (rtN ts t).1) 3).toNat + 1)) (n:=(nxV ts (nxA ts (rtN ts t).1) 3).toNat + 1) hx (by omega) fun z=>rtE_pv _ _ z _
   refine ⟨_,H',M',N',h2,(hp.mulQR (rtF_pb ts _) (Nat.le_refl 2)).mono ?_ ?_⟩
   ·rw [Nat.pow_succ]; exact Nat.le_refl _
   ·rw [Nat.pow_succ]; omega
theorem rt_all (ts:List Int):∃ R H M N,SqF (rtP ts) R H M N (rtR ts)∧PB R 27648 1990656:=by
 have hM:=rtM_le ts
 obtain ⟨R,H,M,N,h,hp⟩:=rt_sq ts (rtM ts) hM
 have hp3:=hp.mono (C':=12 ^ 3) (B':=3 * 24 ^ 3) (Nat.pow_le_pow_right (by decide) hM) (Nat.mul_le_mul_left _ (Nat.pow_le_pow_right (by decide) hM))
 unfold rtP rtR
 split
 ·have hb:=nxV_b (ts:=ts) (j:=nxA ts (rtN ts (rtM ts)).1) (n:=4) (by decide)
  have he : 0 < Rat.divInt (1 + nxV ts (nxA ts (rtN ts (rtM ts)).1) 4) 16:=by
   generalize nxV ts (nxA ts (rtN ts (rtM ts)).1) 4=a at hb
   have hc:a=0 ∨ a=1 ∨ a=2 ∨ a=3:=by omega
   rcases hc with rfl | rfl | rfl | rfl <;> decide +kernel
  obtain ⟨M',N',h2⟩:=h.quad (p':=mulP (rtN ts (rtM ts)).2.1 [Rat.divInt (1 + nxV ts (nxA ts (rtN ts (rtM ts)).1) 4) 16,((0:Int):Rat),((1:Int):Rat)]) he fun x=>pv_mul _ _ x
  exact ⟨_,H,M',N',h2,(hp3.mulQR (rtG_pb ts _) (Nat.le_refl 3)).mono (by decide +kernel) (by decide +kernel)⟩
 ·exact ⟨R,H,M,N,h.fin,hp3.mono (by decide +kernel) (by decide +kernel)⟩
theorem rt_sqpb (ts:List Int):PB (sqP (rtP ts)) 1990656 1990656:=by
 obtain ⟨R,H,M,N,h,hp⟩:=rt_all ts
 rw [h.sq]
 exact hp.monic (by decide)
theorem rt_sqlen (ts:List Int):(sqP (rtP ts)).length≤6:=by
 obtain ⟨R,H,M,N,h,hp⟩:=rt_all ts
 have h1:=h.degs
 have h2:cutQ (sqP (rtP ts))=sqP (rtP ts):=by rw [h.sq]; exact (mon_mon R).1
 have h3:=cutQ_length (sqP (rtP ts))
 rw [h2] at h3
 have h4:=rt_rl ts (rtM ts)
 have hM:=rtM_le ts
 have h5:(rtR ts).length=(rtN ts (rtM ts)).2.2.length:=rfl
 omega
theorem sgn_0 {q:Rat} (h:q=0):decide (sgnQ q≠0)=false:=by rw [sgnQ_zero.2 h]; rfl
theorem sgn_n {q:Rat} (h:q≠0):decide (sgnQ q=0)=false:=decide_eq_false fun e=>h (sgnQ_zero.1 e)
theorem rt_mem {ts:List Int} {i:Nat} (h:i < (rtR ts).length):(rtR ts).getD i 0 ∈ rtR ts:=by
 rw [List.getD_eq_getElem?_getD,List.getElem?_eq_getElem h]; exact List.getElem_mem h
theorem rt_r0 {ts:List Int} {i:Nat} (h:i < (rtR ts).length):decide (sgnQ ((comP (sqP (rtP ts)) [(rtR ts).getD i 0]).getD 0 0)≠0)=false:=by
 obtain ⟨R,H,M,N,hq,_⟩:=rt_all ts
 exact sgn_0 (by rw [val_pv,(hq.root (rt_mem h)).1])
theorem rt_r1 {ts:List Int} {i:Nat} (h:i < (rtR ts).length):decide (sgnQ ((comP (cutQ (derQ (sqP (rtP ts)))) [(rtR ts).getD i 0]).getD 0 0)=0)=false:=by
 obtain ⟨R,H,M,N,hq,_⟩:=rt_all ts
 exact sgn_n (by rw [val_pv,pv_cut,pv_der]; exact (hq.root (rt_mem h)).2)
theorem rt_deg (ts:List Int):(decide (((cutn (sqP (rtP ts)):Nat):Int) - 1=(((rtR ts).length:Nat):Int)) || decide (((cutn (sqP (rtP ts)):Nat):Int) - 1=(((rtR ts).length:Nat):Int) + 2))=true:=by
 obtain ⟨R,H,M,N,hq,_⟩:=rt_all ts
 rw [Bool.or_eq_true,decide_eq_true_eq,decide_eq_true_eq]
 rcases hq.degs with h | h <;> omega
theorem rt_g1 (ts:List Int):decide ((((gcdP (sqP (rtP ts)) (cutQ (derQ (sqP (rtP ts))))).length:Nat):Int)≤1)=true:=by
 obtain ⟨R,H,M,N,hq,_⟩:=rt_all ts
 rw [hq.gcd1]; rfl
end Go.Proofs.YtcankknlbljicaaGreatDoor

namespace Go.Proofs.YtcankknlbljicaaGreatDoor
open Go.RowKit Num

set_option maxRecDepth 100000
set_option maxHeartbeats 2000000
theorem k_rooted {ts:List Int} {v0:Value} {w:World} {O:Bs} (hn:ts.length≤9223372036854775807) (hI:∀ i:Nat,-9223372036854775808≤ts.getD i 0∧ts.getD i 0≤9223372036854775807) (pf0:(mSl 0 (lI ts 0)).S O w v0) (ho:OB O w) :
    Calls Tryz.prog 60 #[v0] w (RetM (mT (mSl 3 (lC (rtP ts) (4))) (mSl 3 (lC (rtR ts) (2)))) O w):=by
 refine st_start 81 Tryz.func60 [(mSl 0 (lI ts 0))] ⟨pf0,trivial⟩ ho fun a S=>?_
 have hM:=rtM_le ts
 refine wp_seq ?_
 refine st_seq S 0 [] [(false,0)] trivial (L':=[(0,?_)]) ?_ fun a1 w2 S3=>?_
 rotate_left 1
 · rfl
 refine t_asgC S3 fun a5 S6=>?_
 refine t_asgC S6 fun a7 S8=>?_
 refine wpList_nil (then_normal ?_)
 refine wp_seq ?_
 refine st_seq S8 2 [?_,?_] [(true,1),(false,0),(false,1)] ⟨?_,?_,trivial⟩ (L':=[(14,?_),(3,?_),(2,?_)]) ?_ fun a9 w10 S11=>?_
 rotate_left 5
 · exact opP S8.r fun c=>⟨_,run_move rfl,(c.o 2 rfl)⟩
 · exact opP S8.r fun c=>bld_tp (c.h 0 rfl)
 · rfl
 refine t_box S11 0 rfl (fun h=>(mTp_cv h)) fun O a13 w14 g15 S16=>?_
 refine t_asg S16 0 fun a17 S18=>?_
 refine wpList_nil (then_normal ?_)
 refine wp_seq ?_
 refine st_seq S18 1 [?_] [(true,0),(false,0),(false,3),(false,4)] ⟨?_,trivial⟩ (L':=[(16,?_),(4,?_),(3,?_),(2,?_)]) ?_ fun a19 w20 S21=>?_
 rotate_left 5
 · exact opV S18.r fun c=>run_v (run_move rfl) (c.q 0 rfl)
 · rfl
 refine t_callX S21 0 rfl (args_2 (S21.e 0 rfl) rfl) rfl (fun x hb=>k_next hn hI (by decide) (by decide) (Nat.zero_le _) hb) fun a23 w24 S26=>?_
 have hv25:=nxV_b (ts:=ts) (j:=0) (n:=3) (by decide)
 refine t_val S26 (run_add rfl rfl (S26.e 0 rfl) (by omega) (by omega)) fun a27 S28=>?_
 refine t_call S28 rfl (args_1 (S28.e 0 rfl)) ((r_of ((1) + (nxV ts 0 3)) (by omega) (by omega))) fun a29 w31 S30=>?_
 refine t_nw S30 (lit1C S30.ob (S30.sl 0 rfl)) fun a32 w34 S33=>?_
 refine t_asg S33 0 fun a35 S36=>?_
 refine wpList_nil (then_normal ?_)
 refine wp_seq ?_
 refine wp_seq ?_
 refine st_seq S36 1 [?_] [(true,0),(false,0),(false,6),(false,7),(false,8)] ⟨?_,trivial⟩ (L':=[(21,?_),(5,?_),(4,?_),(3,?_),(2,?_)]) ?_ fun a37 w38 S39=>?_
 rotate_left 6
 · exact opV S36.r fun c=>run_v (run_move rfl) (c.q 6 rfl)
 · rfl
 refine t_callX S39 0 rfl (args_2 (S39.e 0 rfl) rfl) rfl (fun x hb=>k_next hn hI (by decide) (by decide) (nxA_le (Nat.zero_le _)) hb) fun a41 w42 S44=>?_
 have hv43:=nxV_b (ts:=ts) (j:=nxA ts 0) (n:=2) (by decide)
 refine t_val S44 (run_eql rfl (S44.e 0 rfl) rfl) fun a45 S46=>?_
 refine wpList_nil (then_normal ?_)
 refine cond_b _ (ev (S46.sl 0 rfl)) (fun hb47=>?_) (fun hb47=>?_)
 ·have hb47p:=of_decide_eq_true hb47
  refine st_seq S46 3 [?_,?_,?_] [(true,2),(false,3),(false,4),(false,5),(false,6)] ⟨?_,?_,?_,trivial⟩ (L':=[(26,?_),(5,?_),(4,?_),(3,?_),(2,?_)]) ?_ fun a48 w49 S50=>?_
  rotate_left 8
  · exact opP S46.r fun c=>⟨_,run_move rfl,(c.o 3 rfl)⟩
  · exact opC S46.r rfl fun c B=>⟨_,args_1 rfl,(r_of (-1) (by omega) (by omega))⟩
  · exact opC S46.r rfl fun c B=>⟨_,args_2 rfl rfl,(r5_scale (by first | omega | exact Nat.le_of_ble_eq_true rfl) (by omega) (by omega) (slC_r (c.h 0 rfl)) (isC.r (c.h 1 rfl)) (S46.obc c.wb))⟩
  · rfl
  refine t_asg S50 0 fun a52 S53=>?_
  refine wpList_nil (then_normal ?_)
  refine wp_seq ?_
  refine st_seq S53 0 [] [(false,0),(false,2),(false,3),(false,4)] trivial (L':=[(5,?_),(4,?_),(3,?_),(2,?_)]) ?_ fun a54 w55 S56=>?_
  rotate_left 4
  · rfl
  refine t_asgC S56 fun a58 S59=>?_
  have S60:=S59.nil 26 3
  refine wpList_nil (then_normal ?_)
  refine wp_seq ?_
  refine wp_seq ?_
  refine st_seq S60 1 [?_] [(true,0),(false,0),(false,1),(false,2),(false,3),(false,4)] ⟨?_,trivial⟩ (L':=[(27,?_),(6,?_),(5,?_),(4,?_),(3,?_),(2,?_)]) ?_ fun a61 w62 S63=>?_
  rotate_left 7
  · exact opV S60.r fun c=>run_v (run_move rfl) (c.q 2 rfl)
  · rfl
  refine t_callX S63 1 rfl (args_2 (S63.e 0 rfl) rfl) rfl (fun x hb=>k_next hn hI (by decide) (by decide) (nxA_le (nxA_le (Nat.zero_le _))) hb) fun a65 w66 S68=>?_
  have hv67:=nxV_b (ts:=ts) (j:=nxA ts (nxA ts 0)) (n:=4) (by decide)
  refine t_asg S68 0 fun a69 S70=>?_
  refine wpList_nil (then_normal ?_)
  refine wp_block ?_
  refine st_loop (τ:=Nat × Value) (fun ⟨t,v⟩=>[(7,(mV (.int .i64 (((rtM ts:Nat):Int) - ((t:Nat):Int))))),(6,(mV (v))),(5,(mSl 3 (lC ((rtN ts t).2.1) (3)))),(4,(mV (.pointer (some ⟨g15,0,none⟩)))),(3,(mV (.slice none 0 0))),(2,(mV (.slice none 0 0)))]) (fun ⟨t,v⟩=>[.own v 26 3 (lC ((rtN ts t).2.2) (2)),.box g15 110 2 (mTp ts ((rtN ts t).1))]) (fun ⟨t,v⟩=>t≤rtM ts) (fun ⟨t,v⟩=>rtM ts - t) (0,.slice none 0 0) (Nat.zero_le _) (S70.toX ⟨(S70.sl 0 rfl).trans (congrArg (Value.int .i64) rtM0),S70.sl 3 rfl,(slC_re (rtN_sz (Nat.zero_le _)) (by rw [rt0_t hb47]; exact S70.sl 4 rfl)),S70.sl 5 rfl,S70.sl 6 rfl,S70.sl 7 rfl,trivial⟩ ⟨S70.f 0 rfl,S70.f 1 rfl,trivial⟩) ?_
  rintro ⟨t,v⟩ O a73 w74 hp75 S76
  try dsimp only at hp75 S76
  have hjt:=rt_le ts t
  have hrl:=rt_rl ts t
  have hpl:=fun h3:t≤3=>(rt_pb ts t h3).1
  refine wp_seq ?_
  refine wp_seq ?_
  refine st_seq S76 2 [?_,?_] [(true,1),(false,0),(false,1),(false,2),(false,3),(false,4),(false,5)] ⟨?_,?_,trivial⟩ (L':=[(30,?_),(7,?_),(6,?_),(5,?_),(4,?_),(3,?_),(2,?_)]) ?_ fun a77 w78 S79=>?_
  rotate_left 9
  · exact opV S76.r fun c=>run_v (run_move rfl) (c.q 0 rfl)
  · exact opV S76.r fun c=>run_gtr rfl (c.e 0 rfl) rfl
  · rfl
  refine wpList_nil (then_normal ?_)
  refine cond_b _ (ev (S79.sl 0 rfl)) (fun hb81=>?_) (fun hb81=>?_)
  ·have hb81p:=of_decide_eq_true hb81
   refine wp_skip (then_normal ?_)
   refine wp_seq ?_
   refine wp_block ?_
   refine wp_seq ?_
   refine st_seq S79 1 [?_] [(true,0),(false,1),(false,2),(false,3),(false,4),(false,5),(false,6)] ⟨?_,trivial⟩ (L':=[(33,?_),(7,?_),(6,?_),(5,?_),(4,?_),(3,?_),(2,?_)]) ?_ fun a82 w83 S84=>?_
   rotate_left 8
   · exact opV S79.r fun c=>run_v (run_move rfl) (c.q 4 rfl)
   · rfl
   refine t_callX S84 1 rfl (args_2 (S84.e 0 rfl) rfl) rfl (fun x hb=>k_next hn hI (by decide) (by decide) hjt hb) fun a86 w87 S89=>?_
   have hv88:=nxV_b (ts:=ts) (j:=(rtN ts t).1) (n:=25) (by decide)
   refine t_call S89 rfl (args_1 (S89.e 0 rfl)) ((k_cos (nxV ts ((rtN ts t).1) 25) (by omega) (by omega) S89.ob)) fun a90 w92 S91=>?_
   refine t_alloc S91 zero_Rat (fun _ _ _=>bx_Rat) fun O a93 w94 g95 S96=>?_
   refine t_sto S96 0 1 0 rfl isC.cv (fun w97 S98=>?_) info_Rat
   refine wpList_nil (then_normal ?_)
   refine wp_seq ?_
   refine st_seq S98 0 [] [(false,0),(false,4),(false,5),(false,6),(false,7),(false,8),(false,9)] trivial (L':=[(8,?_),(7,?_),(6,?_),(5,?_),(4,?_),(3,?_),(2,?_)]) ?_ fun a99 w100 S101=>?_
   rotate_left 7
   · rfl
   refine t_asgC S101 fun a103 S104=>?_
   refine wpList_nil (then_normal ?_)
   refine wp_seq ?_
   refine wp_seq ?_
   refine st_seq S104 3 [?_,?_,?_] [(true,0),(true,1),(true,2),(false,0),(false,1),(false,2),(false,3),(false,4),(false,5),(false,6),(false,7)] ⟨?_,?_,?_,trivial⟩ (L':=[(36,?_),(37,?_),(38,?_),(9,?_),(8,?_),(7,?_),(6,?_),(5,?_),(4,?_),(3,?_),(2,?_)]) ?_ fun a105 w106 S107=>?_
   rotate_left 14
   · exact opV S104.r fun c=>run_v (run_move rfl) (c.q 3 rfl)
   · exact opV S104.r fun c=>len_own (((rtN ts t).2.2).length) Tryz.underlying36 (c.own 1 rfl) (c.e 0 rfl) (lC_len _ _)
   · exact opV S104.r fun c=>run_moveC rfl
   · rfl
   refine wpList_nil (then_normal ?_)
   refine wp_block ?_
   refine st_loop (τ:=Nat) (fun i=>[(36,(mV (v))),(37,(mV (.int .i64 ((((rtN ts t).2.2).length:Nat):Int)))),(38,(mV (.int .i64 ((i:Nat):Int)))),(9,(mV (.bool (decide (rtX ts (rtN ts t).1 ∈ List.take i (rtN ts t).2.2))))),(8,(mV (.pointer (some ⟨g95,0,none⟩)))),(7,(mV (.int .i64 (((rtM ts:Nat):Int) - ((t:Nat):Int))))),(6,(mV (v))),(5,(mSl 3 (lC ((rtN ts t).2.1) (3)))),(4,(mV (.pointer (some ⟨g15,0,none⟩)))),(3,(mV (.slice none 0 0))),(2,(mV (.slice none 0 0)))]) (fun i=>[.box g95 26 3 (mC (rtX ts (rtN ts t).1) (2)),.own v 26 3 (lC ((rtN ts t).2.2) (2)),.box g15 110 2 (mTp ts (nxA ts ((rtN ts t).1)))]) (fun i=>i≤(rtN ts t).2.2.length) (fun i=>(rtN ts t).2.2.length - i) 0 (Nat.zero_le _) (S107.toX ⟨S107.sl 0 rfl,S107.sl 1 rfl,S107.sl 2 rfl,((S107.sl 3 rfl).trans (congrArg Value.bool mem_take0)),S107.sl 4 rfl,S107.sl 5 rfl,S107.sl 6 rfl,S107.sl 7 rfl,S107.sl 8 rfl,S107.sl 9 rfl,S107.sl 10 rfl,trivial⟩ ⟨S107.f 0 rfl,S107.f 1 rfl,S107.f 2 rfl,trivial⟩) ?_
   rintro i O a111 w112 hp113 S114
   try dsimp only at hp113 S114
   refine wp_seq ?_
   refine st_seq S114 1 [?_] [(true,0),(false,0),(false,1),(false,2),(false,3),(false,4),(false,5),(false,6),(false,7),(false,8),(false,9),(false,10)] ⟨?_,trivial⟩ (L':=[(39,?_),(36,?_),(37,?_),(38,?_),(9,?_),(8,?_),(7,?_),(6,?_),(5,?_),(4,?_),(3,?_),(2,?_)]) ?_ fun a115 w116 S117=>?_
   rotate_left 13
   · exact opV S114.r fun c=>run_lss rfl (c.q 2 rfl) (c.q 1 rfl)
   · rfl
   refine wpList_nil (then_normal ?_)
   refine wp_seq ?_
   refine cond_b _ (ev (S117.sl 0 rfl)) (fun hb119=>?_) (fun hb119=>?_)
   ·have hb119p:=of_decide_eq_true hb119
    refine wp_skip (then_normal ?_)
    refine wp_seq ?_
    refine wp_block ?_
    refine wp_seq ?_
    refine st_seq S117 2 [?_,?_] [(true,1),(false,1),(false,2),(false,3),(false,4),(false,5),(false,6),(false,7),(false,8),(false,9),(false,10),(false,11)] ⟨?_,?_,trivial⟩ (L':=[(41,?_),(36,?_),(37,?_),(38,?_),(9,?_),(8,?_),(7,?_),(6,?_),(5,?_),(4,?_),(3,?_),(2,?_)]) ?_ fun a120 w121 S122=>?_
    rotate_left 14
    · exact opV S117.r fun c=>ix_own Tryz.underlying36 infoRz (c.own 1 rfl) (c.q 1 rfl) (c.q 3 rfl) (i:=i) (by omega) (by rw [lC_len]; omega)
    · exact opP S117.r fun c=>ld_own (c.own 1 rfl) (c.e 0 rfl) (lC_get (by omega)) Tryz.underlying26 info_Rat
    · rfl
    refine t_alloc S122 zero_Rat (fun _ _ _=>bx_Rat) fun O a124 w125 g126 S127=>?_
    refine t_sto S127 0 1 0 rfl isC.cv (fun w128 S129=>?_) info_Rat
    refine wpList_nil (then_normal ?_)
    refine st_seq S129 7 [?_,?_,?_,?_,?_,?_,?_] [(true,6),(false,2),(false,3),(false,4),(false,5),(false,6),(false,7),(false,8),(false,9),(false,10),(false,11),(false,12)] ⟨?_,?_,?_,?_,?_,?_,?_,trivial⟩ (L':=[(48,?_),(36,?_),(37,?_),(38,?_),(9,?_),(8,?_),(7,?_),(6,?_),(5,?_),(4,?_),(3,?_),(2,?_)]) ?_ fun a130 w131 S132=>?_
    rotate_left 19
    · exact opV S129.r fun c=>run_v (run_move rfl) (c.q 5 rfl)
    · exact opV S129.r fun c=>run_v (run_move rfl) (c.e 0 rfl)
    · exact opG S129.r 0 (fun hγ=>opL S129.r 1 Tryz.underlying26 info_Rat fun c=>(c.q 6 rfl)) gF
    · exact opG S129.r 0 (fun hγ=>opL S129.r 0 Tryz.underlying26 info_Rat fun c=>(c.q 0 rfl)) gF
    · exact opG S129.r 2 (fun hγ=>opC S129.r rfl fun c B=>⟨_,args_2 rfl rfl,(r_cmp (by have:=of_decide_eq_false (Bool.not_eq_true' _ |>.mp hγ); omega) (by have:=of_decide_eq_false (Bool.not_eq_true' _ |>.mp hγ); omega) (isC.r (c.h 0 rfl hγ)) (isC.r (c.h 1 rfl hγ)))⟩) gF
    · exact opG S129.r 1 (fun hγ=>opV S129.r fun c=>run_eql rfl (ev (c.h 0 rfl hγ)) rfl) gF
    · exact opE S129.r fun c=>run_be (y:=decide (rtX ts (rtN ts t).1 ∈ List.take (i + 1) (rtN ts t).2.2)) (⟨_,run_pick rfl (c.e 0 rfl),pick_or fun h=>(c.h 1 rfl) (by rw [h]; rfl)⟩) (cmp_mem (by omega))
    · rfl
    refine t_asg S132 0 fun a134 S135=>?_
    refine wpList_nil (in_normal (then_normal ?_))
    refine st_seq S135 1 [?_] [(true,0),(false,0),(false,2),(false,3),(false,4),(false,5),(false,6),(false,7),(false,8),(false,9),(false,10),(false,11)] ⟨?_,trivial⟩ (L':=[(49,?_),(9,?_),(36,?_),(37,?_),(38,?_),(8,?_),(7,?_),(6,?_),(5,?_),(4,?_),(3,?_),(2,?_)]) ?_ fun a136 w137 S138=>?_
    rotate_left 13
    · exact opV S135.r fun c=>run_add rfl (c.q 4 rfl) rfl (by omega) (by omega)
    · rfl
    refine t_val S138 (run_v (run_move rfl) (S138.e 0 rfl)) fun a140 S141=>?_
    refine wpList_nil (then_normal ?_)
    exact ⟨i + 1,(by first | omega | (dsimp only; omega)),(by first | omega | (dsimp only; omega)),_,(S141.dropN 1).toX ⟨S141.sl 3 rfl,S141.sl 4 rfl,(S141.sl 0 rfl).trans (by first | rfl | exact congrArg _ (by omega)),(S141.sl 2 rfl).trans (by first | rfl | exact congrArg _ (by omega)),S141.sl 5 rfl,S141.sl 6 rfl,S141.sl 7 rfl,S141.sl 8 rfl,S141.sl 9 rfl,S141.sl 10 rfl,S141.sl 11 rfl,trivial⟩ ⟨S141.f 1 rfl,S141.f 2 rfl,S141.f 3 rfl,trivial⟩⟩
   ·have hb119p:=of_decide_eq_false hb119
    refine wp_exit ?_
    repeat (first | refine exit_in ?_ | refine exit_then ?_ | refine exit_out (by decide) ?_)
    refine (then_normal ?_)
    refine wp_seq ?_
    refine wp_seq ?_
    refine st_seq S117 1 [?_] [(true,0),(false,5),(false,6),(false,7),(false,8),(false,9),(false,10),(false,11)] ⟨?_,trivial⟩ (L':=[(50,?_),(8,?_),(7,?_),(6,?_),(5,?_),(4,?_),(3,?_),(2,?_)]) ?_ fun a142 w143 S144=>?_
    rotate_left 9
    · exact opV S117.r fun c=>run_v (run_move rfl) (c.q 4 rfl)
    · rfl
    refine wpList_nil (then_normal ?_)
    refine cond_b _ (ev (S144.sl 0 rfl)) (fun hb146=>?_) (fun hb146=>?_)
    ·have hb146p:=of_decide_eq_true hb146
     refine wp_exit ?_
     repeat (first | refine exit_in ?_ | refine exit_then ?_ | refine exit_out (by decide) ?_)
     refine (then_normal ?_)
     refine st_seq S144 2 [?_,?_] [(true,1),(false,2),(false,3),(false,4),(false,5),(false,6),(false,7)] ⟨?_,?_,trivial⟩ (L':=[(32,?_),(7,?_),(6,?_),(5,?_),(4,?_),(3,?_),(2,?_)]) ?_ fun a147 w148 S149=>?_
     rotate_left 9
     · exact opV S144.r fun c=>run_v (run_move rfl) (c.q 2 rfl)
     · exact opV S144.r fun c=>run_sub rfl (c.e 0 rfl) rfl (by omega) (by omega)
     · rfl
     refine t_asg S149 0 fun a151 S152=>?_
     refine wpList_nil (then_normal ?_)
     exact ⟨(t + 1,v),(by first | omega | (dsimp only; omega)),(by first | omega | (dsimp only; omega)),_,(S152.dropN 1).toX ⟨(S152.sl 0 rfl).trans (by first | rfl | exact congrArg _ (by omega)),(S152.sl 2 rfl).trans (by first | rfl | exact congrArg _ (by omega)),(slC_re (rtN_sz (by omega)) (by rw [rtS_t (by omega) hb146]; exact S152.sl 3 rfl)),S152.sl 4 rfl,S152.sl 5 rfl,S152.sl 6 rfl,trivial⟩ ⟨(by rw [rtS_t (by omega) hb146]; exact S152.f 1 rfl),(by rw [rtS_t (by omega) hb146]; exact S152.f 2 rfl),trivial⟩⟩
    ·have hb146p:=of_decide_eq_false hb146
     refine wp_skip (then_normal ?_)
     refine wp_seq ?_
     refine st_seq S144 3 [?_,?_,?_] [(true,0),(true,2),(false,1),(false,2),(false,3),(false,4),(false,5),(false,6),(false,7)] ⟨?_,?_,?_,trivial⟩ (L':=[(51,?_),(53,?_),(8,?_),(7,?_),(6,?_),(5,?_),(4,?_),(3,?_),(2,?_)]) ?_ fun a153 w154 S155=>?_
     rotate_left 12
     · exact opV S144.r fun c=>run_v (run_move rfl) (c.q 3 rfl)
     · exact opL S144.r 0 Tryz.underlying26 info_Rat fun c=>(c.q 1 rfl)
     · exact opN S144.r fun c=>lit1CL (S144.obc c.wb) (c.h 0 rfl)
     · rfl
     refine t_appQL S155 0 1 rfl rfl (slC_mono ((S155.sl 1 rfl)) (by omega)) (by simp; omega) fun O a157 w158 v159 S160=>?_
     refine t_asg S160 0 fun a161 S162=>?_
     refine wpList_nil (then_normal ?_)
     refine wp_seq ?_
     refine st_seq S162 1 [?_] [(true,0),(false,0),(false,4),(false,5),(false,6),(false,7),(false,8),(false,9)] ⟨?_,trivial⟩ (L':=[(55,?_),(6,?_),(8,?_),(7,?_),(5,?_),(4,?_),(3,?_),(2,?_)]) ?_ fun a163 w164 S165=>?_
     rotate_left 9
     · exact opV S162.r fun c=>run_v (run_move rfl) (c.q 7 rfl)
     · rfl
     refine t_callX S165 2 rfl (args_2 (S165.e 0 rfl) rfl) rfl (fun x hb=>k_next hn hI (by decide) (by decide) (nxA_le hjt) hb) fun a167 w168 S170=>?_
     have hv169:=nxV_b (ts:=ts) (j:=nxA ts ((rtN ts t).1)) (n:=3) (by decide)
     refine t_asg S170 0 fun a171 S172=>?_
     refine wpList_nil (then_normal ?_)
     refine wp_block ?_
     refine st_loop (τ:=Nat) (fun k=>[(12,(mV (.int .i64 (nxV ts (nxA ts (rtN ts t).1) 3 - ((k:Nat):Int))))),(6,(mV (v159))),(8,(mV (.pointer (some ⟨g95,0,none⟩)))),(7,(mV (.int .i64 (((rtM ts:Nat):Int) - ((t:Nat):Int))))),(5,(mSl 3 (lC (rtE (rtX ts (rtN ts t).1) (rtN ts t).2.1 k) (3)))),(4,(mV (.pointer (some ⟨g15,0,none⟩)))),(3,(mV (.slice none 0 0))),(2,(mV (.slice none 0 0)))]) (fun k=>[.box g95 26 3 (mC (rtX ts (rtN ts t).1) (2)),.own v159 26 3 (lC (((rtN ts t).2.2) ++ [rtX ts (rtN ts t).1]) (2)),.box g15 110 2 (mTp ts (nxA ts (nxA ts ((rtN ts t).1))))]) (fun k=>k≤(nxV ts (nxA ts (rtN ts t).1) 3).toNat + 1) (fun k=>(nxV ts (nxA ts (rtN ts t).1) 3).toNat + 1 - k) 0 (Nat.zero_le _) (S172.toX ⟨((S172.sl 0 rfl).trans (congrArg (Value.int .i64) (by omega))),S172.sl 3 rfl,S172.sl 4 rfl,S172.sl 5 rfl,S172.sl 6 rfl,S172.sl 7 rfl,S172.sl 8 rfl,S172.sl 9 rfl,trivial⟩ ⟨S172.f 0 rfl,S172.f 1 rfl,S172.f 2 rfl,trivial⟩) ?_
     rintro k O a175 w176 hp177 S178
     try dsimp only at hp177 S178
     have hel:=(rtE_pb (ts:=ts) (j:=(rtN ts t).1) (rt_pb ts t (by omega)).1 (rt_pb ts t (by omega)).2 k (by omega)).1
     refine wp_seq ?_
     refine wp_seq ?_
     refine st_seq S178 2 [?_,?_] [(true,1),(false,0),(false,1),(false,2),(false,3),(false,4),(false,5),(false,6),(false,7)] ⟨?_,?_,trivial⟩ (L':=[(58,?_),(12,?_),(6,?_),(8,?_),(7,?_),(5,?_),(4,?_),(3,?_),(2,?_)]) ?_ fun a179 w180 S181=>?_
     rotate_left 11
     · exact opV S178.r fun c=>run_v (run_move rfl) (c.q 0 rfl)
     · exact opV S178.r fun c=>run_geq rfl (c.e 0 rfl) rfl
     · rfl
     refine wpList_nil (then_normal ?_)
     refine cond_b _ (ev (S181.sl 0 rfl)) (fun hb183=>?_) (fun hb183=>?_)
     ·have hb183p:=of_decide_eq_true hb183
      refine wp_skip (then_normal ?_)
      refine wp_seq ?_
      refine wp_block ?_
      refine st_seq S181 6 [?_,?_,?_,?_,?_,?_] [(true,5),(false,1),(false,2),(false,3),(false,4),(false,5),(false,6),(false,7),(false,8)] ⟨?_,?_,?_,?_,?_,?_,trivial⟩ (L':=[(66,?_),(12,?_),(6,?_),(8,?_),(7,?_),(5,?_),(4,?_),(3,?_),(2,?_)]) ?_ fun a184 w185 S186=>?_
      rotate_left 15
      · exact opP S181.r fun c=>⟨_,run_move rfl,(c.o 5 rfl)⟩
      · exact opL S181.r 0 Tryz.underlying26 info_Rat fun c=>(c.q 3 rfl)
      · exact opC S181.r rfl fun c B=>⟨_,args_1 rfl,(r_neg (by omega) (isC.r (c.h 0 rfl)))⟩
      · exact opC S181.r rfl fun c B=>⟨_,args_1 rfl,(r_of (1) (by omega) (by omega))⟩
      · exact opN S181.r fun c=>lit2C (k:=3) (S181.obc c.wb) (isC.mono (c.h 0 rfl) (by decide)) (isC.mono (c.h 1 rfl) (by decide))
      · exact opC S181.r rfl fun c B=>⟨_,args_2 rfl rfl,(r5_mul (L:=10) (K:=92) (by omega) (by omega) (by first | omega | exact Nat.le_of_ble_eq_true rfl) (by omega) (by omega) (by omega) (by omega) (slC_r (c.h 0 rfl)) (slC_r (c.h 1 rfl)) (S181.obc c.wb))⟩
      · rfl
      refine t_asg S186 0 fun a188 S189=>?_
      refine wpList_nil (in_normal (then_normal ?_))
      refine st_seq S189 2 [?_,?_] [(true,1),(false,0),(false,2),(false,3),(false,4),(false,5),(false,6),(false,7),(false,8)] ⟨?_,?_,trivial⟩ (L':=[(60,?_),(5,?_),(12,?_),(6,?_),(8,?_),(7,?_),(4,?_),(3,?_),(2,?_)]) ?_ fun a190 w191 S192=>?_
      rotate_left 11
      · exact opV S189.r fun c=>run_v (run_move rfl) (c.q 2 rfl)
      · exact opV S189.r fun c=>run_sub rfl (c.e 0 rfl) rfl (by omega) (by omega)
      · rfl
      refine t_asg S192 0 fun a194 S195=>?_
      refine wpList_nil (then_normal ?_)
      exact ⟨k + 1,(by first | omega | (dsimp only; omega)),(by first | omega | (dsimp only; omega)),_,S195.toX ⟨(S195.sl 0 rfl).trans (by first | rfl | exact congrArg _ (by omega)),S195.sl 3 rfl,S195.sl 4 rfl,S195.sl 5 rfl,(slC_re (rtE_sz (by omega) (by omega)) (by exact S195.sl 2 rfl)),S195.sl 6 rfl,S195.sl 7 rfl,S195.sl 8 rfl,trivial⟩ ⟨S195.f 0 rfl,S195.f 1 rfl,S195.f 2 rfl,trivial⟩⟩
     ·have hb183p:=of_decide_eq_false hb183
      refine wp_exit ?_
      repeat (first | refine exit_in ?_ | refine exit_then ?_ | refine exit_out (by decide) ?_)
      refine (in_normal (then_normal ?_))
      refine st_seq S181 2 [?_,?_] [(true,1),(false,2),(false,4),(false,5),(false,6),(false,7),(false,8)] ⟨?_,?_,trivial⟩ (L':=[(32,?_),(6,?_),(7,?_),(5,?_),(4,?_),(3,?_),(2,?_)]) ?_ fun a196 w197 S198=>?_
      rotate_left 9
      · exact opV S181.r fun c=>run_v (run_move rfl) (c.q 4 rfl)
      · exact opV S181.r fun c=>run_sub rfl (c.e 0 rfl) rfl (by omega) (by omega)
      · rfl
      refine t_asg S198 0 fun a200 S201=>?_
      refine wpList_nil (then_normal ?_)
      exact ⟨(t + 1,v159),(by first | omega | (dsimp only; omega)),(by first | omega | (dsimp only; omega)),_,(S201.dropN 1).toX ⟨(S201.sl 0 rfl).trans (by first | rfl | exact congrArg _ (by omega)),(S201.sl 2 rfl).trans (by first | rfl | exact congrArg _ (by omega)),(slC_re (rtN_sz (by omega)) (by rw [rtS_f (k:=k) (by omega) hb146 (by omega)]; exact S201.sl 3 rfl)),S201.sl 4 rfl,S201.sl 5 rfl,S201.sl 6 rfl,trivial⟩ ⟨(by rw [rtS_f (k:=k) (by omega) hb146 (by omega)]; exact S201.f 1 rfl),(by rw [rtS_f (k:=k) (by omega) hb146 (by omega)]; exact S201.f 2 rfl),trivial⟩⟩
  ·have hb81p:=of_decide_eq_false hb81
   refine wp_exit ?_
   repeat (first | refine exit_in ?_ | refine exit_then ?_ | refine exit_out (by decide) ?_)
   refine (then_normal ?_)
   refine wp_seq ?_
   refine wp_seq ?_
   refine st_seq S79 1 [?_] [(true,0),(false,2),(false,3),(false,4),(false,5),(false,6)] ⟨?_,trivial⟩ (L':=[(67,?_),(6,?_),(5,?_),(4,?_),(3,?_),(2,?_)]) ?_ fun a202 w203 S204=>?_
   rotate_left 7
   · exact opV S79.r fun c=>run_v (run_move rfl) (c.q 4 rfl)
   · rfl
   refine t_callX S204 1 rfl (args_2 (S204.e 0 rfl) rfl) rfl (fun x hb=>k_next hn hI (by decide) (by decide) hjt hb) fun a206 w207 S209=>?_
   have hv208:=nxV_b (ts:=ts) (j:=(rtN ts t).1) (n:=2) (by decide)
   refine t_val S209 (run_eql rfl (S209.e 0 rfl) rfl) fun a210 S211=>?_
   refine wpList_nil (then_normal ?_)
   refine cond_b _ (ev (S211.sl 0 rfl)) (fun hb212=>?_) (fun hb212=>?_)
   ·have hb212p:=of_decide_eq_true hb212
    refine st_seq S211 2 [?_,?_] [(true,0),(true,1),(false,3),(false,4),(false,6),(false,7)] ⟨?_,?_,trivial⟩ (L':=[(70,?_),(71,?_),(6,?_),(5,?_),(3,?_),(2,?_)]) ?_ fun a213 w214 S215=>?_
    rotate_left 8
    · exact opP S211.r fun c=>⟨_,run_move rfl,(c.o 4 rfl)⟩
    · exact opV S211.r fun c=>run_v (run_move rfl) (c.q 5 rfl)
    · rfl
    refine t_callX S215 1 rfl (args_2 (S215.e 1 rfl) rfl) rfl (fun x hb=>k_next hn hI (by decide) (by decide) (nxA_le hjt) hb) fun a217 w218 S220=>?_
    have hv219:=nxV_b (ts:=ts) (j:=nxA ts ((rtN ts t).1)) (n:=4) (by decide)
    refine t_val S220 (run_add rfl rfl (S220.e 0 rfl) (by omega) (by omega)) fun a221 S222=>?_
    refine t_call S222 rfl (args_2 (S222.e 0 rfl) rfl) ((r_frac ((1) + (nxV ts (nxA ts ((rtN ts t).1)) 4)) (16) (by omega) (by omega) (by omega) (by omega))) fun a223 w225 S224=>?_
    refine t_call S224 rfl (args_1 rfl) ((r_of (0) (by omega) (by omega))) fun a226 w228 S227=>?_
    refine t_call S227 rfl (args_1 rfl) ((r_of (1) (by omega) (by omega))) fun a229 w231 S230=>?_
    refine t_nw S230 (lit3C S230.ob (S230.sl 2 rfl) (S230.sl 1 rfl) (S230.sl 0 rfl)) fun a232 w234 S233=>?_
    refine t_call S233 rfl (args_2 rfl rfl) ((r5_mul (L:=10) (K:=82) (by omega) (by omega) (by first | omega | exact Nat.le_of_ble_eq_true rfl) (by omega) (by omega) (by omega) (by omega) (slC_r (S233.sl 6 rfl)) (slC_r (S233.sl 0 rfl)) S233.ob)) fun a235 w237 S236=>?_
    refine t_asg S236 0 fun a238 S239=>?_
    refine wpList_nil (then_normal ?_)
    refine wp_seq ?_
    obtain ⟨O,S240⟩:=S239.frz 10 0
    refine st_seq S240 2 [?_,?_] [(true,0),(true,1),(false,11),(false,12)] ⟨?_,?_,trivial⟩ (L':=[(79,?_),(80,?_),(3,?_),(2,?_)]) ?_ fun a241 w242 S243=>?_
    rotate_left 6
    · exact opP S240.r fun c=>⟨_,run_move rfl,(c.o 1 rfl)⟩
    · exact opP S240.r fun c=>⟨_,run_move rfl,(c.o 0 rfl)⟩
    · rfl
    refine t_asg S243 0 fun a245 S246=>?_
    refine t_asg S246 2 fun a247 S248=>?_
    refine wpList_nil (then_normal ?_)
    refine wp_ret ?_
    exact st_endTT S248 1 0 rfl rfl (fun _ h=>(slC_re rtP_sz (by rw [rtP_t (t:=t) (by omega) hb212]; exact h))) (fun _ h=>(by rw [rtR_eq (t:=t) (by omega)]; exact h))
   ·have hb212p:=of_decide_eq_false hb212
    refine wp_skip (then_normal ?_)
    refine wp_seq ?_
    obtain ⟨O,S249⟩:=S211.frz 3 0
    refine st_seq S249 2 [?_,?_] [(true,0),(true,1),(false,6),(false,7)] ⟨?_,?_,trivial⟩ (L':=[(79,?_),(80,?_),(3,?_),(2,?_)]) ?_ fun a250 w251 S252=>?_
    rotate_left 6
    · exact opP S249.r fun c=>⟨_,run_move rfl,(c.o 4 rfl)⟩
    · exact opP S249.r fun c=>⟨_,run_move rfl,(c.o 0 rfl)⟩
    · rfl
    refine t_asg S252 0 fun a254 S255=>?_
    refine t_asg S255 2 fun a256 S257=>?_
    refine wpList_nil (then_normal ?_)
    refine wp_ret ?_
    exact st_endTT S257 1 0 rfl rfl (fun _ h=>(slC_re rtP_sz (by rw [rtP_f (t:=t) (by omega) hb212]; exact h))) (fun _ h=>(by rw [rtR_eq (t:=t) (by omega)]; exact h))
 ·have hb47p:=of_decide_eq_false hb47
  refine wp_skip (then_normal ?_)
  refine wp_seq ?_
  refine st_seq S46 0 [] [(false,3),(false,4),(false,5),(false,6)] trivial (L':=[(5,?_),(4,?_),(3,?_),(2,?_)]) ?_ fun a258 w259 S260=>?_
  rotate_left 4
  · rfl
  refine t_asgC S260 fun a262 S263=>?_
  have S264:=S263.nil 26 3
  refine wpList_nil (then_normal ?_)
  refine wp_seq ?_
  refine wp_seq ?_
  refine st_seq S264 1 [?_] [(true,0),(false,0),(false,1),(false,2),(false,3),(false,4)] ⟨?_,trivial⟩ (L':=[(27,?_),(6,?_),(5,?_),(4,?_),(3,?_),(2,?_)]) ?_ fun a265 w266 S267=>?_
  rotate_left 7
  · exact opV S264.r fun c=>run_v (run_move rfl) (c.q 2 rfl)
  · rfl
  refine t_callX S267 1 rfl (args_2 (S267.e 0 rfl) rfl) rfl (fun x hb=>k_next hn hI (by decide) (by decide) (nxA_le (nxA_le (Nat.zero_le _))) hb) fun a269 w270 S272=>?_
  have hv271:=nxV_b (ts:=ts) (j:=nxA ts (nxA ts 0)) (n:=4) (by decide)
  refine t_asg S272 0 fun a273 S274=>?_
  refine wpList_nil (then_normal ?_)
  refine wp_block ?_
  refine st_loop (τ:=Nat × Value) (fun ⟨t,v⟩=>[(7,(mV (.int .i64 (((rtM ts:Nat):Int) - ((t:Nat):Int))))),(6,(mV (v))),(5,(mSl 3 (lC ((rtN ts t).2.1) (3)))),(4,(mV (.pointer (some ⟨g15,0,none⟩)))),(3,(mV (.slice none 0 0))),(2,(mV (.slice none 0 0)))]) (fun ⟨t,v⟩=>[.own v 26 3 (lC ((rtN ts t).2.2) (2)),.box g15 110 2 (mTp ts ((rtN ts t).1))]) (fun ⟨t,v⟩=>t≤rtM ts) (fun ⟨t,v⟩=>rtM ts - t) (0,.slice none 0 0) (Nat.zero_le _) (S274.toX ⟨(S274.sl 0 rfl).trans (congrArg (Value.int .i64) rtM0),S274.sl 3 rfl,(slC_re (rtN_sz (Nat.zero_le _)) (by rw [rt0_f hb47]; exact S274.sl 4 rfl)),S274.sl 5 rfl,S274.sl 6 rfl,S274.sl 7 rfl,trivial⟩ ⟨S274.f 0 rfl,S274.f 1 rfl,trivial⟩) ?_
  rintro ⟨t,v⟩ O a277 w278 hp279 S280
  try dsimp only at hp279 S280
  have hjt:=rt_le ts t
  have hrl:=rt_rl ts t
  have hpl:=fun h3:t≤3=>(rt_pb ts t h3).1
  refine wp_seq ?_
  refine wp_seq ?_
  refine st_seq S280 2 [?_,?_] [(true,1),(false,0),(false,1),(false,2),(false,3),(false,4),(false,5)] ⟨?_,?_,trivial⟩ (L':=[(30,?_),(7,?_),(6,?_),(5,?_),(4,?_),(3,?_),(2,?_)]) ?_ fun a281 w282 S283=>?_
  rotate_left 9
  · exact opV S280.r fun c=>run_v (run_move rfl) (c.q 0 rfl)
  · exact opV S280.r fun c=>run_gtr rfl (c.e 0 rfl) rfl
  · rfl
  refine wpList_nil (then_normal ?_)
  refine cond_b _ (ev (S283.sl 0 rfl)) (fun hb285=>?_) (fun hb285=>?_)
  ·have hb285p:=of_decide_eq_true hb285
   refine wp_skip (then_normal ?_)
   refine wp_seq ?_
   refine wp_block ?_
   refine wp_seq ?_
   refine st_seq S283 1 [?_] [(true,0),(false,1),(false,2),(false,3),(false,4),(false,5),(false,6)] ⟨?_,trivial⟩ (L':=[(33,?_),(7,?_),(6,?_),(5,?_),(4,?_),(3,?_),(2,?_)]) ?_ fun a286 w287 S288=>?_
   rotate_left 8
   · exact opV S283.r fun c=>run_v (run_move rfl) (c.q 4 rfl)
   · rfl
   refine t_callX S288 1 rfl (args_2 (S288.e 0 rfl) rfl) rfl (fun x hb=>k_next hn hI (by decide) (by decide) hjt hb) fun a290 w291 S293=>?_
   have hv292:=nxV_b (ts:=ts) (j:=(rtN ts t).1) (n:=25) (by decide)
   refine t_call S293 rfl (args_1 (S293.e 0 rfl)) ((k_cos (nxV ts ((rtN ts t).1) 25) (by omega) (by omega) S293.ob)) fun a294 w296 S295=>?_
   refine t_alloc S295 zero_Rat (fun _ _ _=>bx_Rat) fun O a297 w298 g299 S300=>?_
   refine t_sto S300 0 1 0 rfl isC.cv (fun w301 S302=>?_) info_Rat
   refine wpList_nil (then_normal ?_)
   refine wp_seq ?_
   refine st_seq S302 0 [] [(false,0),(false,4),(false,5),(false,6),(false,7),(false,8),(false,9)] trivial (L':=[(8,?_),(7,?_),(6,?_),(5,?_),(4,?_),(3,?_),(2,?_)]) ?_ fun a303 w304 S305=>?_
   rotate_left 7
   · rfl
   refine t_asgC S305 fun a307 S308=>?_
   refine wpList_nil (then_normal ?_)
   refine wp_seq ?_
   refine wp_seq ?_
   refine st_seq S308 3 [?_,?_,?_] [(true,0),(true,1),(true,2),(false,0),(false,1),(false,2),(false,3),(false,4),(false,5),(false,6),(false,7)] ⟨?_,?_,?_,trivial⟩ (L':=[(36,?_),(37,?_),(38,?_),(9,?_),(8,?_),(7,?_),(6,?_),(5,?_),(4,?_),(3,?_),(2,?_)]) ?_ fun a309 w310 S311=>?_
   rotate_left 14
   · exact opV S308.r fun c=>run_v (run_move rfl) (c.q 3 rfl)
   · exact opV S308.r fun c=>len_own (((rtN ts t).2.2).length) Tryz.underlying36 (c.own 1 rfl) (c.e 0 rfl) (lC_len _ _)
   · exact opV S308.r fun c=>run_moveC rfl
   · rfl
   refine wpList_nil (then_normal ?_)
   refine wp_block ?_
   refine st_loop (τ:=Nat) (fun i=>[(36,(mV (v))),(37,(mV (.int .i64 ((((rtN ts t).2.2).length:Nat):Int)))),(38,(mV (.int .i64 ((i:Nat):Int)))),(9,(mV (.bool (decide (rtX ts (rtN ts t).1 ∈ List.take i (rtN ts t).2.2))))),(8,(mV (.pointer (some ⟨g299,0,none⟩)))),(7,(mV (.int .i64 (((rtM ts:Nat):Int) - ((t:Nat):Int))))),(6,(mV (v))),(5,(mSl 3 (lC ((rtN ts t).2.1) (3)))),(4,(mV (.pointer (some ⟨g15,0,none⟩)))),(3,(mV (.slice none 0 0))),(2,(mV (.slice none 0 0)))]) (fun i=>[.box g299 26 3 (mC (rtX ts (rtN ts t).1) (2)),.own v 26 3 (lC ((rtN ts t).2.2) (2)),.box g15 110 2 (mTp ts (nxA ts ((rtN ts t).1)))]) (fun i=>i≤(rtN ts t).2.2.length) (fun i=>(rtN ts t).2.2.length - i) 0 (Nat.zero_le _) (S311.toX ⟨S311.sl 0 rfl,S311.sl 1 rfl,S311.sl 2 rfl,((S311.sl 3 rfl).trans (congrArg Value.bool mem_take0)),S311.sl 4 rfl,S311.sl 5 rfl,S311.sl 6 rfl,S311.sl 7 rfl,S311.sl 8 rfl,S311.sl 9 rfl,S311.sl 10 rfl,trivial⟩ ⟨S311.f 0 rfl,S311.f 1 rfl,S311.f 2 rfl,trivial⟩) ?_
   rintro i O a315 w316 hp317 S318
   try dsimp only at hp317 S318
   refine wp_seq ?_
   refine st_seq S318 1 [?_] [(true,0),(false,0),(false,1),(false,2),(false,3),(false,4),(false,5),(false,6),(false,7),(false,8),(false,9),(false,10)] ⟨?_,trivial⟩ (L':=[(39,?_),(36,?_),(37,?_),(38,?_),(9,?_),(8,?_),(7,?_),(6,?_),(5,?_),(4,?_),(3,?_),(2,?_)]) ?_ fun a319 w320 S321=>?_
   rotate_left 13
   · exact opV S318.r fun c=>run_lss rfl (c.q 2 rfl) (c.q 1 rfl)
   · rfl
   refine wpList_nil (then_normal ?_)
   refine wp_seq ?_
   refine cond_b _ (ev (S321.sl 0 rfl)) (fun hb323=>?_) (fun hb323=>?_)
   ·have hb323p:=of_decide_eq_true hb323
    refine wp_skip (then_normal ?_)
    refine wp_seq ?_
    refine wp_block ?_
    refine wp_seq ?_
    refine st_seq S321 2 [?_,?_] [(true,1),(false,1),(false,2),(false,3),(false,4),(false,5),(false,6),(false,7),(false,8),(false,9),(false,10),(false,11)] ⟨?_,?_,trivial⟩ (L':=[(41,?_),(36,?_),(37,?_),(38,?_),(9,?_),(8,?_),(7,?_),(6,?_),(5,?_),(4,?_),(3,?_),(2,?_)]) ?_ fun a324 w325 S326=>?_
    rotate_left 14
    · exact opV S321.r fun c=>ix_own Tryz.underlying36 infoRz (c.own 1 rfl) (c.q 1 rfl) (c.q 3 rfl) (i:=i) (by omega) (by rw [lC_len]; omega)
    · exact opP S321.r fun c=>ld_own (c.own 1 rfl) (c.e 0 rfl) (lC_get (by omega)) Tryz.underlying26 info_Rat
    · rfl
    refine t_alloc S326 zero_Rat (fun _ _ _=>bx_Rat) fun O a328 w329 g330 S331=>?_
    refine t_sto S331 0 1 0 rfl isC.cv (fun w332 S333=>?_) info_Rat
    refine wpList_nil (then_normal ?_)
    refine st_seq S333 7 [?_,?_,?_,?_,?_,?_,?_] [(true,6),(false,2),(false,3),(false,4),(false,5),(false,6),(false,7),(false,8),(false,9),(false,10),(false,11),(false,12)] ⟨?_,?_,?_,?_,?_,?_,?_,trivial⟩ (L':=[(48,?_),(36,?_),(37,?_),(38,?_),(9,?_),(8,?_),(7,?_),(6,?_),(5,?_),(4,?_),(3,?_),(2,?_)]) ?_ fun a334 w335 S336=>?_
    rotate_left 19
    · exact opV S333.r fun c=>run_v (run_move rfl) (c.q 5 rfl)
    · exact opV S333.r fun c=>run_v (run_move rfl) (c.e 0 rfl)
    · exact opG S333.r 0 (fun hγ=>opL S333.r 1 Tryz.underlying26 info_Rat fun c=>(c.q 6 rfl)) gF
    · exact opG S333.r 0 (fun hγ=>opL S333.r 0 Tryz.underlying26 info_Rat fun c=>(c.q 0 rfl)) gF
    · exact opG S333.r 2 (fun hγ=>opC S333.r rfl fun c B=>⟨_,args_2 rfl rfl,(r_cmp (by have:=of_decide_eq_false (Bool.not_eq_true' _ |>.mp hγ); omega) (by have:=of_decide_eq_false (Bool.not_eq_true' _ |>.mp hγ); omega) (isC.r (c.h 0 rfl hγ)) (isC.r (c.h 1 rfl hγ)))⟩) gF
    · exact opG S333.r 1 (fun hγ=>opV S333.r fun c=>run_eql rfl (ev (c.h 0 rfl hγ)) rfl) gF
    · exact opE S333.r fun c=>run_be (y:=decide (rtX ts (rtN ts t).1 ∈ List.take (i + 1) (rtN ts t).2.2)) (⟨_,run_pick rfl (c.e 0 rfl),pick_or fun h=>(c.h 1 rfl) (by rw [h]; rfl)⟩) (cmp_mem (by omega))
    · rfl
    refine t_asg S336 0 fun a338 S339=>?_
    refine wpList_nil (in_normal (then_normal ?_))
    refine st_seq S339 1 [?_] [(true,0),(false,0),(false,2),(false,3),(false,4),(false,5),(false,6),(false,7),(false,8),(false,9),(false,10),(false,11)] ⟨?_,trivial⟩ (L':=[(49,?_),(9,?_),(36,?_),(37,?_),(38,?_),(8,?_),(7,?_),(6,?_),(5,?_),(4,?_),(3,?_),(2,?_)]) ?_ fun a340 w341 S342=>?_
    rotate_left 13
    · exact opV S339.r fun c=>run_add rfl (c.q 4 rfl) rfl (by omega) (by omega)
    · rfl
    refine t_val S342 (run_v (run_move rfl) (S342.e 0 rfl)) fun a344 S345=>?_
    refine wpList_nil (then_normal ?_)
    exact ⟨i + 1,(by first | omega | (dsimp only; omega)),(by first | omega | (dsimp only; omega)),_,(S345.dropN 1).toX ⟨S345.sl 3 rfl,S345.sl 4 rfl,(S345.sl 0 rfl).trans (by first | rfl | exact congrArg _ (by omega)),(S345.sl 2 rfl).trans (by first | rfl | exact congrArg _ (by omega)),S345.sl 5 rfl,S345.sl 6 rfl,S345.sl 7 rfl,S345.sl 8 rfl,S345.sl 9 rfl,S345.sl 10 rfl,S345.sl 11 rfl,trivial⟩ ⟨S345.f 1 rfl,S345.f 2 rfl,S345.f 3 rfl,trivial⟩⟩
   ·have hb323p:=of_decide_eq_false hb323
    refine wp_exit ?_
    repeat (first | refine exit_in ?_ | refine exit_then ?_ | refine exit_out (by decide) ?_)
    refine (then_normal ?_)
    refine wp_seq ?_
    refine wp_seq ?_
    refine st_seq S321 1 [?_] [(true,0),(false,5),(false,6),(false,7),(false,8),(false,9),(false,10),(false,11)] ⟨?_,trivial⟩ (L':=[(50,?_),(8,?_),(7,?_),(6,?_),(5,?_),(4,?_),(3,?_),(2,?_)]) ?_ fun a346 w347 S348=>?_
    rotate_left 9
    · exact opV S321.r fun c=>run_v (run_move rfl) (c.q 4 rfl)
    · rfl
    refine wpList_nil (then_normal ?_)
    refine cond_b _ (ev (S348.sl 0 rfl)) (fun hb350=>?_) (fun hb350=>?_)
    ·have hb350p:=of_decide_eq_true hb350
     refine wp_exit ?_
     repeat (first | refine exit_in ?_ | refine exit_then ?_ | refine exit_out (by decide) ?_)
     refine (then_normal ?_)
     refine st_seq S348 2 [?_,?_] [(true,1),(false,2),(false,3),(false,4),(false,5),(false,6),(false,7)] ⟨?_,?_,trivial⟩ (L':=[(32,?_),(7,?_),(6,?_),(5,?_),(4,?_),(3,?_),(2,?_)]) ?_ fun a351 w352 S353=>?_
     rotate_left 9
     · exact opV S348.r fun c=>run_v (run_move rfl) (c.q 2 rfl)
     · exact opV S348.r fun c=>run_sub rfl (c.e 0 rfl) rfl (by omega) (by omega)
     · rfl
     refine t_asg S353 0 fun a355 S356=>?_
     refine wpList_nil (then_normal ?_)
     exact ⟨(t + 1,v),(by first | omega | (dsimp only; omega)),(by first | omega | (dsimp only; omega)),_,(S356.dropN 1).toX ⟨(S356.sl 0 rfl).trans (by first | rfl | exact congrArg _ (by omega)),(S356.sl 2 rfl).trans (by first | rfl | exact congrArg _ (by omega)),(slC_re (rtN_sz (by omega)) (by rw [rtS_t (by omega) hb350]; exact S356.sl 3 rfl)),S356.sl 4 rfl,S356.sl 5 rfl,S356.sl 6 rfl,trivial⟩ ⟨(by rw [rtS_t (by omega) hb350]; exact S356.f 1 rfl),(by rw [rtS_t (by omega) hb350]; exact S356.f 2 rfl),trivial⟩⟩
    ·have hb350p:=of_decide_eq_false hb350
     refine wp_skip (then_normal ?_)
     refine wp_seq ?_
     refine st_seq S348 3 [?_,?_,?_] [(true,0),(true,2),(false,1),(false,2),(false,3),(false,4),(false,5),(false,6),(false,7)] ⟨?_,?_,?_,trivial⟩ (L':=[(51,?_),(53,?_),(8,?_),(7,?_),(6,?_),(5,?_),(4,?_),(3,?_),(2,?_)]) ?_ fun a357 w358 S359=>?_
     rotate_left 12
     · exact opV S348.r fun c=>run_v (run_move rfl) (c.q 3 rfl)
     · exact opL S348.r 0 Tryz.underlying26 info_Rat fun c=>(c.q 1 rfl)
     · exact opN S348.r fun c=>lit1CL (S348.obc c.wb) (c.h 0 rfl)
     · rfl
     refine t_appQL S359 0 1 rfl rfl (slC_mono ((S359.sl 1 rfl)) (by omega)) (by simp; omega) fun O a361 w362 v363 S364=>?_
     refine t_asg S364 0 fun a365 S366=>?_
     refine wpList_nil (then_normal ?_)
     refine wp_seq ?_
     refine st_seq S366 1 [?_] [(true,0),(false,0),(false,4),(false,5),(false,6),(false,7),(false,8),(false,9)] ⟨?_,trivial⟩ (L':=[(55,?_),(6,?_),(8,?_),(7,?_),(5,?_),(4,?_),(3,?_),(2,?_)]) ?_ fun a367 w368 S369=>?_
     rotate_left 9
     · exact opV S366.r fun c=>run_v (run_move rfl) (c.q 7 rfl)
     · rfl
     refine t_callX S369 2 rfl (args_2 (S369.e 0 rfl) rfl) rfl (fun x hb=>k_next hn hI (by decide) (by decide) (nxA_le hjt) hb) fun a371 w372 S374=>?_
     have hv373:=nxV_b (ts:=ts) (j:=nxA ts ((rtN ts t).1)) (n:=3) (by decide)
     refine t_asg S374 0 fun a375 S376=>?_
     refine wpList_nil (then_normal ?_)
     refine wp_block ?_
     refine st_loop (τ:=Nat) (fun k=>[(12,(mV (.int .i64 (nxV ts (nxA ts (rtN ts t).1) 3 - ((k:Nat):Int))))),(6,(mV (v363))),(8,(mV (.pointer (some ⟨g299,0,none⟩)))),(7,(mV (.int .i64 (((rtM ts:Nat):Int) - ((t:Nat):Int))))),(5,(mSl 3 (lC (rtE (rtX ts (rtN ts t).1) (rtN ts t).2.1 k) (3)))),(4,(mV (.pointer (some ⟨g15,0,none⟩)))),(3,(mV (.slice none 0 0))),(2,(mV (.slice none 0 0)))]) (fun k=>[.box g299 26 3 (mC (rtX ts (rtN ts t).1) (2)),.own v363 26 3 (lC (((rtN ts t).2.2) ++ [rtX ts (rtN ts t).1]) (2)),.box g15 110 2 (mTp ts (nxA ts (nxA ts ((rtN ts t).1))))]) (fun k=>k≤(nxV ts (nxA ts (rtN ts t).1) 3).toNat + 1) (fun k=>(nxV ts (nxA ts (rtN ts t).1) 3).toNat + 1 - k) 0 (Nat.zero_le _) (S376.toX ⟨((S376.sl 0 rfl).trans (congrArg (Value.int .i64) (by omega))),S376.sl 3 rfl,S376.sl 4 rfl,S376.sl 5 rfl,S376.sl 6 rfl,S376.sl 7 rfl,S376.sl 8 rfl,S376.sl 9 rfl,trivial⟩ ⟨S376.f 0 rfl,S376.f 1 rfl,S376.f 2 rfl,trivial⟩) ?_
     rintro k O a379 w380 hp381 S382
     try dsimp only at hp381 S382
     have hel:=(rtE_pb (ts:=ts) (j:=(rtN ts t).1) (rt_pb ts t (by omega)).1 (rt_pb ts t (by omega)).2 k (by omega)).1
     refine wp_seq ?_
     refine wp_seq ?_
     refine st_seq S382 2 [?_,?_] [(true,1),(false,0),(false,1),(false,2),(false,3),(false,4),(false,5),(false,6),(false,7)] ⟨?_,?_,trivial⟩ (L':=[(58,?_),(12,?_),(6,?_),(8,?_),(7,?_),(5,?_),(4,?_),(3,?_),(2,?_)]) ?_ fun a383 w384 S385=>?_
     rotate_left 11
     · exact opV S382.r fun c=>run_v (run_move rfl) (c.q 0 rfl)
     · exact opV S382.r fun c=>run_geq rfl (c.e 0 rfl) rfl
     · rfl
     refine wpList_nil (then_normal ?_)
     refine cond_b _ (ev (S385.sl 0 rfl)) (fun hb387=>?_) (fun hb387=>?_)
     ·have hb387p:=of_decide_eq_true hb387
      refine wp_skip (then_normal ?_)
      refine wp_seq ?_
      refine wp_block ?_
      refine st_seq S385 6 [?_,?_,?_,?_,?_,?_] [(true,5),(false,1),(false,2),(false,3),(false,4),(false,5),(false,6),(false,7),(false,8)] ⟨?_,?_,?_,?_,?_,?_,trivial⟩ (L':=[(66,?_),(12,?_),(6,?_),(8,?_),(7,?_),(5,?_),(4,?_),(3,?_),(2,?_)]) ?_ fun a388 w389 S390=>?_
      rotate_left 15
      · exact opP S385.r fun c=>⟨_,run_move rfl,(c.o 5 rfl)⟩
      · exact opL S385.r 0 Tryz.underlying26 info_Rat fun c=>(c.q 3 rfl)
      · exact opC S385.r rfl fun c B=>⟨_,args_1 rfl,(r_neg (by omega) (isC.r (c.h 0 rfl)))⟩
      · exact opC S385.r rfl fun c B=>⟨_,args_1 rfl,(r_of (1) (by omega) (by omega))⟩
      · exact opN S385.r fun c=>lit2C (k:=3) (S385.obc c.wb) (isC.mono (c.h 0 rfl) (by decide)) (isC.mono (c.h 1 rfl) (by decide))
      · exact opC S385.r rfl fun c B=>⟨_,args_2 rfl rfl,(r5_mul (L:=10) (K:=92) (by omega) (by omega) (by first | omega | exact Nat.le_of_ble_eq_true rfl) (by omega) (by omega) (by omega) (by omega) (slC_r (c.h 0 rfl)) (slC_r (c.h 1 rfl)) (S385.obc c.wb))⟩
      · rfl
      refine t_asg S390 0 fun a392 S393=>?_
      refine wpList_nil (in_normal (then_normal ?_))
      refine st_seq S393 2 [?_,?_] [(true,1),(false,0),(false,2),(false,3),(false,4),(false,5),(false,6),(false,7),(false,8)] ⟨?_,?_,trivial⟩ (L':=[(60,?_),(5,?_),(12,?_),(6,?_),(8,?_),(7,?_),(4,?_),(3,?_),(2,?_)]) ?_ fun a394 w395 S396=>?_
      rotate_left 11
      · exact opV S393.r fun c=>run_v (run_move rfl) (c.q 2 rfl)
      · exact opV S393.r fun c=>run_sub rfl (c.e 0 rfl) rfl (by omega) (by omega)
      · rfl
      refine t_asg S396 0 fun a398 S399=>?_
      refine wpList_nil (then_normal ?_)
      exact ⟨k + 1,(by first | omega | (dsimp only; omega)),(by first | omega | (dsimp only; omega)),_,S399.toX ⟨(S399.sl 0 rfl).trans (by first | rfl | exact congrArg _ (by omega)),S399.sl 3 rfl,S399.sl 4 rfl,S399.sl 5 rfl,(slC_re (rtE_sz (by omega) (by omega)) (by exact S399.sl 2 rfl)),S399.sl 6 rfl,S399.sl 7 rfl,S399.sl 8 rfl,trivial⟩ ⟨S399.f 0 rfl,S399.f 1 rfl,S399.f 2 rfl,trivial⟩⟩
     ·have hb387p:=of_decide_eq_false hb387
      refine wp_exit ?_
      repeat (first | refine exit_in ?_ | refine exit_then ?_ | refine exit_out (by decide) ?_)
      refine (in_normal (then_normal ?_))
      refine st_seq S385 2 [?_,?_] [(true,1),(false,2),(false,4),(false,5),(false,6),(false,7),(false,8)] ⟨?_,?_,trivial⟩ (L':=[(32,?_),(6,?_),(7,?_),(5,?_),(4,?_),(3,?_),(2,?_)]) ?_ fun a400 w401 S402=>?_
      rotate_left 9
      · exact opV S385.r fun c=>run_v (run_move rfl) (c.q 4 rfl)
      · exact opV S385.r fun c=>run_sub rfl (c.e 0 rfl) rfl (by omega) (by omega)
      · rfl
      refine t_asg S402 0 fun a404 S405=>?_
      refine wpList_nil (then_normal ?_)
      exact ⟨(t + 1,v363),(by first | omega | (dsimp only; omega)),(by first | omega | (dsimp only; omega)),_,(S405.dropN 1).toX ⟨(S405.sl 0 rfl).trans (by first | rfl | exact congrArg _ (by omega)),(S405.sl 2 rfl).trans (by first | rfl | exact congrArg _ (by omega)),(slC_re (rtN_sz (by omega)) (by rw [rtS_f (k:=k) (by omega) hb350 (by omega)]; exact S405.sl 3 rfl)),S405.sl 4 rfl,S405.sl 5 rfl,S405.sl 6 rfl,trivial⟩ ⟨(by rw [rtS_f (k:=k) (by omega) hb350 (by omega)]; exact S405.f 1 rfl),(by rw [rtS_f (k:=k) (by omega) hb350 (by omega)]; exact S405.f 2 rfl),trivial⟩⟩
  ·have hb285p:=of_decide_eq_false hb285
   refine wp_exit ?_
   repeat (first | refine exit_in ?_ | refine exit_then ?_ | refine exit_out (by decide) ?_)
   refine (then_normal ?_)
   refine wp_seq ?_
   refine wp_seq ?_
   refine st_seq S283 1 [?_] [(true,0),(false,2),(false,3),(false,4),(false,5),(false,6)] ⟨?_,trivial⟩ (L':=[(67,?_),(6,?_),(5,?_),(4,?_),(3,?_),(2,?_)]) ?_ fun a406 w407 S408=>?_
   rotate_left 7
   · exact opV S283.r fun c=>run_v (run_move rfl) (c.q 4 rfl)
   · rfl
   refine t_callX S408 1 rfl (args_2 (S408.e 0 rfl) rfl) rfl (fun x hb=>k_next hn hI (by decide) (by decide) hjt hb) fun a410 w411 S413=>?_
   have hv412:=nxV_b (ts:=ts) (j:=(rtN ts t).1) (n:=2) (by decide)
   refine t_val S413 (run_eql rfl (S413.e 0 rfl) rfl) fun a414 S415=>?_
   refine wpList_nil (then_normal ?_)
   refine cond_b _ (ev (S415.sl 0 rfl)) (fun hb416=>?_) (fun hb416=>?_)
   ·have hb416p:=of_decide_eq_true hb416
    refine st_seq S415 2 [?_,?_] [(true,0),(true,1),(false,3),(false,4),(false,6),(false,7)] ⟨?_,?_,trivial⟩ (L':=[(70,?_),(71,?_),(6,?_),(5,?_),(3,?_),(2,?_)]) ?_ fun a417 w418 S419=>?_
    rotate_left 8
    · exact opP S415.r fun c=>⟨_,run_move rfl,(c.o 4 rfl)⟩
    · exact opV S415.r fun c=>run_v (run_move rfl) (c.q 5 rfl)
    · rfl
    refine t_callX S419 1 rfl (args_2 (S419.e 1 rfl) rfl) rfl (fun x hb=>k_next hn hI (by decide) (by decide) (nxA_le hjt) hb) fun a421 w422 S424=>?_
    have hv423:=nxV_b (ts:=ts) (j:=nxA ts ((rtN ts t).1)) (n:=4) (by decide)
    refine t_val S424 (run_add rfl rfl (S424.e 0 rfl) (by omega) (by omega)) fun a425 S426=>?_
    refine t_call S426 rfl (args_2 (S426.e 0 rfl) rfl) ((r_frac ((1) + (nxV ts (nxA ts ((rtN ts t).1)) 4)) (16) (by omega) (by omega) (by omega) (by omega))) fun a427 w429 S428=>?_
    refine t_call S428 rfl (args_1 rfl) ((r_of (0) (by omega) (by omega))) fun a430 w432 S431=>?_
    refine t_call S431 rfl (args_1 rfl) ((r_of (1) (by omega) (by omega))) fun a433 w435 S434=>?_
    refine t_nw S434 (lit3C S434.ob (S434.sl 2 rfl) (S434.sl 1 rfl) (S434.sl 0 rfl)) fun a436 w438 S437=>?_
    refine t_call S437 rfl (args_2 rfl rfl) ((r5_mul (L:=10) (K:=82) (by omega) (by omega) (by first | omega | exact Nat.le_of_ble_eq_true rfl) (by omega) (by omega) (by omega) (by omega) (slC_r (S437.sl 6 rfl)) (slC_r (S437.sl 0 rfl)) S437.ob)) fun a439 w441 S440=>?_
    refine t_asg S440 0 fun a442 S443=>?_
    refine wpList_nil (then_normal ?_)
    refine wp_seq ?_
    obtain ⟨O,S444⟩:=S443.frz 10 0
    refine st_seq S444 2 [?_,?_] [(true,0),(true,1),(false,11),(false,12)] ⟨?_,?_,trivial⟩ (L':=[(79,?_),(80,?_),(3,?_),(2,?_)]) ?_ fun a445 w446 S447=>?_
    rotate_left 6
    · exact opP S444.r fun c=>⟨_,run_move rfl,(c.o 1 rfl)⟩
    · exact opP S444.r fun c=>⟨_,run_move rfl,(c.o 0 rfl)⟩
    · rfl
    refine t_asg S447 0 fun a449 S450=>?_
    refine t_asg S450 2 fun a451 S452=>?_
    refine wpList_nil (then_normal ?_)
    refine wp_ret ?_
    exact st_endTT S452 1 0 rfl rfl (fun _ h=>(slC_re rtP_sz (by rw [rtP_t (t:=t) (by omega) hb416]; exact h))) (fun _ h=>(by rw [rtR_eq (t:=t) (by omega)]; exact h))
   ·have hb416p:=of_decide_eq_false hb416
    refine wp_skip (then_normal ?_)
    refine wp_seq ?_
    obtain ⟨O,S453⟩:=S415.frz 3 0
    refine st_seq S453 2 [?_,?_] [(true,0),(true,1),(false,6),(false,7)] ⟨?_,?_,trivial⟩ (L':=[(79,?_),(80,?_),(3,?_),(2,?_)]) ?_ fun a454 w455 S456=>?_
    rotate_left 6
    · exact opP S453.r fun c=>⟨_,run_move rfl,(c.o 4 rfl)⟩
    · exact opP S453.r fun c=>⟨_,run_move rfl,(c.o 0 rfl)⟩
    · rfl
    refine t_asg S456 0 fun a458 S459=>?_
    refine t_asg S459 2 fun a460 S461=>?_
    refine wpList_nil (then_normal ?_)
    refine wp_ret ?_
    exact st_endTT S461 1 0 rfl rfl (fun _ h=>(slC_re rtP_sz (by rw [rtP_f (t:=t) (by omega) hb416]; exact h))) (fun _ h=>(by rw [rtR_eq (t:=t) (by omega)]; exact h))
end Go.Proofs.YtcankknlbljicaaGreatDoor
