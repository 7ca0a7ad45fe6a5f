/-  -/
import Derived.Test.YtcankknlbljicaaGreatDoorYff

set_option linter.unusedVariables false
set_option linter.unusedSimpArgs false
set_option linter.unusedSectionVars false
set_option maxRecDepth 100000
set_option maxHeartbeats 3200000

namespace Go.Proofs.YtcankknlbljicaaGreatDoor
set_option linter.unusedVariables false
def pv:List Rat→Rat→Rat
 | [],_=>0
 | q :: r,x=>q + x * pv r x
def pvd:List Rat→Rat→Rat
 | [],_=>0
 | q :: r,x=>pv r x + x * pvd r x
theorem getQ_nil (n:Nat):([]:List Rat).getD n 0=0:=by simp
theorem getQ_c0 (q:Rat) (r:List Rat):(q :: r).getD 0 0=q:=by simp
theorem getQ_cs (q:Rat) (r:List Rat) (n:Nat):(q :: r).getD (n + 1) 0=r.getD n 0:=by simp
theorem pv_zero {a:List Rat} (h:∀ n,a.getD n 0=0) (x:Rat):pv a x=0:=by
 induction a with
 | nil=>rfl
 | cons q r ih =>
  have h0:=h 0
  rw [getQ_c0] at h0
  simp only [pv]
  rw [ih fun n=>by rw [← getQ_cs q r n]; exact h (n + 1),h0]; grind
theorem pv_congr {a b:List Rat} (h:∀ n,a.getD n 0=b.getD n 0) (x:Rat):pv a x=pv b x:=by
 induction a generalizing b with
 | nil=>exact (pv_zero (fun n=>by rw [← h n,getQ_nil]) x).symm
 | cons q r ih =>
  cases b with
  | nil=>exact pv_zero (fun n=>by rw [h n,getQ_nil]) x
  | cons p s =>
   have h0:=h 0
   rw [getQ_c0,getQ_c0] at h0
   simp only [pv]
   rw [h0,ih (b:=s) fun n=>by have:=h (n + 1); rwa [getQ_cs,getQ_cs] at this]
theorem pv_cut (a:List Rat) (x:Rat):pv (cutQ a) x=pv a x:=pv_congr (fun n=>getQ_cut a n) x
theorem pv_mulc (a:List Rat) (c x:Rat):pv (a.map fun q=>q * c) x=pv a x * c:=by
 induction a with
 | nil=>simp [pv,Rat.zero_mul]
 | cons q r ih=>simp only [List.map_cons,pv,ih]; grind
theorem pv_divc (a:List Rat) (c x:Rat):pv (a.map fun q=>q / c) x=pv a x / c:=by
 have e:(fun q:Rat=>q / c)=fun q=>q * c⁻¹:=funext fun q=>Rat.div_def q c
 rw [e,pv_mulc,Rat.div_def]
theorem pv_neg (a:List Rat) (x:Rat):pv (a.map fun q=>-q) x = -pv a x:=by
 induction a with
 | nil=>simp [pv]
 | cons q r ih=>simp only [List.map_cons,pv,ih]; grind
def addL:List Rat→List Rat→List Rat
 | [],b=>b
 | q :: r,[]=>q :: r
 | q :: r,p :: s=>(q + p) :: addL r s
theorem addL_get:∀ (a b:List Rat) (n:Nat),(addL a b).getD n 0=a.getD n 0 + b.getD n 0
 | [],b,n=>by rw [getQ_nil,Rat.zero_add]; rfl
 | q :: r,[],n=>by rw [getQ_nil,Rat.add_zero]; rfl
 | q :: r,p :: s,0=>by simp [addL]
 | q :: r,p :: s,n + 1=>by simp only [addL,getQ_cs]; exact addL_get r s n
theorem pv_addL:∀ (a b:List Rat) (x:Rat),pv (addL a b) x=pv a x + pv b x
 | [],b,x=>by simp only [addL,pv]; grind
 | q :: r,[],x=>by simp only [addL,pv]; grind
 | q :: r,p :: s,x=>by simp only [addL,pv,pv_addL r s x]; grind
theorem pv_add (a b:List Rat) (x:Rat):pv (addQ a b) x=pv a x + pv b x:=by
 rw [← pv_addL]; exact pv_congr (fun n=>by rw [addQ_get,addL_get]) x
theorem sumN_first (n:Nat) (f:Nat→Rat):sumN (n + 1) f=f 0 + sumN n fun i=>f (i + 1):=by
 induction n with
 | zero=>simp only [sumN]; grind
 | succ n ih=>rw [sumN,ih]; simp only [sumN]; grind
def mulL:List Rat→List Rat→List Rat
 | [],_=>[]
 | q :: r,b=>addL (b.map fun p=>p * q) (0 :: mulL r b)
theorem pv_mulL:∀ (a b:List Rat) (x:Rat),pv (mulL a b) x=pv a x * pv b x
 | [],b,x=>by simp only [mulL,pv]; grind
 | q :: r,b,x=>by simp only [mulL,pv_addL,pv_mulc,pv,pv_mulL r b x]; grind
theorem mulL_get:∀ (a b:List Rat) (n:Nat),(mulL a b).getD n 0=conv a b n
 | [],b,n=>by simp [mulL,conv,sumN]
 | q :: r,b,n=>by
  unfold conv
  rw [List.length_cons,sumN_first,mulL,addL_get,getQ_mul,if_pos (Nat.zero_le _),Nat.sub_zero,getQ_c0,Rat.mul_comm]
  congr 1
  cases n with
  | zero =>
   rw [getQ_c0]
   exact (sumN_zero fun i _=>if_neg (by omega)).symm
  | succ n =>
   rw [getQ_cs,mulL_get r b n]
   unfold conv
   refine sumN_congr fun i _=>?_
   rw [getQ_cs]
   by_cases h:i≤n
   ·rw [if_pos h,if_pos (by omega),show n + 1 - (i + 1)=n - i by omega]
   ·rw [if_neg h,if_neg (by omega)]
theorem pv_mulQ (a b:List Rat) (x:Rat):pv (mulQ a b) x=pv a x * pv b x:=by
 rw [← pv_mulL]; exact pv_congr (fun n=>by rw [mulQ_get,mulL_get]) x
theorem pv_mul (a b:List Rat) (x:Rat):pv (mulP a b) x=pv a x * pv b x:=by
 unfold mulP; rw [pv_cut,pv_mulQ,pv_cut,pv_cut]
theorem derQ_get (a:List Rat) (n:Nat):(derQ a).getD n 0=(((n + 1:Nat):Int):Rat) * a.getD (n + 1) 0:=by
 unfold derQ dQ
 by_cases h:n < a.length - 1
 ·simp [List.getD_eq_getElem?_getD,List.getElem?_map,List.getElem?_range h]
 ·rw [getQ_out (qs:=a) (by omega),getQ_out (by simp; omega),Rat.mul_zero]
theorem pv_der (a:List Rat) (x:Rat):pv (derQ a) x=pvd a x:=by
 induction a with
 | nil=>rfl
 | cons q r ih =>
  simp only [pvd]
  rw [← ih,show pv r x + x * pv (derQ r) x=pv (addL r (0 :: derQ r)) x by rw [pv_addL]; simp only [pv]; grind]
  refine pv_congr (fun n=>?_) x
  rw [derQ_get,addL_get,getQ_cs]
  cases n with
  | zero=>rw [getQ_c0]; simp [Rat.one_mul,Rat.add_zero]
  | succ n =>
   rw [getQ_cs,derQ_get]
   have e:(((n + 1 + 1:Nat):Int):Rat)=(((n + 1:Nat):Int):Rat) + 1:=by
    rw [Int.natCast_add,Rat.intCast_add]; rfl
   rw [e]; grind

set_option linter.unusedVariables false
def absQ (q:Rat):Rat:=if q < 0 then -q else q
theorem absQ_nn (q:Rat) : 0≤absQ q:=by unfold absQ; split <;> grind
def bnd:List Rat→Rat
 | []=>0
 | q :: r=>absQ q + bnd r
theorem bnd_nn:∀ a:List Rat,0≤bnd a
 | []=>Rat.le_refl
 | q :: r=>by have:=bnd_nn r; have:=absQ_nn q; simp only [bnd]; grind
theorem absQ_le {q B:Rat}:absQ q≤B ↔ q≤B∧-B≤q:=by unfold absQ; split <;> grind
theorem mul_bd {x e B:Rat} (h1 : -1≤x) (h2:x≤1) (h3 : -B≤e) (h4:e≤B) : -B≤x * e∧x * e≤B:=by
 by_cases h : 0≤e
 ·have a1 : 0≤e * (1 - x):=Rat.mul_nonneg h (by grind)
  have a2 : 0≤e * (1 + x):=Rat.mul_nonneg h (by grind)
  constructor <;> grind
 ·have a1 : 0≤(-e) * (1 - x):=Rat.mul_nonneg (by grind) (by grind)
  have a2 : 0≤(-e) * (1 + x):=Rat.mul_nonneg (by grind) (by grind)
  constructor <;> grind
theorem pv_bd {x:Rat} (h1 : -1≤x) (h2:x≤1):∀ a:List Rat,-bnd a≤pv a x∧pv a x≤bnd a
 | []=>by simp only [bnd,pv]; constructor <;> grind
 | q :: r=>by
  obtain ⟨h3,h4⟩:=pv_bd h1 h2 r
  have h5:=mul_bd h1 h2 h3 h4
  have h6:=(absQ_le (q:=q) (B:=absQ q)).1 Rat.le_refl
  simp only [bnd,pv]
  constructor <;> grind
theorem div_bd {q D:Rat} (hD : 0 < D) (h1:q≤D) (h2 : -D≤q) : -1≤q / D∧q / D≤1 :=
 by
  have hm:=Rat.div_mul_cancel (a:=q) (b:=D) (by grind)
  generalize q / D=y at hm ⊢
  constructor
  ·refine Decidable.byContradiction fun h=>?_
   have:=Rat.mul_pos (show 0 < -1 - y by grind) hD
   grind
  ·refine Decidable.byContradiction fun h=>?_
   have:=Rat.mul_pos (show 0 < y - 1 by grind) hD
   grind
theorem pv_all0:∀ (a:List Rat),(∀ x,x≠0→pv a x=0)→∀ n,a.getD n 0=0
 | [],_,n=>getQ_nil n
 | q :: r,h,n=>by
  have hD : 0 < absQ q + bnd r + 1:=by have:=absQ_nn q; have:=bnd_nn r; grind
  have hq:q=0:=by
   refine Decidable.byContradiction fun h0=>?_
   have h6:=(absQ_le (q:=q) (B:=absQ q)).1 Rat.le_refl
   have hb:=bnd_nn r
   have hx:=div_bd (q:=q) hD (by grind) (by grind)
   have h1:=h (q / (absQ q + bnd r + 1)) (div_ne0 h0 (by grind))
   have h2:=pv_bd hx.1 hx.2 r
   simp only [pv] at h1
   have hm:=Rat.div_mul_cancel (a:=q) (b:=absQ q + bnd r + 1) (by grind)
   generalize pv r (q / (absQ q + bnd r + 1))=e at h1 h2
   generalize q / (absQ q + bnd r + 1)=y at h1 hm
   have h3:q * (absQ q + bnd r + 1 + e)=0:=by grind
   rcases Rat.mul_eq_zero.1 h3 with h4 | h4
   ·exact h0 h4
   ·have:=absQ_nn q; grind
  cases n with
  | zero=>rw [getQ_c0,hq]
  | succ n =>
   rw [getQ_cs]
   refine pv_all0 r (fun x hx=>?_) n
   have:=h x hx
   simp only [pv] at this
   rw [hq,Rat.zero_add] at this
   exact (Rat.mul_eq_zero.1 this).resolve_left hx
theorem pv_inj {a b:List Rat} (h:∀ x,pv a x=pv b x) (n:Nat):a.getD n 0=b.getD n 0:=by
 have h1:=pv_all0 (addQ a (b.map fun q=>-q)) (fun x _=>by rw [pv_add,pv_neg,h x]; grind) n
 rw [addQ_get] at h1
 have h2:(b.map fun q=>-q).getD n 0 = -b.getD n 0:=by
  by_cases hn:n < b.length
  ·exact getD_map hn
  ·rw [getQ_out (by rw [List.length_map]; omega),getQ_out (by omega)]; grind
 rw [h2] at h1
 grind
theorem cut_inj {a b:List Rat} (h:∀ x,pv a x=pv b x):cutQ a=cutQ b:=cutQ_congr (pv_inj h)
theorem can_inj {a b:List Rat} (ha:cutQ a=a) (hb:cutQ b=b) (h:∀ x,pv a x=pv b x):a=b:=by rw [← ha,← hb,cut_inj h]
theorem cut_cut (a:List Rat):cutQ (cutQ a)=cutQ a:=cutQ_congr fun n=>getQ_cut a n

theorem getQ_hi {a:List Rat} {n:Nat} (h:cutn a≤n):a.getD n 0=0:=by
 refine Decidable.byContradiction fun h0=>?_
 have:=cutn_pos h0
 omega
theorem cutn_eq {a:List Rat} {n:Nat} (h1:a.getD n 0≠0) (h2:∀ m,n < m→a.getD m 0=0):cutn a=n + 1:=by
 have:=cutn_pos h1
 by_cases h:cutn a=n + 1
 ·exact h
 ·exact absurd (h2 (cutn a - 1) (by omega)) (cutn_top (by omega))
theorem sumN_one {n i:Nat} {f:Nat→Rat} (hi:i < n) (h:∀ j,j < n→j≠i→f j=0):sumN n f=f i:=by
 induction n with
 | zero=>omega
 | succ n ih =>
  simp only [sumN]
  by_cases e:i=n
  ·subst e
   rw [sumN_zero fun j hj=>h j (by omega) (by omega),Rat.zero_add]
  ·rw [ih (by omega) fun j hj hne=>h j (by omega) hne,h n (by omega) (by omega),Rat.add_zero]
theorem conv_top {a b:List Rat} (ha:cutn a≠0) (hb:cutn b≠0):conv a b (cutn a - 1 + (cutn b - 1))=a.getD (cutn a - 1) 0 * b.getD (cutn b - 1) 0:=by
 unfold conv
 have:=cutn_le a
 rw [sumN_one (i:=cutn a - 1) (by omega) fun j hj hne=>?_]
 ·rw [if_pos (by omega),Nat.add_sub_cancel_left]
 ·by_cases h:j < cutn a - 1
  ·rw [if_pos (by omega),getQ_hi (a:=b) (by omega),Rat.mul_zero]
  ·rw [getQ_hi (a:=a) (by omega),Rat.zero_mul,ite_self]
theorem conv_hi {a b:List Rat} {n:Nat} (h:cutn a + cutn b≤n + 1):conv a b n=0:=by
 unfold conv
 refine sumN_zero fun j hj=>?_
 split
 ·by_cases h2:j < cutn a
  ·rw [getQ_hi (a:=b) (by omega),Rat.mul_zero]
  ·rw [getQ_hi (a:=a) (by omega),Rat.zero_mul]
 ·rfl
theorem cutn_mulQ {a b:List Rat} (ha:cutn a≠0) (hb:cutn b≠0):cutn (mulQ a b)=cutn a + cutn b - 1:=by
 rw [cutn_eq (n:=cutn a - 1 + (cutn b - 1)) (by rw [mulQ_get,conv_top ha hb]; exact mul_ne0 (cutn_top ha) (cutn_top hb)) fun m hm=>by rw [mulQ_get]; exact conv_hi (by omega)]
 omega
theorem cutn_pv {a b:List Rat} (h:∀ x,pv a x=pv b x):cutn a=cutn b:=cutn_congr (pv_inj h)
theorem cutn_cut (a:List Rat):cutn (cutQ a)=cutn a:=cutn_congr fun n=>getQ_cut a n
theorem pv_cutn0 {a:List Rat} (h:cutn a=0) (x:Rat):pv a x=0:=pv_zero (fun n=>getQ_hi (by omega)) x
theorem cutn_lt {a:List Rat} {n:Nat} (h:∀ m,n≤m→a.getD m 0=0):cutn a≤n:=by
 refine Nat.le_of_not_lt fun h1=>?_
 exact cutn_top (by omega) (h (cutn a - 1) (by omega))
theorem cutn_add {a b:List Rat}:cutn (addQ a b)≤max (cutn a) (cutn b):=cutn_lt fun m hm=>by rw [addQ_get,getQ_hi (a:=a) (by omega),getQ_hi (a:=b) (by omega),Rat.add_zero]
theorem mul_low {u q:List Rat} {w:List Rat} (h:∀ x,pv u x * pv q x=pv w x) (hw:cutn w < cutn q):cutn u=0:=by
 refine Decidable.byContradiction fun hu=>?_
 have h1:=cutn_mulQ (a:=u) (b:=q) hu (by omega)
 rw [cutn_pv (b:=w) fun x=>by rw [pv_mulQ,h]] at h1
 omega
theorem div_uniq {u v u' v' q:List Rat} (h:∀ x,pv u x * pv q x + pv v x=pv u' x * pv q x + pv v' x) (hv:cutn v < cutn q) (hv':cutn v' < cutn q):(∀ x,pv u x=pv u' x)∧∀ x,pv v x=pv v' x:=by
 have hu:cutn (addQ u (u'.map fun q=>-q))=0:=mul_low (w:=addQ v' (v.map fun q=>-q)) (q:=q) (fun x=>by
  rw [pv_add,pv_neg,pv_add,pv_neg]; have:=h x; grind) (by
  have h1:=cutn_add (a:=v') (b:=v.map fun q=>-q)
  have h2:cutn (v.map fun q=>-q)=cutn v:=by
   have e:(fun q:Rat=>-q)=fun q=>q / (-1):=funext fun q=>by grind
   rw [e]; exact cutn_scale (by decide) v
  omega)
 have h3:∀ x,pv u x=pv u' x:=fun x=>by
  have:=pv_cutn0 hu x
  rw [pv_add,pv_neg] at this
  grind
 exact ⟨h3,fun x=>by have:=h x; rw [h3 x] at this; grind⟩
end Go.Proofs.YtcankknlbljicaaGreatDoor

namespace Go.Proofs.YtcankknlbljicaaGreatDoor
set_option linter.unusedVariables false
theorem pow_s (x:Rat) (n:Nat):x ^ (n + 1)=x ^ n * x:=Rat.pow_succ x n
theorem pv_shift (s:Nat) (g:List Rat) (x:Rat):pv (List.replicate s 0 ++ g) x=x ^ s * pv g x:=by
 induction s with
 | zero=>rw [Rat.pow_zero,Rat.one_mul]; rfl
 | succ s ih =>
  rw [List.replicate_succ,List.cons_append]
  simp only [pv]
  rw [ih,pow_s]; grind
theorem shift_get (s:Nat) (g:List Rat) (n:Nat):(List.replicate s 0 ++ g).getD n 0=if s≤n then g.getD (n - s) 0 else 0:=by
 simp only [List.getD_eq_getElem?_getD]
 by_cases h:s≤n
 ·rw [List.getElem?_append_right (by simpa using h),if_pos h,List.length_replicate]
 ·rw [List.getElem?_append_left (by simpa using Nat.lt_of_not_le h),if_neg h]
  simp [Nat.lt_of_not_le h]
theorem pv_red {P G:List Rat} (h1 : 1≤G.length) (h2:G.length≤P.length) (x:Rat):pv (redQ P G) x=pv P x * G.getD (G.length - 1) 0 - P.getD (P.length - 1) 0 * (x ^ (P.length - G.length) * pv G x):=by
 have e:pv (redQ P G) x=pv (addQ (P.map fun q=>q * G.getD (G.length - 1) 0) ((List.replicate (P.length - G.length) 0 ++ G).map fun q=>q * (-P.getD (P.length - 1) 0))) x:=by
  refine pv_congr (fun n=>?_) x
  rw [addQ_get,getQ_mul,getQ_mul,shift_get]
  have hl:(G.take (G.length - 1)).length=G.length - 1:=by rw [List.length_take]; omega
  by_cases hn:n < P.length - 1
  ·unfold redQ
   rw [redI_get _ _ _ _ hn,hl]
   by_cases h3:P.length - G.length≤n
   ·rw [if_pos (by omega),if_pos h3,take_getQ,if_pos (by omega)]; grind
   ·rw [if_neg (by omega),if_neg h3]; grind
  ·rw [getQ_out (qs:=redQ P G) (by unfold redQ; rw [redI_len]; omega)]
   by_cases h4:n=P.length - 1
   ·subst h4
    rw [if_pos (by omega),show P.length - 1 - (P.length - G.length)=G.length - 1 by omega]; grind
   ·have hz:(if P.length - G.length≤n then G.getD (n - (P.length - G.length)) 0 else 0)=0:=by
     split
     ·exact getQ_out (by omega)
     ·rfl
    rw [getQ_out (qs:=P) (by omega),hz]; grind
 rw [e,pv_add,pv_mulc,pv_mulc,pv_shift]; grind
def dvS (F G:List Rat) (x:Rat) (t:Nat):Rat:=sumN t fun i=>(redN F G i).getD (F.length - i - 1) 0 / (G.getD (G.length - 1) 0 ^ i * G.getD (G.length - 1) 0) * x ^ (F.length - G.length - i)
theorem pv_redN {F G:List Rat} (h1 : 1≤G.length) (hl:G.getD (G.length - 1) 0≠0) (x:Rat):∀ t,t≤F.length + 1 - G.length→pv (redN F G t) x=G.getD (G.length - 1) 0 ^ t * (pv F x - dvS F G x t * pv G x)
 | 0,_=>by
  simp only [redN,dvS,sumN]
  rw [Rat.pow_zero]; grind
 | t + 1,ht=>by
  have hlen:=redN_len F G t
  rw [redN_succ,pv_red h1 (by omega),pv_redN h1 hl x t (by omega),hlen]
  simp only [dvS,sumN]
  rw [show F.length - t - G.length=F.length - G.length - t by omega,pow_s]
  have hp:=pow_ne0 hl t
  generalize sumN t _=S
  generalize G.getD (G.length - 1) 0 ^ t=L at *
  generalize G.getD (G.length - 1) 0=l at *
  generalize (redN F G t).getD (F.length - t - 1) 0=h
  have:=Rat.div_mul_cancel (a:=h) (b:=L * l) (mul_ne0 hp hl)
  generalize h / (L * l)=d at *
  subst this
  grind
theorem sumN_rev (n:Nat) (f:Nat→Rat):sumN n f=sumN n fun i=>f (n - 1 - i):=by
 induction n with
 | zero=>rfl
 | succ n ih =>
  rw [sumN_first n fun i=>f (n + 1 - 1 - i)]
  simp only [sumN]
  rw [ih,Nat.add_sub_cancel,Nat.sub_zero,Rat.add_comm]
  congr 1
  exact sumN_congr fun i hi=>by rw [show n - (i + 1)=n - 1 - i by omega]
theorem pv_sum (a:List Rat) (x:Rat):pv a x=sumN a.length fun i=>a.getD i 0 * x ^ i:=by
 induction a with
 | nil=>rfl
 | cons q r ih =>
  rw [List.length_cons,sumN_first,getQ_c0,Rat.pow_zero,Rat.mul_one]
  simp only [pv]
  rw [ih,Rat.mul_comm,← sumN_mul]
  congr 1
  exact sumN_congr fun i _=>by rw [getQ_cs,pow_s]; grind
theorem clq_pv (qs:List Rat) (x:Rat):pv (clq qs) x=pv qs x * clr qs:=by unfold clq; rw [pv_mulc,pv_cut]
theorem clq_cutn (qs:List Rat):(clq qs).length=cutn qs:=by unfold clq; rw [List.length_map,cutQ_length]
theorem dvq_pv {ps qs:List Rat} (h:(clq qs).length≠0) (x:Rat):pv (dvq ps qs) x * clr ps=dvS (clq ps) (clq qs) x (dvN ps qs) * clr qs:=by
 have hlen:=dvq_len (ps:=ps) (qs:=qs) (by omega)
 rw [pv_sum,hlen,← sumN_mul]
 unfold dvS
 rw [← sumN_mul,sumN_rev]
 have hl:=clq_lead h
 unfold dvN
 refine sumN_congr fun i hi=>?_
 rw [dvq_get (by omega) (by omega)]
 unfold quoC dvN
 rw [show (clq ps).length + 1 - (clq qs).length - ((clq ps).length + 1 - (clq qs).length - 1 - i + 1)=i by omega,show (clq ps).length + 1 - (clq qs).length - 1 - i + 1 + (clq qs).length - 2=(clq ps).length - i - 1 by omega,show (clq ps).length + 1 - (clq qs).length - 1 - i=(clq ps).length - (clq qs).length - i by omega]
 have hp:=pow_ne0 hl i
 have hc:=clr_ne ps
 generalize (clq qs).getD ((clq qs).length - 1) 0 ^ i=L at *
 generalize (clq qs).getD ((clq qs).length - 1) 0=l at *
 generalize (redN (clq ps) (clq qs) i).getD ((clq ps).length - i - 1) 0=h
 generalize x ^ ((clq ps).length - (clq qs).length - i)=y
 generalize clr ps=a at *
 generalize clr qs=b at *
 have e1:=Rat.div_mul_cancel (a:=h) (b:=L * l) (mul_ne0 hp hl)
 have e2:=Rat.div_mul_cancel (a:=h * b) (b:=a * L * l) (mul_ne0 (mul_ne0 hc hp) hl)
 generalize h / (L * l)=d at *
 generalize h * b / (a * L * l)=c at *
 have e3:(c * a - d * b) * (L * l)=0:=by grind
 have e4:=(Rat.mul_eq_zero.1 e3).resolve_right (mul_ne0 hp hl)
 have e5:c * a=d * b:=by grind
 grind
theorem div_pv {ps qs:List Rat} (h:(clq qs).length≠0) (x:Rat):pv ps x=pv (dvq ps qs) x * pv qs x + pv (dvr ps qs) x:=by
 have hl:=clq_lead h
 have h1:=dvq_pv (ps:=ps) h x
 have h2:=pv_redN (F:=clq ps) (G:=clq qs) (by omega) hl x (dvN ps qs) (Nat.le_refl _)
 have h3:pv (dvr ps qs) x=pv (redN (clq ps) (clq qs) (dvN ps qs)) x / (clr ps * (clq qs).getD ((clq qs).length - 1) 0 ^ dvN ps qs):=by
  unfold dvr; rw [if_neg h,pv_divc,pv_cut]
 rw [h3,h2]
 have hp:=pow_ne0 hl (dvN ps qs)
 rw [clq_pv,clq_pv] at *
 have hc:=clr_ne ps
 generalize (clq qs).getD ((clq qs).length - 1) 0 ^ dvN ps qs=L at *
 generalize dvS _ _ _ _=S at *
 generalize pv (dvq ps qs) x=u at *
 generalize clr ps=a at *
 generalize clr qs=b at *
 generalize pv ps x=p at *
 generalize pv qs x=q at *
 have e1:=Rat.div_mul_cancel (a:=L * (p * a - S * (q * b))) (b:=a * L) (mul_ne0 hc hp)
 generalize L * (p * a - S * (q * b)) / (a * L)=r at *
 have e3:(p - (u * q + r)) * (a * L)=0:=by grind
 have e4:=(Rat.mul_eq_zero.1 e3).resolve_right (mul_ne0 hc hp)
 grind
theorem dvr_low {ps qs:List Rat} (h:(clq qs).length≠0):cutn (dvr ps qs) < cutn qs:=by
 have h1:(dvr ps qs).length≤(clq ps).length - dvN ps qs:=by
  unfold dvr
  rw [if_neg h,List.length_map]
  exact Nat.le_trans (cutQ_le _) (by rw [redN_len]; exact Nat.le_refl _)
 have h2:=cutn_le (dvr ps qs)
 rw [clq_cutn qs] at h
 unfold dvN at h1
 rw [clq_cutn qs] at h1
 omega

theorem evN_drop (a:List Rat) (x:Rat):∀ t,t≤a.length→evN a x t=pv (a.drop (a.length - t)) x
 | 0,_=>by rw [Nat.sub_zero,List.drop_length]; rfl
 | t + 1,ht=>by
  have h1:a.drop (a.length - (t + 1))=a.getD (a.length - t - 1) 0 :: a.drop (a.length - t):=by
   rw [List.drop_eq_getElem_cons (show a.length - (t + 1) < a.length by omega),show a.length - (t + 1) + 1=a.length - t by omega]
   congr 1
   rw [List.getD_eq_getElem?_getD,show a.length - t - 1=a.length - (t + 1) by omega,List.getElem?_eq_getElem (show a.length - (t + 1) < a.length by omega)]; rfl
  rw [h1]
  simp only [evN,pv]
  rw [evN_drop a x t (by omega)]; grind
theorem evN_pv (a:List Rat) (x:Rat):evN a x a.length=pv a x:=by
 rw [evN_drop a x _ (Nat.le_refl _),Nat.sub_self]; rfl
theorem ofN_pv {f g:List Rat} {d:Rat} (hd:d≠0) (x:Rat):∀ i,pv (ofN f g d i) x=d ^ i * evN f (pv g x / d) i
 | 0=>by simp only [ofN,pv,evN]; exact (Rat.mul_zero _).symm
 | i + 1=>by
  simp only [ofN,evN]
  rw [pv_add,pv_mulQ,ofN_pv hd x i,pow_s]
  simp only [pv]
  have e:=Rat.div_mul_cancel (a:=pv g x) hd
  generalize pv g x / d=y at *
  rw [← e]; grind
theorem com_pv (ps qs:List Rat) (x:Rat):pv (comP ps qs) x=pv ps (pv qs x):=by
 have hq:=clr_ne qs
 have hp:=clr_ne ps
 unfold comP
 rw [pv_divc,pv_cut,ofN_pv hq,evN_pv,clq_pv,clq_pv,mul_div_cancel0 hq]
 have hn:=pow_ne0 hq (clq ps).length
 generalize clr qs ^ (clq ps).length=D at *
 generalize clr ps=a at *
 rw [show D * (pv ps (pv qs x) * a)=pv ps (pv qs x) * (a * D) by grind]
 exact mul_div_cancel0 (mul_ne0 hp hn)
theorem val_pv (ps:List Rat) (x:Rat):(comP ps [x]).getD 0 0=pv ps x:=by
 rw [pv_inj (a:=comP ps [x]) (b:=[pv ps x]) (fun z=>by rw [com_pv]; simp only [pv]; rw [show x + z * 0=x by grind]; grind) 0,getQ_c0]
theorem powN_pv (f:List Rat) (x:Rat):∀ i,pv (powN f i) x=pv f x ^ i
 | 0=>by simp only [powN,pv]; rw [Rat.pow_zero,Rat.mul_zero,Rat.add_zero]; rfl
 | i + 1=>by simp only [powN]; rw [pv_mulQ,powN_pv f x i,pow_s]

theorem pvd_congr {a b:List Rat} (h:∀ x,pv a x=pv b x) (x:Rat):pvd a x=pvd b x:=by
 rw [← pv_der,← pv_der]
 exact pv_congr (fun n=>by rw [derQ_get,derQ_get,pv_inj h]) x
theorem pvd_addL:∀ (a b:List Rat) (x:Rat),pvd (addL a b) x=pvd a x + pvd b x
 | [],b,x=>by simp only [addL,pvd]; grind
 | q :: r,[],x=>by simp only [addL,pvd]; grind
 | q :: r,p :: s,x=>by simp only [addL,pvd,pv_addL,pvd_addL r s x]; grind
theorem pvd_mulc (a:List Rat) (c x:Rat):pvd (a.map fun q=>q * c) x=pvd a x * c:=by
 induction a with
 | nil=>simp [pvd,Rat.zero_mul]
 | cons q r ih=>simp only [List.map_cons,pvd,ih,pv_mulc]; grind
theorem pvd_mulL:∀ (a b:List Rat) (x:Rat),pvd (mulL a b) x=pvd a x * pv b x + pv a x * pvd b x
 | [],b,x=>by simp only [mulL,pv,pvd]; grind
 | q :: r,b,x=>by simp only [mulL,pvd_addL,pvd_mulc,pv,pvd,pvd_mulL r b x,pv_mulL]; grind
theorem pvd_mul {a b c:List Rat} (h:∀ x,pv c x=pv a x * pv b x) (x:Rat):pvd c x=pvd a x * pv b x + pv a x * pvd b x:=by
 rw [← pvd_mulL]; exact pvd_congr (fun x=>by rw [h,pv_mulL]) x
theorem pvd_pow {a:List Rat} (x:Rat):∀ (n:Nat) (c:List Rat),(∀ x,pv c x=pv a x ^ n)→pvd c x=((n:Int):Rat) * (pv a x ^ (n - 1) * pvd a x)
 | 0,c,h=>by
  have e:=pvd_congr (a:=c) (b:=[1]) (fun x=>by rw [h,Rat.pow_zero]; simp only [pv]; grind) x
  rw [e]; simp only [pvd,pv]
  rw [show (((0:Nat):Int):Rat)=0 from rfl]; grind
 | n + 1,c,h=>by
  have h1:=pvd_mul (a:=powN a n) (b:=a) (c:=c) (fun x=>by rw [h,powN_pv,pow_s]) x
  rw [pvd_pow x n (powN a n) fun x=>powN_pv a x n,powN_pv] at h1
  have e:(((n + 1:Nat):Int):Rat)=((n:Int):Rat) + 1:=by rw [Int.natCast_add,Rat.intCast_add]; rfl
  rw [h1,e,Nat.add_sub_cancel]
  cases n with
  | zero=>rw [show (((0:Nat):Int):Rat)=0 from rfl]; grind
  | succ n =>
   rw [Nat.add_sub_cancel,pow_s]
   generalize pv a x ^ n=y
   grind
end Go.Proofs.YtcankknlbljicaaGreatDoor

namespace Go.Proofs.YtcankknlbljicaaGreatDoor
set_option linter.unusedVariables false

def Bi (q:Rat) (B:Nat):Prop:=∃ n:Int,q=(n:Rat)∧n.natAbs≤B
theorem Bi.mono {q:Rat} {B C:Nat} (h:Bi q B) (hl:B≤C):Bi q C:=by
 obtain ⟨n,e,h1⟩:=h; exact ⟨n,e,Nat.le_trans h1 hl⟩
theorem Bi.mul {p q:Rat} {B C:Nat} (h1:Bi p B) (h2:Bi q C):Bi (p * q) (B * C):=by
 obtain ⟨n,rfl,a⟩:=h1
 obtain ⟨m,rfl,b⟩:=h2
 exact ⟨n * m,(Rat.intCast_mul n m).symm,by rw [Int.natAbs_mul]; exact Nat.mul_le_mul a b⟩
theorem Bi.add {p q:Rat} {B C:Nat} (h1:Bi p B) (h2:Bi q C):Bi (p + q) (B + C):=by
 obtain ⟨n,rfl,a⟩:=h1
 obtain ⟨m,rfl,b⟩:=h2
 exact ⟨n + m,(Rat.intCast_add n m).symm,by omega⟩
theorem Bi.sub {p q:Rat} {B C:Nat} (h1:Bi p B) (h2:Bi q C):Bi (p - q) (B + C):=by
 obtain ⟨n,rfl,a⟩:=h1
 obtain ⟨m,rfl,b⟩:=h2
 exact ⟨n - m,(Rat.intCast_sub n m).symm,by omega⟩
theorem Bi.zero (B:Nat):Bi 0 B:=⟨0,rfl,Nat.zero_le _⟩
theorem Bi.int {z:Int} {B:Nat} (h:z.natAbs≤B):Bi (z:Rat) B:=⟨z,rfl,h⟩
theorem Bi.pow {q:Rat} {B:Nat} (h:Bi q B):∀ n:Nat,Bi (q ^ n) (B ^ n)
 | 0=>by rw [Rat.pow_zero]; exact ⟨1,rfl,by simp⟩
 | n + 1=>by rw [Rat.pow_succ,Nat.pow_succ]; exact (Bi.pow h n).mul h
theorem Bi.sz {q:Rat} {B k:Nat} (h:Bi q B) (hB:B < 4294967296 ^ k) (hk : 1≤k):Sz q k:=by
 obtain ⟨n,rfl,a⟩:=h
 exact Sz.int (Nat.lt_of_le_of_lt a hB) hk
theorem Bi.sumN {n:Nat} {f:Nat→Rat} {B:Nat} (h:∀ i,i < n→Bi (f i) B):Bi (sumN n f) (n * B):=by
 induction n with
 | zero=>exact Bi.zero _
 | succ n ih=>unfold Go.Proofs.YtcankknlbljicaaGreatDoor.sumN; rw [Nat.succ_mul]; exact (ih fun i hi=>h i (by omega)).add (h n (by omega))
def PX (qs:List Rat) (C B:Nat):Prop:=0 < C∧∀ j,Bi (qs.getD j 0 * ((C:Int):Rat)) B
theorem nat_ne0 {C:Nat} (h : 0 < C):((C:Int):Rat)≠0:=fun e=>by
 have:=Rat.intCast_eq_zero_iff.1 e
 omega
theorem rat_mk {q:Rat} {C:Nat} {n:Int} (h : 0 < C) (e:q * ((C:Int):Rat)=(n:Rat)):q=mkRat n C:=by
 rw [Rat.mkRat_eq_div,← e]
 exact (Rat.mul_div_cancel (nat_ne0 h)).symm
theorem den_dvdC {q:Rat} {C:Nat} {n:Int} (h : 0 < C) (e:q * ((C:Int):Rat)=(n:Rat)):q.den ∣ C:=by
 rw [rat_mk h e,Rat.den_mkRat,if_neg (by omega)]
 exact Nat.div_dvd_of_dvd (Nat.gcd_dvd_left _ _)
theorem PX.sz {qs:List Rat} {C B k:Nat} (h:PX qs C B) (hC:C < 4294967296 ^ k) (hB:B < 4294967296 ^ k) (j:Nat):Sz (qs.getD j 0) k:=by
 obtain ⟨n,e,a⟩:=h.2 j
 rw [rat_mk h.1 e]
 exact Sz.of (by have:=h.1; omega) (Nat.lt_of_le_of_lt a hB) hC
theorem PX.mono {qs:List Rat} {C B B':Nat} (h:PX qs C B) (hB:B≤B'):PX qs C B':=⟨h.1,fun j=>(h.2 j).mono hB⟩
theorem PX.congr {ps qs:List Rat} {C B:Nat} (h:PX ps C B) (e:∀ j,qs.getD j 0=ps.getD j 0):PX qs C B:=⟨h.1,fun j=>by rw [e]; exact h.2 j⟩
theorem PX.cut {qs:List Rat} {C B:Nat} (h:PX qs C B):PX (cutQ qs) C B:=h.congr fun j=>getQ_cut qs j
theorem PX.up {qs:List Rat} {C B:Nat} (h:PX qs C B) (m:Nat) (hm : 0 < m):PX qs (C * m) (B * m) :=
 ⟨Nat.mul_pos h.1 hm,fun j=>by
  rw [Int.natCast_mul,Rat.intCast_mul,← Rat.mul_assoc]
  exact (h.2 j).mul (Bi.int (by omega))⟩
theorem PX.mulQ {ps qs:List Rat} {C D A B:Nat} (h1:PX ps C A) (h2:PX qs D B):PX (mulQ ps qs) (C * D) (ps.length * (A * B)) :=
 ⟨Nat.mul_pos h1.1 h2.1,fun j=>by
  rw [mulQ_get,conv,← sumN_mul]
  refine Bi.sumN fun i hi=>?_
  split
  ·rw [Int.natCast_mul,Rat.intCast_mul,show ps.getD i 0 * qs.getD (j - i) 0 * (((C:Int):Rat) * ((D:Int):Rat))=(ps.getD i 0 * ((C:Int):Rat)) * (qs.getD (j - i) 0 * ((D:Int):Rat)) by grind]
   exact (h1.2 i).mul (h2.2 _)
  ·rw [Rat.zero_mul]; exact Bi.zero _⟩
theorem PX.mul {ps qs:List Rat} {C D A B L:Nat} (h1:PX ps C A) (h2:PX qs D B) (hL:ps.length≤L):PX (mulP ps qs) (C * D) (L * (A * B)):=by
 unfold mulP
 exact ((h1.cut.mulQ h2.cut).cut).mono (Nat.mul_le_mul_right _ (Nat.le_trans (cutQ_le ps) hL))
theorem PX.clr_dvd {qs:List Rat} {C B:Nat} (h:PX qs C B):∀ i,i≤qs.length→∃ d:Nat,clr (qs.take i)=((d:Int):Rat)∧d ∣ C∧∀ j,j < i→∃ n:Int,qs.getD j 0 * ((d:Int):Rat)=(n:Rat)
 | 0,_=>⟨1,rfl,Nat.one_dvd _,fun j hj=>absurd hj (Nat.not_lt_zero j)⟩
 | i + 1,hi=>by
  obtain ⟨d,e,⟨m,hm⟩,h1⟩:=PX.clr_dvd h i (by omega)
  have hC:=h.1
  have hm0 : 0 < m:=Nat.pos_of_ne_zero fun e=>by rw [hm,e] at hC; omega
  obtain ⟨n,hn,_⟩:=h.2 i
  have hd:(qs.getD i 0 * ((d:Int):Rat)).den ∣ m:=den_dvdC (n:=n) hm0 (by rw [Rat.mul_assoc,← Rat.intCast_mul,← Int.natCast_mul,← hm]; exact hn)
  refine ⟨d * (qs.getD i 0 * ((d:Int):Rat)).den,?_,?_,fun j hj=>?_⟩
  ·rw [clr_succ (by omega),e,Int.natCast_mul,Rat.intCast_mul]
  ·rw [hm]; exact Nat.mul_dvd_mul_left d hd
  ·rw [Int.natCast_mul,Rat.intCast_mul,← Rat.mul_assoc]
   by_cases hj2:j < i
   ·obtain ⟨n,hn⟩:=h1 j hj2
    rw [hn,← Rat.intCast_mul]
    exact ⟨_,rfl⟩
   ·obtain rfl:j=i:=by omega
    exact ⟨(qs.getD j 0 * ((d:Int):Rat)).num,by
     have:=Rat.mul_inv_cancel
     rw [Rat.mul_comm]
     generalize qs.getD j 0 * ((d:Int):Rat)=q
     have e1:=Rat.mkRat_self q
     rw [Rat.mkRat_eq_div] at e1
     have e2:((q.den:Int):Rat)≠0:=nat_ne0 q.den_pos
     have e3:=Rat.div_mul_cancel (a:=((q.num:Int):Rat)) e2
     have e4:((q.num:Int):Rat) / ((q.den:Int):Rat)=q:=e1
     rw [e4] at e3
     rw [Rat.mul_comm]; exact e3⟩
theorem PX.clr_bi {qs:List Rat} {C B:Nat} (h:PX qs C B):Bi (clr qs) C:=by
 obtain ⟨d,e,hd,_⟩:=PX.clr_dvd h qs.length (Nat.le_refl _)
 rw [List.take_length] at e
 rw [e]
 exact Bi.int (Nat.le_of_dvd h.1 hd)
theorem PX.clq_bi {qs:List Rat} {C B:Nat} (h:PX qs C B) (j:Nat):Bi ((clq qs).getD j 0) B:=by
 obtain ⟨d,e,⟨m,hm⟩,h1⟩:=PX.clr_dvd h qs.length (Nat.le_refl _)
 rw [List.take_length] at e
 unfold clq
 rw [getQ_mul,getQ_cut,e]
 by_cases hj:j < qs.length
 ·obtain ⟨n,hn⟩:=h1 j hj
  obtain ⟨n2,hn2,hb⟩:=h.2 j
  refine ⟨n,hn,?_⟩
  have h3:(n:Rat) * ((m:Int):Rat)=(n2:Rat):=by rw [← hn,← hn2,hm,Rat.mul_assoc,← Rat.intCast_mul,← Int.natCast_mul]
  rw [← Rat.intCast_mul] at h3
  have h4:=Rat.intCast_inj.1 h3
  have hC:=h.1
  have hm0 : 0 < m:=Nat.pos_of_ne_zero fun e=>by rw [hm,e] at hC; omega
  have h5:n.natAbs * m=n2.natAbs:=by rw [← h4,Int.natAbs_mul]; rfl
  have h6:n.natAbs≤n.natAbs * m:=Nat.le_mul_of_pos_right _ hm0
  omega
 ·rw [getQ_out (by omega),Rat.zero_mul]; exact Bi.zero _
def PB (qs:List Rat) (C B:Nat):Prop:=∃ c,c≤C∧PX qs c B
theorem PX.pb {qs:List Rat} {C B:Nat} (h:PX qs C B):PB qs C B:=⟨C,Nat.le_refl _,h⟩
theorem PB.pos {qs:List Rat} {C B:Nat} (h:PB qs C B) : 0 < C:=by
 obtain ⟨c,h1,h2⟩:=h; exact Nat.lt_of_lt_of_le h2.1 h1
theorem PB.sz {qs:List Rat} {C B k:Nat} (h:PB qs C B) (hC:C < 4294967296 ^ k) (hB:B < 4294967296 ^ k) (j:Nat):Sz (qs.getD j 0) k:=by
 obtain ⟨c,h1,h2⟩:=h; exact h2.sz (Nat.lt_of_le_of_lt h1 hC) hB j
theorem PB.mono {qs:List Rat} {C B C' B':Nat} (h:PB qs C B) (hC:C≤C') (hB:B≤B'):PB qs C' B':=by
 obtain ⟨c,h1,h2⟩:=h; exact ⟨c,Nat.le_trans h1 hC,h2.mono hB⟩
theorem PB.cut {qs:List Rat} {C B:Nat} (h:PB qs C B):PB (cutQ qs) C B:=by
 obtain ⟨c,h1,h2⟩:=h; exact ⟨c,h1,h2.cut⟩
theorem PB.mul {ps qs:List Rat} {C D A B L:Nat} (h1:PB ps C A) (h2:PB qs D B) (hL:ps.length≤L):PB (mulP ps qs) (C * D) (L * (A * B)):=by
 obtain ⟨c,a1,a2⟩:=h1
 obtain ⟨d,b1,b2⟩:=h2
 exact ⟨c * d,Nat.mul_le_mul a1 b1,a2.mul b2 hL⟩
theorem PX.add {ps qs:List Rat} {C A B:Nat} (h1:PX ps C A) (h2:PX qs C B):PX (addQ ps qs) C (A + B) :=
 ⟨h1.1,fun j=>by rw [addQ_get,Rat.add_mul]; exact (h1.2 j).add (h2.2 j)⟩
theorem PB.add {ps qs:List Rat} {C D A B:Nat} (h1:PB ps C A) (h2:PB qs D B):PB (addQ ps qs) (C * D) (A * D + B * C):=by
 obtain ⟨c,a1,a2⟩:=h1
 obtain ⟨d,b1,b2⟩:=h2
 have e2:=b2.up c a2.1
 rw [Nat.mul_comm d c] at e2
 exact ⟨c * d,Nat.mul_le_mul a1 b1,((a2.up d b2.1).add e2).mono (Nat.add_le_add (Nat.mul_le_mul_left _ b1) (Nat.mul_le_mul_left _ a1))⟩
theorem clr_bi {qs:List Rat} {C B:Nat} (h:PB qs C B):Bi (clr qs) C:=by
 obtain ⟨c,h1,h2⟩:=h; exact h2.clr_bi.mono h1
theorem clq_bi {qs:List Rat} {C B:Nat} (h:PB qs C B) (j:Nat):Bi ((clq qs).getD j 0) B:=by
 obtain ⟨c,h1,h2⟩:=h; exact h2.clq_bi j
theorem PB.sgl {x:Rat} {C B:Nat} (hC : 0 < C) (h:Bi (x * ((C:Int):Rat)) B):PB [x] C B:=PX.pb ⟨hC,fun j=>by
 cases j with
 | zero=>exact h
 | succ j=>rw [getQ_cs,getQ_nil,Rat.zero_mul]; exact Bi.zero _⟩
theorem PB.one {qs:List Rat} {C B:Nat} (h:PB qs C B) (j:Nat):PB [qs.getD j 0] C B:=by
 obtain ⟨c,h1,h2⟩:=h
 exact (PB.sgl h2.1 (h2.2 j)).mono h1 (Nat.le_refl _)
theorem red_get {P G:List Rat} (h1 : 1≤G.length) (h2:G.length≤P.length) (n:Nat):(redQ P G).getD n 0=P.getD n 0 * G.getD (G.length - 1) 0 - P.getD (P.length - 1) 0 * (if P.length - G.length≤n then G.getD (n - (P.length - G.length)) 0 else 0):=by
 have hl:(G.take (G.length - 1)).length=G.length - 1:=by rw [List.length_take]; omega
 by_cases hn:n < P.length - 1
 ·unfold redQ
  rw [redI_get _ _ _ _ hn,hl]
  by_cases h3:P.length - G.length≤n
  ·rw [if_pos (by omega),if_pos h3,take_getQ,if_pos (by omega)]
  ·rw [if_neg (by omega),if_neg h3,Rat.mul_zero]
 ·rw [getQ_out (qs:=redQ P G) (by unfold redQ; rw [redI_len]; omega)]
  by_cases h4:n=P.length - 1
  ·subst h4
   rw [if_pos (by omega),show P.length - 1 - (P.length - G.length)=G.length - 1 by omega]; grind
  ·have hz:(if P.length - G.length≤n then G.getD (n - (P.length - G.length)) 0 else 0)=0:=by
    split
    ·exact getQ_out (by omega)
    ·rfl
   rw [getQ_out (qs:=P) (by omega),hz]; grind
theorem redN_bi1 {F G:List Rat} {A B:Nat} (hF:∀ j,Bi (F.getD j 0) A) (hG:∀ j,Bi (G.getD j 0) B) (h1 : 1≤G.length):∀ t,t≤F.length + 1 - G.length→∀ j,Bi ((redN F G t).getD j 0) (A * (2 * B) ^ t)
 | 0,_,j=>by rw [Nat.pow_zero,Nat.mul_one]; exact hF j
 | t + 1,ht,j=>by
  have ih:=redN_bi1 hF hG h1 t (by omega)
  rw [redN_succ,red_get h1 (by rw [redN_len]; omega),Nat.pow_succ,show A * ((2 * B) ^ t * (2 * B))=A * (2 * B) ^ t * B + A * (2 * B) ^ t * B by rw [← Nat.mul_assoc,Nat.mul_comm 2 B,← Nat.mul_assoc,Nat.mul_two]]
  refine ((ih j).mul (hG _)).sub ((ih _).mul ?_)
  split
  ·exact hG _
  ·exact Bi.zero _
theorem redQ_nil {P G:List Rat} (h:G.length=0) (j:Nat):(redQ P G).getD j 0=0:=by
 obtain rfl:=List.eq_nil_of_length_eq_zero h
 show (red0 P []).getD j 0=0
 unfold red0
 rw [getQ_mul,getQ_nil,Rat.mul_zero]
theorem redN_bi {F G:List Rat} {A B:Nat} (hF:∀ j,Bi (F.getD j 0) A) (hG:∀ j,Bi (G.getD j 0) B) (t:Nat) (ht:t≤F.length + 1 - G.length) (j:Nat):Bi ((redN F G t).getD j 0) (A * (2 * B) ^ t):=by
 by_cases h:G.length=0
 ·cases t with
  | zero=>rw [Nat.pow_zero,Nat.mul_one]; exact hF j
  | succ t=>rw [redN_succ,redQ_nil h]; exact Bi.zero _
 ·exact redN_bi1 hF hG (by omega) t ht j
theorem redN_szs {ps qs:List Rat} {C A D B k N:Nat} (hp:PB ps C A) (hq:PB qs D B) (hN:(clq ps).length + 1 - (clq qs).length≤N) (hB : 1≤B) (hk:A * (2 * B) ^ N < 4294967296 ^ k) (hk1 : 1≤k) (t l:Nat) (ht:t≤(clq ps).length + 1 - (clq qs).length):Sz ((redN (clq ps) (clq qs) t).getD l 0) k:=by
 refine (redN_bi (fun j=>clq_bi hp j) (fun j=>clq_bi hq j) t ht l).sz (Nat.lt_of_le_of_lt ?_ hk) hk1
 exact Nat.mul_le_mul_left _ (Nat.pow_le_pow_right (by omega) (by omega))
theorem den_szs {ps qs:List Rat} {C A D B k N:Nat} (hp:PB ps C A) (hq:PB qs D B) (hN:(clq ps).length + 1 - (clq qs).length≤N) (hB : 1≤B) (hk:C * B ^ N < 4294967296 ^ k) (hk1 : 1≤k) (t:Nat) (ht:t≤(clq ps).length + 1 - (clq qs).length):Sz (clr ps * (clq qs).getD ((clq qs).length - 1) 0 ^ t) k :=
 ((clr_bi hp).mul ((clq_bi hq _).pow t)).sz (Nat.lt_of_le_of_lt (Nat.mul_le_mul_left _ (Nat.pow_le_pow_right hB (by omega))) hk) hk1
theorem dvN_le {ps qs:List Rat} {n:Nat} (h:ps.length≤n):(clq ps).length + 1 - (clq qs).length≤n + 1:=by
 have:=clq_len ps
 omega
end Go.Proofs.YtcankknlbljicaaGreatDoor
