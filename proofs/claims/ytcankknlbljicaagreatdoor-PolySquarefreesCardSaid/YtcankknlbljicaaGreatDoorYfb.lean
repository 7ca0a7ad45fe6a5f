/-  -/
import Derived.Test.YtcankknlbljicaaGreatDoorYec
import Derived.Test.YtcankknlbljicaaGreatDoorYfa
import Derived.OwnWalk

set_option linter.unusedVariables false
set_option linter.unusedSimpArgs false
set_option linter.unusedSectionVars false
set_option maxRecDepth 100000
set_option maxHeartbeats 3200000

namespace Go.Proofs.YtcankknlbljicaaGreatDoor
open Go.RowKit Num

def cutn:List Rat→Nat
 | []=>0
 | q :: r=>if cutn r=0 then (if q=0 then 0 else 1) else cutn r + 1
theorem cutn_le:∀ qs:List Rat,cutn qs≤qs.length
 | []=>Nat.le_refl _
 | q :: r=>by
  have:=cutn_le r
  simp only [cutn,List.length_cons]
  split
  ·split <;> omega
  ·omega
abbrev cutQ (qs:List Rat):List Rat:=qs.take (cutn qs)
theorem cutQ_le (qs:List Rat):(cutQ qs).length≤qs.length:=by unfold cutQ; rw [List.length_take]; omega
theorem cutn_zero:∀ qs:List Rat,cutn (qs ++ [0])=cutn qs
 | []=>by simp [cutn]
 | q :: r=>by simp only [List.cons_append,cutn,cutn_zero r]
theorem cutn_last {x:Rat} (hx:x≠0):∀ qs:List Rat,cutn (qs ++ [x])=qs.length + 1
 | []=>by simp [cutn,hx]
 | q :: r=>by
  simp only [List.cons_append,cutn,cutn_last hx r,List.length_cons]
  rw [if_neg (by omega)]
theorem take_succ_getD {qs:List Rat} {n:Nat} (h:n < qs.length):qs.take (n + 1)=qs.take n ++ [qs.getD n 0]:=by
 rw [List.take_add_one,List.getElem?_eq_getElem h]; simp [h]
theorem sgnQ_zero {q:Rat}:sgnQ q=0 ↔ q=0:=by
 unfold sgnQ sgn
 rw [← Rat.num_eq_zero (q:=q)]
 constructor
 ·intro h
  split at h
  ·cases h
  ·split at h
   ·assumption
   ·cases h
 ·intro h; rw [h]; rfl
theorem deg_t {n:Nat} {q:Rat} (h:(decide ((0:Int)≤(n:Int) - 1) && decide (sgnQ q=0))=true) : 1≤n∧q=0:=by
 simp only [Bool.and_eq_true,decide_eq_true_eq] at h
 exact ⟨by omega,sgnQ_zero.1 h.2⟩
theorem deg_next {qs:List Rat} {n:Nat} (h:n≤qs.length∧cutn qs=cutn (qs.take n)) (h1 : 1≤n) (h2:qs.getD (n - 1) 0=0):n - 1≤qs.length∧cutn qs=cutn (qs.take (n - 1)):=by
 obtain ⟨m,rfl⟩:∃ m,n=m + 1:=⟨n - 1,by omega⟩
 rw [Nat.add_sub_cancel] at h2 ⊢
 refine ⟨by omega,?_⟩
 rw [h.2,take_succ_getD (by omega),h2,cutn_zero]
theorem deg_end {qs:List Rat} {n:Nat} (h:n≤qs.length∧cutn qs=cutn (qs.take n)) (h2:(decide ((0:Int)≤(n:Int) - 1) && decide (sgnQ (qs.getD (n - 1) 0)=0))=false):Value.int .i64 ((n:Int) - 1) = .int .i64 ((cutn qs:Int) - 1):=by
 have e:cutn qs=n:=by
  rw [h.2]
  cases n with
  | zero=>simp [cutn]
  | succ m =>
   rw [Nat.add_sub_cancel] at h2
   have hz:qs.getD m 0≠0:=fun e=>by
    rw [e] at h2
    have:(0:Int)≤((m + 1:Nat):Int) - 1:=by omega
    simp [sgnQ_zero.2 rfl,this] at h2
   rw [take_succ_getD (by omega),cutn_last hz,List.length_take,Nat.min_eq_left (by omega)]
 rw [e]
theorem retC {P:Program} {f:FuncId} {vs:Array Value} {w:World} {q:Rat} {k:Nat} {O O':Bs} (h:Calls P f vs w (RetM (mC q k) O w)):Calls P f vs w (RetM (mC q k) O' w):=h.mono fun _ _ r=>by
 obtain ⟨v,h1,h2,h3⟩:=r
 exact ⟨v,h1,h2,h3⟩
theorem getD_map {F:Rat→Rat} {qs:List Rat} {j:Nat} (h:j < qs.length):(qs.map F).getD j 0=F (qs.getD j 0):=by
 simp [List.getD_eq_getElem?_getD,List.getElem?_map,List.getElem?_eq_getElem h]
theorem rowC_end {n i:Nat} {f:Nat→Rat} {K:Nat} {B:Nat→MP} {rs:List Rat} {l:Nat} {m m':MP} {O:Bs} {w:World} {v:Value} (hi:n≤i) (h1:(rowI n i (fun j=>mC (f j) K) B)[l]?=some m) (h2:(lC rs K)[l]?=some m') (hl:rs.length=n) (hf:∀ j,j < n→rs.getD j 0=f j) (h:m.S O w v):m'.S O w v:=by
 obtain ⟨h3,rfl⟩:=lC_lt h2
 rw [hl] at h3
 rw [rowI_get h3,if_pos (by omega)] at h1
 obtain rfl:=Option.some.inj h1
 rw [hf l h3]
 exact h
theorem getQ_out {qs:List Rat} {i:Nat} (h:qs.length≤i):qs.getD i 0=0:=by
 simp [List.getD_eq_getElem?_getD,List.getElem?_eq_none h]
theorem zeq_ne {p:Rat} (h:p≠0):zeq p=0:=if_neg h
def addQ (ps qs:List Rat):List Rat:=(List.range (max ps.length qs.length)).map fun j=>ps.getD j 0 + qs.getD j 0
theorem addQ_len {ps qs:List Rat}:(addQ ps qs).length=max ps.length qs.length:=by simp [addQ]
theorem addQ_get {ps qs:List Rat} {j:Nat}:(addQ ps qs).getD j 0=ps.getD j 0 + qs.getD j 0:=by
 by_cases h:j < max ps.length qs.length
 ·simp [addQ,List.getD_eq_getElem?_getD,List.getElem?_map,List.getElem?_range h]
 ·rw [getQ_out (by rw [addQ_len]; omega),getQ_out (by omega),getQ_out (by omega),Rat.add_zero]
def dQ (qs:List Rat) (i:Nat):List Rat:=(List.range (i - 1)).map fun j=>(((j + 1:Nat):Int):Rat) * qs.getD (j + 1) 0
def derQ (qs:List Rat):List Rat:=dQ qs qs.length
theorem dQ_len (qs:List Rat) (i:Nat):(dQ qs i).length=i - 1:=by simp [dQ]
theorem dQ_next {qs:List Rat} {i:Nat} (h : 0 < i):dQ qs i ++ [((i:Int):Rat) * qs.getD i 0]=dQ qs (i + 1):=by
 obtain ⟨n,rfl⟩:∃ n,i=n + 1:=⟨i - 1,by omega⟩
 unfold dQ
 rw [Nat.add_sub_cancel,Nat.add_sub_cancel,List.range_succ,List.map_append]
 rfl
theorem dQ_zero {qs:List Rat} {i:Nat} (h:i=0):dQ qs i=dQ qs (i + 1):=by subst h; rfl
theorem derQ_of {qs:List Rat} {i:Nat} (h:i=qs.length):dQ qs i=derQ qs:=by rw [h]; rfl
theorem isC.szC {q:Rat} {k:Nat} {w:World} {v:Value} (h:isC q k w v):Sz q k:=by
 obtain ⟨ao,c,ad,d,_,_,_,h3⟩:=h
 exact h3
def clr (qs:List Rat):Rat:=qs.foldl (fun d c=>d * ((((c * d).den:Nat):Int):Rat)) 1
theorem clr_succ {qs:List Rat} {i:Nat} (h:i < qs.length):clr (qs.take (i + 1))=clr (qs.take i) * ((((qs.getD i 0 * clr (qs.take i)).den:Nat):Int):Rat):=by
 unfold clr
 rw [take_succ_getD h,List.foldl_append]
 rfl
theorem clr_all {qs:List Rat} {i:Nat} (h:i=qs.length):clr (qs.take i)=clr qs:=by rw [h,List.take_length]
theorem clr_nat (qs:List Rat):∃ n:Nat,0 < n∧clr qs=((n:Int):Rat):=by
 have key:∀ (l:List Rat) (d:Rat),(∃ n:Nat,0 < n∧d=((n:Int):Rat))→∃ n:Nat,0 < n∧l.foldl (fun d c=>d * ((((c * d).den:Nat):Int):Rat)) d=((n:Int):Rat):=by
  intro l
  induction l with
  | nil=>intro d h; exact h
  | cons c r ih =>
   rintro d ⟨n,hn,rfl⟩
   refine ih _ ⟨n * (c * ((n:Int):Rat)).den,Nat.mul_pos hn (Rat.den_pos _),?_⟩
   rw [Int.natCast_mul,Rat.intCast_mul]
 exact key qs 1 ⟨1,Nat.one_pos,rfl⟩
theorem den_mul_int (c:Rat) (n:Int):(c * (n:Rat)).den≤c.den:=by
 have h:c * (n:Rat)=mkRat (c.num * n) c.den:=by
  have:=Rat.mul_def' c (n:Rat)
  rw [this]
  show mkRat (c.num * n) (c.den * 1)=_
  rw [Nat.mul_one]
 rw [h]
 exact (low_le c.den_nz).2
theorem clr_sz {qs:List Rat} {k:Nat} (hs:∀ j,Sz (qs.getD j 0) (k + 1)) {i L:Nat} (hi:i < qs.length) (hL:qs.length≤L):Sz (clr (qs.take (i + 1))) (L * (k + 2) + 2):=by
 have key:∀ i,i≤qs.length→∃ n:Nat,0 < n∧clr (qs.take i)=((n:Int):Rat)∧n < 4294967296 ^ (i * (k + 1) + 1):=by
  intro i
  induction i with
  | zero=>intro _; exact ⟨1,Nat.one_pos,rfl,Nat.one_lt_pow (by omega) (by omega)⟩
  | succ i ih =>
   intro hi
   obtain ⟨n,h1,h2,h3⟩:=ih (by omega)
   refine ⟨n * (qs.getD i 0 * ((n:Int):Rat)).den,Nat.mul_pos h1 (Rat.den_pos _),?_,?_⟩
   ·rw [clr_succ (by omega),h2,Int.natCast_mul,Rat.intCast_mul]
   ·have hd:(qs.getD i 0 * ((n:Int):Rat)).den < 4294967296 ^ (k + 1):=Nat.lt_of_le_of_lt (den_mul_int _ _) (lt_of_nd (hs i).2)
    have h4:n * (qs.getD i 0 * ((n:Int):Rat)).den < 4294967296 ^ (i * (k + 1) + 1) * 4294967296 ^ (k + 1):=Nat.mul_lt_mul'' h3 hd
    rw [← Nat.pow_add] at h4
    rw [Nat.succ_mul,show i * (k + 1) + (k + 1) + 1=i * (k + 1) + 1 + (k + 1) by omega]
    exact h4
 obtain ⟨n,h1,h2,h3⟩:=key (i + 1) (by omega)
 rw [h2]
 have h5:(i + 1) * (k + 1)≤L * (k + 2):=Nat.mul_le_mul (by omega) (by omega)
 refine Sz.mono (Sz.int (k:=(i + 1) * (k + 1) + 1) (by simpa using h3) (by omega)) (by omega)
def inQ (ps qs:List Rat) (i j:Nat) (z:List Rat):List Rat:=(List.range j).foldl (fun z l=>z.set (i + l) (z.getD (i + l) 0 + ps.getD i 0 * qs.getD l 0)) z
def outQ (ps qs:List Rat) (i:Nat):List Rat:=(List.range i).foldl (fun z l=>inQ ps qs l qs.length z) (List.replicate (ps.length + qs.length - 1) 0)
def mulQ (ps qs:List Rat):List Rat:=if ps.length=0 ∨ qs.length=0 then [] else outQ ps qs ps.length
theorem inQ_succ (ps qs:List Rat) (i j:Nat) (z:List Rat):inQ ps qs i (j + 1) z=(inQ ps qs i j z).set (i + j) ((inQ ps qs i j z).getD (i + j) 0 + ps.getD i 0 * qs.getD j 0):=by
 unfold inQ; rw [List.range_succ,List.foldl_append]; rfl
theorem outQ_succ {ps qs:List Rat} {i j:Nat} (hj:j=qs.length):outQ ps qs (i + 1)=inQ ps qs i j (outQ ps qs i):=by
 subst hj; unfold outQ; rw [List.range_succ,List.foldl_append]; rfl
theorem inQ_len (ps qs:List Rat) (i j:Nat) (z:List Rat):(inQ ps qs i j z).length=z.length:=by
 induction j with
 | zero=>rfl
 | succ j ih=>rw [inQ_succ,List.length_set,ih]
theorem outQ_len (ps qs:List Rat) (i:Nat):(outQ ps qs i).length=ps.length + qs.length - 1:=by
 induction i with
 | zero=>simp [outQ]
 | succ i ih=>rw [outQ_succ rfl,inQ_len,ih]
theorem getQ_set {z:List Rat} {q l:Nat} {x:Rat}:(z.set q x).getD l 0=if q=l∧q < z.length then x else z.getD l 0:=by
 rw [List.getD_eq_getElem?_getD,List.getElem?_set,List.getD_eq_getElem?_getD]
 by_cases h:q=l
 ·subst h
  by_cases h2:q < z.length
  ·simp [h2]
  ·simp [h2]
 ·simp [h]
theorem inQ_szs {ps qs:List Rat} {k m:Nat} (hp:∀ j,Sz (ps.getD j 0) (k + 1)) (hq:∀ j,Sz (qs.getD j 0) (m + 1)) {z:List Rat} {s:Nat} (hz:∀ l,Sz (z.getD l 0) s) (i j:Nat):(∀ l,Sz ((inQ ps qs i j z).getD l 0) (s + (k + m + 3)))∧∀ l,i + j≤l→Sz ((inQ ps qs i j z).getD l 0) s:=by
 induction j with
 | zero=>exact ⟨fun l=>(hz l).mono (by omega),fun l _=>hz l⟩
 | succ j ih =>
  rw [inQ_succ]
  refine ⟨fun l=>?_,fun l hl=>?_⟩
  ·rw [getQ_set]
   split
   ·exact ((ih.2 _ (Nat.le_refl _)).add ((hp i).mul (hq j))).mono (by omega)
   ·exact ih.1 l
  ·rw [getQ_set,if_neg (by omega)]
   exact ih.2 l (by omega)
theorem outQ_sz {ps qs:List Rat} {k m:Nat} (hp:∀ j,Sz (ps.getD j 0) (k + 1)) (hq:∀ j,Sz (qs.getD j 0) (m + 1)):∀ i l,Sz ((outQ ps qs i).getD l 0) (i * (k + m + 3) + 1)
 | 0,l=>by
  have:(outQ ps qs 0).getD l 0=0:=by
   simp only [outQ,List.range_zero,List.foldl_nil,List.getD_eq_getElem?_getD,List.getElem?_replicate]
   split <;> rfl
  rw [this]
  exact Sz.zero.mono (by omega)
 | i + 1,l=>by
  rw [outQ_succ rfl,Nat.succ_mul]
  exact ((inQ_szs hp hq (outQ_sz hp hq i) i qs.length).1 l).mono (by omega)
theorem inQ_sz {ps qs:List Rat} {k m L:Nat} (hp:∀ j,Sz (ps.getD j 0) (k + 1)) (hq:∀ j,Sz (qs.getD j 0) (m + 1)) (hL:ps.length≤L) {i j:Nat} (hi:i < ps.length) (_:j≤qs.length):Sz ((inQ ps qs i j (outQ ps qs i)).getD (i + j) 0 + ps.getD i 0 * qs.getD j 0) (L * (k + m + 3) + 2):=by
 have h:=((inQ_szs hp hq (outQ_sz hp hq i) i j).2 (i + j) (Nat.le_refl _)).add ((hp i).mul (hq j))
 have h2:(i + 1) * (k + m + 3)≤L * (k + m + 3):=Nat.mul_le_mul_right _ (by omega)
 rw [Nat.succ_mul] at h2
 exact h.mono (by omega)
theorem or0 {n m:Nat} (h:(decide ((n:Int)=0) || decide ((m:Int)=0))=false) : 1≤n∧1≤m:=by
 rw [Bool.or_eq_false_iff,decide_eq_false_iff_not,decide_eq_false_iff_not] at h
 omega
theorem mulQ_nil {ps qs:List Rat} (h:(decide ((ps.length:Int)=0) || decide ((qs.length:Int)=0))=true):mulQ ps qs = []:=by
 rw [Bool.or_eq_true,decide_eq_true_eq,decide_eq_true_eq] at h
 exact if_pos (by omega)
theorem mulQ_eq {ps qs:List Rat} {i:Nat} (hi:i=ps.length) (h1 : 1≤ps.length) (h2 : 1≤qs.length):mulQ ps qs=outQ ps qs i:=by
 subst hi; exact if_neg (by omega)
theorem nil_L {qs:List Rat} {k:Nat} {O:Bs} {w:World} {v:Value} (hq:qs = []) (h:(mV (.slice none 0 0)).S O w v):(mSl 3 (lC qs k)).S O w v:=by
 subst hq
 obtain rfl:v = .slice none 0 0:=h
 exact isSl.nil
theorem own_up {O:Bs} {w:World} {T:TypeId} {v:Value} {qs:List Rat} {k k':Nat} (hk:k≤k') (h:ownR O w T 3 v (lC qs k)):ownR O w T 3 v (lC qs k') :=
 ownR.conv h (by rw [lC_len,lC_len]) fun _ _ _ h1 h2 _ hv=>by rw [(lC_lt h1).2] at hv; rw [(lC_lt h2).2]; exact isC.mono hv hk
theorem intN {v:Value} {j:Int} {n:Nat} (h:v = .int .i64 j) (hj:j=(n:Int)):v = .int .i64 (n:Int):=hj ▸ h
def clq (qs:List Rat):List Rat:=(cutQ qs).map fun q=>q * clr qs
theorem clq_len (qs:List Rat):(clq qs).length≤qs.length:=by unfold clq; rw [List.length_map]; exact cutQ_le qs
end Go.Proofs.YtcankknlbljicaaGreatDoor

namespace Go.Proofs.YtcankknlbljicaaGreatDoor
open Go.RowKit Num

def sumN:Nat→(Nat→Rat)→Rat
 | 0,_=>0
 | n + 1,f=>sumN n f + f n
theorem sumN_congr {n:Nat} {f g:Nat→Rat} (h:∀ i,i < n→f i=g i):sumN n f=sumN n g:=by
 induction n with
 | zero=>rfl
 | succ n ih=>simp only [sumN]; rw [ih fun i hi=>h i (by omega),h n (by omega)]
theorem sumN_mul (n:Nat) (f:Nat→Rat) (c:Rat):sumN n (fun i=>f i * c)=sumN n f * c:=by
 induction n with
 | zero=>simp [sumN,Rat.zero_mul]
 | succ n ih=>simp only [sumN]; rw [ih,Rat.add_mul]
theorem getQ_cut (qs:List Rat) (n:Nat):(cutQ qs).getD n 0=qs.getD n 0:=by
 by_cases h:n < cutn qs
 ·simp [cutQ,List.getD_eq_getElem?_getD,List.getElem?_take,h]
 ·have key:∀ (l:List Rat) (n:Nat),cutn l≤n→l.getD n 0=0:=by
   intro l
   induction l with
   | nil=>intro n _; simp
   | cons q r ih =>
    intro n hn
    simp only [cutn] at hn
    split at hn
    ·rename_i hr
     split at hn
     ·rename_i hq
      cases n with
      | zero=>simpa using hq
      | succ n=>simpa using ih n (by omega)
     ·cases n with
      | zero=>omega
      | succ n=>simpa using ih n (by omega)
    ·cases n with
     | zero=>omega
     | succ n=>simpa using ih n (by omega)
  rw [key qs n (by omega),getQ_out]
  unfold cutQ
  rw [List.length_take]; omega
theorem cutn_pos {qs:List Rat} {n:Nat} (h:qs.getD n 0≠0):n < cutn qs:=by
 refine Nat.lt_of_not_le fun hle=>h ?_
 rw [← getQ_cut,getQ_out]
 unfold cutQ
 rw [List.length_take]; omega
theorem cutn_top {qs:List Rat} (h:cutn qs≠0):qs.getD (cutn qs - 1) 0≠0:=by
 induction qs with
 | nil=>simp [cutn] at h
 | cons q r ih =>
  simp only [cutn] at h ⊢
  split
  ·rename_i hr
   rw [if_pos hr] at h
   split
   ·rename_i hq; rw [if_pos hq] at h; exact absurd rfl h
   ·simpa using ‹¬q=0›
  ·rename_i hr
   obtain ⟨m,hm⟩:∃ m,cutn r=m + 1:=⟨cutn r - 1,by omega⟩
   have:=ih hr
   rw [hm] at this ⊢
   simpa using this
theorem cutn_congr {a b:List Rat} (h:∀ n,a.getD n 0=b.getD n 0):cutn a=cutn b:=by
 rcases Nat.lt_trichotomy (cutn a) (cutn b) with h1 | h1 | h1
 ·have h2:=cutn_top (qs:=b) (by omega)
  rw [← h] at h2
  have:=cutn_pos h2
  omega
 ·exact h1
 ·have h2:=cutn_top (qs:=a) (by omega)
  rw [h] at h2
  have:=cutn_pos h2
  omega
theorem ext_getQ {a b:List Rat} (hl:a.length=b.length) (h:∀ n,a.getD n 0=b.getD n 0):a=b:=by
 apply List.ext_getElem hl
 intro i h1 h2
 have:=h i
 simpa [List.getD_eq_getElem?_getD,List.getElem?_eq_getElem h1,List.getElem?_eq_getElem h2] using this
theorem cutQ_length (qs:List Rat):(cutQ qs).length=cutn qs:=by
 unfold cutQ; rw [List.length_take]; have:=cutn_le qs; omega
theorem cutQ_congr {a b:List Rat} (h:∀ n,a.getD n 0=b.getD n 0):cutQ a=cutQ b :=
 ext_getQ (by rw [cutQ_length,cutQ_length,cutn_congr h]) fun n=>by rw [getQ_cut,getQ_cut,h]
theorem getQ_mul (qs:List Rat) (c:Rat) (n:Nat):(qs.map fun q=>q * c).getD n 0=qs.getD n 0 * c:=by
 by_cases h:n < qs.length
 ·exact getD_map h
 ·rw [getQ_out (by rw [List.length_map]; omega),getQ_out (by omega),Rat.zero_mul]
theorem getQ_div (qs:List Rat) (c:Rat) (n:Nat):(qs.map fun q=>q / c).getD n 0=qs.getD n 0 / c:=by
 by_cases h:n < qs.length
 ·exact getD_map h
 ·rw [getQ_out (by rw [List.length_map]; omega),getQ_out (by omega),Rat.div_def,Rat.zero_mul]
def conv (ps qs:List Rat) (n:Nat):Rat:=sumN ps.length fun a=>if a≤n then ps.getD a 0 * qs.getD (n - a) 0 else 0
theorem inQ_get (ps qs:List Rat) (i j:Nat) (z:List Rat) (n:Nat) (hn:n < z.length):(inQ ps qs i j z).getD n 0=z.getD n 0 + (if i≤n∧n < i + j then ps.getD i 0 * qs.getD (n - i) 0 else 0):=by
 induction j with
 | zero=>rw [if_neg (by omega),Rat.add_zero]; rfl
 | succ j ih =>
  rw [inQ_succ,getQ_set]
  by_cases h:i + j=n
  ·subst h
   rw [if_pos ⟨rfl,by rw [inQ_len]; exact hn⟩,ih,if_neg (by omega),if_pos (by omega),Rat.add_zero,Nat.add_sub_cancel_left]
  ·rw [if_neg (by omega),ih]
   by_cases h2:i≤n∧n < i + j
   ·rw [if_pos h2,if_pos (by omega)]
   ·rw [if_neg h2,if_neg (by omega)]
theorem outQ_get (ps qs:List Rat) (n:Nat) (hn:n < ps.length + qs.length - 1):∀ i,(outQ ps qs i).getD n 0=sumN i fun a=>if a≤n then ps.getD a 0 * qs.getD (n - a) 0 else 0
 | 0=>by
  simp only [outQ,List.range_zero,List.foldl_nil,List.getD_eq_getElem?_getD,List.getElem?_replicate,sumN]
  split <;> rfl
 | i + 1=>by
  rw [outQ_succ rfl,inQ_get _ _ _ _ _ _ (by rw [outQ_len]; exact hn),outQ_get ps qs n hn i]
  simp only [sumN]
  congr 1
  by_cases h:i≤n
  ·rw [if_pos h]
   by_cases h2:n < i + qs.length
   ·rw [if_pos ⟨h,h2⟩]
   ·rw [if_neg (by omega),getQ_out (qs:=qs) (by omega),Rat.mul_zero]
  ·rw [if_neg h,if_neg (by omega)]
theorem sumN_zero {n:Nat} {f:Nat→Rat} (h:∀ i,i < n→f i=0):sumN n f=0:=by
 induction n with
 | zero=>rfl
 | succ n ih=>simp only [sumN]; rw [ih fun i hi=>h i (by omega),h n (by omega),Rat.add_zero]
theorem mulQ_get (ps qs:List Rat) (n:Nat):(mulQ ps qs).getD n 0=conv ps qs n:=by
 unfold mulQ
 split
 ·rename_i h
  rw [getQ_out (Nat.zero_le _)]
  refine (sumN_zero fun i hi=>?_).symm
  split
  ·rcases h with h | h
   ·omega
   ·rw [getQ_out (qs:=qs) (by omega),Rat.mul_zero]
  ·rfl
 ·rename_i h
  by_cases hn:n < ps.length + qs.length - 1
  ·exact outQ_get ps qs n hn _
  ·rw [getQ_out (by rw [outQ_len]; omega)]
   refine (sumN_zero fun i hi=>?_).symm
   split
   ·rw [getQ_out (qs:=qs) (by omega),Rat.mul_zero]
   ·rfl
def mulP (ps qs:List Rat):List Rat:=cutQ (mulQ (cutQ ps) (cutQ qs))
theorem cutn_scale {c:Rat} (hc:c≠0):∀ qs:List Rat,cutn (qs.map fun q=>q / c)=cutn qs
 | []=>rfl
 | q :: r=>by
  simp only [List.map_cons,cutn,cutn_scale hc r]
  have:q / c=0 ↔ q=0:=by
   constructor
   ·intro h
    have h2:=Rat.div_mul_cancel (a:=q) hc
    rw [h,Rat.zero_mul] at h2
    exact h2.symm
   ·rintro rfl; rw [Rat.div_def,Rat.zero_mul]
  simp only [this]
theorem cutQ_div {c:Rat} (hc:c≠0) (qs:List Rat):(cutQ qs).map (fun q=>q / c)=cutQ (qs.map fun q=>q / c):=by
 unfold cutQ; rw [cutn_scale hc,List.map_take]
theorem clr_ne (qs:List Rat):clr qs≠0:=by
 obtain ⟨n,hn,e⟩:=clr_nat qs
 rw [e]
 intro h
 have:=Rat.intCast_eq_zero_iff.1 h
 omega
theorem mul_ne0 {a b:Rat} (ha:a≠0) (hb:b≠0):a * b≠0:=fun h=>(Rat.mul_eq_zero.1 h).elim ha hb
theorem mul_div_cancel0 {a c:Rat} (hc:c≠0):a * c / c=a:=Rat.mul_div_cancel hc
theorem mulQ_len (a b:List Rat):(mulQ a b).length≤a.length + b.length:=by
 unfold mulQ
 split
 ·simp
 ·rw [outQ_len]; omega
theorem slC_re {qs:List Rat} {k k':Nat} {O:Bs} {w:World} {v:Value} (hs:∀ j,Sz (qs.getD j 0) k') (h:(mSl 3 (lC qs k)).S O w v):(mSl 3 (lC qs k')).S O w v :=
 isSl.imp (by rw [lC_len,lC_len]) (fun _ _ _ h1 h2 _ hv=>by
  rw [(lC_lt h1).2] at hv; rw [(lC_lt h2).2]
  obtain ⟨ao,c,ad,d,e,k1,k2,k3⟩:=hv
  exact ⟨ao,c,ad,d,e,k1,k2,hs _⟩) h
theorem sub0Q {q:Rat}:q - 0=q:=by grind
def red0 (ps qs:List Rat):List Rat:=(ps.take (ps.length - 1)).map fun q=>q * qs.getD (qs.length - 1) 0
def redI (ps qs:List Rat) (j:Nat):List Rat:=(List.range j).foldl (fun z l=>z.set (ps.length - qs.length + l) (z.getD (ps.length - qs.length + l) 0 - ps.getD (ps.length - 1) 0 * (qs.take (qs.length - 1)).getD l 0)) (red0 ps qs)
def redQ (ps qs:List Rat):List Rat:=redI ps qs (qs.take (qs.length - 1)).length
theorem redI_succ (ps qs:List Rat) (j:Nat):redI ps qs (j + 1)=(redI ps qs j).set (ps.length - qs.length + j) ((redI ps qs j).getD (ps.length - qs.length + j) 0 - ps.getD (ps.length - 1) 0 * (qs.take (qs.length - 1)).getD j 0):=by
 unfold redI; rw [List.range_succ,List.foldl_append]; rfl
theorem redI_len (ps qs:List Rat) (j:Nat):(redI ps qs j).length=ps.length - 1:=by
 induction j with
 | zero=>simp [redI,red0]
 | succ j ih=>rw [redI_succ,List.length_set,ih]
theorem redQ_of {ps qs:List Rat} {j:Nat} (h:j=(qs.take (qs.length - 1)).length):redQ ps qs=redI ps qs j:=by rw [h]; rfl
theorem take_getQ {qs:List Rat} {n l:Nat}:(qs.take n).getD l 0=if l < n then qs.getD l 0 else 0:=by
 simp only [List.getD_eq_getElem?_getD,List.getElem?_take]
 split <;> rfl
theorem redI_get (ps qs:List Rat) (j l:Nat) (hl:l < ps.length - 1):(redI ps qs j).getD l 0=ps.getD l 0 * qs.getD (qs.length - 1) 0 - (if ps.length - qs.length≤l∧l < ps.length - qs.length + j then ps.getD (ps.length - 1) 0 * (qs.take (qs.length - 1)).getD (l - (ps.length - qs.length)) 0 else 0):=by
 induction j with
 | zero =>
  rw [if_neg (by omega),sub0Q]
  show (red0 ps qs).getD l 0=_
  unfold red0
  rw [getQ_mul,take_getQ,if_pos hl]
 | succ j ih =>
  rw [redI_succ,getQ_set]
  by_cases h:ps.length - qs.length + j=l
  ·subst h
   rw [if_pos ⟨rfl,by rw [redI_len]; exact hl⟩,ih,if_neg (by omega),if_pos (by omega),sub0Q,Nat.add_sub_cancel_left]
  ·rw [if_neg (by omega),ih]
   by_cases h2:ps.length - qs.length≤l∧l < ps.length - qs.length + j
   ·rw [if_pos h2,if_pos (by omega)]
   ·rw [if_neg h2,if_neg (by omega)]
theorem redI_sz0 {ps qs:List Rat} {k m:Nat} (hp:∀ j,Sz (ps.getD j 0) (k + 1)) (hq:∀ j,Sz (qs.getD j 0) (m + 1)) (j l:Nat) (hl:ps.length - qs.length + j≤l):Sz ((redI ps qs j).getD l 0) (k + m + 2):=by
 by_cases h:l < ps.length - 1
 ·rw [redI_get _ _ _ _ h,if_neg (by omega),sub0Q]
  exact ((hp l).mul (hq _)).mono (by omega)
 ·rw [getQ_out (by rw [redI_len]; omega)]
  exact Sz.zero.mono (by omega)
theorem redI_sz1 {ps qs:List Rat} {k m:Nat} (hp:∀ j,Sz (ps.getD j 0) (k + 1)) (hq:∀ j,Sz (qs.getD j 0) (m + 1)) (j:Nat):Sz ((redI ps qs j).getD (ps.length - qs.length + j) 0 - ps.getD (ps.length - 1) 0 * (qs.take (qs.length - 1)).getD j 0) (2 * k + 2 * m + 9):=by
 have h1:=redI_sz0 hp hq j _ (Nat.le_refl _)
 have h2:Sz ((qs.take (qs.length - 1)).getD j 0) (m + 1):=by
  rw [take_getQ]
  split
  ·exact hq j
  ·exact Sz.zero.mono (by omega)
 exact (h1.sub ((hp _).mul h2)).mono (by omega)
def monP (qs:List Rat):List Rat:=(cutQ qs).map fun q=>q / (cutQ qs).getD ((cutQ qs).length - 1) 0
theorem monP_len (qs:List Rat):(monP qs).length≤qs.length:=by unfold monP; rw [List.length_map]; exact cutQ_le qs
theorem monP_nil {qs:List Rat} (h:decide (((cutQ qs).length:Int)=0)=true):monP qs = []:=by
 have h:=of_decide_eq_true h
 have:cutQ qs = []:=List.eq_nil_of_length_eq_zero (by omega)
 unfold monP; rw [this]; rfl
theorem lead_ne {qs:List Rat} (h:decide (((cutQ qs).length:Int)=0)=false):(cutQ qs).getD ((cutQ qs).length - 1) 0≠0:=by
 have h:=of_decide_eq_false h
 rw [getQ_cut,cutQ_length]
 exact cutn_top (by rw [cutQ_length] at h; omega)
def primP (qs:List Rat):List Rat:=clq (monP qs)
def redN (ps qs:List Rat):Nat→List Rat
 | 0=>ps
 | t + 1=>redQ (redN ps qs t) qs
theorem redN_succ (ps qs:List Rat) (t:Nat):redN ps qs (t + 1)=redQ (redN ps qs t) qs:=rfl
theorem redN_len (ps qs:List Rat) (t:Nat):(redN ps qs t).length=ps.length - t:=by
 induction t with
 | zero=>rfl
 | succ t ih=>rw [redN_succ,redQ,redI_len,ih]; omega
def remQ (ps qs:List Rat):List Rat:=redN ps qs (ps.length + 1 - qs.length)
theorem remQ_of {ps qs:List Rat} {t:Nat} (h1:t≤ps.length + 1 - qs.length) (h2:¬ (qs.length≤ps.length - t) ):remQ ps qs=redN ps qs t:=by
 unfold remQ; rw [show ps.length + 1 - qs.length=t by omega]
theorem pow0Q {q:Rat}:q ^ 0=((1:Int):Rat):=Rat.pow_zero q

theorem pow_ne0 {q:Rat} (h:q≠0):∀ n:Nat,q ^ n≠0
 | 0=>by rw [Rat.pow_zero]; decide
 | n + 1=>by rw [Rat.pow_succ]; exact mul_ne0 (pow_ne0 h n) h
theorem clq_lead {qs:List Rat} (h:(clq qs).length≠0):(clq qs).getD ((clq qs).length - 1) 0≠0:=by
 have hl:(clq qs).length=cutn qs:=by unfold clq; rw [List.length_map,cutQ_length]
 rw [hl] at h ⊢
 unfold clq
 rw [getQ_mul,getQ_cut]
 exact mul_ne0 (cutn_top h) (clr_ne qs)
def dvN (ps qs:List Rat):Nat:=(clq ps).length + 1 - (clq qs).length
def quoC (ps qs:List Rat) (l:Nat):Rat :=
 ((redN (clq ps) (clq qs) (dvN ps qs - (l + 1))).getD (l + 1 + (clq qs).length - 2) 0 * clr qs) / (clr ps * (clq qs).getD ((clq qs).length - 1) 0 ^ (dvN ps qs - (l + 1)) * (clq qs).getD ((clq qs).length - 1) 0)
def dvq (ps qs:List Rat):List Rat:=if (clq qs).length=0 then [] else (List.range (dvN ps qs)).map (quoC ps qs)
def dvr (ps qs:List Rat):List Rat:=if (clq qs).length=0 then [] else (cutQ (redN (clq ps) (clq qs) (dvN ps qs))).map fun q=>q / (clr ps * (clq qs).getD ((clq qs).length - 1) 0 ^ dvN ps qs)
def dve (qs:List Rat):Int:=if (clq qs).length=0 then 3 else 0
theorem dvq_nil {ps qs:List Rat} (h:((clq qs).length:Int)=0):dvq ps qs = []:=if_pos (by omega)
theorem dvr_nil {ps qs:List Rat} (h:((clq qs).length:Int)=0):dvr ps qs = []:=if_pos (by omega)
theorem dve_nil {qs:List Rat} (h:((clq qs).length:Int)=0):dve qs=3:=if_pos (by omega)
theorem dve_ok {qs:List Rat} (h:¬ ((clq qs).length:Int)=0):dve qs=0:=if_neg (by omega)
theorem dvq_len {ps qs:List Rat} (h:¬ ((clq qs).length:Int)=0):(dvq ps qs).length=(clq ps).length + 1 - (clq qs).length:=by
 unfold dvq; rw [if_neg (by omega),List.length_map,List.length_range]; rfl
theorem dvq_get {ps qs:List Rat} (h:¬ ((clq qs).length:Int)=0) {l:Nat} (hl:l < (clq ps).length + 1 - (clq qs).length):(dvq ps qs).getD l 0=quoC ps qs l:=by
 unfold dvq; rw [if_neg (by omega),List.getD_eq_getElem?_getD,List.getElem?_map,List.getElem?_range (by exact hl)]; rfl
theorem dvr_eq {ps qs:List Rat} {j:Nat} (h:¬ ((clq qs).length:Int)=0) (hj:j=0):dvr ps qs=(cutQ (redN (clq ps) (clq qs) ((clq ps).length + 1 - (clq qs).length - j))).map fun q=>q / (clr ps * (clq qs).getD ((clq qs).length - 1) 0 ^ ((clq ps).length + 1 - (clq qs).length - j)):=by
 subst hj
 unfold dvr; rw [if_neg (by omega)]; rfl
theorem dm_sub {n j:Nat} (h : 1≤j) (hj:j≤n):n - (j - 1)=n - j + 1:=by omega
theorem quoC_of {ps qs:List Rat} {j:Nat} (h : 1≤j) (_:j≤(clq ps).length + 1 - (clq qs).length):((redN (clq ps) (clq qs) ((clq ps).length + 1 - (clq qs).length - j)).getD (j + (clq qs).length - 2) 0 * clr qs) / (clr ps * (clq qs).getD ((clq qs).length - 1) 0 ^ ((clq ps).length + 1 - (clq qs).length - j) * (clq qs).getD ((clq qs).length - 1) 0)=quoC ps qs (j - 1):=by
 unfold quoC dvN
 rw [show j - 1 + 1=j by omega]
end Go.Proofs.YtcankknlbljicaaGreatDoor

namespace Go.Proofs.YtcankknlbljicaaGreatDoor
open Go.RowKit Num

theorem primP_len (qs:List Rat):(primP qs).length≤qs.length:=Nat.le_trans (clq_len _) (monP_len qs)
theorem remQ_len (ps qs:List Rat):(cutQ (remQ ps qs)).length≤ps.length - (ps.length + 1 - qs.length):=by
 refine Nat.le_trans (cutQ_le _) ?_
 unfold remQ; rw [redN_len]; exact Nat.le_refl _
def gst (s:List Rat × List Rat × Rat × Rat):List Rat × List Rat × Rat × Rat :=
 if s.2.1.length=0 then s else
  (s.2.1,(cutQ (remQ s.1 s.2.1)).map (fun q=>q / (s.2.2.1 * (s.2.2.2 ^ (s.1.length - s.2.1.length)))),s.2.1.getD (s.2.1.length - 1) 0,
   if 0 < s.1.length - s.2.1.length then s.2.1.getD (s.2.1.length - 1) 0 ^ (s.1.length - s.2.1.length) / s.2.2.2 ^ (s.1.length - s.2.1.length - 1) else s.2.2.2)
def gN (ps qs:List Rat):Nat→List Rat × List Rat × Rat × Rat
 | 0=>if (primP ps).length < (primP qs).length then (primP qs,primP ps,((1:Int):Rat),((1:Int):Rat)) else (primP ps,primP qs,((1:Int):Rat),((1:Int):Rat))
 | t + 1=>gst (gN ps qs t)
def gM (ps qs:List Rat):Nat:=(primP ps).length + (primP qs).length
def gcdP (ps qs:List Rat):List Rat:=monP (gN ps qs (gM ps qs)).1
structure GI (ps qs P Q:List Rat) (l c:Rat):Prop where
 at':∃ t,gN ps qs t=(P,Q,l,c)∧t + Q.length≤gM ps qs
 le:Q.length≤P.length
 len:P.length≤(primP ps).length ∨ P.length≤(primP qs).length
 l0:l≠0
 c0:c≠0
 q0 : 0 < Q.length→Q.getD (Q.length - 1) 0≠0
theorem one_ne:((1:Int):Rat)≠0:=by decide
theorem primP_lead (qs:List Rat) (h : 0 < (primP qs).length):(primP qs).getD ((primP qs).length - 1) 0≠0:=clq_lead (qs:=monP qs) (by unfold primP at h; omega)
theorem GI.init_t (ps qs:List Rat) (h:((primP ps).length:Int) < ((primP qs).length:Int)):GI ps qs (primP qs) (primP ps) ((1:Int):Rat) ((1:Int):Rat) :=
 ⟨⟨0,if_pos (by omega),by unfold gM; omega⟩,by omega,by omega,one_ne,one_ne,primP_lead ps⟩
theorem GI.init_f (ps qs:List Rat) (h:¬ ((primP ps).length:Int) < ((primP qs).length:Int)):GI ps qs (primP ps) (primP qs) ((1:Int):Rat) ((1:Int):Rat) :=
 ⟨⟨0,if_neg (by omega),by unfold gM; omega⟩,by omega,by omega,one_ne,one_ne,primP_lead qs⟩
theorem div_ne0 {a b:Rat} (ha:a≠0) (hb:b≠0):a / b≠0:=by
 rw [Rat.div_def]
 refine mul_ne0 ha fun h=>?_
 have h1:=Rat.mul_inv_cancel b hb
 rw [h,Rat.mul_zero] at h1
 exact absurd h1 (by decide)
theorem cut_div_lead {X:List Rat} {d:Rat} (hd:d≠0) (h : 0 < ((cutQ X).map fun q=>q / d).length):((cutQ X).map fun q=>q / d).getD (((cutQ X).map fun q=>q / d).length - 1) 0≠0:=by
 rw [List.length_map,cutQ_length] at h ⊢
 rw [getQ_div,getQ_cut]
 exact div_ne0 (cutn_top (by omega)) hd
theorem GI.nextA {ps qs P Q:List Rat} {l c c':Rat} (g:GI ps qs P Q l c) (hq : 0 < Q.length) (hc:(if 0 < P.length - Q.length then Q.getD (Q.length - 1) 0 ^ (P.length - Q.length) / c ^ (P.length - Q.length - 1) else c)=c') (hc0:c'≠0):GI ps qs Q ((cutQ (remQ P Q)).map fun q=>q / (l * (c ^ (P.length - Q.length)))) (Q.getD (Q.length - 1) 0) c':=by
 obtain ⟨⟨t,h1,h2⟩,h3,h4,h5,h6,h7⟩:=g
 have hr:=remQ_len P Q
 have hl:((cutQ (remQ P Q)).map fun q=>q / (l * (c ^ (P.length - Q.length)))).length=(cutQ (remQ P Q)).length:=List.length_map _
 refine ⟨⟨t + 1,?_,by rw [hl]; omega⟩,by rw [hl]; omega,by omega,h7 hq,hc0,cut_div_lead (mul_ne0 h5 (pow_ne0 h6 _))⟩
 show gst (gN ps qs t)=_
 rw [h1]
 unfold gst
 rw [if_neg (by show ¬ Q.length=0; omega)]
 rw [← hc]
theorem GI.next_t {ps qs P Q:List Rat} {l c:Rat} (g:GI ps qs P Q l c) (hq : 0 < Q.length) (h:(0:Int) < (P.length:Int) - (Q.length:Int)):GI ps qs Q ((cutQ (remQ P Q)).map fun q=>q / (l * (c ^ (P.length - Q.length)))) (Q.getD (Q.length - 1) 0) (Q.getD (Q.length - 1) 0 ^ (P.length - Q.length) / c ^ (P.length - Q.length - 1)) :=
 g.nextA hq (if_pos (by omega)) (div_ne0 (pow_ne0 (g.q0 hq) _) (pow_ne0 g.c0 _))
theorem GI.next_f {ps qs P Q:List Rat} {l c:Rat} (g:GI ps qs P Q l c) (hq : 0 < Q.length) (h:¬ (0:Int) < (P.length:Int) - (Q.length:Int)):GI ps qs Q ((cutQ (remQ P Q)).map fun q=>q / (l * (c ^ (P.length - Q.length)))) (Q.getD (Q.length - 1) 0) c :=
 g.nextA hq (if_neg (by omega)) g.c0
theorem GI.less {ps qs P Q:List Rat} {l c:Rat} (g:GI ps qs P Q l c) (hq : 0 < Q.length):((cutQ (remQ P Q)).map fun q=>q / (l * (c ^ (P.length - Q.length)))).length < Q.length:=by
 have hr:=remQ_len P Q
 have:=g.le
 rw [List.length_map]; omega
theorem gN_stay {ps qs:List Rat} {t:Nat} (h:(gN ps qs t).2.1.length=0):∀ n,gN ps qs (t + n)=gN ps qs t
 | 0=>rfl
 | n + 1=>by
  show gst (gN ps qs (t + n))=_
  rw [gN_stay h n]
  exact if_pos h
theorem GI.gcd {ps qs P Q:List Rat} {l c:Rat} (g:GI ps qs P Q l c) (hq:Q.length=0):gcdP ps qs=monP P:=by
 obtain ⟨⟨t,h1,h2⟩,_⟩:=g
 have h3:=gN_stay (ps:=ps) (qs:=qs) (t:=t) (by rw [h1]; exact hq) (gM ps qs - t)
 unfold gcdP
 rw [show gM ps qs=t + (gM ps qs - t) by omega,h3,h1]
theorem gN_len (ps qs:List Rat) {L:Nat} (h1:ps.length≤L) (h2:qs.length≤L):∀ t,(gN ps qs t).1.length≤L∧(gN ps qs t).2.1.length≤L
 | 0=>by
  have:=primP_len ps
  have:=primP_len qs
  unfold gN
  split <;> exact ⟨by dsimp only; omega,by dsimp only; omega⟩
 | t + 1=>by
  obtain ⟨h3,h4⟩:=gN_len ps qs h1 h2 t
  show (gst (gN ps qs t)).1.length≤L∧(gst (gN ps qs t)).2.1.length≤L
  unfold gst
  split
  ·exact ⟨h3,h4⟩
  ·have:=remQ_len (gN ps qs t).1 (gN ps qs t).2.1
   exact ⟨h4,by rw [List.length_map]; omega⟩
theorem gcdP_len {ps qs:List Rat} {L:Nat} (h1:ps.length≤L) (h2:qs.length≤L):(gcdP ps qs).length≤L:=Nat.le_trans (monP_len _) (gN_len ps qs h1 h2 _).1
def sqG (ps:List Rat):List Rat:=gcdP ps (cutQ (derQ ps))
def sqP (ps:List Rat):List Rat:=if dve (sqG ps)≠0 then [] else monP (dvq ps (sqG ps))
theorem dvq_le (ps qs:List Rat):(dvq ps qs).length≤ps.length + 1:=by
 by_cases h:((clq qs).length:Int)=0
 ·rw [dvq_nil h]; exact Nat.zero_le _
 ·rw [dvq_len h]
  have:=clq_len ps
  omega
theorem derQ_le (ps:List Rat):(cutQ (derQ ps)).length≤ps.length:=by
 refine Nat.le_trans (cutQ_le _) ?_
 unfold derQ; rw [dQ_len]; omega
theorem sqG_len {ps:List Rat} {L:Nat} (h1:ps.length≤L):(gcdP ps (cutQ (derQ ps))).length≤L:=gcdP_len h1 (Nat.le_trans (derQ_le ps) h1)
structure GZ (P Q:List Rat) (l c:Rat) (K:Nat):Prop where
 p:∀ j,Sz (P.getD j 0) K
 q:∀ j,Sz (Q.getD j 0) K
 sl:Sz l K
 sc:Sz c K
 rd:∀ t j:Nat,t≤P.length + 1 - Q.length→Sz ((redN P Q t).getD j 0) K
 pc:∀ i:Nat,i≤P.length - Q.length→Sz (c ^ i) K
 pl:∀ i:Nat,i≤P.length - Q.length→Sz (Q.getD (Q.length - 1) 0 ^ i) K
structure GZ' (P Q:List Rat) (l c:Rat) (K:Nat):Prop extends GZ P Q l c K where
 l0:l≠0
 c0:c≠0
 q0:Q.getD (Q.length - 1) 0≠0
theorem GZ.at {ps qs P Q:List Rat} {l c:Rat} {K:Nat} (h:GZ P Q l c K) (g:GI ps qs P Q l c) (hq : 0 < Q.length):GZ' P Q l c K:=⟨h,g.l0,g.c0,g.q0 hq⟩
end Go.Proofs.YtcankknlbljicaaGreatDoor

namespace Go.Proofs.YtcankknlbljicaaGreatDoor
open Go.RowKit Num
variable {O : Bs}

theorem infoR:(Tryz.prog.info? 26).map (fun i=>(i.zero,i.size,i.bytes))=some (some (.agg #[.bool false,.slice none 0 0,.slice none 0 0]),3,56):=by kernel_rfl
theorem infoRz:(Tryz.prog.info? 26).map (·.size)=some (zc 3):=by kernel_rfl
theorem zero_pv (O:Bs) (w:World):PV 3 (Value.agg #[.bool false,.slice none 0 0,.slice none 0 0]).cells.toList (mZ.S O w):=⟨rfl,rfl⟩
theorem zero_cells:∀ v ∈ (Value.agg #[.bool false,.slice none 0 0,.slice none 0 0]).cells,v.oneCell'=true∧∀ d,v≠Value.int .u32 d:=by
 intro v hv
 have:v = .bool false ∨ v = .slice none 0 0:=by simpa [Value.cells] using hv
 rcases this with rfl | rfl <;> exact ⟨rfl,fun d h=>by cases h⟩
section
variable {ops : Array Oper} {rest : List Oper} {o : Oper} {a : Act} {w W0 : World} {Q : Exit → Act → World → Prop} {N : Nat} {O0 : Bs} {L : List (Nat × MP)} {X : List RX}
theorem t_makeI (S:St N O0 O W0 a w L X) {d:Tmp} {l:Operand} {n:Nat} {j:Int} (A:Nat→MP) (hl:a.eval l = .int .i64 j) (hj:j=(n:Int)) (hn:n≤1000000000)
  (h:∀ O' a' w' v,St N O0 O' W0 a' w' (setL d (mV v) L) (.own v 26 3 (rowI n 0 A fun _=>mZ) :: X)→wpList Tryz.prog ops Q rest a' w') (ho:o.op = .makeSlice 37 l l:=by rfl) (hg:o.guard=none:=by rfl) (hd:o.dst=some d:=by rfl) (hlt:d < N:=by decide):wpList Tryz.prog ops Q (o :: rest) a w:=by
 obtain ⟨inf,h1,h2,h3,h4⟩:=info_parts infoR
 exact t_make S (mz:=mZ) Tryz.underlying37 h1 h2 (es:=3) h3 (by rw [h4]; decide) zero_pv (fun _ _ _ hx=>isZ.cv hx) hl hj hn (fun O' a' w' g S'=>h O' a' w' _ (rowI_zero n A mZ ▸ S')) ho hg hd hlt
theorem t_appQ (S:St N O0 O W0 a w L X) (i k:Nat) {d:Tmp} {t u:Tmp} {v:Value} {qs rs:List Rat} {K:Nat} (hi:L[i]?=some (t,mV v)) (hk:X[k]?=some (.own v 26 3 (lC qs K))) (hx:isSl O w 3 (lC rs K) (sl a u)) (hlen:qs.length + rs.length≤1000000000)
  (h:∀ O' a' w' v',St N O0 O' W0 a' w' (setL d (mV v') L) (X.set k (.own v' 26 3 (lC (qs ++ rs) K)))→wpList Tryz.prog ops Q rest a' w') (ho:o.op = .call { callee:=.builtin .append,args:=#[.tmp t,.tmp u],argTypes:=#[37,37] }:=by rfl) (hg:o.guard=none:=by rfl) (hd:o.dst=some d:=by rfl) (hlt:d < N:=by decide):wpList Tryz.prog ops Q (o :: rest) a w:=by
 obtain ⟨inf,h1,h2,h3,h4⟩:=info_parts infoR
 refine t_app S i k Tryz.underlying37 h1 h2 (es:=3) h3 (by rw [h4]; decide) rfl zero_cells (show isSl O w 3 (lC rs K) (a.eval (.tmp u)) from hx) (fun m hm x hx=>lC_ec hm hx) (by rw [lC_len,lC_len]; exact hlen) (fun O' a' w' v' S'=>h O' a' w' v' ?_) ho hk hi hg hd hlt
 have e:lC qs K ++ lC rs K=lC (qs ++ rs) K:=by simp [lC]
 rw [← e]; exact S'
theorem t_stoI (S:St N O0 O W0 a w L X) (i j k:Nat) {t u:Tmp} {v:Value} {n q:Nat} {A B:Nat→MP} {m:MP} (hi:L[i]?=some (t,mV (elP v 3 q))) (hk:X[k]?=some (.own v 26 3 (rowI n q A B))) (hj:L[j]?=some (u,m)) (hq:q < n) (hv:∀ {v},m.S O w v→cv 3 v) (hA:∀ w x,m.S O w x→(A q).S O w x)
  (h:∀ w',St N O0 O W0 a w' L (X.set k (.own v 26 3 (rowI n (q + 1) A B)))→wpList Tryz.prog ops Q rest a w') (ho:o.op = .store 26 (.tmp t) (.tmp u):=by rfl) (hg:o.guard=none:=by rfl) (hd:o.dst=none:=by rfl):wpList Tryz.prog ops Q (o :: rest) a w:=by
 have hlt:=(List.getElem?_eq_some_iff.1 hk).1
 refine t_stoE S i j k q (by rw [rowI_len]; exact hq) hv (fun w' S'=>h w' ?_) info_Rat hk hi hj ho hg hd
 have hk':(X.set k (.own v 26 (2 + 1) ((rowI n q A B).set q m)))[k]?=some (.own v 26 (2 + 1) ((rowI n q A B).set q m)):=List.getElem?_set_self hlt
 have S2:=S'.reX k (q:=.own v 26 3 (rowI n (q + 1) A B)) hk' rfl (ownR.conv (S'.f k hk') (by rw [rowI_len,List.length_set,rowI_len]) fun l m1 m2 e1 e2 x hx=>?_)
 ·rwa [List.set_set] at S2
 ·have hl:=(List.getElem?_eq_some_iff.1 e2).1
  rw [rowI_len] at hl
  rw [rowI_get hl] at e2
  obtain rfl:=Option.some.inj e2
  by_cases hql:q=l
  ·subst hql
   rw [List.getElem?_set_self (by rw [rowI_len]; exact hl)] at e1
   obtain rfl:=Option.some.inj e1
   rw [if_pos (by omega)]
   exact hA _ _ hx
  ·rw [List.getElem?_set_ne hql,rowI_get hl] at e1
   obtain rfl:=Option.some.inj e1
   by_cases h2:l < q
   ·rw [if_pos h2] at hx; rw [if_pos (by omega)]; exact hx
   ·rw [if_neg h2] at hx; rw [if_neg (by omega)]; exact hx
theorem rowI_setD {n q i:Nat} {A B:Nat→MP} (h:i=q + 1):(rowI n i B A).set q (A q)=rowI n q B A:=by
 subst h
 apply List.ext_getElem?
 intro l
 by_cases h:q=l
 ·subst h
  by_cases hn:q < n
  ·rw [List.getElem?_set_self (by rw [rowI_len]; exact hn),rowI_get hn,if_neg (by omega)]
  ·rw [List.getElem?_eq_none (by rw [List.length_set,rowI_len]; omega),rowI_out hn]
 ·rw [List.getElem?_set_ne h]
  by_cases hn:l < n
  ·rw [rowI_get hn,rowI_get hn]
   by_cases h2:l < q
   ·rw [if_pos h2,if_pos (by omega)]
   ·rw [if_neg h2,if_neg (by omega)]
  ·rw [rowI_out hn,rowI_out hn]
theorem t_stoD (S:St N O0 O W0 a w L X) (i j k:Nat) {t u:Tmp} {v:Value} {n q r:Nat} {A B:Nat→MP} {m:MP} (hi:L[i]?=some (t,mV (elP v 3 q))) (hk:X[k]?=some (.own v 26 3 (rowI n r B A))) (hj:L[j]?=some (u,m)) (hq:q < n) (hr:r=q + 1) (hv:∀ {v},m.S O w v→cv 3 v) (hA:∀ w x,m.S O w x→(A q).S O w x)
  (h:∀ w',St N O0 O W0 a w' L (X.set k (.own v 26 3 (rowI n q B A)))→wpList Tryz.prog ops Q rest a w') (ho:o.op = .store 26 (.tmp t) (.tmp u):=by rfl) (hg:o.guard=none:=by rfl) (hd:o.dst=none:=by rfl):wpList Tryz.prog ops Q (o :: rest) a w:=by
 have hlt:=(List.getElem?_eq_some_iff.1 hk).1
 refine t_stoE S i j k q (by rw [rowI_len]; exact hq) hv (fun w' S'=>h w' ?_) info_Rat hk hi hj ho hg hd
 have hk':(X.set k (.own v 26 (2 + 1) ((rowI n r B A).set q m)))[k]?=some (.own v 26 (2 + 1) ((rowI n r B A).set q m)):=List.getElem?_set_self hlt
 have S2:=S'.reX k (q:=.own v 26 3 (rowI n q B A)) hk' rfl (ownR.conv (S'.f k hk') (by rw [rowI_len,List.length_set,rowI_len]) fun l m1 m2 e1 e2 x hx=>?_)
 ·rwa [List.set_set] at S2
 ·rw [← rowI_setD hr] at e2
  by_cases hql:q=l
  ·subst hql
   rw [List.getElem?_set_self (by rw [rowI_len]; exact hq)] at e1 e2
   obtain rfl:=Option.some.inj e1
   obtain rfl:=Option.some.inj e2
   exact hA _ _ hx
  ·rw [List.getElem?_set_ne hql] at e1 e2
   rw [e1] at e2
   obtain rfl:=Option.some.inj e2
   exact hx
theorem rowI_full (n:Nat) (A:Nat→MP) (z:MP):List.replicate n z=rowI n n (fun _=>z) A:=by
 apply List.ext_getElem?
 intro q
 by_cases hn:q < n
 ·rw [rowI_get hn,List.getElem?_replicate,if_pos hn,if_pos hn]
 ·rw [List.getElem?_eq_none (by simp; omega),rowI_out hn]
theorem t_makeD (S:St N O0 O W0 a w L X) {d:Tmp} {l:Operand} {n:Nat} {j:Int} (A:Nat→MP) (hl:a.eval l = .int .i64 j) (hj:j=(n:Int)) (hn:n≤1000000000)
  (h:∀ O' a' w' v,St N O0 O' W0 a' w' (setL d (mV v) L) (.own v 26 3 (rowI n n (fun _=>mZ) A) :: X)→wpList Tryz.prog ops Q rest a' w') (ho:o.op = .makeSlice 37 l l:=by rfl) (hg:o.guard=none:=by rfl) (hd:o.dst=some d:=by rfl) (hlt:d < N:=by decide):wpList Tryz.prog ops Q (o :: rest) a w:=by
 obtain ⟨inf,h1,h2,h3,h4⟩:=info_parts infoR
 exact t_make S (mz:=mZ) Tryz.underlying37 h1 h2 (es:=3) h3 (by rw [h4]; decide) zero_pv (fun _ _ _ hx=>isZ.cv hx) hl hj hn (fun O' a' w' g S'=>h O' a' w' _ (rowI_full n A mZ ▸ S')) ho hg hd hlt
theorem t_stoC (S:St N O0 O W0 a w L X) (i j k:Nat) {t u:Tmp} {v:Value} {q K:Nat} {qs:List Rat} {x:Rat} {m:MP} (hi:L[i]?=some (t,mV (elP v 3 q))) (hk:X[k]?=some (.own v 26 3 (lC qs K))) (hj:L[j]?=some (u,m)) (hq:q < qs.length) (hA:∀ w y,m.S O w y→isC x K w y)
  (h:∀ w',St N O0 O W0 a w' L (X.set k (.own v 26 3 (lC (qs.set q x) K)))→wpList Tryz.prog ops Q rest a w') (ho:o.op = .store 26 (.tmp t) (.tmp u):=by rfl) (hg:o.guard=none:=by rfl) (hd:o.dst=none:=by rfl):wpList Tryz.prog ops Q (o :: rest) a w:=by
 have hlt:=(List.getElem?_eq_some_iff.1 hk).1
 refine t_stoE S i j k q (by rw [lC_len]; exact hq) (fun hv=>(hA _ _ hv).cv) (fun w' S'=>h w' ?_) info_Rat hk hi hj ho hg hd
 have hk':(X.set k (.own v 26 (2 + 1) ((lC qs K).set q m)))[k]?=some (.own v 26 (2 + 1) ((lC qs K).set q m)):=List.getElem?_set_self hlt
 have S2:=S'.reX k (q:=.own v 26 3 (lC (qs.set q x) K)) hk' rfl (ownR.conv (S'.f k hk') (by simp [lC]) fun l m1 m2 e1 e2 y hy=>?_)
 ·rwa [List.set_set] at S2
 ·rw [← lC_set] at e2
  by_cases hql:q=l
  ·subst hql
   rw [List.getElem?_set_self (by rw [lC_len]; exact hq)] at e1 e2
   obtain rfl:=Option.some.inj e1
   obtain rfl:=Option.some.inj e2
   exact hA _ _ hy
  ·rw [List.getElem?_set_ne hql] at e1 e2
   rw [e1] at e2
   obtain rfl:=Option.some.inj e2
   exact hy
end
theorem len_own {P:Program} {ρ:Operand→Value} {o:Oper} {w w':World} {x:Operand} {t e T:TypeId} {es:Nat} {v:Value} {ms:List MP} (n:Nat) (hu:P.underlying t=some (.slice e)) (hF:ownR O w' T es v ms) (hx : ρ x=v) (hn:ms.length=n) (ho:o.op = .call { callee:=.builtin .len,args:=#[x],argTypes:=#[t] }:=by rfl):(execOp ρ o).run P w = .ok (.value (.int .i64 (n:Int))) w:=by
 subst hn
 rcases hF with ⟨rfl,rfl⟩ | ⟨g,c,cur,rfl,_⟩
 ·exact run_len_any hu hx ho
 ·exact run_len_any hu hx ho
theorem len_L {P:Program} {a:Act} {o:Oper} {w w':World} {x:Tmp} {t e:TypeId} {es:Nat} {ms:List MP} (n:Nat) (hu:P.underlying t=some (.slice e)) (h:isSl O w' es ms (sl a x)) (hn:ms.length=n) (ho:o.op = .call { callee:=.builtin .len,args:=#[.tmp x],argTypes:=#[t] }:=by rfl):(execOp a.eval o).run P w = .ok (.value (.int .i64 (n:Int))) w:=by
 subst hn
 exact run_len_m hu (show isSl O w' es ms (a.eval (.tmp x)) from h) ho
theorem built_l1 (x0 x1 x2:Value):Tryz.prog.builtSlice 26 1 [(0,.agg #[x0,x1,x2])]=some #[x0,x1,x2]:=by kernel_rfl
theorem els1 {w w':World} {g:Nat} {x0 x1 x2:Value} {m:MP} {cs:Array Value} (hh:w'.heap[g]?=some (.cells cs 26 (0,0))) (n:Nat) (h0:cs[3 * n]?=some x0) (h1:cs[3 * n + 1]?=some x1) (h2:cs[3 * n + 2]?=some x2) (hb:Below w.heap.size w w') (hm:m.S O w (.agg #[x0,x1,x2])):El O w' 3 g (0 + zc 3 * n) m:=by
 refine ⟨[x0,x1,x2],fun j v hv=>?_,rfl,m.mono _ _ _ _ (Kp.of hb) hm⟩
 rw [cell_of_row w' g _ cs _ (0,0) hh,Nat.zero_add,show zc 3=3 from rfl]
 match j with
 | 0=>rw [← hv]; exact h0
 | 1=>rw [← hv]; exact h1
 | 2=>rw [← hv]; exact h2
 | j + 3=>simp at hv
theorem lit1 {a:Act} {o:Oper} {w:World} {t:Tmp} {m:MP} (ob:OB O w) (h0:m.S O w (sl a t)) (c0:cv 3 (sl a t)) (ho:o.op = .buildSlice 37 1 #[(0,.tmp t)]:=by rfl):∃ v w',(execOp a.eval o).run Tryz.prog w = .ok (.value v) w'∧Below w.heap.size w w'∧(mSl 3 [m]).S O w' v:=by
 obtain ⟨x0,x1,x2,e0⟩:=cv3 c0
 have e0':a.eval (.tmp t) = .agg #[x0,x1,x2]:=e0
 rw [e0] at h0
 refine ⟨_,_,run_buildSliceR ho Tryz.underlying37 (cells:=#[x0,x1,x2]) ?_,below_alloc _ _,some ⟨w.heap.size,0,none⟩,1,rfl,Nat.le_refl _,by simp [maxLen],Or.inr ⟨_,0,rfl,fun h=>by have:=ob _ h; omega,by simp,fun i m' hm'=>?_⟩⟩
 ·simp only [List.map_toArray,List.map_cons,List.map_nil,e0']
  exact built_l1 _ _ _
 ·match i with
  | 0 =>
   obtain rfl:=Option.some.inj hm'
   exact els1 (heap_alloc_at _ _) 0 rfl rfl rfl (below_alloc _ _) h0
  | i + 1=>simp at hm'
theorem sl_hR {a:Act} {o:Oper} {w:World} {x:Tmp} {y:Operand} {qs:List Rat} {k:Nat} {j:Int} (n:Nat) (h:isSl O w 3 (lR qs k) (sl a x)) (hy:a.eval y = .int .i64 j) (hj:j=(n:Int)) (hn:n≤qs.length) (ho:o.op = .slice 37 (.tmp x) none (some y) none:=by rfl):∃ v,(execOp a.eval o).run Tryz.prog w = .ok (.value v) w∧(mSl 3 (lR (qs.take n) k)).S O w v:=by
 rw [← lR_take]
 exact sl_h n Tryz.underlying37 infoRz h hy hj (by rw [lR_len]; exact hn) ho
theorem sl_hC {a:Act} {o:Oper} {w:World} {x:Tmp} {y:Operand} {qs:List Rat} {k:Nat} {j:Int} (n:Nat) (h:isSl O w 3 (lC qs k) (sl a x)) (hy:a.eval y = .int .i64 j) (hj:j=(n:Int)) (hn:n≤qs.length) (ho:o.op = .slice 37 (.tmp x) none (some y) none:=by rfl):∃ v,(execOp a.eval o).run Tryz.prog w = .ok (.value v) w∧(mSl 3 (lC (qs.take n) k)).S O w v:=by
 rw [← lC_take]
 exact sl_h n Tryz.underlying37 infoRz h hy hj (by rw [lC_len]; exact hn) ho
theorem bx_pt {T:TypeId} {m:MP} {w w':World} {g:Nat} (h:bx O T 3 m w g) (hb:Below w.heap.size w w'):(mPt 3 m).S (fun _=>False) w' (.pointer (some ⟨g,0,none⟩)):=by
 obtain ⟨cs,h1,h2,h3,h4,h5⟩:=h.below hb
 exact ⟨g,0,rfl,id,(Array.getElem?_eq_some_iff.1 h1).1,cs.toList,fun j v hv=>by rw [Nat.zero_add,cell_of_row w' g j cs T (0,0) h1]; simpa using hv,by simpa using h2,by simpa using m.less _ _ _ _ (fun _ h=>h.elim) h5⟩
theorem isZ.r0 {q:Rat} {k:Nat} {w:World} {v:Value} (hq:q=0) (h:isZ v):isR q k w v:=hq ▸ isR.mono (isZ.r h) (Nat.zero_le _)
theorem isC.re {q:Rat} {k k':Nat} {w:World} {v:Value} (h:isC q k w v) (hs:Sz q k'):isC q k' w v:=by
 obtain ⟨ao,c,ad,d,rfl,h1,h2,h3⟩:=h
 exact ⟨ao,c,ad,d,rfl,h1,h2,hs⟩
theorem run_max {P:Program} {ρ:Operand→Value} {o:Oper} {w:World} {x y:Operand} {m n:Nat} {t t':TypeId} (ho:o.op = .call { callee:=.builtin .max,args:=#[x,y],argTypes:=#[t,t'] }) (hx : ρ x = .int .i64 (m:Int)) (hy : ρ y = .int .i64 (n:Int)):(execOp ρ o).run P w = .ok (.value (.int .i64 ((max m n:Nat):Int))) w:=by
 unfold execOp
 simp [ho,hx,hy,resolve,invoke,builtin,go_sem]
 omega
theorem lit1C {a:Act} {o:Oper} {w:World} {t:Tmp} {q:Rat} {k:Nat} (ob:OB O w) (h0:isC q k w (sl a t)) (ho:o.op = .buildSlice 37 1 #[(0,.tmp t)]:=by rfl):∃ v w',(execOp a.eval o).run Tryz.prog w = .ok (.value v) w'∧Below w.heap.size w w'∧(mSl 3 (lC [q] k)).S O w' v:=lit1 (m:=mC q k) ob h0 h0.cv ho
theorem lit1R {a:Act} {o:Oper} {w:World} {t:Tmp} {q:Rat} {k:Nat} (ob:OB O w) (h0:isR q k w (sl a t)) (ho:o.op = .buildSlice 37 1 #[(0,.tmp t)]:=by rfl):∃ v w',(execOp a.eval o).run Tryz.prog w = .ok (.value v) w'∧Below w.heap.size w w'∧(mSl 3 (lR [q] k)).S O w' v:=lit1 (m:=mR q k) ob h0 h0.cv ho
theorem run_max0 {P:Program} {ρ:Operand→Value} {o:Oper} {w:World} {x y:Operand} {j:Int} {n:Nat} {t t':TypeId} (ho:o.op = .call { callee:=.builtin .max,args:=#[x,y],argTypes:=#[t,t'] }) (hx : ρ x = .int .i64 j) (hy : ρ y = .int .i64 0) (hj:(if j≤0 then 0 else j)=(n:Int)):(execOp ρ o).run P w = .ok (.value (.int .i64 (n:Int))) w:=by
 unfold execOp
 simp [ho,hx,hy,resolve,invoke,builtin,go_sem]
 omega
theorem rowD_end {n j:Nat} {f:Nat→Rat} {K:Nat} {B:Nat→MP} {rs:List Rat} {w:World} {v:Value} (hj:j=0) (hl:rs.length=n) (hf:∀ l,l < n→rs.getD l 0=f l) (h:(mSl 3 (rowI n j B fun l=>mC (f l) K)).S O w v):(mSl 3 (lC rs K)).S O w v :=
 isSl.imp (by rw [lC_len,rowI_len,hl]) (fun l _ _ h1 h2 _ hv=>by
  obtain ⟨h3,rfl⟩:=lC_lt h2
  rw [hl] at h3
  rw [rowI_get h3,if_neg (by omega)] at h1
  obtain rfl:=Option.some.inj h1
  rw [hf l h3]
  exact hv) h
end Go.Proofs.YtcankknlbljicaaGreatDoor

namespace Go.Proofs.YtcankknlbljicaaGreatDoor
open Go.RowKit Num
variable {O : Bs}

def mI (ms:List MP) (m:MP):MP:=mAg [(0,mSl 3 ms),(3,m)]
theorem mI_iff {ms:List MP} {m:MP} {w:World} {v:Value}:(mI ms m).S O w v ↔ ∃ x y0 y1 y2,v = .agg #[x,y0,y1,y2]∧(mSl 3 ms).S O w x∧m.S O w (.agg #[y0,y1,y2]):=by
 constructor
 ·rintro ⟨cs,rfl,c,d,e,⟨x,rfl,h1⟩,c2,d2,e2,⟨h2,h3⟩,e3⟩
  have e3':d2 = []:=e3
  subst e3'
  rw [List.append_nil] at e2
  subst e2
  have h2':d.length=3:=h2
  match d,h2' with
  | [y0,y1,y2],_ =>
   refine ⟨x,y0,y1,y2,?_,h1,h3⟩
   have:cs.toList = [x,y0,y1,y2]:=e
   rw [← Array.toArray_toList (xs:=cs),this]
 ·rintro ⟨x,y0,y1,y2,rfl,h1,h2⟩
  exact ⟨_,rfl,[x],[y0,y1,y2],rfl,⟨x,rfl,h1⟩,[y0,y1,y2],[],rfl,⟨rfl,h2⟩,rfl⟩
theorem mI_imp {ms ms':List MP} {m m':MP} {w:World} {v:Value} (h1:∀ v,(mSl 3 ms).S O w v→(mSl 3 ms').S O w v) (h2:∀ v,m.S O w v→m'.S O w v) (h:(mI ms m).S O w v):(mI ms' m').S O w v:=by
 obtain ⟨x,y0,y1,y2,e,k1,k2⟩:=mI_iff.1 h
 exact mI_iff.2 ⟨x,y0,y1,y2,e,h1 _ k1,h2 _ k2⟩
theorem mI_cv {ms:List MP} {m:MP} {w:World} {v:Value} (hm:∀ v,m.S O w v→cv 3 v) (h:(mI ms m).S O w v):cv 4 v:=by
 obtain ⟨x,y0,y1,y2,rfl,⟨ao,c,rfl,_⟩,k2⟩:=mI_iff.1 h
 obtain ⟨_,e1,_,n1,o1⟩:=hm _ k2
 obtain rfl:=Value.agg.inj e1
 refine ⟨_,rfl,rfl,fun i z=>?_,?_⟩
 ·match i with
  | 0=>simp
  | 1=>exact n1 0 z
  | 2=>exact n1 1 z
  | 3=>exact n1 2 z
  | i + 4=>simp
 ·simp at o1 ⊢
  exact ⟨rfl,o1.1,o1.2.1,o1.2.2⟩
theorem info_integral:(Tryz.prog.info? 102).map (·.size)=some 4:=by kernel_rfl
theorem zero_integral (w:World):(zeroValue 102).run Tryz.prog w = .ok (.agg #[.slice none 0 0,.bool false,.slice none 0 0,.slice none 0 0]) w:=by kernel_rfl
theorem bx_integral {w:World} {g:Nat} (h:w.heap[g]?=some (.cells (Value.agg #[.slice none 0 0,.bool false,.slice none 0 0,.slice none 0 0]).cells 102 (0,0))):bx O 102 4 mTop w g:=by
 refine ⟨_,h,rfl,fun i z=>?_,by simp [Value.cells,Value.oneCell'],trivial⟩
 match i with
 | 0=>simp [Value.cells]
 | 1=>simp [Value.cells]
 | 2=>simp [Value.cells]
 | 3=>simp [Value.cells]
 | i + 4=>simp [Value.cells]
theorem info_Poly:(Tryz.prog.info? 37).map (·.size)=some 1:=by kernel_rfl
theorem built_I0 (ao:Option Addr) (n c:Nat) (y0 y1 y2:Value):Tryz.prog.built 102 [(0,.slice ao n c),(1,.agg #[y0,y1,y2])]=some #[.slice ao n c,y0,y1,y2]:=by kernel_rfl
theorem bld_I {a:Act} {w:World} {o:Oper} {t u:Tmp} {ms:List MP} {m:MP} (ho:o.op = .build 102 #[(0,Operand.tmp t),(1,Operand.tmp u)]) (h1:(mSl 3 ms).S O w (sl a t)) (h2:m.S O w (sl a u)) (c2:cv 3 (sl a u)):∃ v,(execOp a.eval o).run Tryz.prog w = .ok (.value v) w∧(mI ms m).S O w v:=by
 obtain ⟨y0,y1,y2,q2⟩:=cv3 c2
 have h1':=h1
 obtain ⟨ao,c,q1,_⟩:=h1
 rw [q2] at h2
 rw [q1] at h1'
 have e1:a.eval (.tmp t)=_:=q1
 have e2:a.eval (.tmp u)=_:=q2
 refine ⟨_,run_build_op _ _ ho (cells:=#[.slice ao ms.length c,y0,y1,y2]) ?_,mI_iff.2 ⟨_,y0,y1,y2,rfl,h1',h2⟩⟩
 simp only [List.map_toArray,List.map_cons,List.map_nil,e1,e2]
 exact built_I0 _ _ _ _ _ _
theorem fa_integral_0 {ρ:Operand→Value} {o:Oper} {w:World} {x:Operand} {g:Nat} (ho:o.op = .fieldAddr 102 x 0) (hx : ρ x = .pointer (some ⟨g,0,none⟩)):(execOp ρ o).run Tryz.prog w = .ok (.value (.pointer (some ⟨g,0,none⟩))) w:=run_fieldAddr ho hx Tryz.underlying102 rfl info_Poly
theorem fa_integral_1 {ρ:Operand→Value} {o:Oper} {w:World} {x:Operand} {g:Nat} (ho:o.op = .fieldAddr 102 x 1) (hx : ρ x = .pointer (some ⟨g,0,none⟩)):(execOp ρ o).run Tryz.prog w = .ok (.value (.pointer (some ⟨g,1,none⟩))) w:=run_fieldAddr ho hx Tryz.underlying102 rfl info_Rat
theorem ld_I0 {ρ:Operand→Value} {o:Oper} {w:World} {x:Operand} {g:Nat} {T:TypeId} {ms:List MP} {m:MP} (h:bx O T 4 (mI ms m) w g) (hx : ρ x = .pointer (some ⟨g,0,none⟩)) (ho:o.op = .load 37 x:=by rfl):∃ v,(execOp ρ o).run Tryz.prog w = .ok (.value v) w∧(mSl 3 ms).S O w v:=by
 obtain ⟨cs,h1,h2,h3,h4,h5⟩:=h
 obtain ⟨x0,y0,y1,y2,e,k1,k2⟩:=mI_iff.1 h5
 obtain rfl:=Value.agg.inj e
 have hc:w.cell? ⟨g,0,none⟩=some x0:=by rw [cell_of_row w g 0 _ T (0,0) h1]; rfl
 refine ⟨x0,?_,k1⟩
 unfold execOp
 simp [ho,hx,Instr.loadAt,Instr.sureAddr,go_sem,loadVar,isAgg,run_underlying Tryz.underlying37,hc]
theorem fld_I0 {a:Act} {o:Oper} {w:World} {t:Tmp} {ms:List MP} {m:MP} (h:(mI ms m).S O w (sl a t)) (ho:o.op = .field 102 (.tmp t) 0:=by rfl):∃ v,(execOp a.eval o).run Tryz.prog w = .ok (.value v) w∧(mSl 3 ms).S O w v:=by
 obtain ⟨x0,y0,y1,y2,e,k1,k2⟩:=mI_iff.1 h
 refine ⟨x0,?_,k1⟩
 have e2:a.eval (.tmp t)=_:=e
 unfold execOp
 rw [ho]
 simp only [e2]
 refine Eq.trans (b:=Result.ok (Next.value x0) w) ?_ rfl
 kernel_rfl
theorem ld_I1 {T:TypeId} {ms:List MP} {m:MP} {w:World} {g:Nat} (h:bx O T 4 (mI ms m) w g):∃ x0 x1 x2,w.rangeAt g 1 [x0,x1,x2]∧m.S O w (.agg #[x0,x1,x2]):=by
 obtain ⟨cs,h1,h2,h3,h4,h5⟩:=h
 obtain ⟨x0,y0,y1,y2,e,k1,k2⟩:=mI_iff.1 h5
 obtain rfl:=Value.agg.inj e
 refine ⟨y0,y1,y2,fun j v hv=>?_,k2⟩
 rw [cell_of_row w g _ _ T (0,0) h1]
 match j with
 | 0=>simpa using hv
 | 1=>simpa using hv
 | 2=>simpa using hv
 | j + 3=>simp at hv
section
variable {N : Nat} {O O0 : Bs} {W0 w : World} {a : Act} {L : List (Nat × MP)} {X : List RX}
theorem St.nil (S:St N O0 O W0 a w L X) (T:TypeId) (es:Nat):St N O0 O W0 a w L (.own (.slice none 0 0) T es [] :: X) :=
 S.add (fun g e=>by cases e) (Or.inl ⟨rfl,rfl⟩) fun p _ g e=>by cases e
theorem St.frz (S:St N O0 O W0 a w L X) (i k:Nat) {t:Nat} {v:Value} {T:TypeId} {es:Nat} {ms:List MP} (hk:X[k]?=some (.own v T es ms):=by rfl) (hi:L[i]?=some (t,mV v):=by rfl):∃ O',St N O0 O' W0 a w ((t,mSl es ms) :: L.filter fun p=>p.1 != t) (X.eraseIdx k):=S.freeze k _ rfl (S.sl i hi) hk
end
def mT3 (m1 m2 m3:MP):MP:=mTu [m1,m2,m3]
theorem st_end3 {fn:Func} {N:Nat} {O O0:Bs} {W0 w:World} {a:Act} {L:List (Nat × MP)} {X:List RX} {p q r:Tmp} {m1 m2 m3 m1' m2' m3':MP} (S:St N O0 O W0 a w L X) (i j k:Nat) (hi:L[i]?=some (p,m1)) (hj:L[j]?=some (q,m2)) (hk:L[k]?=some (r,m3)) (h1:∀ v,m1.S O0 w v→m1'.S O0 w v) (h2:∀ v,m2.S O0 w v→m2'.S O0 w v) (h3:∀ v,m3.S O0 w v→m3'.S O0 w v) (hf:fn.results = #[.tmp p,.tmp q,.tmp r]:=by rfl):bodyPost Tryz.prog fn (RetM (mT3 m1' m2' m3') O0 W0) .ret a w :=
 ⟨S.d,_,results_tmp3 hf a.tmps Tryz.prog w,_,rfl,⟨_,rfl,_,_,rfl,h1 _ (m1.less _ _ _ _ S.o (S.sl i hi)),_,_,rfl,h2 _ (m2.less _ _ _ _ S.o (S.sl j hj)),_,_,rfl,h3 _ (m3.less _ _ _ _ S.o (S.sl k hk)),rfl⟩,S.B⟩
theorem ext3_0 {P:Program} {a:Act} {o:Oper} {w w':World} {t:Tmp} {m1 m2 m3:MP} {O:Bs} (ho:o.op = .extract (.tmp t) 0) (h:(mT3 m1 m2 m3).S O w' (sl a t)):∃ v,(execOp a.eval o).run P w = .ok (.value v) w∧m1.S O w' v:=by
 obtain ⟨vs,e,x,us,e2,h1,y,us2,rfl,h2,z,us3,rfl,h3,rfl⟩:=h
 exact ⟨x,run_extract_op ho (ev e) (by rw [← Array.getElem?_toList,e2]; rfl),h1⟩
theorem ext3_1 {P:Program} {a:Act} {o:Oper} {w w':World} {t:Tmp} {m1 m2 m3:MP} {O:Bs} (ho:o.op = .extract (.tmp t) 1) (h:(mT3 m1 m2 m3).S O w' (sl a t)):∃ v,(execOp a.eval o).run P w = .ok (.value v) w∧m2.S O w' v:=by
 obtain ⟨vs,e,x,us,e2,h1,y,us2,rfl,h2,z,us3,rfl,h3,rfl⟩:=h
 exact ⟨y,run_extract_op ho (ev e) (by rw [← Array.getElem?_toList,e2]; rfl),h2⟩
theorem ext3_2 {P:Program} {a:Act} {o:Oper} {w w':World} {t:Tmp} {m1 m2 m3:MP} {O:Bs} (ho:o.op = .extract (.tmp t) 2) (h:(mT3 m1 m2 m3).S O w' (sl a t)):∃ v,(execOp a.eval o).run P w = .ok (.value v) w∧m3.S O w' v:=by
 obtain ⟨vs,e,x,us,e2,h1,y,us2,rfl,h2,z,us3,rfl,h3,rfl⟩:=h
 exact ⟨z,run_extract_op ho (ev e) (by rw [← Array.getElem?_toList,e2]; rfl),h3⟩
theorem lR_sz {qs:List Rat} {k:Nat} {w:World} {v:Value} (h:(mSl 3 (lR qs k)).S O w v) (j:Nat):Sz (qs.getD j 0) (k + 1):=by
 by_cases hj:j < qs.length
 ·obtain ⟨ao,c,h1,h2,h3,h4⟩:=h
  rcases h4 with hc | ⟨g,off,_,_,_,hE⟩
  ·rw [lR_len] at h2; omega
  ·obtain ⟨cs,_,_,h5⟩:=hE j _ (lR_get hj)
   exact isR.sz h5
 ·rw [List.getD_eq_getElem?_getD,List.getElem?_eq_none (by omega)]
  exact Sz.zero.mono (by omega)
end Go.Proofs.YtcankknlbljicaaGreatDoor
