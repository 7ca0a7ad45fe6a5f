/-  -/
import Derived.Test.YtcankknlbljicaaGreatDoorYeb
import Derived.Test.YtcankknlbljicaaGreatDoorYdb
import Derived.Test.YtcankknlbljicaaGreatDoorY3
import Derived.Test.YtcankknlbljicaaGreatDoorYbf

set_option linter.unusedVariables false
set_option linter.unusedSimpArgs false
set_option linter.unusedSectionVars false
set_option maxRecDepth 100000
set_option maxHeartbeats 3200000

namespace Go.Proofs.YtcankknlbljicaaGreatDoor
open Go.RowKit Num
variable {O : Bs}

def isK (q:Rat) (k:Nat) (cn:Bool) (w:World) (v:Value):Prop:=∃ b ao c xs ad d ds,v = .agg #[.bool b,.slice ao xs.length c,.slice ad ds.length d]∧Rq w b ao c xs ad d ds q k∧(cn=true ↔ canon b xs ds)
theorem isK.ext {q:Rat} {k:Nat} {cn:Bool} {w w':World} {v:Value} (he:Ext w w') (h:isK q k cn w v):isK q k cn w' v:=by
 obtain ⟨b,ao,c,xs,ad,d,ds,rfl,h1,h2⟩:=h
 exact ⟨b,ao,c,xs,ad,d,ds,rfl,⟨h1.rn.ext he,h1.rd.ext he,h1.vq,h1.ln,h1.ld⟩,h2⟩
def mK (q:Rat) (k:Nat) (cn:Bool):MP:=MP.of (isK q k cn) fun _ _ _ he h=>h.ext he
theorem isK.r {q:Rat} {k:Nat} {cn:Bool} {w:World} {v:Value} (h:isK q k cn w v):isR q k w v:=by
 obtain ⟨b,ao,c,xs,ad,d,ds,rfl,h1,h2⟩:=h
 exact ⟨b,ao,c,xs,ad,d,ds,rfl,h1⟩
theorem isR.k {q:Rat} {k:Nat} {w:World} {v:Value} (h:isR q k w v):∃ cn,isK q k cn w v:=by
 obtain ⟨b,ao,c,xs,ad,d,ds,rfl,h1⟩:=h
 exact ⟨@decide (canon b xs ds) (Classical.propDecidable _),b,ao,c,xs,ad,d,ds,rfl,h1,by simp⟩
theorem isC.k {q:Rat} {k:Nat} {w:World} {v:Value} (h:isC q k w v):isK q k true w v:=by
 obtain ⟨b,ao,c,xs,ad,d,ds,he,h1⟩:=h.r
 obtain ⟨ao',c',ad',d',he',h2,h3,h4⟩:=h
 subst he
 have e1:=Value.agg.inj he'
 simp only [Array.mk.injEq,List.cons.injEq,Value.bool.injEq,Value.slice.injEq,and_true] at e1
 obtain ⟨rfl,⟨rfl,e2,rfl⟩,⟨rfl,e3,rfl⟩⟩:=e1
 refine ⟨_,ao,c,nd q.num.natAbs,ad,d,nd q.den,by rw [e2,e3],⟨h2,h3,by rw [val_nd,val_nd]; unfold rv; rw [iv_self]; exact Rat.mkRat_self q,h4.1,h4.2⟩,?_⟩
 rw [canon_iff h2.dg h3.dg (q:=q) (by rw [val_nd,val_nd]; unfold rv; rw [iv_self]; exact Rat.mkRat_self q)]
 simp
theorem isK.cv {q:Rat} {k:Nat} {cn:Bool} {w:World} {v:Value} (h:isK q k cn w v):cv 3 v:=h.r.cv
theorem isE.r {q:Rat} {er:Int} {k:Nat} {w:World} {v:Value} (h:isE q er k w v):isR (if er=0 then q else 0) k w v:=by
 by_cases he:er=0
 ·subst he; rw [if_pos rfl]; exact h.ok.r
 ·obtain ⟨ao,c,ad,d,rfl,h1,h2,h3⟩:=h
  rw [if_neg he]
  refine ⟨_,ao,c,_,ad,d,_,rfl,h1,h2,?_,?_,?_⟩
  ·unfold rdn; rw [if_neg he]; exact rv_zero _ _
  ·unfold rnm; rw [if_neg he]; exact Nat.zero_le _
  ·unfold rdn; rw [if_neg he]; exact Nat.zero_le _
theorem isE.of {q:Rat} {k:Nat} {w:World} {v:Value} (h:isC q k w v):isE q 0 k w v:=by
 obtain ⟨ao,c,ad,d,rfl,h1,h2,h3⟩:=h
 exact ⟨ao,c,ad,d,rfl,h1,h2,fun _=>h3⟩
theorem isE.zero {q:Rat} {er:Int} {k:Nat} {w:World} (he:er≠0):isE q er k w (.agg #[.bool false,.slice none 0 0,.slice none 0 0]):=by
 have e1:rnm q er = []:=by unfold rnm; rw [if_neg he]
 have e2:rdn q er = []:=by unfold rdn; rw [if_neg he]
 have e3:rsg q er=false:=by unfold rsg; simp [he]
 refine ⟨none,0,none,0,by rw [e1,e2,e3]; rfl,?_,?_,fun h=>absurd h he⟩
 ·rw [e1]; exact Rd.nil (by omega) (fun _=>rfl)
 ·rw [e2]; exact Rd.nil (by omega) (fun _=>rfl)
theorem isZ.r {w:World} {v:Value} (h:isZ v):isR 0 0 w v :=
 ⟨false,none,0,[],none,0,[],h,Rd.nil (by omega) (fun _=>rfl),Rd.nil (by omega) (fun _=>rfl),rv_zero _ _,Nat.le_refl _,Nat.le_refl _⟩
theorem isZ.e {q:Rat} {er:Int} {k:Nat} {w:World} {v:Value} (he:er≠0) (h:isZ v):isE q er k w v:=h ▸ isE.zero he
theorem isC.e {q:Rat} {er:Int} {k:Nat} {w:World} {v:Value} (he:er=0) (h:isC q k w v):isE q er k w v:=he ▸ isE.of h
theorem isE.mono {q:Rat} {er:Int} {k m:Nat} {w:World} {v:Value} (h:isE q er k w v) (hk:k≤m):isE q er m w v:=by
 obtain ⟨ao,c,ad,d,rfl,h1,h2,h3⟩:=h
 exact ⟨ao,c,ad,d,rfl,h1,h2,fun e=>(h3 e).mono hk⟩
theorem RetRat.s {q:Rat} {k:Nat} {w:World} {e:Ending} {w':World} (hs:Sz q k) (h:RetRat q w e w'):RetM (mC q k) O w e w':=by
 obtain ⟨ao,c,ad,d,rfl,h1,h2,h3⟩:=h
 exact ⟨_,rfl,⟨ao,c,ad,d,rfl,h1.rd,h2.rd,hs⟩,h3⟩
theorem RetRatE.s {q:Rat} {er:Int} {k:Nat} {w:World} {e:Ending} {w':World} (hs:Sz q k) (h:RetRatE q er w e w'):RetM (mT (mE q er k) (mV (.int .i64 er))) O w e w':=by
 obtain ⟨ao,c,ad,d,rfl,h1,h2,h3⟩:=h
 exact ⟨_,rfl,⟨_,_,rfl,⟨ao,c,ad,d,rfl,h1.rd,h2.rd,fun _=>hs⟩,rfl⟩,h3⟩
theorem RetB.s {x:Value} {w:World} {e:Ending} {w':World} (h:RetB x w e w'):RetM (mV x) O w e w':=by
 obtain ⟨rfl,h⟩:=h
 exact ⟨_,rfl,rfl,h⟩
theorem Sz.zero:Sz 0 1:=⟨nd_length_le (show (0:Nat) < 4294967296 ^ 1 by omega),nd_length_le (show (1:Nat) < 4294967296 ^ 1 by omega)⟩
theorem Sz.int {z:Int} {k:Nat} (h:z.natAbs < 4294967296 ^ k) (hk : 1≤k):Sz ((z:Int):Rat) k:=by
 refine ⟨nd_length_le h,nd_length_le ?_⟩
 show 1 < 4294967296 ^ k
 exact Nat.one_lt_pow (by omega) (by omega)
theorem isR.sz {q:Rat} {k:Nat} {w:World} {v:Value} (h:isR q k w v):Sz q (k + 1):=by
 obtain ⟨b,ao,c,xs,ad,d,ds,rfl,h1⟩:=h
 exact h1.sz

theorem c_add {q p:Rat} {k m:Nat} (hk:k≤9999999999) (hm:m≤9999999999) {v u:Value} {w:World} (h:isR q k w v) (g:isR p m w u) (hT:Tb w):Calls Tryz.prog 172 #[v,u] w (RetM (mC (q + p) (k + m + 3)) O w):=by
 obtain ⟨b1,ao1,c1,xs1,ad1,d1,ds1,rfl,h1⟩:=h
 obtain ⟨b2,ao2,c2,xs2,ad2,d2,ds2,rfl,h2⟩:=g
 exact (add3_any h1 h2 (by omega) (by omega) hT).mono fun _ _ r=>RetRat.s (h1.sz.add h2.sz |>.mono (by omega)) r
theorem c_sub {q p:Rat} {k m:Nat} (hk:k≤9999999999) (hm:m≤9999999999) {v u:Value} {w:World} (h:isR q k w v) (g:isR p m w u) (hT:Tb w):Calls Tryz.prog 180 #[v,u] w (RetM (mC (q - p) (k + m + 3)) O w):=by
 obtain ⟨b1,ao1,c1,xs1,ad1,d1,ds1,rfl,h1⟩:=h
 obtain ⟨b2,ao2,c2,xs2,ad2,d2,ds2,rfl,h2⟩:=g
 exact (sub3_any h1 h2 (by omega) (by omega) hT).mono fun _ _ r=>RetRat.s (h1.sz.sub h2.sz |>.mono (by omega)) r
theorem c_mul {q p:Rat} {k m:Nat} (hk:k≤9999999999) (hm:m≤9999999999) {v u:Value} {w:World} (h:isR q k w v) (g:isR p m w u) (hT:Tb w):Calls Tryz.prog 118 #[v,u] w (RetM (mC (q * p) (k + m + 3)) O w):=by
 obtain ⟨b1,ao1,c1,xs1,ad1,d1,ds1,rfl,h1⟩:=h
 obtain ⟨b2,ao2,c2,xs2,ad2,d2,ds2,rfl,h2⟩:=g
 exact (mul3_any h1 h2 (by omega) (by omega) hT).mono fun _ _ r=>RetRat.s (h1.sz.mul h2.sz |>.mono (by omega)) r
theorem c_div {q p:Rat} {k m:Nat} (hk:k≤9999999999) (hm:m≤9999999999) {v u:Value} {w:World} (h:isR q k w v) (g:isR p m w u) (hT:Tb w):Calls Tryz.prog 184 #[v,u] w (RetM (mT (mE (q / p) (zeq p) (k + m + 3)) (mV (.int .i64 (zeq p)))) O w):=by
 obtain ⟨b1,ao1,c1,xs1,ad1,d1,ds1,rfl,h1⟩:=h
 obtain ⟨b2,ao2,c2,xs2,ad2,d2,ds2,rfl,h2⟩:=g
 exact (div3_any h1 h2 (by omega) (by omega) hT).mono fun _ _ r=>RetRatE.s (h1.sz.div h2.sz |>.mono (by omega)) r
theorem c_sign {q:Rat} {k:Nat} (hk:k≤9999999999) {v:Value} {w:World} (h:isR q k w v):Calls Tryz.prog 96 #[v] w (RetM (mV (.int .i64 (sgnQ q))) O w):=by
 obtain ⟨b,ao,c,xs,ad,d,ds,rfl,h1⟩:=h
 exact (sign3_any h1 (by omega)).mono fun _ _ r=>RetB.s r
theorem c_trim {q:Rat} {k:Nat} (hk:k≤9999999999) {v:Value} {w:World} (h:isR q k w v) (hT:Tb w):Calls Tryz.prog 88 #[v] w (RetM (mC q (k + 1)) O w):=by
 obtain ⟨b,ao,c,xs,ad,d,ds,rfl,h1⟩:=h
 exact (trim3_any h1 (by omega) hT).mono fun _ _ r=>RetRat.s h1.sz r
theorem r_add {q p:Rat} {k m:Nat} (hk:k≤9999999999) (hm:m≤9999999999) {v u:Value} {w:World} (h:isR q k w v) (g:isR p m w u):Calls Tryz.prog 65 #[v,u] w (RetM (mC (q + p) (k + m + 3)) O w):=by
 obtain ⟨b1,ao1,c1,xs1,ad1,d1,ds1,rfl,h1⟩:=h
 obtain ⟨b2,ao2,c2,xs2,ad2,d2,ds2,rfl,h2⟩:=g
 exact (radd3_any h1 h2 (by omega) (by omega)).mono fun _ _ r=>RetRat.s (h1.sz.add h2.sz |>.mono (by omega)) r
theorem r_mul {q p:Rat} {k m:Nat} (hk:k≤9999999999) (hm:m≤9999999999) {v u:Value} {w:World} (h:isR q k w v) (g:isR p m w u):Calls Tryz.prog 66 #[v,u] w (RetM (mC (q * p) (k + m + 3)) O w):=by
 obtain ⟨b1,ao1,c1,xs1,ad1,d1,ds1,rfl,h1⟩:=h
 obtain ⟨b2,ao2,c2,xs2,ad2,d2,ds2,rfl,h2⟩:=g
 exact (rmul3_any h1 h2 (by omega) (by omega)).mono fun _ _ r=>RetRat.s (h1.sz.mul h2.sz |>.mono (by omega)) r
theorem r_cmp {q p:Rat} {k m:Nat} (hk:k≤9999999999) (hm:m≤9999999999) {v u:Value} {w:World} (h:isR q k w v) (g:isR p m w u):Calls Tryz.prog 64 #[v,u] w (RetM (mV (.int .i64 (cmpQ q p))) O w):=by
 obtain ⟨b1,ao1,c1,xs1,ad1,d1,ds1,rfl,h1⟩:=h
 obtain ⟨b2,ao2,c2,xs2,ad2,d2,ds2,rfl,h2⟩:=g
 exact (rcmp3_any h1 h2 (by omega) (by omega)).mono fun _ _ r=>RetB.s r
theorem r_trim {q:Rat} {k:Nat} (hk:k≤9999999999) {v:Value} {w:World} (h:isR q k w v):Calls Tryz.prog 19 #[v] w (RetM (mC q (k + 1)) O w):=by
 obtain ⟨b,ao,c,xs,ad,d,ds,rfl,h1⟩:=h
 exact (rtrim3_any h1 (by omega)).mono fun _ _ r=>RetRat.s h1.sz r
theorem r_sign {q:Rat} {k:Nat} (hk:k≤9999999999) {v:Value} {w:World} (h:isR q k w v):Calls Tryz.prog 72 #[v] w (RetM (mV (.int .i64 (sgnQ q))) O w):=by
 obtain ⟨b,ao,c,xs,ad,d,ds,rfl,h1⟩:=h
 exact (rsign3_any h1 (by omega)).mono fun _ _ r=>RetB.s r
theorem r_neg {q:Rat} {k:Nat} (hk:k≤9999999999) {v:Value} {w:World} (h:isR q k w v):Calls Tryz.prog 128 #[v] w (RetM (mC (-q) (k + 1)) O w):=by
 obtain ⟨b,ao,c,xs,ad,d,ds,rfl,h1⟩:=h
 exact (rneg3_any h1 (by omega)).mono fun _ _ r=>RetRat.s h1.sz.neg r
theorem c_of (n:Int) {w:World} (h1 : -9223372036854775808≤n) (h2:n≤9223372036854775807):Calls Tryz.prog 80 #[.int .i64 n] w (RetM (mC ((n:Int):Rat) 2) O w) :=
 (of3_any n w h1 h2).mono fun _ _ r=>RetRat.s (Sz.int (by have:=nd_int h1 h2; exact lt_of_nd this) (by omega)) r
theorem r_of (n:Int) {w:World} (h1 : -9223372036854775808≤n) (h2:n≤9223372036854775807):Calls Tryz.prog 67 #[.int .i64 n] w (RetM (mC ((n:Int):Rat) 2) O w) :=
 (rof3_any n w h1 h2).mono fun _ _ r=>RetRat.s (Sz.int (by have:=nd_int h1 h2; exact lt_of_nd this) (by omega)) r
theorem Sz.frac {n m:Int} (h1 : -9223372036854775808≤n) (h2:n≤9223372036854775807) (h3 : -9223372036854775808≤m) (h4:m≤9223372036854775807):Sz (Rat.divInt n m) 2:=by
 by_cases hm:m=0
 ·subst hm; rw [Rat.divInt_zero]; exact Sz.zero.mono (by omega)
 ·rw [divInt_sign hm]
  refine Sz.of (by omega) ?_ (lt_of_nd (nd_int h3 h4))
  have:=lt_of_nd (nd_int h1 h2)
  split <;> omega
theorem r_frac (n m:Int) {w:World} (h1 : -9223372036854775808≤n) (h2:n≤9223372036854775807) (h3 : -9223372036854775808≤m) (h4:m≤9223372036854775807):Calls Tryz.prog 70 #[.int .i64 n,.int .i64 m] w (RetM (mC (Rat.divInt n m) 2) O w) :=
 (rfrac3_any n m w h1 h2 h3 h4).mono fun _ _ r=>RetRat.s (Sz.frac h1 h2 h3 h4) r
def bitE (j:Int):Int:=if j < 0 ∨ 256 < j then 1 else 0
def dnE (q:Rat) (j:Int):Rat:=if j < 0 ∨ 256 < j then 0 else dnQ q j.toNat
def upE (q:Rat) (j:Int):Rat:=if j < 0 ∨ 256 < j then 0 else upQ q j.toNat
theorem r_same {q p:Rat} {k m:Nat} {cn:Bool} {v u:Value} {w:World} (h:isK q k cn w v) (g:isC p m w u):Calls Tryz.prog 17 #[v,u] w (RetM (mV (.bool (cn && decide (q=p)))) O w):=by
 obtain ⟨b,ao,c,xs,ad,d,ds,rfl,h1,h2⟩:=h
 obtain ⟨ao',c',ad',d',rfl,g1,g2,_⟩:=g
 refine (same3_any b _ ao ad ao' ad' c d c' d' xs ds _ _ (cn && decide (q=p)) w h1.rn h1.rd g1 g2 ?_).mono fun _ _ r=>RetB.s r
 rw [Bool.and_eq_true,decide_eq_true_eq,h2,canon_iff h1.rn.dg h1.rd.dg h1.vq]
 constructor
 ·rintro ⟨h3,rfl⟩; exact h3
 ·intro h3
  have e:q=p:=by
   rw [← h1.vq,h3.1.1,h3.1.2,h3.2,val_nd,val_nd]; unfold rv; rw [iv_self]; exact Rat.mkRat_self p
  subst e
  exact ⟨h3,rfl⟩
def isS (s:Bool) (w:World) (v:Value):Prop:=∃ b ao c xs ad d ds,v = .agg #[.bool b,.slice ao xs.length c,.slice ad ds.length d]∧Rd w ao c xs∧Rd w ad d ds∧(s=true ↔ xs.length≤4∧ds.length≤4)
theorem isS.ext {s:Bool} {w w':World} {v:Value} (he:Ext w w') (h:isS s w v):isS s w' v:=by
 obtain ⟨b,ao,c,xs,ad,d,ds,rfl,h1,h2,h3⟩:=h
 exact ⟨b,ao,c,xs,ad,d,ds,rfl,h1.ext he,h2.ext he,h3⟩
def mS (s:Bool):MP:=MP.of (isS s) fun _ _ _ he h=>h.ext he
theorem isS.cv {s:Bool} {w:World} {v:Value} (h:isS s w v):cv 3 v:=by
 obtain ⟨b,ao,c,xs,ad,d,ds,rfl,h1,h2,h3⟩:=h
 exact ⟨_,rfl,rfl,noU3,by simp [Value.oneCell']⟩
theorem isS.r {w:World} {v:Value} (h:isS true w v):∃ q,isR q 4 w v:=by
 obtain ⟨b,ao,c,xs,ad,d,ds,rfl,h1,h2,h3⟩:=h
 have h4:=h3.1 rfl
 exact ⟨_,b,ao,c,xs,ad,d,ds,rfl,h1,h2,rfl,h4.1,h4.2⟩
end Go.Proofs.YtcankknlbljicaaGreatDoor

namespace Go.Proofs.YtcankknlbljicaaGreatDoor
open Go.RowKit Num

def mnQ (p q:Rat):Rat:=if q < p then q else p
def mxQ (p q:Rat):Rat:=if p < q then q else p
def sgI (p q:Rat):Int:=if sgnQ p=sgnQ q then sgnQ p else 0
def sqL (p q:Rat):Rat:=if sgI p q=0 then 0 else mnQ (p * p) (q * q)
def sgE (p q:Rat):Int:=if sgI p q=0 then 3 else 0
def meE (a b:Rat):Int:=if b < a then 1 else 0
def mn4 (a b c d:Rat):Rat:=mnQ (mnQ a b) (mnQ c d)
def mx4 (a b c d:Rat):Rat:=mxQ (mxQ a b) (mxQ c d)
def btw (p q:Rat) (n:Int):Rat:=mnQ p q + (mxQ p q - mnQ p q) * Rat.divInt (n % 9) 8
end Go.Proofs.YtcankknlbljicaaGreatDoor

namespace Go.Proofs.YtcankknlbljicaaGreatDoor
open Go.RowKit Num
variable {O : Bs}

theorem info_Rat:(Tryz.prog.info? 26).map (·.size)=some 3:=by kernel_rfl
theorem zero_Rat (w:World):(zeroValue 26).run Tryz.prog w = .ok (.agg #[.bool false,.slice none 0 0,.slice none 0 0]) w:=by kernel_rfl
theorem bx_Rat {w:World} {g:Nat} (h:w.heap[g]?=some (.cells (Value.agg #[.bool false,.slice none 0 0,.slice none 0 0]).cells 26 (0,0))):bx O 26 3 mTop w g:=⟨_,h,rfl,noU3,by simp [Value.cells,Value.oneCell'],trivial⟩
theorem built_zero3 {ρ:Operand→Value}:Tryz.prog.built 26 ((#[]:Array (Nat × Operand)).map fun (i,x)=>(i,ρ x)).toList=some #[.bool false,.slice none 0 0,.slice none 0 0]:=by kernel_rfl
theorem k_mod (n m:Int) {w:World} (hm : 1≤m) (hm2:m≤1000000) (h1 : -9223372036854775808≤n) (h2:n≤9223372036854775807):Calls Tryz.prog 37 #[.int .i64 n,.int .i64 m] w (RetM (mV (.int .i64 (n % m))) O w) :=
 (Mod_all n m w hm hm2 h1 h2).mono fun _ _ r=>by obtain ⟨rfl,rfl⟩:=r; exact ⟨_,rfl,rfl,Below.refl _ _⟩
def isA4 (qs:Nat→Rat) (k:Nat) (w:World) (v:Value):Prop:=∃ x0 x1 x2 x3 x4 x5 x6 x7 x8 x9 xa xb,v = .agg #[x0,x1,x2,x3,x4,x5,x6,x7,x8,x9,xa,xb]∧isR (qs 0) k w (.agg #[x0,x1,x2])∧isR (qs 1) k w (.agg #[x3,x4,x5])∧isR (qs 2) k w (.agg #[x6,x7,x8])∧isR (qs 3) k w (.agg #[x9,xa,xb])
def mA4 (qs:Nat→Rat) (k:Nat):MP:=MP.of (isA4 qs k) fun _ _ _ he ⟨x0,x1,x2,x3,x4,x5,x6,x7,x8,x9,xa,xb,h,h0,h1,h2,h3⟩=>⟨x0,x1,x2,x3,x4,x5,x6,x7,x8,x9,xa,xb,h,h0.ext he,h1.ext he,h2.ext he,h3.ext he⟩
theorem noU12 {a b c d e f a' b' c' d' e' f':Value} (h1:noU #[a,b,c,d,e,f]) (h2:noU #[a',b',c',d',e',f']):noU #[a,b,c,d,e,f,a',b',c',d',e',f']:=by
 intro i x
 match i with
 | 0=>exact h1 0 x
 | 1=>exact h1 1 x
 | 2=>exact h1 2 x
 | 3=>exact h1 3 x
 | 4=>exact h1 4 x
 | 5=>exact h1 5 x
 | 6=>exact h2 0 x
 | 7=>exact h2 1 x
 | 8=>exact h2 2 x
 | 9=>exact h2 3 x
 | 10=>exact h2 4 x
 | 11=>exact h2 5 x
 | i + 12=>simp
theorem isA4.cv {qs:Nat→Rat} {k:Nat} {w:World} {v:Value} (h:isA4 qs k w v):cv 12 v:=by
 obtain ⟨x0,x1,x2,x3,x4,x5,x6,x7,x8,x9,xa,xb,rfl,h0,h1,h2,h3⟩:=h
 obtain ⟨_,e0,_,n0,o0⟩:=h0.cv
 obtain ⟨_,e1,_,n1,o1⟩:=h1.cv
 obtain ⟨_,e2,_,n2,o2⟩:=h2.cv
 obtain ⟨_,e3,_,n3,o3⟩:=h3.cv
 obtain rfl:=Value.agg.inj e0
 obtain rfl:=Value.agg.inj e1
 obtain rfl:=Value.agg.inj e2
 obtain rfl:=Value.agg.inj e3
 refine ⟨_,rfl,rfl,noU12 (noU6 n0 n1) (noU6 n2 n3),?_⟩
 simp at o0 o1 o2 o3 ⊢
 simp [o0,o1,o2,o3]
theorem bx.a4 {T:TypeId} {qs:Nat→Rat} {k:Nat} {w:World} {g:Nat} (h:bx O T 12 (mA4 qs k) w g) (i:Nat) (hi:i < 4):∃ x0 x1 x2,w.rangeAt g (3 * i) [x0,x1,x2]∧isR (qs i) k w (.agg #[x0,x1,x2]):=by
 obtain ⟨cs,e1,e2,e3,e4,x0,x1,x2,x3,x4,x5,x6,x7,x8,x9,xa,xb,he,h0,h1,h2,h3⟩:=h
 obtain rfl:=Value.agg.inj he
 have key:∀ a b c,(∀ j v,[a,b,c][j]?=some v→(#[x0,x1,x2,x3,x4,x5,x6,x7,x8,x9,xa,xb]:Array Value)[3 * i + j]?=some v)→w.rangeAt g (3 * i) [a,b,c]:=fun a b c hk j v hv=>by
  rw [cell_of_row w g _ _ T (0,0) e1]; exact hk j v hv
 match i,hi with
 | 0,_=>exact ⟨x0,x1,x2,key _ _ _ (fun j v hv=>match j with | 0=>by simpa using hv | 1=>by simpa using hv | 2=>by simpa using hv | j + 3=>by simp at hv),h0⟩
 | 1,_=>exact ⟨x3,x4,x5,key _ _ _ (fun j v hv=>match j with | 0=>by simpa using hv | 1=>by simpa using hv | 2=>by simpa using hv | j + 3=>by simp at hv),h1⟩
 | 2,_=>exact ⟨x6,x7,x8,key _ _ _ (fun j v hv=>match j with | 0=>by simpa using hv | 1=>by simpa using hv | 2=>by simpa using hv | j + 3=>by simp at hv),h2⟩
 | 3,_=>exact ⟨x9,xa,xb,key _ _ _ (fun j v hv=>match j with | 0=>by simpa using hv | 1=>by simpa using hv | 2=>by simpa using hv | j + 3=>by simp at hv),h3⟩
def qs4 (a b c d:Rat):Nat→Rat | 0=>a | 1=>b | 2=>c | _=>d
def isA4C (qs:Nat→Rat) (k:Nat) (w:World) (v:Value):Prop:=∃ x0 x1 x2 x3 x4 x5 x6 x7 x8 x9 xa xb,v = .agg #[x0,x1,x2,x3,x4,x5,x6,x7,x8,x9,xa,xb]∧isC (qs 0) k w (.agg #[x0,x1,x2])∧isC (qs 1) k w (.agg #[x3,x4,x5])∧isC (qs 2) k w (.agg #[x6,x7,x8])∧isC (qs 3) k w (.agg #[x9,xa,xb])
def mA4C (qs:Nat→Rat) (k:Nat):MP:=MP.of (isA4C qs k) fun _ _ _ he ⟨x0,x1,x2,x3,x4,x5,x6,x7,x8,x9,xa,xb,h,h0,h1,h2,h3⟩=>⟨x0,x1,x2,x3,x4,x5,x6,x7,x8,x9,xa,xb,h,h0.ext he,h1.ext he,h2.ext he,h3.ext he⟩
theorem isA4C.cv {qs:Nat→Rat} {k:Nat} {w:World} {v:Value} (h:isA4C qs k w v):cv 12 v:=by
 obtain ⟨x0,x1,x2,x3,x4,x5,x6,x7,x8,x9,xa,xb,rfl,h0,h1,h2,h3⟩:=h
 obtain ⟨_,e0,_,n0,o0⟩:=h0.cv
 obtain ⟨_,e1,_,n1,o1⟩:=h1.cv
 obtain ⟨_,e2,_,n2,o2⟩:=h2.cv
 obtain ⟨_,e3,_,n3,o3⟩:=h3.cv
 obtain rfl:=Value.agg.inj e0
 obtain rfl:=Value.agg.inj e1
 obtain rfl:=Value.agg.inj e2
 obtain rfl:=Value.agg.inj e3
 refine ⟨_,rfl,rfl,noU12 (noU6 n0 n1) (noU6 n2 n3),?_⟩
 simp at o0 o1 o2 o3 ⊢
 simp [o0,o1,o2,o3]
theorem args_0 {ρ:Operand→Value}:(#[]:Array Operand).map ρ = #[]:=by simp
theorem args_1 {ρ:Operand→Value} {x:Operand} {v:Value} (h : ρ x=v) : #[x].map ρ = #[v]:=by simp [h]
theorem args_2 {ρ:Operand→Value} {x y:Operand} {v u:Value} (h : ρ x=v) (g : ρ y=u) : #[x,y].map ρ = #[v,u]:=by simp [h,g]
theorem bld_z3 {a:Act} {w:World} {o:Oper} (ho:o.op = .build 26 #[]):∃ v,(execOp a.eval o).run Tryz.prog w = .ok (.value v) w∧mZ.S O w v:=⟨_,run_build_op _ _ ho built_zero3,rfl⟩
end Go.Proofs.YtcankknlbljicaaGreatDoor
