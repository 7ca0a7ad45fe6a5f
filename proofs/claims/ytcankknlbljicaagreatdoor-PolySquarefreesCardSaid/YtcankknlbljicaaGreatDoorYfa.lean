/-  -/
import Derived.Test.YtcankknlbljicaaGreatDoorYeb
import Derived.Laws.AppendOwn
import Derived.Laws.OwnMore

set_option linter.unusedVariables false
set_option linter.unusedSimpArgs false
set_option linter.unusedSectionVars false
set_option maxRecDepth 100000
set_option maxHeartbeats 3200000

namespace Go.Proofs.YtcankknlbljicaaGreatDoor
open Go.RowKit Num

def zc:Nat→Nat
 | 0=>1
 | n + 1=>n + 1
theorem zc_pos (es:Nat) : 0 < zc es:=by cases es <;> simp [zc]
theorem PV.len {es:Nat} {c:List Value} {S:Value→Prop} (h:PV es c S):c.length=zc es:=by
 cases es with
 | zero=>obtain ⟨x,rfl,_⟩:=h; rfl
 | succ n=>exact h.1
theorem cell_same {w w':World} {g:Nat} (h:w'.heap[g]?=w.heap[g]?) (i:Nat):w'.cell? ⟨g,i,none⟩=w.cell? ⟨g,i,none⟩:=by simp [World.cell?,h]
theorem range_same {w w':World} {g o:Nat} {cs:List Value} (h:w'.heap[g]?=w.heap[g]?) (hr:w.rangeAt g o cs):w'.rangeAt g o cs:=fun j v hv=>(cell_same h _).trans (hr j v hv)
def El (O:Bs) (w:World) (es g off:Nat) (m:MP):Prop:=∃ cs,w.rangeAt g off cs∧PV es cs (m.S O w)
theorem El.imp {O O':Bs} {w w':World} {es g off:Nat} {m m':MP} (hg:w'.heap[g]?=w.heap[g]?) (hi:∀ v,m.S O w v→m'.S O' w' v) (h:El O w es g off m):El O' w' es g off m':=by
 obtain ⟨cs,h1,h2⟩:=h
 exact ⟨cs,range_same hg h1,h2.imp hi⟩
def Els (O:Bs) (w:World) (es g off:Nat) (ms:List MP):Prop:=∀ i m,ms[i]?=some m→El O w es g (off + zc es * i) m
theorem Els.imp {O O':Bs} {w w':World} {es g off:Nat} {ms:List MP} (hg:w'.heap[g]?=w.heap[g]?) (hi:∀ m ∈ ms,∀ v,m.S O w v→m.S O' w' v) (h:Els O w es g off ms):Els O' w' es g off ms :=
 fun i m hm=>(h i m hm).imp hg (hi m (List.mem_of_getElem? hm))
def isSl (O:Bs) (w:World) (es:Nat) (ms:List MP) (v:Value):Prop :=
 ∃ ao c,v = .slice ao ms.length c∧ms.length≤c∧c≤maxLen∧(c=0 ∨ ∃ g off,ao=some ⟨g,off,none⟩∧¬ O g∧g < w.heap.size∧Els O w es g off ms)
def mSl (es:Nat) (ms:List MP):MP where
 S O w v:=isSl O w es ms v
 fr:=false
 mono O w w' v k h:=by
  obtain ⟨ao,c,h1,h2,h3,h4⟩:=h
  refine ⟨ao,c,h1,h2,h3,h4.imp id ?_⟩
  rintro ⟨g,off,e,hO,hg,hE⟩
  refine ⟨g,off,e,hO,?_,hE.imp (k.b g hg hO) fun m _ v=>m.mono _ _ _ _ k⟩
  have:=k.b g hg hO
  refine Nat.lt_of_not_le fun hle=>?_
  rw [Array.getElem?_eq_none hle,Array.getElem?_eq_getElem hg] at this
  cases this
 more O A w v hA h:=by
  obtain ⟨ao,c,h1,h2,h3,h4⟩:=h
  refine ⟨ao,c,h1,h2,h3,h4.imp id ?_⟩
  rintro ⟨g,off,e,hO,hg,hE⟩
  exact ⟨g,off,e,fun ho=>ho.elim hO fun ha=>by have:=hA g ha; omega,hg,hE.imp rfl fun m _ v=>m.more _ _ _ _ hA⟩
 less O O' w v hi h:=by
  obtain ⟨ao,c,h1,h2,h3,h4⟩:=h
  refine ⟨ao,c,h1,h2,h3,h4.imp id ?_⟩
  rintro ⟨g,off,e,hO,hg,hE⟩
  exact ⟨g,off,e,fun ho=>hO (hi g ho),hg,hE.imp rfl fun m _ v=>m.less _ _ _ _ hi⟩
 free h:=by cases h
def isPt (O:Bs) (w:World) (es:Nat) (m:MP) (v:Value):Prop:=∃ g off,v = .pointer (some ⟨g,off,none⟩)∧¬ O g∧g < w.heap.size∧El O w es g off m
def mPt (es:Nat) (m:MP):MP where
 S O w v:=isPt O w es m v
 fr:=false
 mono O w w' v k h:=by
  obtain ⟨g,off,e,hO,hg,hE⟩:=h
  refine ⟨g,off,e,hO,?_,hE.imp (k.b g hg hO) fun v=>m.mono _ _ _ _ k⟩
  have:=k.b g hg hO
  refine Nat.lt_of_not_le fun hle=>?_
  rw [Array.getElem?_eq_none hle,Array.getElem?_eq_getElem hg] at this
  cases this
 more O A w v hA h:=by
  obtain ⟨g,off,e,hO,hg,hE⟩:=h
  exact ⟨g,off,e,fun ho=>ho.elim hO fun ha=>by have:=hA g ha; omega,hg,hE.imp rfl fun v=>m.more _ _ _ _ hA⟩
 less O O' w v hi h:=by
  obtain ⟨g,off,e,hO,hg,hE⟩:=h
  exact ⟨g,off,e,fun ho=>hO (hi g ho),hg,hE.imp rfl fun v=>m.less _ _ _ _ hi⟩
 free h:=by cases h
theorem isSl.imp {O:Bs} {w:World} {es:Nat} {ms ms':List MP} {v:Value} (hl:ms'.length=ms.length) (hi:∀ (i:Nat) (m m':MP),ms[i]?=some m→ms'[i]?=some m'→∀ v,m.S O w v→m'.S O w v) (h:isSl O w es ms v):isSl O w es ms' v:=by
 obtain ⟨ao,c,h1,h2,h3,h4⟩:=h
 refine ⟨ao,c,by rw [hl]; exact h1,by rw [hl]; exact h2,h3,h4.imp id ?_⟩
 rintro ⟨g,off,e,hO,hg,hE⟩
 refine ⟨g,off,e,hO,hg,fun i m' hm'=>?_⟩
 have hlt:i < ms.length:=by rw [← hl]; exact (List.getElem?_eq_some_iff.1 hm').1
 exact (hE i _ (List.getElem?_eq_getElem hlt)).imp rfl (hi i _ m' (List.getElem?_eq_getElem hlt) hm')
theorem isSl.len {O:Bs} {w:World} {es:Nat} {ms:List MP} {v:Value} (h:isSl O w es ms v):ms.length≤9223372036854775807:=by
 obtain ⟨ao,c,h1,h2,h3,h4⟩:=h
 simp only [maxLen] at h3
 omega
theorem isSl.nil {O:Bs} {w:World} {es:Nat}:isSl O w es [] (.slice none 0 0):=⟨none,0,rfl,Nat.le_refl _,by simp [maxLen],Or.inl rfl⟩
section
variable {P : Program} {ρ : Operand → Value} {o : Oper} {w : World} {O : Bs}
theorem run_len_any {x:Operand} {t e:TypeId} {ao:Option Addr} {n c:Nat} (hu:P.underlying t=some (.slice e)) (h : ρ x = .slice ao n c) (ho:o.op = .call { callee:=.builtin .len,args:=#[x],argTypes:=#[t] }:=by rfl):(execOp ρ o).run P w = .ok (.value (.int .i64 (n:Int))) w:=by
 unfold execOp; simp [ho,h,go_sem,Builtin.len_,run_underlying hu,goInt]
theorem run_len_m {w':World} {x:Operand} {t e:TypeId} {es:Nat} {ms:List MP} (hu:P.underlying t=some (.slice e)) (h:isSl O w' es ms (ρ x)) (ho:o.op = .call { callee:=.builtin .len,args:=#[x],argTypes:=#[t] }:=by rfl):(execOp ρ o).run P w = .ok (.value (.int .i64 (ms.length:Int))) w:=by
 obtain ⟨ao,c,h1,h2,h3,h4⟩:=h
 exact run_len_any hu h1 ho
theorem ix_addr {x y:Operand} {t e:TypeId} {es i n c g off:Nat} (hu:P.underlying t=some (.slice e)) (hz:(P.info? e).map (·.size)=some (zc es)) (hx : ρ x = .slice (some ⟨g,off,none⟩) n c) (hy : ρ y = .int .i64 (i:Int)) (hi:i < n) (ho:o.op = .indexAddr t x y:=by rfl):(execOp ρ o).run P w = .ok (.value (.pointer (some ⟨g,off + zc es * i,none⟩))) w:=by
 cases hq:P.info? e with
 | none=>simp [hq] at hz
 | some inf =>
  have hs:inf.size=zc es:=by simpa [hq] using hz
  unfold execOp
  simp [ho,hx,hy,Instr.indexAt,asIntOf,run_underlying hu,sizeOf,typeInfo,hq,hs,Addr.add_mid,hi,Nat.mul_comm]
theorem ix_sl {a:Act} {x:Tmp} {y:Operand} {t e:TypeId} {es i:Nat} {ms:List MP} {m:MP} {j:Int} (hu:P.underlying t=some (.slice e)) (hz:(P.info? e).map (·.size)=some (zc es)) (h:isSl O w es ms (sl a x)) (hy:a.eval y = .int .i64 j) (hj:j=(i:Int)) (hm:ms[i]?=some m) (ho:o.op = .indexAddr t (.tmp x) y:=by rfl):∃ v,(execOp a.eval o).run P w = .ok (.value v) w∧(mPt es m).S O w v:=by
 subst hj
 obtain ⟨ao,c,h1,h2,h3,h4⟩:=h
 have hlt:=(List.getElem?_eq_some_iff.1 hm).1
 rcases h4 with e2 | ⟨g,off,rfl,hO,hg,hE⟩
 ·omega
 ·exact ⟨_,ix_addr (ρ:=a.eval) hu hz (ev h1) hy hlt ho,g,_,rfl,hO,hg,hE i m hm⟩
theorem ld_pt {a:Act} {x:Tmp} {T:TypeId} {n:Nat} {m:MP} {d:TypeDesc} (hx:isPt O w (n + 1) m (sl a x)) (hu:P.underlying T=some d) (hi:(P.info? T).map (·.size)=some (n + 1)) (ho:o.op = .load T (.tmp x):=by rfl) (hd:d.isRow=true:=by rfl):∃ v,(execOp a.eval o).run P w = .ok (.value v) w∧m.S O w v:=by
 obtain ⟨g,off,e,hO,hg,cs,h1,h2,h3⟩:=hx
 exact ⟨_,run_load_mid T (.tmp x) ho (ev e) h1 hu hd (by rw [h2]; exact hi),h3⟩
theorem ld_p0 {x:Operand} {T:TypeId} {m:MP} {d:TypeDesc} (hx:isPt O w 0 m (ρ x)) (hu:P.underlying T=some d) (ho:o.op = .load T x) (hd:d.isRow=false):∃ v,(execOp ρ o).run P w = .ok (.value v) w∧m.S O w v:=by
 obtain ⟨g,off,e,hO,hg,cs,h1,x0,rfl,h3⟩:=hx
 have hc:w.cell? ⟨g,off,none⟩=some x0:=h1 0 x0 rfl
 refine ⟨x0,?_,h3⟩
 unfold execOp
 cases d <;> first | (cases hd; done) | simp [ho,e,Instr.loadAt,Instr.sureAddr,go_sem,loadVar,isAgg,run_underlying hu,hc]
theorem ld_pt0 {a:Act} {x:Tmp} {T:TypeId} {m:MP} {d:TypeDesc} (hx:isPt O w 0 m (sl a x)) (hu:P.underlying T=some d) (ho:o.op = .load T (.tmp x):=by rfl) (hd:d.isRow=false:=by rfl):∃ v,(execOp a.eval o).run P w = .ok (.value v) w∧m.S O w v:=ld_p0 (ρ:=a.eval) (x:=.tmp x) hx hu ho hd
theorem sl_h {a:Act} {x:Tmp} {y:Operand} {t e:TypeId} {es:Nat} {ms:List MP} {j:Int} (n:Nat) (hu:P.underlying t=some (.slice e)) (hz:(P.info? e).map (·.size)=some (zc es)) (h:isSl O w es ms (sl a x)) (hy:a.eval y = .int .i64 j) (hj:j=(n:Int)) (hn:n≤ms.length) (ho:o.op = .slice t (.tmp x) none (some y) none:=by rfl):∃ v,(execOp a.eval o).run P w = .ok (.value v) w∧(mSl es (ms.take n)).S O w v:=by
 subst hj
 obtain ⟨ao,c,h1',h2,h3,h4⟩:=h
 have h1:a.eval (.tmp x)=_:=h1'
 have hl:(ms.take n).length=n:=by rw [List.length_take]; omega
 refine ⟨.slice ao (ms.take n).length c,?_,ao,c,rfl,by rw [hl]; omega,h3,h4.imp id ?_⟩
 ·have he:P.elem t=e:=by simp [Program.elem,hu]
  cases hq:P.info? e with
  | none=>simp [hq] at hz
  | some inf =>
   unfold execOp
   rw [hl]
   have hu':P.underlying t=some (.slice (P.elem t)):=by rw [he]; exact hu
   simp only [ho,h1,hy,Option.map_none,Option.map_some,Sem.run_bind,run_sliceAt_slice w t _ _ _ _ hu',run_slice_h w t ao ms.length c hu' .i64 (n:Int) (by omega) (by omega),he]
   have hs0:∀ s,sliced ao 0 n c s = .slice ao n c:=by
    intro s
    unfold sliced
    split
    ·simp_all
    ·cases ao <;> simp
     rename_i a; obtain ⟨b,o,sp⟩:=a; unfold Addr.add; split <;> simp_all
   simp [sizeOf,typeInfo,hq,hs0]
 ·rintro ⟨g,off,e1,hO,hg,hE⟩
  refine ⟨g,off,e1,hO,hg,fun i m hm=>hE i m ?_⟩
  rw [List.getElem?_take] at hm
  split at hm
  ·exact hm
  ·cases hm
end

def ownR (O:Bs) (w:World) (T:TypeId) (es:Nat) (v:Value) (ms:List MP):Prop :=
 (v = .slice none 0 0∧ms = []) ∨ ∃ g c cur,v = .slice (some ⟨g,0,none⟩) ms.length c∧ms.length≤c∧c≤maxLen∧w.heap[g]?=some (.cells cur T (0,0))∧cur.size=c * zc es∧noU cur∧cur.all (·.oneCell')=true∧Els O w es g 0 ms
theorem ownR.cg {O O':Bs} {w w':World} {T:TypeId} {es:Nat} {v:Value} {ms:List MP} (hg:∀ g,v.ownBlock=some g→w'.heap[g]?=w.heap[g]?) (hi:∀ m ∈ ms,∀ v,m.S O w v→m.S O' w' v) (h:ownR O w T es v ms):ownR O' w' T es v ms:=by
 rcases h with h | ⟨g,c,cur,rfl,h2,h3,h4,h5,h6,h7,h8⟩
 ·exact Or.inl h
 ·have e:=hg g rfl
  exact Or.inr ⟨g,c,cur,rfl,h2,h3,e.trans h4,h5,h6,h7,h8.imp e hi⟩
theorem ownR.lt {O:Bs} {w:World} {T:TypeId} {es:Nat} {v:Value} {ms:List MP} {g:Nat} (h:ownR O w T es v ms) (hg:v.ownBlock=some g):g < w.heap.size:=by
 rcases h with ⟨rfl,_⟩ | ⟨g',c,cur,rfl,h2,h3,h4,h5⟩
 ·cases hg
 ·cases hg; exact (Array.getElem?_eq_some_iff.1 h4).1
def RX.own (v:Value) (T:TypeId) (es:Nat) (ms:List MP):RX :=
 ⟨v.ownBlock,fun O w=>ownR O w T es v ms,fun _ _ _ h e=>h.lt e,fun _ _ _ k hg h=>h.cg hg fun m _ v=>m.mono _ _ _ _ k,fun O A w hA h=>h.cg (fun _ _=>rfl) fun m _ v=>m.more O A w v hA,fun O O' w hO h=>h.cg (fun _ _=>rfl) fun m _ v=>m.less O O' w v hO⟩
theorem ownR.sl {O O':Bs} {w:World} {T:TypeId} {es:Nat} {v:Value} {ms:List MP} (h:ownR O w T es v ms) (hO:∀ g,v.ownBlock=some g→¬ O' g) (hi:∀ m ∈ ms,∀ v,m.S O w v→m.S O' w v):isSl O' w es ms v:=by
 rcases h with ⟨rfl,rfl⟩ | ⟨g,c,cur,rfl,h2,h3,h4,h5,h6,h7,h8⟩
 ·exact isSl.nil
 ·exact ⟨_,c,rfl,h2,h3,Or.inr ⟨g,0,rfl,hO g rfl,(Array.getElem?_eq_some_iff.1 h4).1,h8.imp rfl hi⟩⟩
section
variable {N : Nat} {O O0 : Bs} {W0 w : World} {a : Act} {L : List (Nat × MP)} {X : List RX}
theorem St.freeze (S:St N O0 O W0 a w L X) (k:Nat) (L1:List (Nat × MP)) {t:Nat} {v:Value} {T:TypeId} {es:Nat} {ms:List MP} (hL1:L1=L.filter fun p=>p.1 != t) (ht:Go.Proofs.YtcankknlbljicaaGreatDoor.sl a t=v) (hk:X[k]?=some (.own v T es ms):=by rfl):∃ O',St N O0 O' W0 a w ((t,mSl es ms) :: L1) (X.eraseIdx k):=by
 have hF:ownR O w T es v ms:=S.f k hk
 have hlt:=(List.getElem?_eq_some_iff.1 hk).1
 have hke:X[k] = .own v T es ms:=(List.getElem?_eq_some_iff.1 hk).2
 have hown:=S.x.o _ (List.mem_of_getElem? hk)
 have hsub:∀ p ∈ X.eraseIdx k,p ∈ X:=fun p hp=>(List.eraseIdx_sublist X k).subset hp
 have hless:∀ g,(O g∧v.ownBlock≠some g)→O g:=fun g h=>h.1
 refine ⟨fun g=>O g∧v.ownBlock≠some g,S.z,S.d,S.B,?_,⟨fun p hp=>p.less O _ w hless (S.x.f p (hsub p hp)),fun p hp g hg=>⟨⟨(S.x.o p (hsub p hp) g hg).1,?_⟩,(S.x.o p (hsub p hp) g hg).2⟩,S.x.ap.sublist (List.eraseIdx_sublist X k)⟩,fun g hg=>⟨S.o g hg,?_⟩,fun g hg=>S.ob g hg.1,S.b0⟩
 ·intro p hp
  rcases List.mem_cons.1 hp with rfl | hp
  ·show isSl _ w es ms (Go.Proofs.YtcankknlbljicaaGreatDoor.sl a t)
   rw [ht]
   exact hF.sl (fun g hg h=>h.2 hg) fun m _ v=>m.less _ _ _ _ hless
  ·subst hL1
   exact p.2.less _ _ _ _ hless (S.s p (List.mem_filter.1 hp).1)
 ·intro e
  obtain ⟨i,hi,hpi⟩:=List.getElem_of_mem hp
  have hpw:=List.pairwise_iff_getElem.1 S.x.ap
  rw [List.getElem_eraseIdx] at hpi
  split at hpi
  ·rename_i hik
   exact hpw i k (by omega) hlt hik g (by rw [hpi]; exact hg) (by rw [hke]; exact e)
  ·rename_i hik
   rw [List.length_eraseIdx,if_pos hlt] at hi
   exact hpw k (i + 1) hlt (by omega) (by omega) g (by rw [hke]; exact e) (by rw [hpi]; exact hg)
 ·intro e
  have:=hown g e
  have:=S.b0 g hg
  omega
end
theorem noU_mem {a:Array Value}:noU a ↔ ∀ v ∈ a,∀ x,v≠Value.int .u32 x:=by
 constructor
 ·intro h v hv x e
  obtain ⟨i,hi,rfl⟩:=Array.getElem_of_mem hv
  exact h i x (by rw [Array.getElem?_eq_getElem hi,e])
 ·intro h i x e
  exact h _ (Array.mem_of_getElem? e) x rfl
def ec (es:Nat) (x:Value):Prop:=match es with
 | 0=>x.oneCell'=true∧∀ d,x≠Value.int .u32 d
 | n + 1=>cv (n + 1) x
theorem ec.pv {es:Nat} {S:Value→Prop} {cs:List Value} (h:PV es cs S) (he:∀ x,S x→ec es x):∀ v ∈ cs,v.oneCell'=true∧∀ d,v≠Value.int .u32 d:=by
 cases es with
 | zero =>
  obtain ⟨x,rfl,hx⟩:=h
  intro v hv
  rw [List.mem_singleton] at hv
  subst hv
  exact he _ hx
 | succ n =>
  obtain ⟨_,hx⟩:=h
  obtain ⟨c,e,h1,h2,h3⟩:=he _ hx
  obtain rfl:=Value.agg.inj e
  intro v hv
  exact ⟨Array.all_eq_true_iff_forall_mem.1 h3 v (by simpa using hv),noU_mem.1 h2 v (by simpa using hv)⟩
def putA:List Value→Nat→Array Value→Array Value
 | [],_,cs=>cs
 | v :: r,o,cs=>putA r (o + 1) (cs.setIfInBounds o v)
theorem putA_size:∀ (vs:List Value) (o:Nat) (cs:Array Value),(putA vs o cs).size=cs.size
 | [],_,_=>rfl
 | v :: r,o,cs=>by rw [putA,putA_size r]; simp
theorem putA_get:∀ (vs:List Value) (o:Nat) (cs:Array Value) (j:Nat),(putA vs o cs)[j]?=if o≤j∧j < o + vs.length∧j < cs.size then vs[j - o]? else cs[j]?
 | [],o,cs,j=>by rw [putA,if_neg (by simp; omega)]
 | v :: r,o,cs,j=>by
  rw [putA,putA_get r]
  simp only [Array.size_setIfInBounds,List.length_cons]
  by_cases h:o=j
  ·subst h
   rw [if_neg (by omega),Array.getElem?_setIfInBounds_self]
   by_cases hs:o < cs.size
   ·rw [if_pos hs,if_pos ⟨Nat.le_refl _,by omega,hs⟩]; simp
   ·rw [if_neg hs,if_neg (by omega),Array.getElem?_eq_none (by omega)]
  ·rw [Array.getElem?_setIfInBounds_ne h]
   by_cases h2:o≤j∧j < o + (r.length + 1)∧j < cs.size
   ·rw [if_pos (by omega),if_pos h2,show j - o=(j - (o + 1)) + 1 by omega,List.getElem?_cons_succ]
   ·rw [if_neg (by omega),if_neg h2]
theorem setCells_row {g:Nat} {T:TypeId} {fr:Nat × Nat}:∀ (vs:List Value) (o:Nat) (w:World) (cs:Array Value),vs≠[]→w.heap[g]?=some (.cells cs T fr)→w.setCells g o vs=w.setRow g (putA vs o cs)
 | [],_,_,_,h,_=>absurd rfl h
 | [v],o,w,cs,_,hg=>by
  simp only [World.setCells,putA]
  exact setCell_eq_setRow w g o cs T fr v hg
 | v :: u :: r,o,w,cs,_,hg=>by
  rw [World.setCells,setCell_eq_setRow w g o cs T fr v hg,setCells_row (u :: r) (o + 1) _ (cs.setIfInBounds o v) (by simp) (setRow_heap w g _ _ T fr hg),setRow_setRow]
  rfl
theorem far_cell {z i q j:Nat} (hij:i≠q) (hj:j < z):¬ (z * q≤z * i + j∧z * i + j < z * q + z):=by
 rcases Nat.lt_or_gt_of_ne hij with h | h
 ·have:=Nat.mul_le_mul_left z (show i + 1≤q from h)
  rw [Nat.mul_succ] at this
  omega
 ·have:=Nat.mul_le_mul_left z (show q + 1≤i from h)
  rw [Nat.mul_succ] at this
  omega
theorem El.cells {O:Bs} {w w':World} {es g off:Nat} {m:MP} (hi:∀ v,m.S O w v→m.S O w' v) (h:El O w es g off m) (hc:∀ j,j < zc es→w'.cell? ⟨g,off + j,none⟩=w.cell? ⟨g,off + j,none⟩):El O w' es g off m:=by
 obtain ⟨cs,h1,h2⟩:=h
 refine ⟨cs,fun j v hv=>?_,h2.imp hi⟩
 rw [hc j (by rw [← h2.len]; exact (List.getElem?_eq_some_iff.1 hv).1)]
 exact h1 j v hv
def elP (v:Value) (es i:Nat):Value:=match v with
 | .slice (some ⟨g,off,_⟩) _ _=>.pointer (some ⟨g,off + zc es * i,none⟩)
 | _=>.pointer none
section
variable {P : Program} {ops : Array Oper} {rest : List Oper} {o : Oper} {a : Act} {w W0 : World} {Q : Exit → Act → World → Prop} {N : Nat} {O O0 : Bs} {L : List (Nat × MP)} {X : List RX}
theorem ix_own {ρ:Operand→Value} {x y:Operand} {t e:TypeId} {es i:Nat} {v:Value} {T:TypeId} {ms:List MP} {j:Int} (hu:P.underlying t=some (.slice e)) (hz:(P.info? e).map (·.size)=some (zc es)) (hF:ownR O w T es v ms) (hx : ρ x=v) (hy : ρ y = .int .i64 j) (hj:j=(i:Int)) (hi:i < ms.length) (ho:o.op = .indexAddr t x y:=by rfl):(execOp ρ o).run P w = .ok (.value (elP v es i)) w:=by
 subst hj
 rcases hF with ⟨rfl,rfl⟩ | ⟨g,c,cur,rfl,h2,h3,h4,h5,h6,h7,h8⟩
 ·simp at hi
 ·exact ix_addr hu hz hx hy hi ho
theorem ld_own {ρ:Operand→Value} {x:Operand} {T T0:TypeId} {n i:Nat} {v:Value} {ms:List MP} {m:MP} {d:TypeDesc} (hF:ownR O w T0 (n + 1) v ms) (hx : ρ x=elP v (n + 1) i) (hm:ms[i]?=some m) (hu:P.underlying T=some d) (hi:(P.info? T).map (·.size)=some (n + 1)) (ho:o.op = .load T x:=by rfl) (hd:d.isRow=true:=by rfl):∃ u,(execOp ρ o).run P w = .ok (.value u) w∧m.S O w u:=by
 rcases hF with ⟨rfl,rfl⟩ | ⟨g,c,cur,rfl,h2,h3,h4,h5,h6,h7,h8⟩
 ·simp at hm
 ·obtain ⟨cs,k1,k2,k3⟩:=h8 i m hm
  exact ⟨_,run_load_mid T x ho hx k1 hu hd (by rw [k2]; exact hi),k3⟩
theorem t_stoE (S:St N O0 O W0 a w L X) (i j k q:Nat) {T T0:TypeId} {t u:Tmp} {n:Nat} {v:Value} {ms:List MP} {m:MP} (hq:q < ms.length) (hv:∀ {v},m.S O w v→cv (n + 1) v)
  (h:∀ w',St N O0 O W0 a w' L (X.set k (.own v T0 (n + 1) (ms.set q m)))→wpList P ops Q rest a w') (hz:(P.info? T).map (·.size)=some (n + 1)) (hk:X[k]?=some (.own v T0 (n + 1) ms):=by rfl) (hi:L[i]?=some (t,mV (elP v (n + 1) q)):=by rfl) (hj:L[j]?=some (u,m):=by rfl) (ho:o.op = .store T (.tmp t) (.tmp u):=by rfl) (hg:o.guard=none:=by rfl) (hd:o.dst=none:=by rfl):wpList P ops Q (o :: rest) a w:=by
 have hF:ownR O w T0 (n + 1) v ms:=S.f k hk
 have hOw:=S.x.o _ (List.mem_of_getElem? hk)
 rcases hF with ⟨rfl,rfl⟩ | ⟨g,c,cur,rfl,h2,h3,h4,h5,h6,h7,h8⟩
 ·simp at hq
 have hO:=(hOw g rfl).1
 have hm:=S.sl j hj
 obtain ⟨cs,hy,k2,k3,k4⟩:=hv hm
 have hx:a.eval (.tmp t) = .pointer (some ⟨g,0 + zc (n + 1) * q,none⟩):=S.e i hi
 rw [Nat.zero_add] at hx
 have hfit:zc (n + 1) * q + cs.size≤cur.size:=by
  have:=Nat.mul_le_mul_left (zc (n + 1)) (show q + 1≤c by omega)
  rw [Nat.mul_succ] at this
  rw [h5,Nat.mul_comm c,k2]
  exact this
 refine wpList_store_mid hg T _ _ ho g _ cs hx hy (there_row h4 hfit) (by rw [k2]; exact hz) k4 ?_
 have hne:cs.toList≠[]:=by
  intro e
  have:cs.toList.length=n + 1:=by simpa using k2
  rw [e] at this; simp at this
 rw [hd,setCells_row cs.toList _ w cur hne h4]
 have kp:Kp O w (w.setRow g (putA cs.toList (zc (n + 1) * q) cur)):=⟨Ext.setRow h4 h6 _,fun x _ hx=>setRow_other w g x _ fun e=>hx (e ▸ hO)⟩
 rw [hy] at hm
 refine h _ (S.put k hk (g:=g) rfl kp (q:=.own _ T0 (n + 1) (ms.set q m)) (Or.inr ⟨g,c,_,by rw [List.length_set],by rw [List.length_set]; exact h2,h3,setRow_heap w g _ _ T0 (0,0) h4,by rw [putA_size]; exact h5,?_,?_,?_⟩) rfl)
 ·intro l x
  rw [putA_get]
  split
  ·intro e
   exact k3 _ x (by simpa using e)
  ·exact h6 l x
 ·rw [Array.all_eq_true_iff_forall_mem] at h7 k4 ⊢
  intro x hx
  obtain ⟨l,hl,rfl⟩:=Array.getElem_of_mem hx
  have e:=putA_get cs.toList (zc (n + 1) * q) cur l
  rw [Array.getElem?_eq_getElem hl] at e
  split at e
  ·exact k4 _ (by have:=List.mem_of_getElem? e.symm; simpa using this)
  ·exact h7 _ (Array.mem_of_getElem? e.symm)
 ·intro l m' hm'
  have hcell:∀ x,(w.setRow g (putA cs.toList (zc (n + 1) * q) cur)).cell? ⟨g,x,none⟩=(putA cs.toList (zc (n + 1) * q) cur)[x]?:=fun x=>cell_of_row _ g x _ T0 (0,0) (setRow_heap w g _ _ T0 (0,0) h4)
  have hold:∀ x,w.cell? ⟨g,x,none⟩=cur[x]?:=fun x=>cell_of_row _ g x _ T0 (0,0) h4
  by_cases hql:q=l
  ·subst hql
   rw [List.getElem?_set_self hq] at hm'
   obtain rfl:=Option.some.inj hm'
   refine ⟨cs.toList,fun x v hv=>?_,⟨by simpa using k2,m.mono _ _ _ _ kp hm⟩⟩
   have hxl:=(List.getElem?_eq_some_iff.1 hv).1
   have hxl':x < cs.size:=by simpa using hxl
   rw [Nat.zero_add,hcell,putA_get,if_pos ⟨by omega,by omega,by omega⟩,Nat.add_sub_cancel_left]
   exact hv
  ·rw [List.getElem?_set_ne hql] at hm'
   refine (h8 l m' hm').cells (fun v=>m'.mono _ _ _ _ kp) fun x hx=>?_
   rw [Nat.zero_add,hcell,hold,putA_get,if_neg]
   have:=far_cell (z:=zc (n + 1)) (i:=l) (q:=q) (fun e=>hql e.symm) hx
   have hsz:cs.toList.length=zc (n + 1):=by simpa [zc] using k2
   rw [hsz]
   exact fun hh=>this ⟨hh.1,hh.2.1⟩
theorem t_make (S:St N O0 O W0 a w L X) {d:Tmp} {l:Operand} {t e:TypeId} {inf:TypeInfo} {z:Value} {es n:Nat} {mz:MP} {j:Int} (hu:P.underlying t=some (.slice e)) (hi:P.info? e=some inf) (hz:inf.zero=some z) (hs:inf.size=zc es) (hby:inf.bytes≤1000) (hpv:∀ O w,PV es z.cells.toList (mz.S O w)) (hec:∀ O w x,mz.S O w x→ec es x) (hl:a.eval l = .int .i64 j) (hj:j=(n:Int)) (hn:n≤1000000000)
  (h:∀ O' a' w' g,St N O0 O' W0 a' w' (setL d (mV (.slice (some ⟨g,0,none⟩) n n)) L) (.own (.slice (some ⟨g,0,none⟩) n n) e es (List.replicate n mz) :: X)→wpList P ops Q rest a' w') (ho:o.op = .makeSlice t l l:=by rfl) (hg:o.guard=none:=by rfl) (hd:o.dst=some d:=by rfl) (hlt:d < N:=by decide):wpList P ops Q (o :: rest) a w:=by
 subst hj
 have hzl:=(hpv O w).len
 have hb8:(inf.bytes:Int) * (n:Int)≤281474976710656:=by
  have:=Nat.mul_le_mul hby hn
  have h2:((inf.bytes * n:Nat):Int)≤281474976710656:=by omega
  rwa [Int.natCast_mul] at h2
 have hrun:=run_make (P:=P) w t e inf z hu hi hz .i64 .i64 (n:Int) (n:Int) (by omega) (by omega) hb8 (by omega)
 simp only [Int.toNat_natCast] at hrun
 have hr:(execOp a.eval o).run P w = .ok (.value (.slice (some ⟨w.heap.size,0,none⟩) n n)) (w.alloc (.cells (madeCells z.cells (n * inf.size)) e)):=by
  unfold execOp
  simp only [ho,hl]
  simp [hrun]
 have hcells:∀ v ∈ madeCells z.cells (n * inf.size),v.oneCell'=true∧∀ d,v≠Value.int .u32 d:=by
  intro v hv
  unfold madeCells at hv
  obtain ⟨i,_,rfl⟩:=Array.mem_map.1 hv
  have hpos : 0 < z.cells.size:=by have:=zc_pos es; simp only [Array.length_toList] at hzl; omega
  have hlt2:i % z.cells.size < z.cells.size:=Nat.mod_lt _ hpos
  rw [getElem!_pos z.cells _ hlt2]
  exact ec.pv (hpv O w) (hec O w) _ (by simp)
 refine tl_newS hg hd hr (by rw [S.z]; exact hlt) fun a' w' g zz d' hs' hf hge hc hb=>?_
 have hA:∀ x,x=g→w.heap.size≤x:=fun x e=>by rw [e,hge]; exact Nat.le_refl _
 have hlt':g < w'.heap.size:=(Array.getElem?_eq_some_iff.1 hc).1
 have S1:=S.more (A:=fun x=>x=g) hA hb ((S.s.more hA).kp (Kp.of hb)) (fun x e=>e ▸ hlt')
 refine h (fun x=>O x ∨ x=g) a' w' g (St.add ⟨zz.trans S.z,d'.trans S.d,S1.B,S1.s.set hs' hf,S1.x,S1.o,S1.ob,S1.b0⟩ (fun x e=>by cases e; exact ⟨Or.inr rfl,by rw [hge]; exact S.B.size⟩) (Or.inr ⟨g,n,_,by rw [List.length_replicate],by rw [List.length_replicate]; exact Nat.le_refl _,by simp only [maxLen]; omega,hc,by rw [size_madeCells,hs],noU_mem.2 fun v hv=>(hcells v hv).2,Array.all_eq_true_iff_forall_mem.2 fun v hv=>(hcells v hv).1,?_⟩) fun p hp x e e2=>?_)
 ·intro i m hm
  rw [List.getElem?_replicate] at hm
  split at hm
  ·rename_i hin
   obtain rfl:=Option.some.inj hm
   refine ⟨z.cells.toList,fun jj v hv=>?_,hpv _ _⟩
   have hjl:jj < zc es:=by rw [← hzl]; exact (List.getElem?_eq_some_iff.1 hv).1
   rw [cell_of_row w' g _ _ e (0,0) hc]
   unfold madeCells
   have hfit:zc es * i + jj < n * inf.size:=by
    have:=Nat.mul_le_mul_left (zc es) (show i + 1≤n from hin)
    rw [Nat.mul_succ] at this
    rw [hs,Nat.mul_comm n]; omega
   have hsz:z.cells.size=zc es:=by simpa using hzl
   rw [Array.getElem?_map,Nat.zero_add,Array.getElem?_range,if_pos hfit,Option.map_some,hsz,Nat.mul_add_mod,Nat.mod_eq_of_lt hjl,getElem!_pos z.cells jj (by omega)]
   rw [← hv]; simp [hsz,hjl]
  ·cases hm
 ·obtain rfl:g=x:=Option.some.inj e
  have:=p.lt _ _ _ (S.x.f p hp) e2
  omega
end
end Go.Proofs.YtcankknlbljicaaGreatDoor

namespace Go.Proofs.YtcankknlbljicaaGreatDoor
open Go.RowKit Num

def cellsAt (w:World) (g o n:Nat):List Value:=(List.range n).map fun j=>(w.cell? ⟨g,o + j,none⟩).getD undef
theorem cellsAt_len (w:World) (g o n:Nat):(cellsAt w g o n).length=n:=by simp [cellsAt]
theorem cellsAt_get {w:World} {g o n j:Nat} {v:Value} (h:w.cell? ⟨g,o + j,none⟩=some v) (hj:j < n):(cellsAt w g o n)[j]?=some v:=by
 unfold cellsAt
 rw [List.getElem?_map,List.getElem?_range hj,Option.map_some,h]; rfl
theorem Els.cell {O:Bs} {w:World} {es g off:Nat} {ms:List MP} (h:Els O w es g off ms) (hec:∀ m ∈ ms,∀ x,m.S O w x→ec es x) {j:Nat} (hj:j < ms.length * zc es):∃ v,w.cell? ⟨g,off + j,none⟩=some v∧v.oneCell'=true∧∀ d,v≠Value.int .u32 d:=by
 have hz:=zc_pos es
 have hi:j / zc es < ms.length:=by rw [Nat.div_lt_iff_lt_mul hz]; exact hj
 obtain ⟨cs,h1,h2⟩:=h _ _ (List.getElem?_eq_getElem hi)
 have hm:j % zc es < cs.length:=by rw [h2.len]; exact Nat.mod_lt _ hz
 have h3:=h1 _ _ (List.getElem?_eq_getElem hm)
 rw [Nat.add_assoc,Nat.div_add_mod] at h3
 exact ⟨_,h3,ec.pv h2 (hec _ (List.getElem_mem hi)) _ (List.getElem_mem hm)⟩
theorem ownR.app {O O':Bs} {w w':World} {T:TypeId} {es g gx ox n c:Nat} {ms ms':List MP} {cur:Array Value} {g0:Nat} (hT:w'.heap[g]?=some (.cells cur T (0,0))) (hc:ms.length + ms'.length≤c) (hc2:c≤maxLen) (hsz:cur.size=c * zc es) (hno:noU cur) (hone:cur.all (·.oneCell')=true) (hn:n=ms.length * zc es)
  (h1:ms = [] ∨ Els O w es g0 0 ms) (h2:ms' = [] ∨ Els O w es gx ox ms') (hS:∀ m ∈ ms ++ ms',∀ v,m.S O w v→m.S O' w' v)
  (k1:∀ j v,j < n→w.cell? ⟨g0,j,none⟩=some v→cur[j]?=some v) (k2:∀ j v,j < ms'.length * zc es→w.cell? ⟨gx,ox + j,none⟩=some v→cur[n + j]?=some v):ownR O' w' T es (.slice (some ⟨g,0,none⟩) (ms.length + ms'.length) c) (ms ++ ms'):=by
 refine Or.inr ⟨g,c,cur,by rw [List.length_append],by rw [List.length_append]; exact hc,hc2,hT,hsz,hno,hone,fun i m hm=>?_⟩
 have hcell:∀ x,w'.cell? ⟨g,x,none⟩=cur[x]?:=fun x=>cell_of_row _ g x _ T (0,0) hT
 rw [List.getElem?_append] at hm
 split at hm
 ·rename_i hi
  rcases h1 with rfl | h1
  ·simp at hi
  obtain ⟨cs,e1,e2⟩:=h1 i m hm
  refine ⟨cs,fun j v hv=>?_,e2.imp (hS m (List.mem_append_left _ (List.mem_of_getElem? hm)))⟩
  have hj:j < zc es:=by rw [← e2.len]; exact (List.getElem?_eq_some_iff.1 hv).1
  have hb:zc es * i + j < n:=by
   have:=Nat.mul_le_mul_left (zc es) (show i + 1≤ms.length from hi)
   rw [Nat.mul_succ] at this
   rw [hn,Nat.mul_comm ms.length]; omega
  have:=e1 j v hv
  rw [Nat.zero_add] at this ⊢
  rw [hcell]
  exact k1 _ v hb this
 ·rename_i hi
  rcases h2 with rfl | h2
  ·simp at hm
  have hil:=(List.getElem?_eq_some_iff.1 hm).1
  obtain ⟨cs,e1,e2⟩:=h2 _ m hm
  refine ⟨cs,fun j v hv=>?_,e2.imp (hS m (List.mem_append_right _ (List.mem_of_getElem? hm)))⟩
  have hj:j < zc es:=by rw [← e2.len]; exact (List.getElem?_eq_some_iff.1 hv).1
  have hb:zc es * (i - ms.length) + j < ms'.length * zc es:=by
   have:=Nat.mul_le_mul_left (zc es) (show i - ms.length + 1≤ms'.length from hil)
   rw [Nat.mul_succ] at this
   rw [Nat.mul_comm ms'.length]; omega
  have h3:=e1 j v hv
  rw [Nat.add_assoc] at h3
  rw [Nat.zero_add,hcell,show zc es * i + j=n + (zc es * (i - ms.length) + j) by
   have:zc es * i=zc es * ms.length + zc es * (i - ms.length):=by rw [← Nat.mul_add]; congr 1; omega
   rw [hn,Nat.mul_comm ms.length]; omega]
  exact k2 _ v hb h3
section
variable {P : Program} {ops : Array Oper} {rest : List Oper} {o : Oper} {a : Act} {w W0 : World} {Q : Exit → Act → World → Prop} {N : Nat} {O O0 : Bs} {L : List (Nat × MP)} {X : List RX}
theorem St.moved (S:St N O0 O W0 a w L X) (k:Nat) {p q:RX} {w':World} {g:Nat} (hk:X[k]?=some p) (hg:w.heap.size≤g) (hg2:g < w'.heap.size) (hb:Below w.heap.size w w') (hq:q.b=some g) (hF:q.F (fun x=>O x ∨ x=g) w'):St N O0 (fun x=>O x ∨ x=g) W0 a w' L (X.set k q):=by
 have hA:∀ x,x=g→w.heap.size≤x:=fun x e=>e ▸ hg
 have S1:=S.more (A:=fun x=>x=g) hA hb ((S.s.more hA).kp (Kp.of hb)) (fun x e=>e ▸ hg2)
 have hlt:=(List.getElem?_eq_some_iff.1 hk).1
 have hpw:=List.pairwise_iff_getElem.1 S.x.ap
 have hold:∀ (i:Nat) (hi:i < X.length) x,X[i].b=some x→x≠g:=fun i hi x e h=>by
  have:=X[i].lt _ _ _ (S.x.f _ (List.getElem_mem hi)) e
  omega
 refine ⟨S1.z,S1.d,S1.B,S1.s,⟨fun r hr=>?_,fun r hr=>?_,?_⟩,S1.o,S1.ob,S1.b0⟩
 ·rcases List.mem_or_eq_of_mem_set hr with h | rfl
  ·exact S1.x.f r h
  ·exact hF
 ·rcases List.mem_or_eq_of_mem_set hr with h | rfl
  ·exact S1.x.o r h
  ·intro x e
   rw [hq] at e
   cases e
   exact ⟨Or.inr rfl,Nat.le_trans S.B.size hg⟩
 ·rw [List.pairwise_iff_getElem]
  intro i j hi hj hij x
  rw [List.length_set] at hi hj
  rw [List.getElem_set,List.getElem_set]
  by_cases h1:k=i
  ·rw [if_pos h1,if_neg (by omega),hq]
   intro e e2
   cases e
   exact hold j hj _ e2 rfl
  ·rw [if_neg h1]
   by_cases h2:k=j
   ·rw [if_pos h2,hq]
    intro e e2
    cases e2
    exact hold i hi _ e rfl
   ·rw [if_neg h2]
    exact hpw i j hi hj hij x
theorem all_one {a:Array Value}:a.all (·.oneCell')=true ↔ ∀ v ∈ a,v.oneCell'=true:=Array.all_eq_true_iff_forall_mem
theorem mem_zero {z:Array Value} {n:Nat} {v:Value} (h:v ∈ Builtin.zeroCells z n):v ∈ z:=by
 unfold Builtin.zeroCells at h
 obtain ⟨i,hi,rfl⟩:=Array.mem_map.1 h
 have hz : 0 < z.size:=by
  have:=Array.mem_range.1 hi
  refine Nat.pos_of_ne_zero fun e=>?_
  rw [e] at this; simp at this
 rw [getElem!_pos z _ (Nat.mod_lt _ hz)]
 exact Array.getElem_mem _
theorem t_app (S:St N O0 O W0 a w L X) (i k:Nat) {d:Tmp} {t u:Tmp} {ts T:TypeId} {inf:TypeInfo} {z:Value} {es:Nat} {v:Value} {ms ms':List MP} (hu:P.underlying ts=some (.slice T)) (hin:P.info? T=some inf) (hz:inf.zero=some z) (hs:inf.size=zc es) (hby:inf.bytes≤1000) (hzl:z.cells.size=zc es) (hzc:∀ v ∈ z.cells,v.oneCell'=true∧∀ d,v≠Value.int .u32 d)
  (hx:isSl O w es ms' (a.eval (.tmp u))) (hec:∀ m ∈ ms',∀ x,m.S O w x→ec es x) (hlen:ms.length + ms'.length≤1000000000)
  (h:∀ O' a' w' v',St N O0 O' W0 a' w' (setL d (mV v') L) (X.set k (.own v' T es (ms ++ ms')))→wpList P ops Q rest a' w')
  (ho:o.op = .call { callee:=.builtin .append,args:=#[.tmp t,.tmp u],argTypes:=#[ts,ts] }:=by rfl) (hk:X[k]?=some (.own v T es ms):=by rfl) (hi:L[i]?=some (t,mV v):=by rfl) (hg:o.guard=none:=by rfl) (hd:o.dst=some d:=by rfl) (hlt:d < N:=by decide):wpList P ops Q (o :: rest) a w:=by
 have hF:ownR O w T es v ms:=S.f k hk
 have hOw:=S.x.o _ (List.mem_of_getElem? hk)
 have hev:a.eval (.tmp t)=v:=S.e i hi
 obtain ⟨ax,cx,hax,hx2,hx3,hx4⟩:=hx
 have zpos:=zc_pos es
 -- the operation's run gives the rule
 have fin:∀ v' w' O',(Builtin.append_ #[ts,ts] o.type #[v,.slice ax ms'.length cx]).run P w = .ok v' w'→St N O0 O' W0 a w' L (X.set k (.own v' T es (ms ++ ms')))→wpList P ops Q (o :: rest) a w:=fun v' w' O' hr S'=>by
  refine wpList_plain hg fun K hK=>?_
  unfold Oper.wp execOp
  simp only [ho,resolve,invoke,builtin,Sem.run_bind,Sem.run_pure,Result.andThen_ok,List.map_toArray,List.map_cons,List.map_nil,hev,hax,hr]
  refine hK _ _ ?_
  rw [hd]
  exact h O' _ w' v' ⟨(put_size _ _ _).trans S'.z,(put_defers _ _ _).trans S'.d,S'.B,S'.s.set (by rw [sl_put _ (by rw [S'.z]; exact hlt)]; rfl) (fun t ht=>sl_other _ fun e=>ht e.symm),S'.x,S'.o,S'.ob,S'.b0⟩
 have hpos : 0 < inf.size:=by rw [hs]; exact zpos
 rcases hx4 with rfl | ⟨gx,ox,rfl,hOx,hgx,hE⟩
 ·have hm0:ms' = []:=List.eq_nil_of_length_eq_zero (by omega)
  subst hm0
  refine fin v w O ?_ (by rw [List.append_nil]; exact S.reX k hk rfl hF)
  rcases hF with ⟨rfl,rfl⟩ | ⟨g,c,cur,rfl,h2,h3,h4,h5,h6,h7,h8⟩
  ·cases ax <;> simp [Builtin.append_,run_underlying hu,sizeOf,typeInfo,hin,Builtin.lenOf,Builtin.firstCells,loadCells,loadCellsFrom]
  ·cases ax <;> simp [Builtin.append_,run_underlying hu,sizeOf,typeInfo,hin,Builtin.lenOf,Builtin.firstCells,h2,storeCells,loadCells,loadCellsFrom]
 have hall:=fun j (hj:j < ms'.length * zc es)=>hE.cell hec hj
 have hnl:=cellsAt_len w gx ox (ms'.length * zc es)
 have hng:∀ j v,j < ms'.length * zc es→w.cell? ⟨gx,ox + j,none⟩=some v→(cellsAt w gx ox (ms'.length * zc es))[j]?=some v:=fun j v hj hv=>cellsAt_get hv hj
 have hnews:∀ j u,(cellsAt w gx ox (ms'.length * zc es))[j]?=some u→w.cell? ((⟨gx,ox,none⟩:Addr).add j)=some u:=fun j u hu2=>by
  have hj:j < ms'.length * zc es:=by rw [← hnl]; exact (List.getElem?_eq_some_iff.1 hu2).1
  obtain ⟨v2,e1,_⟩:=hall j hj
  rw [hng j v2 hj e1] at hu2
  rw [Addr.add_mid,e1]; exact hu2
 have hnone:∀ u ∈ cellsAt w gx ox (ms'.length * zc es),u.oneCell'=true∧∀ d,u≠Value.int .u32 d:=fun u hu2=>by
  obtain ⟨j,hj,rfl⟩:=List.getElem_of_mem hu2
  rw [hnl] at hj
  obtain ⟨v2,e1,e2⟩:=hall j hj
  have:=hng j v2 hj e1
  rw [List.getElem?_eq_getElem (by rw [hnl]; exact hj)] at this
  rw [Option.some.inj this]; exact e2
 have hb1:ms.length + ms'.length≤maxLen:=by simp only [maxLen]; omega
 have hb2:(ms.length + ms'.length) * inf.bytes≤140737488355328:=by have:=Nat.mul_le_mul hlen hby; omega
 -- into a new block
 have grown:∀ (xs:List Value) (old g0:Nat),xs.length=ms.length * zc es→(∀ v ∈ xs,v.oneCell'=true∧∀ d,v≠Value.int .u32 d)→(ms = [] ∨ Els O w es g0 0 ms)→(∀ j v,j < ms.length * zc es→w.cell? ⟨g0,j,none⟩=some v→xs[j]?=some v)→old < ms.length + ms'.length →
   St N O0 (fun x=>O x ∨ x=w.heap.size) W0 a (w.drew.alloc (.cells (xs.toArray ++ (cellsAt w gx ox (ms'.length * zc es)).toArray ++ Builtin.zeroCells z.cells (grownCap w (ms.length + ms'.length) old T - (ms.length + ms'.length))) T)) L (X.set k (.own (.slice (some ⟨w.heap.size,0,none⟩) (ms.length + ms'.length) (grownCap w (ms.length + ms'.length) old T)) T es (ms ++ ms'))):=fun xs old g0 hxl hx1 hms hcp hold=>by
  have hge:=grownCap_ge w (ms.length + ms'.length) old T
  have hcm:grownCap w (ms.length + ms'.length) old T≤maxLen:=grownCap_le_maxLen w (ms.length + ms'.length) old T hb1
  have hbel:Below w.heap.size w (w.drew.alloc (.cells (xs.toArray ++ (cellsAt w gx ox (ms'.length * zc es)).toArray ++ Builtin.zeroCells z.cells (grownCap w (ms.length + ms'.length) old T - (ms.length + ms'.length))) T)):=(Below.drew (Below.refl _ _)).alloc (Nat.le_refl _) _
  have hnewb:=heap_alloc_new w.drew (.cells (xs.toArray ++ (cellsAt w gx ox (ms'.length * zc es)).toArray ++ Builtin.zeroCells z.cells (grownCap w (ms.length + ms'.length) old T - (ms.length + ms'.length))) T)
  have hmem:∀ v ∈ xs.toArray ++ (cellsAt w gx ox (ms'.length * zc es)).toArray ++ Builtin.zeroCells z.cells (grownCap w (ms.length + ms'.length) old T - (ms.length + ms'.length)),v.oneCell'=true∧∀ d,v≠Value.int .u32 d:=fun v hv=>by
   rcases Array.mem_append.1 hv with hv | hv
   ·rcases Array.mem_append.1 hv with hv | hv
    ·exact hx1 v (by simpa using hv)
    ·exact hnone v (by simpa using hv)
   ·exact hzc v (mem_zero hv)
  refine S.moved k hk (Nat.le_refl _) (by simp) hbel rfl (ownR.app (g0:=g0) (gx:=gx) (ox:=ox) hnewb hge hcm ?_ (noU_mem.2 fun v hv=>(hmem v hv).2) (all_one.2 fun v hv=>(hmem v hv).1) rfl hms (Or.inr hE) (fun m _ v hv=>m.mono _ _ _ _ (Kp.of hbel) (m.more _ _ _ _ (fun x e=>e ▸ Nat.le_refl _) hv)) ?_ ?_)
  ·simp only [Array.size_append,List.size_toArray,size_zeroCells,hzl,hxl,hnl,← Nat.add_mul]
   congr 1
   omega
  ·intro j v hj hv
   have:=hcp j v hj hv
   rw [Array.getElem?_append,Array.getElem?_append,if_pos (by simp only [Array.size_append,List.size_toArray]; omega),if_pos (by simp only [List.size_toArray]; omega)]
   simpa using this
  ·intro j v hj hv
   have:=hng j v hj hv
   rw [Array.getElem?_append,Array.getElem?_append,if_pos (by simp only [Array.size_append,List.size_toArray]; omega),if_neg (by simp only [List.size_toArray]; omega)]
   simp only [List.size_toArray,hxl,Nat.add_sub_cancel_left]
   simpa using this
 rcases hF with ⟨rfl,rfl⟩ | ⟨g,c,cur,rfl,h2,h3,h4,h5,h6,h7,h8⟩
 ·by_cases hm:ms'.length=0
  ·have hm0:ms' = []:=List.eq_nil_of_length_eq_zero hm
   subst hm0
   refine fin (.slice none 0 0) w O ?_ (S.reX k hk rfl (Or.inl ⟨rfl,rfl⟩))
   simp [Builtin.append_,run_underlying hu,sizeOf,typeInfo,hin,Builtin.lenOf,Builtin.firstCells,loadCells,loadCellsFrom]
  ·have hr:=run_append_nil (P:=P) w ts o.type T inf z hu hin hz ⟨gx,ox,none⟩ ms'.length cx (cellsAt w gx ox (ms'.length * zc es)) (by rw [hnl,hs]) hnews (by omega) (by simp only [List.length_nil] at hlen; omega) (by simp only [List.length_nil,Nat.zero_add] at hb2; omega)
   have hg2:=grown [] 0 0 (by simp) (fun v hv=>by cases hv) (Or.inl rfl) (fun j v hj=>by simp at hj) (by simp only [List.length_nil]; omega)
   simp only [List.length_nil,Nat.zero_add,List.nil_append,Array.empty_append] at hg2
   refine fin _ _ (fun x=>O x ∨ x=w.heap.size) (by rw [hr]) ?_
   simpa using hg2
 ·by_cases hroom:ms.length + ms'.length≤c
  ·have hnz:ms.length * inf.size + (cellsAt w gx ox (ms'.length * zc es)).length≤cur.size:=by rw [hnl,h5,hs,← Nat.add_mul]; exact Nat.mul_le_mul_right _ hroom
   have hr:=run_append_room (P:=P) w ts o.type T inf hu hin g ms.length c cur h4 ⟨gx,ox,none⟩ ms'.length cx (cellsAt w gx ox (ms'.length * zc es)) (by rw [hnl,hs]) hnews (fun u hu2=>(hnone u hu2).1) hroom hnz
   have hO:=(hOw g rfl).1
   have kp:∀ new,Kp O w (w.setRow g new):=fun new=>⟨Ext.setRow h4 h6 _,fun x _ hx=>setRow_other w g x _ fun e=>hx (e ▸ hO)⟩
   rw [hnl,hs] at hnz
   have hcl:cur.toList.length=cur.size:=by simp
   have hnew:∀ j,(cur.toList.take (ms.length * inf.size) ++ cellsAt w gx ox (ms'.length * zc es) ++ cur.toList.drop (ms.length * inf.size + (cellsAt w gx ox (ms'.length * zc es)).length)).toArray[j]?=if j < ms.length * zc es then cur[j]? else if j < ms.length * zc es + ms'.length * zc es then (cellsAt w gx ox (ms'.length * zc es))[j - ms.length * zc es]? else cur[j]?:=by
    intro j
    rw [List.getElem?_toArray,List.append_assoc,hs,hnl,List.getElem?_append,List.length_take,hcl,Nat.min_eq_left (by omega)]
    split
    ·rw [List.getElem?_take,if_pos ‹_›]; simp
    ·rw [List.getElem?_append,hnl]
     split
     ·rw [if_pos (by omega)]
     ·rw [if_neg (by omega),List.getElem?_drop,show ms.length * zc es + ms'.length * zc es + (j - ms.length * zc es - ms'.length * zc es)=j by omega]; simp
   have hmem:∀ v ∈ (cur.toList.take (ms.length * inf.size) ++ cellsAt w gx ox (ms'.length * zc es) ++ cur.toList.drop (ms.length * inf.size + (cellsAt w gx ox (ms'.length * zc es)).length)).toArray,v.oneCell'=true∧∀ d,v≠Value.int .u32 d:=fun v hv=>by
    rw [List.mem_toArray] at hv
    rcases List.mem_append.1 hv with hv | hv
    ·rcases List.mem_append.1 hv with hv | hv
     ·have:=List.mem_of_mem_take hv
      exact ⟨all_one.1 h7 v (by simpa using this),noU_mem.1 h6 v (by simpa using this)⟩
     ·exact hnone v hv
    ·have:=List.mem_of_mem_drop hv
     exact ⟨all_one.1 h7 v (by simpa using this),noU_mem.1 h6 v (by simpa using this)⟩
   refine fin _ _ _ hr (S.put k hk (g:=g) rfl (kp _) (q:=.own _ T es (ms ++ ms')) (ownR.app (g0:=g) (gx:=gx) (ox:=ox) (setRow_heap w g _ _ T (0,0) h4) hroom h3 ?_ (noU_mem.2 fun v hv=>(hmem v hv).2) (all_one.2 fun v hv=>(hmem v hv).1) rfl (Or.inr h8) (Or.inr hE) (fun m _ v hv=>m.mono _ _ _ _ (kp _) hv) ?_ ?_) rfl)
   ·rw [List.size_toArray,List.length_append,List.length_append,List.length_take,List.length_drop,hnl,hcl,hs]
    omega
   ·intro j v hj hv
    rw [hnew j,if_pos hj]
    rwa [cell_of_row w g _ cur T (0,0) h4] at hv
   ·intro j v hj hv
    rw [hnew,if_neg (by omega),if_pos (by omega),Nat.add_sub_cancel_left]
    exact hng j v hj hv
  ·have hold:∀ j u,(cur.toList.take (ms.length * zc es))[j]?=some u→w.cell? ((⟨g,0,none⟩:Addr).add j)=some u:=fun j u hu2=>by
    rw [List.getElem?_take] at hu2
    split at hu2
    ·rw [Addr.add_mid,Nat.zero_add,cell_of_row w g _ cur T (0,0) h4]; simpa using hu2
    ·cases hu2
   have hfit:ms.length * zc es≤cur.size:=by rw [h5]; exact Nat.mul_le_mul_right _ h2
   have hlt2:(cur.toList.take (ms.length * zc es)).length=ms.length * zc es:=by rw [List.length_take]; simp; omega
   have hr:=run_append_grow (P:=P) w ts o.type T inf z hu hin hz ⟨g,0,none⟩ ms.length c _ (by rw [hlt2,hs]) hold ⟨gx,ox,none⟩ ms'.length cx (cellsAt w gx ox (ms'.length * zc es)) (by rw [hnl,hs]) hnews (by omega) (by omega) (growslice_fits (by omega) hb2)
   refine fin _ _ _ hr (grown _ c g hlt2 (fun v hv=>?_) (Or.inr h8) (fun j v hj hv=>?_) (by omega))
   ·have:=List.mem_of_mem_take hv
    exact ⟨all_one.1 h7 v (by simpa using this),noU_mem.1 h6 v (by simpa using this)⟩
   ·rw [cell_of_row w g _ cur T (0,0) h4] at hv
    rw [List.getElem?_take,if_pos hj]; simpa using hv
end
end Go.Proofs.YtcankknlbljicaaGreatDoor

namespace Go.Proofs.YtcankknlbljicaaGreatDoor
open Go.RowKit Num

section
variable {P : Program} {ops : Array Oper} {a0 : Act} {W W0 : World} {Q : Exit → Act → World → Prop} {N n : Nat} {O O0 : Bs} {L L' : List (Nat × MP)} {X : List RX} {G : List GE} {i : Nat} {o : Oper} {m : MP}
theorem opN (S:Sr N O W0 a0 W L X) (h:∀ {a w},Cx L X O W a0 G ops n o a w→∃ v w',(execOp a.eval o).run P w = .ok (.value v) w'∧Below w.heap.size w w'∧m.S O w' v) (hg:o.guard=none:=by rfl) (hA:isAl o=false:=by rfl) (hm:G[i]?=some (.m m):=by rfl):OpOk P Q W a0 (mM O W.heap.size G) ops n i o :=
 opk_alloc hg fun a w hb hf hd=>by
  obtain ⟨v,w',h1,h2,h3⟩:=h (S.cx hb hf hd)
  exact ⟨v,w',h1,h2,fun _ _=>(mM_at hm).2 h3,fun h=>by rw [hA] at h; cases h⟩
theorem opF (S:Sr N O W0 a0 W L X) {f:FuncId} {c:Operand} {cap:Array Value} {xs:Array Operand} {ts:Array TypeId} (ho:o.op = .call { callee:=.value c,args:=xs,argTypes:=ts }) (hc:∀ vs w,(callFunc f vs).run P w = .ok (.enter f vs) w)
  (h:∀ {a w},Cx L X O W a0 G ops n o a w→Below W0.heap.size W0 w→a.eval c = .func (.func f) #[] cap∧∃ vs,xs.map a.eval=vs∧Calls P f (vs ++ cap) w (RetM m O w)) (hg:o.guard=none:=by rfl) (hA:isAl o=false:=by rfl) (hm:G[i]?=some (.m m):=by rfl):OpOk P Q W a0 (mM O W.heap.size G) ops n i o :=
 opk_call hg hA fun a w hb hf hd=>by
  obtain ⟨h0,vs,h1,h2⟩:=h (S.cx hb hf hd) (S.B.trans (hb.mono S.B.size))
  refine ⟨f,vs ++ cap,?_,h2.mono fun _ w' r=>?_⟩
  ·subst h1
   unfold execOp; rw [ho]; simp [h0,resolve,Deferred.ofValue,invoke,hc]
  ·obtain ⟨v,r1,r2,r3⟩:=r
   exact ⟨v,r1,fun _ _=>(mM_at hm).2 r2,r3⟩
theorem run_makeFunc {ρ:Operand→Value} {o:Oper} {w:World} {f:Fn} {cap:Array Operand} {vs:Array Value} (ho:o.op = .makeFunc f #[] cap) (hv:cap.map ρ=vs):(execOp ρ o).run P w = .ok (.value (.func f #[] vs)) w:=by
 subst hv
 unfold execOp
 simp [ho,Instr.makeFunc]
end
section
variable {P : Program} {ops : Array Oper} {rest : List Oper} {o : Oper} {a : Act} {w W0 : World} {Q : Exit → Act → World → Prop} {N : Nat} {O O0 : Bs} {L : List (Nat × MP)} {X : List RX}
theorem t_nw (S:St N O0 O W0 a w L X) {m:MP} {d:Tmp} (he:∃ v w',(execOp a.eval o).run P w = .ok (.value v) w'∧Below w.heap.size w w'∧m.S O w' v) (h:∀ a' w',St N O0 O W0 a' w' (setL d m L) X→wpList P ops Q rest a' w') (hg:o.guard=none:=by rfl) (hd:o.dst=some d:=by rfl) (hlt:d < N:=by decide):wpList P ops Q (o :: rest) a w:=by
 obtain ⟨v,w',h1,h2,h3⟩:=he
 refine tl_value hg h1 ?_
 rw [hd]
 exact h _ _ ⟨(put_size _ _ _).trans S.z,(put_defers _ _ _).trans S.d,S.B.trans (h2.mono S.B.size),(S.s.kp (Kp.of h2)).set (by rw [sl_put _ (by rw [S.z]; exact hlt)]; exact h3) (fun t ht=>sl_other _ fun e=>ht e.symm),S.x.below h2,S.o,S.ob.mono h2.size,S.b0⟩
def RetF (T:TypeId) (es:Nat) (ms:List MP) (O:Bs) (w:World) (e:Ending) (w':World):Prop:=∃ v,e = .returned v∧ownR (fun x=>O x ∨ v.ownBlock=some x) w' T es v ms∧(∀ g,v.ownBlock=some g→w.heap.size≤g)∧Below w.heap.size w w'
theorem RetF.l {T:TypeId} {es:Nat} {ms:List MP} {O:Bs} {w:World} {e:Ending} {w':World} (h:RetF T es ms O w e w') (ho:OB O w):RetM (mSl es ms) O w e w':=by
 obtain ⟨v,h1,h2,h3,h4⟩:=h
 exact ⟨v,h1,h2.sl (fun g hg hO=>by have:=h3 g hg; have:=ho g hO; omega) (fun m _ v hv=>m.less _ _ _ _ (fun g hg=>Or.inl hg) hv),h4⟩
theorem retL {f:FuncId} {vs:Array Value} {T:TypeId} {es:Nat} {ms:List MP} (h:Calls P f vs w (RetF T es ms O w)) (ho:OB O w):Calls P f vs w (RetM (mSl es ms) O w):=h.mono fun _ _ r=>r.l ho
theorem RetF.imp {T:TypeId} {es:Nat} {ms ms':List MP} {O:Bs} {w:World} {e:Ending} {w':World} (hl:ms'.length=ms.length) (hi:∀ (i:Nat) (m m':MP),ms[i]?=some m→ms'[i]?=some m'→∀ O w v,m.S O w v→m'.S O w v) (h:RetF T es ms O w e w'):RetF T es ms' O w e w':=by
 obtain ⟨v,h1,h2,h3,h4⟩:=h
 refine ⟨v,h1,?_,h3,h4⟩
 rcases h2 with ⟨e1,e2⟩ | ⟨g,c,cur,e1,k2,k3,k4,k5,k6,k7,k8⟩
 ·left; subst e2; exact ⟨e1,List.eq_nil_of_length_eq_zero hl⟩
 ·right
  refine ⟨g,c,cur,by rw [hl]; exact e1,by rw [hl]; exact k2,k3,k4,k5,k6,k7,fun i m' hm'=>?_⟩
  have hlt:i < ms.length:=by rw [← hl]; exact (List.getElem?_eq_some_iff.1 hm').1
  exact (k8 i _ (List.getElem?_eq_getElem hlt)).imp rfl fun v hv=>hi i _ m' (List.getElem?_eq_getElem hlt) hm' _ _ v hv
theorem ownR.conv {T:TypeId} {es:Nat} {v:Value} {ms ms':List MP} (h:ownR O w T es v ms) (hl:ms'.length=ms.length) (hi:∀ (i:Nat) (m m':MP),ms[i]?=some m→ms'[i]?=some m'→∀ v,m.S O w v→m'.S O w v):ownR O w T es v ms':=by
 rcases h with ⟨e1,e2⟩ | ⟨g,c,cur,e1,k2,k3,k4,k5,k6,k7,k8⟩
 ·left; subst e2; exact ⟨e1,List.eq_nil_of_length_eq_zero hl⟩
 ·right
  refine ⟨g,c,cur,by rw [hl]; exact e1,by rw [hl]; exact k2,k3,k4,k5,k6,k7,fun i m' hm'=>?_⟩
  have hlt:i < ms.length:=by rw [← hl]; exact (List.getElem?_eq_some_iff.1 hm').1
  exact (k8 i _ (List.getElem?_eq_getElem hlt)).imp rfl (hi i _ m' (List.getElem?_eq_getElem hlt) hm')
theorem t_callF (S:St N O0 O W0 a w L X) {d:Tmp} {f:FuncId} {xs:Array Operand} {ts:Array TypeId} {vs:Array Value} {T:TypeId} {es:Nat} {ms:List MP} (ho:o.op = .call { callee:=.value (.func f),args:=xs,argTypes:=ts }) (ha:xs.map a.eval=vs) (hr:Calls P f vs w (RetF T es ms O w)) (h:∀ O' a' w' v,St N O0 O' W0 a' w' (setL d (mV v) L) (.own v T es ms :: X)→wpList P ops Q rest a' w')
  (hg:o.guard=none:=by rfl) (hd:o.dst=some d:=by rfl) (hlt:d < N:=by decide) (hc:∀ vs w,(callFunc f vs).run P w = .ok (.enter f vs) w:=by intro _ _; kernel_rfl):wpList P ops Q (o :: rest) a w :=
 wpList_plain hg fun _ hK=>by
  have hrun:=run_call (ρ:=a.eval) (w:=w) ho rfl hc ha
  unfold Oper.wp
  rw [hrun]
  refine hr.mono ?_
  rintro e w' ⟨v,rfl,h2,h3,h4⟩
  refine hK _ _ ?_
  rw [hd]
  have hA:∀ x,v.ownBlock=some x→w.heap.size≤x:=fun x e=>h3 x e
  have S1:=S.more (A:=fun x=>v.ownBlock=some x) hA h4 ((S.s.more hA).kp (Kp.of h4)) (fun x e=>h2.lt e)
  refine h _ _ _ v (St.add ⟨(put_size _ _ _).trans S.z,(put_defers _ _ _).trans S.d,S1.B,S1.s.set (by rw [sl_put _ (by rw [S.z]; exact hlt)]; rfl) (fun t ht=>sl_other _ fun e=>ht e.symm),S1.x,S1.o,S1.ob,S1.b0⟩ (fun x e=>⟨Or.inr e,Nat.le_trans S.B.size (h3 x e)⟩) h2 fun p hp x e e2=>?_)
  have:=p.lt _ _ _ (S.x.f p hp) e2
  have:=h3 x e
  omega
theorem st_endF {fn:Func} {p:Tmp} {v:Value} {T:TypeId} {es:Nat} {ms ms':List MP} (S:St N O0 O W0 a w L X) (i k:Nat) (hk:X[k]?=some (.own v T es ms)) (hi:L[i]?=some (p,mV v)) (hl:ms'.length=ms.length) (hR:∀ (i:Nat) (m m':MP),ms[i]?=some m→ms'[i]?=some m'→∀ O w v,m.S O w v→m'.S O w v) (hf:fn.results = #[.tmp p]:=by rfl):bodyPost P fn (RetF T es ms' O0 W0) .ret a w:=by
 have hF:ownR O w T es v ms:=S.f k hk
 have hO:=S.x.o _ (List.mem_of_getElem? hk)
 have e:a.tmps.getD p undef=v:=S.e i hi
 refine ⟨S.d,_,results_tmp hf a.tmps P w,RetF.imp hl hR ⟨_,rfl,?_,?_,S.B⟩⟩
 ·rw [e]
  exact hF.cg (fun _ _=>rfl) fun m _ v hv=>m.less _ _ _ _ (fun g hg=>hg.elim (S.o g) fun e=>(hO g e).1) hv
 ·rw [e]
  exact fun g hg=>(hO g hg).2
end

def rowI (n i:Nat) (A B:Nat→MP):List MP:=(List.range n).map fun j=>if j < i then A j else B j
theorem rowI_len (n i:Nat) (A B:Nat→MP):(rowI n i A B).length=n:=by simp [rowI]
theorem rowI_get {n i q:Nat} {A B:Nat→MP} (h:q < n):(rowI n i A B)[q]?=some (if q < i then A q else B q):=by
 unfold rowI; rw [List.getElem?_map,List.getElem?_range h]; rfl
theorem rowI_out {n i q:Nat} {A B:Nat→MP} (h:¬ q < n):(rowI n i A B)[q]?=none:=List.getElem?_eq_none (by rw [rowI_len]; omega)
theorem rowI_zero (n:Nat) (A:Nat→MP) (z:MP):List.replicate n z=rowI n 0 A fun _=>z:=by
 apply List.ext_getElem?
 intro q
 by_cases hn:q < n
 ·rw [rowI_get hn,List.getElem?_replicate,if_pos hn,if_neg (by omega)]
 ·rw [List.getElem?_eq_none (by simp; omega),rowI_out hn]

def lR (qs:List Rat) (k:Nat):List MP:=qs.map fun q=>mR q k
def lC (qs:List Rat) (k:Nat):List MP:=qs.map fun q=>mC q k
theorem lR_len (qs:List Rat) (k:Nat):(lR qs k).length=qs.length:=by simp [lR]
theorem lC_len (qs:List Rat) (k:Nat):(lC qs k).length=qs.length:=by simp [lC]
theorem lR_get {qs:List Rat} {k i:Nat} (h:i < qs.length):(lR qs k)[i]?=some (mR (qs.getD i 0) k):=by
 unfold lR; rw [List.getElem?_map,List.getElem?_eq_getElem h]; simp [h]
theorem lC_get {qs:List Rat} {k i:Nat} (h:i < qs.length):(lC qs k)[i]?=some (mC (qs.getD i 0) k):=by
 unfold lC; rw [List.getElem?_map,List.getElem?_eq_getElem h]; simp [h]
theorem lR_take (qs:List Rat) (k n:Nat):(lR qs k).take n=lR (qs.take n) k:=by simp [lR,List.map_take]
theorem lC_take (qs:List Rat) (k n:Nat):(lC qs k).take n=lC (qs.take n) k:=by simp [lC,List.map_take]
theorem lC_set (qs:List Rat) (k n:Nat) (x:Rat):(lC qs k).set n (mC x k)=lC (qs.set n x) k:=by simp [lC,List.map_set]
theorem lR_lt {qs:List Rat} {k i:Nat} {m:MP} (h:(lR qs k)[i]?=some m):i < qs.length∧m=mR (qs.getD i 0) k:=by
 have hl:=(List.getElem?_eq_some_iff.1 h).1
 rw [lR_len] at hl
 rw [lR_get hl] at h
 exact ⟨hl,(Option.some.inj h).symm⟩
theorem lC_lt {qs:List Rat} {k i:Nat} {m:MP} (h:(lC qs k)[i]?=some m):i < qs.length∧m=mC (qs.getD i 0) k:=by
 have hl:=(List.getElem?_eq_some_iff.1 h).1
 rw [lC_len] at hl
 rw [lC_get hl] at h
 exact ⟨hl,(Option.some.inj h).symm⟩
theorem slC_r {qs:List Rat} {k:Nat} {O:Bs} {w:World} {v:Value} (h:(mSl 3 (lC qs k)).S O w v):(mSl 3 (lR qs k)).S O w v :=
 isSl.imp (by rw [lC_len,lR_len]) (fun _ _ _ h1 h2 _ hv=>by rw [(lC_lt h1).2] at hv; rw [(lR_lt h2).2]; exact isC.r hv) h
theorem slC_mono {qs:List Rat} {k k':Nat} {O:Bs} {w:World} {v:Value} (h:(mSl 3 (lC qs k)).S O w v) (hk:k≤k'):(mSl 3 (lC qs k')).S O w v :=
 isSl.imp (by rw [lC_len,lC_len]) (fun _ _ _ h1 h2 _ hv=>by rw [(lC_lt h1).2] at hv; rw [(lC_lt h2).2]; exact isC.mono hv hk) h
theorem lC_ec {qs:List Rat} {k:Nat} {m:MP} (hm:m ∈ lC qs k) {O:Bs} {w:World} {x:Value} (h:m.S O w x):ec 3 x:=by
 obtain ⟨q,_,rfl⟩:=List.mem_map.1 hm
 exact isC.cv h
end Go.Proofs.YtcankknlbljicaaGreatDoor
