/-  -/
import Derived.Test.YtcankknlbljicaaGreatDoorY4

set_option linter.unusedVariables false
set_option linter.unusedSimpArgs false
set_option linter.unusedSectionVars false
set_option maxRecDepth 100000
set_option maxHeartbeats 3200000

namespace Go.Proofs.YtcankknlbljicaaGreatDoor
open Go.RowKit Num

def RetFo (ao0 ad0:Option Addr) (xs0 ds0:List Nat) (q:Rat) (n m:Nat) (w:World) (e:Ending) (w':World):Prop :=
 ∃ b ao c xs ad d ds,e = .returned (.agg #[.bool b,.slice ao xs.length c,.slice ad ds.length d])∧Rd w' ao c xs∧Rd w' ad d ds∧val ds≠0∧mkRat (iv b (val xs)) (val ds)=q∧xs.length≤n∧ds.length≤m ∧
  ((ao=ao0∧xs=xs0∧ad=ad0∧ds=ds0) ∨ (xs = []∧Own w.heap.size w' ad d ds))∧Below w.heap.size w w'

theorem read_or (b:Bool) (ao ad:Option Addr) (c d:Nat) (xs ds:List Nat) (w:World) (hx:Rd w ao c xs) (hd:Rd w ad d ds) (hl:ds.length≤17592186044416) :
  Calls Tryz.prog 141 #[.agg #[.bool b,.slice ao xs.length c,.slice ad ds.length d]] w (RetFo ao ad xs ds (rv b (val xs) (val ds)) xs.length (ds.length + 1) w):=by
 have hle1:=hx.le
 have hcm1:=hx.cm
 have hle2:=hd.le
 have hcm2:=hd.cm
 have h1:=below_alloc w (.cells #[.bool b,.slice ao xs.length c,.slice ad ds.length d] 26)
 have hB:=h1.trans ((below_alloc _ (.cells #[.bool false,.slice none 0 0,.slice none 0 0] 122)).mono h1.size)
 have hbl:=bitlen_any ad d ds _ (hd.below hB) hl
 have x1:=heap_alloc_at w (.cells #[.bool b,.slice ao xs.length c,.slice ad ds.length d] 26)
 have z1:(w.alloc (.cells #[.bool b,.slice ao xs.length c,.slice ad ds.length d] 26)).heap.size=w.heap.size + 1:=by simp
 have x2:=heap_alloc_at (w.alloc (.cells #[.bool b,.slice ao xs.length c,.slice ad ds.length d] 26)) (.cells #[.bool false,.slice none 0 0,.slice none 0 0] 122)
 rw [z1] at x2
 by_cases h0:val ds=0
 ·have hb0:blen (val ds)=0:=by rw [h0]; rfl
  rw [hb0] at hbl
  have z2:((w.alloc (.cells #[.bool b,.slice ao xs.length c,.slice ad ds.length d] 26)).alloc (.cells #[.bool false,.slice none 0 0,.slice none 0 0] 122)).heap.size=w.heap.size + 2:=by simp
  have ho:=Own.one ((w.alloc (.cells #[.bool b,.slice ao xs.length c,.slice ad ds.length d] 26)).alloc (.cells #[.bool false,.slice none 0 0,.slice none 0 0] 122)) (w.heap.size + 2) 1 (by omega) (by omega)
  have h3:=below_alloc ((w.alloc (.cells #[.bool b,.slice ao xs.length c,.slice ad ds.length d] 26)).alloc (.cells #[.bool false,.slice none 0 0,.slice none 0 0] 122)) (.cells #[.int .u32 ((1:Nat):Int)] 88)
  have y2:=(h3.block (w.heap.size + 1) (by omega)).trans x2
  rw [z2] at ho
  have H:=hid (And.intro (hB.trans (h3.mono hB.size)) (And.intro ho y2))
  have HV:=hid (show rv b (val xs) (val ds)=mkRat (iv false (val [])) (val [1]) by rw [h0,rv_zero]; rfl)
  clear hx hd h1 hB x1 z1 x2 h3 y2 ho h0
  go_enter Tryz.func141,Tryz.ntmps141
  go_wp2_with fail
  refine hbl.mono ?_
  rintro e w' ⟨rfl,rfl⟩
  clear hbl
  go_wp2_with fail
  refine (over_any _ _ _ _ _ _ _ _).mono ?_
  rintro e w3 ⟨rfl,f3⟩
  obtain ⟨⟨k0,k1,k2⟩,k3,k4,k5⟩:=rat_cells H.out.2.2 f3
  have H3:=hid (And.intro (H.out.2.1.below f3) (H.out.1.trans (f3.mono H.out.1.size)))
  clear f3
  go_wp2
  refine bodyPost_ret (v:=.agg #[.bool false,.slice none 0 0,.slice (some ⟨w.heap.size + 2,0,none⟩) 1 1]) (by simp [results,Tryz.results141,go_sem,k0,k1,k2]) rfl ?_
  refine ⟨false,none,0,[],_,1,[1],rfl,Rd.nil (by omega) (fun _=>rfl),?_,by simp [val],HV.out.symm,Nat.zero_le _,by simp,Or.inr ⟨rfl,?_⟩,?_⟩
  ·refine Own.rd (B:=w.heap.size + 2) ?_
   repeat refine Own.setOld ?_ (by omega) _
   exact H3.out.1
  ·refine Own.mono (B:=w.heap.size + 2) ?_ (by omega)
   repeat refine Own.setOld ?_ (by omega) _
   exact H3.out.1
  ·repeat refine Below.setCell (p:=⟨_,_,none⟩) ?_ (by dsimp only; omega) _
   exact H3.out.2
 ·have hb0:((blen (val ds):Int) == 0)=false:=by
   rw [beq_eq_false_iff_ne]
   intro h
   exact h0 (blen_eq_zero.1 (by omega))
  obtain ⟨q,hq⟩:∃ q,q=blen (val ds):=⟨_,rfl⟩
  rw [← hq] at hbl hb0
  have hB3:=h1.trans ((below_alloc _ (.cells #[.bool b,.slice ao xs.length c,.slice ad ds.length d] 122)).mono h1.size)
  have H:=hid (And.intro (hx.below hB3) (And.intro (hd.below hB3) hB3))
  clear hx hd h1 hB x1 z1 x2 hB3 hq
  go_enter Tryz.func141,Tryz.ntmps141
  go_wp2_with fail
  refine hbl.mono ?_
  rintro e w' ⟨rfl,rfl⟩
  clear hbl
  go_wp2
  refine bodyPost_ret (v:=.agg #[.bool b,.slice ao xs.length c,.slice ad ds.length d]) (by simp [results,Tryz.results141,go_sem]) rfl ?_
  exact ⟨b,ao,c,xs,ad,d,ds,rfl,H.out.1,H.out.2.1,h0,rfl,Nat.le_refl _,Nat.le_succ _,Or.inl ⟨rfl,rfl,rfl,rfl⟩,H.out.2.2⟩
theorem read_u {b:Bool} {ao:Option Addr} {c:Nat} {xs:List Nat} {ad:Option Addr} {d:Nat} {ds:List Nat} {q:Rat} {n:Nat} {u:World} (h:Rq u b ao c xs ad d ds q n) (hn:n≤4398046511103) (w:World) (hu:Below u.heap.size u w) (v:World) (hv:Below v.heap.size v w) :
  Calls Tryz.prog 141 #[.agg #[.bool b,.slice ao xs.length c,.slice ad ds.length d]] w (fun e w'=>∃ b' ao' c' xs' ad' d' ds',e = .returned (.agg #[.bool b',.slice ao' xs'.length c',.slice ad' ds'.length d'])∧Fr w' b' ao' c' xs' ad' d' ds' q (n + 1) ∧
   (∀ g,u.heap.size≤g→g < w.heap.size→Off g ao' xs'∧Off g ad' ds')∧Below w.heap.size w w'∧Below u.heap.size u w'∧Below v.heap.size v w'):=by
 have hl:=h.ld
 have hl1:=h.ln
 refine (read_or b ao ad c d xs ds w (h.rn.below hu) (h.rd.below hu) (by omega)).mono ?_
 rintro e w' ⟨b',ao',c',xs',ad',d',ds',he,h1,h2,h3,h4,h5,h6,h7,h8⟩
 refine ⟨b',ao',c',xs',ad',d',ds',he,⟨h1,h2,h3,h4.trans h.vq,by omega,by omega⟩,?_,h8,hu.trans (h8.mono hu.size),hv.trans (h8.mono hv.size)⟩
 intro g hg1 hg2
 rcases h7 with ⟨rfl,rfl,rfl,rfl⟩ | ⟨rfl,ho⟩
 ·exact ⟨h.rn.lt_size hg1,h.rd.lt_size hg1⟩
 ·exact ⟨Or.inl rfl,ho.off hg2⟩
theorem Rd.setOff {w:World} {ao:Option Addr} {c:Nat} {xs:List Nat} (h:Rd w ao c xs) {g i:Nat} (ho:Off g ao xs) (v:Value):Rd (w.setCell ⟨g,i,none⟩ v) ao c xs:=by
 refine ⟨h.le,h.cm,h.nn,h.dg,?_⟩
 rcases h.lies with h1 | ⟨b,off,h1,h2⟩
 ·exact Or.inl h1
 ·rcases ho with h3 | h3
  ·exact Or.inl h3
  ·exact Or.inr ⟨b,off,h1,fun i hi=>by rw [World.cell?_setCell_far _ _ _ _ (show g≠b from fun e=>h3 _ h1 e.symm)]; exact h2 i hi⟩
theorem Fr.set3 {w:World} {b:Bool} {ao:Option Addr} {c:Nat} {xs:List Nat} {ad:Option Addr} {d:Nat} {ds:List Nat} {q:Rat} {n:Nat} (h:Fr w b ao c xs ad d ds q n) {g:Nat} (h1:Off g ao xs) (h2:Off g ad ds) (v0 v1 v2:Value):Fr (((w.setCell ⟨g,0,none⟩ v0).setCell ⟨g,1,none⟩ v1).setCell ⟨g,2,none⟩ v2) b ao c xs ad d ds q n :=
 ⟨((h.rn.setOff h1 _).setOff h1 _).setOff h1 _,((h.rd.setOff h2 _).setOff h2 _).setOff h2 _,h.nz,h.vq,h.ln,h.ld⟩
theorem fr_al {w:World} {b:Bool} {ao:Option Addr} {c:Nat} {xs:List Nat} {ad:Option Addr} {d:Nat} {ds:List Nat} {q:Rat} {n:Nat} (h:Fr w b ao c xs ad d ds q n) (o:Obj):Fr (w.alloc o) b ao c xs ad d ds q n:=h.below (below_alloc w o)
theorem fr_set {w:World} {b:Bool} {ao:Option Addr} {c:Nat} {xs:List Nat} {ad:Option Addr} {d:Nat} {ds:List Nat} {q:Rat} {n:Nat} {g:Nat} (i:Nat) (v:Value) (ho:Off g ao xs∧Off g ad ds) (h:Fr w b ao c xs ad d ds q n):Fr (w.setCell ⟨g,i,none⟩ v) b ao c xs ad d ds q n :=
 ⟨h.rn.setOff ho.1 _,h.rd.setOff ho.2 _,h.nz,h.vq,h.ln,h.ld⟩
def P2S (u wx:World) (g5 g6:Nat) (q1 q2:Rat) (n1 n2:Nat):Prop :=
 ∃ b3 a3 c3 x3 d3 e3 y3 b4 a4 c4 x4 d4 e4 y4,wx.heap[g5]?=some (.cells #[.bool b3,.slice a3 (List.length x3) c3,.slice d3 (List.length y3) e3] 122 (0,0))∧wx.heap[g6]?=some (.cells #[.bool b4,.slice a4 (List.length x4) c4,.slice d4 (List.length y4) e4] 122 (0,0)) ∧
  Fr wx b3 a3 c3 x3 d3 e3 y3 q1 n1∧Fr wx b4 a4 c4 x4 d4 e4 y4 q2 n2∧Below u.heap.size u wx∧u.heap.size≤g5∧u.heap.size≤g6∧g5≠g6
end Go.Proofs.YtcankknlbljicaaGreatDoor

namespace Go.Proofs.YtcankknlbljicaaGreatDoor
open Go.RowKit Num

set_option maxHeartbeats 12800000 in
theorem mul3_any {b1:Bool} {ao1:Option Addr} {c1:Nat} {xs1:List Nat} {ad1:Option Addr} {d1:Nat} {ds1:List Nat} {q1:Rat} {n1:Nat} {b2:Bool} {ao2:Option Addr} {c2:Nat} {xs2:List Nat} {ad2:Option Addr} {d2:Nat} {ds2:List Nat} {q2:Rat} {n2:Nat} {w:World} (h1:Rq w b1 ao1 c1 xs1 ad1 d1 ds1 q1 n1) (h2:Rq w b2 ao2 c2 xs2 ad2 d2 ds2 q2 n2) (hn1:n1≤999999999999) (hn2:n2≤999999999999) (hT:Tb w) :
  Calls Tryz.prog 118 #[.agg #[.bool b1,.slice ao1 xs1.length c1,.slice ad1 ds1.length d1],.agg #[.bool b2,.slice ao2 xs2.length c2,.slice ad2 ds2.length d2]] w (RetRat (q1 * q2) w):=by
 have hle1a:=h1.rn.le
 have hcm1b:=h1.rn.cm
 have hle1c:=h1.rd.le
 have hcm1d:=h1.rd.cm
 have hle2a:=h2.rn.le
 have hcm2b:=h2.rn.cm
 have hle2c:=h2.rd.le
 have hcm2d:=h2.rd.cm
 have hB:=A3_below w (.cells #[.bool b1,.slice ao1 xs1.length c1,.slice ad1 ds1.length d1] 26) (.cells #[.bool b2,.slice ao2 xs2.length c2,.slice ad2 ds2.length d2] 26) (.cells #[.bool false,.slice none 0 0,.slice none 0 0] 26)
 have HH:=hid (A3_heap w (.cells #[.bool b1,.slice ao1 xs1.length c1,.slice ad1 ds1.length d1] 26) (.cells #[.bool b2,.slice ao2 xs2.length c2,.slice ad2 ds2.length d2] 26) (.cells #[.bool false,.slice none 0 0,.slice none 0 0] 26))
 have HSZ:=hid (A3_size w (.cells #[.bool b1,.slice ao1 xs1.length c1,.slice ad1 ds1.length d1] 26) (.cells #[.bool b2,.slice ao2 xs2.length c2,.slice ad2 ds2.length d2] 26) (.cells #[.bool false,.slice none 0 0,.slice none 0 0] 26))
 have HB:=hid hB
 have HT:=hid (hT.below hB)
 have HR:=hid (And.intro (h1.below hB) (h2.below hB))
 have hm4:n1≤4398046511103:=by omega
 have hm5:n2≤4398046511103:=by omega
 unfold A3 at HH HSZ HB HT HR
 clear h1 h2 hT hB
 have n01:¬ (w.heap.size=w.heap.size + 1 + 1):=by omega
 have n02:¬ (w.heap.size + 1 + 1=w.heap.size):=by omega
 have n03:¬ (w.heap.size + 1=w.heap.size + 1 + 1):=by omega
 have n04:¬ (w.heap.size + 1 + 1=w.heap.size + 1):=by omega
 have n05:¬ (w.heap.size=w.heap.size + 1):=by omega
 have n06:¬ (w.heap.size + 1=w.heap.size):=by omega
 go_enter Tryz.func118,Tryz.ntmps118
 go_wp2_with fail
 obtain ⟨w0,hw0⟩:∃ x,x=(((w.alloc (.cells #[.bool b1,.slice ao1 xs1.length c1,.slice ad1 ds1.length d1] 26)).alloc (.cells #[.bool b2,.slice ao2 xs2.length c2,.slice ad2 ds2.length d2] 26)).alloc (.cells #[.bool false,.slice none 0 0,.slice none 0 0] 26)):=⟨_,rfl⟩
 rw [← hw0] at HH HSZ HB HT HR ⊢
 clear hw0
 have HA:=hid (fun w' (hb:Below w0.heap.size w0 w') v (hv:Below v.heap.size v w')=>read_u HR.out.1 hm4 w' hb v hv)
 have HB2:=hid (fun w' (hb:Below w0.heap.size w0 w') v (hv:Below v.heap.size v w')=>read_u HR.out.2 hm5 w' hb v hv)
 go_upto_region 1 with fail
 go_cut [5,6] from 7 to 10 (fun v5 v6 wx=>∃ g5 g6,(v5 = .pointer (some ⟨g5,0,none⟩)∧v6 = .pointer (some ⟨g6,0,none⟩))∧Hid (P2S w0 wx g5 g6 q1 q2 (n1 + 1) (n2 + 1)))
 case first =>
  have z0:w0.heap.size=w.heap.size + 3:=HSZ.out
  have kk:Below w0.heap.size w0 w0.drew:=below_drewI _ _
  obtain ⟨s0,s1,s2,_⟩:=cells3 HH.out.1 (Below.refl w0.heap.size w0)
  obtain ⟨t0,t1,t2,_⟩:=cells3 HH.out.2.1 (Below.refl w0.heap.size w0)
  have m1:¬ (w.heap.size=w0.heap.size):=by omega
  have m2:¬ (w0.heap.size=w.heap.size):=by omega
  have m3:¬ (w.heap.size=w0.heap.size + 1):=by omega
  have m4:¬ (w0.heap.size + 1=w.heap.size):=by omega
  have m5:¬ (w.heap.size + 1=w0.heap.size):=by omega
  have m6:¬ (w0.heap.size=w.heap.size + 1):=by omega
  have m7:w.heap.size < w0.heap.size:=by omega
  have m8:w.heap.size + 1 < w0.heap.size:=by omega
  clear z0
  go_region_held3 (fun w'=>w'.cell? ⟨w.heap.size,0,none⟩=some (.bool b1)∧w'.cell? ⟨w.heap.size,1,none⟩=some (.slice ao1 xs1.length c1)∧w'.cell? ⟨w.heap.size,2,none⟩=some (.slice ad1 ds1.length d1)∧w'.cell? ⟨w.heap.size + 1,0,none⟩=some (.bool b2)∧w'.cell? ⟨w.heap.size + 1,1,none⟩=some (.slice ao2 xs2.length c2)∧w'.cell? ⟨w.heap.size + 1,2,none⟩=some (.slice ad2 ds2.length d2)) (go_keep) (first
   | (go_at_call 141; (with_reducible refine (HB2.out _ ?_ w3 ?_).mono ?_); (repeat (first | with_reducible assumption | with_reducible exact Below.refl _ _ | with_reducible apply Below.drew | with_reducible apply below_al)); rintro e w4 ⟨b4,a4,c4,x4,d4,e4,y4,rfl,F4,O4,f4,k4,j4⟩; obtain ⟨r4a,r4b,r4c,_⟩:=cells3 HH.out.1 k4; obtain ⟨v4a,v4b,v4c,_⟩:=cells3 HH.out.2.1 k4; have z4:=f4.size; (try simp only [alloc_size,drew_size] at z4); (try (have nl4_0:w.heap.size < w4.heap.size:=by omega)); (try (have nq4_61:¬ (w.heap.size=w4.heap.size):=by omega); (have nr4_61:¬ (w4.heap.size=w.heap.size):=by omega)); (try (have nq4_187:¬ (w.heap.size=w4.heap.size + 1):=by omega); (have nr4_187:¬ (w4.heap.size + 1=w.heap.size):=by omega)); (try (have nl4_323:w.heap.size + 1 < w4.heap.size:=by omega)); (try (have nq4_390:¬ (w.heap.size + 1=w4.heap.size):=by omega); (have nr4_390:¬ (w4.heap.size=w.heap.size + 1):=by omega)); (try (have nq4_526:¬ (w.heap.size + 1=w4.heap.size + 1):=by omega); (have nr4_526:¬ (w4.heap.size + 1=w.heap.size + 1):=by omega)); (try (have nl4_670:w0.heap.size < w4.heap.size:=by omega)); (try (have nq4_734:¬ (w0.heap.size=w4.heap.size):=by omega); (have nr4_734:¬ (w4.heap.size=w0.heap.size):=by omega)); (try (have nq4_864:¬ (w0.heap.size=w4.heap.size + 1):=by omega); (have nr4_864:¬ (w4.heap.size + 1=w0.heap.size):=by omega)); (try (have nl4_1002:w0.heap.size + 1 < w4.heap.size:=by omega)); (try (have nq4_1071:¬ (w0.heap.size + 1=w4.heap.size):=by omega); (have nr4_1071:¬ (w4.heap.size=w0.heap.size + 1):=by omega)); (try (have nq4_1211:¬ (w0.heap.size + 1=w4.heap.size + 1):=by omega); (have nr4_1211:¬ (w4.heap.size + 1=w0.heap.size + 1):=by omega)); (try (have nl4_1359:w3.heap.size < w4.heap.size:=by omega)); (try (have nq4_1424:¬ (w3.heap.size=w4.heap.size):=by omega); (have nr4_1424:¬ (w4.heap.size=w3.heap.size):=by omega)); (try (have nq4_1556:¬ (w3.heap.size=w4.heap.size + 1):=by omega); (have nr4_1556:¬ (w4.heap.size + 1=w3.heap.size):=by omega)); (try (have nl4_1696:w3.heap.size + 1 < w4.heap.size:=by omega)); (try (have nq4_1765:¬ (w3.heap.size + 1=w4.heap.size):=by omega); (have nr4_1765:¬ (w4.heap.size=w3.heap.size + 1):=by omega)); (try (have nq4_1905:¬ (w3.heap.size + 1=w4.heap.size + 1):=by omega); (have nr4_1905:¬ (w4.heap.size + 1=w3.heap.size + 1):=by omega)); (try (refine cutp (p:=w4.heap[w0.heap.size]?=some (.cells #[.bool false,.slice none 0 0,.slice none 0 0] 122)) ?_ ?_; (· (repeat (first | (with_reducible refine heap_at' _ _ _ ?_; (first | omega | (simp only [alloc_size,drew_size,setCell_size]; done) | (simp only [alloc_size,drew_size,setCell_size]; omega))) | (with_reducible apply box2) | (with_reducible apply box3) | (with_reducible refine (heap_set _ _ _ _ _ ?_).trans ?_; (· (first | omega | (simp only [alloc_size,drew_size,setCell_size]; done) | (simp only [alloc_size,drew_size,setCell_size]; omega)))) | (with_reducible refine (Below.heap_alloc _ _ _ ?_).trans ?_; (· (first | omega | (simp only [alloc_size,drew_size,setCell_size]; done) | (simp only [alloc_size,drew_size,setCell_size]; omega)))) | (with_reducible refine (drew_at _ _).trans ?_) | (with_reducible refine (f4.block _ ?_).trans ?_; (· (first | omega | (simp only [alloc_size,drew_size,setCell_size]; done) | (simp only [alloc_size,drew_size,setCell_size]; omega)))) | (with_reducible refine (f3.block _ ?_).trans ?_; (· (first | omega | (simp only [alloc_size,drew_size,setCell_size]; done) | (simp only [alloc_size,drew_size,setCell_size]; omega))))))); intro Q0; obtain ⟨qa0,qb0,qc0,qd0,qe0,qf0⟩:=cells3 Q0 (Below.refl _ _))); (try (refine cutp (p:=w4.heap[w0.heap.size + 1]?=some (.cells #[.bool false,.slice none 0 0,.slice none 0 0] 122)) ?_ ?_; (· (repeat (first | (with_reducible refine heap_at' _ _ _ ?_; (first | omega | (simp only [alloc_size,drew_size,setCell_size]; done) | (simp only [alloc_size,drew_size,setCell_size]; omega))) | (with_reducible apply box2) | (with_reducible apply box3) | (with_reducible refine (heap_set _ _ _ _ _ ?_).trans ?_; (· (first | omega | (simp only [alloc_size,drew_size,setCell_size]; done) | (simp only [alloc_size,drew_size,setCell_size]; omega)))) | (with_reducible refine (Below.heap_alloc _ _ _ ?_).trans ?_; (· (first | omega | (simp only [alloc_size,drew_size,setCell_size]; done) | (simp only [alloc_size,drew_size,setCell_size]; omega)))) | (with_reducible refine (drew_at _ _).trans ?_) | (with_reducible refine (f4.block _ ?_).trans ?_; (· (first | omega | (simp only [alloc_size,drew_size,setCell_size]; done) | (simp only [alloc_size,drew_size,setCell_size]; omega)))) | (with_reducible refine (f3.block _ ?_).trans ?_; (· (first | omega | (simp only [alloc_size,drew_size,setCell_size]; done) | (simp only [alloc_size,drew_size,setCell_size]; omega))))))); intro Q1; obtain ⟨qa1,qb1,qc1,qd1,qe1,qf1⟩:=cells3 Q1 (Below.refl _ _))); (try (refine cutp (p:=w4.heap[w3.heap.size]?=some (.cells #[.bool false,.slice none 0 0,.slice none 0 0] 122)) ?_ ?_; (· (repeat (first | (with_reducible refine heap_at' _ _ _ ?_; (first | omega | (simp only [alloc_size,drew_size,setCell_size]; done) | (simp only [alloc_size,drew_size,setCell_size]; omega))) | (with_reducible apply box2) | (with_reducible apply box3) | (with_reducible refine (heap_set _ _ _ _ _ ?_).trans ?_; (· (first | omega | (simp only [alloc_size,drew_size,setCell_size]; done) | (simp only [alloc_size,drew_size,setCell_size]; omega)))) | (with_reducible refine (Below.heap_alloc _ _ _ ?_).trans ?_; (· (first | omega | (simp only [alloc_size,drew_size,setCell_size]; done) | (simp only [alloc_size,drew_size,setCell_size]; omega)))) | (with_reducible refine (drew_at _ _).trans ?_) | (with_reducible refine (f4.block _ ?_).trans ?_; (· (first | omega | (simp only [alloc_size,drew_size,setCell_size]; done) | (simp only [alloc_size,drew_size,setCell_size]; omega)))) | (with_reducible refine (f3.block _ ?_).trans ?_; (· (first | omega | (simp only [alloc_size,drew_size,setCell_size]; done) | (simp only [alloc_size,drew_size,setCell_size]; omega))))))); intro Q2; obtain ⟨qa2,qb2,qc2,qd2,qe2,qf2⟩:=cells3 Q2 (Below.refl _ _))); (try (refine cutp (p:=w4.heap[w3.heap.size + 1]?=some (.cells #[.bool false,.slice none 0 0,.slice none 0 0] 122)) ?_ ?_; (· (repeat (first | (with_reducible refine heap_at' _ _ _ ?_; (first | omega | (simp only [alloc_size,drew_size,setCell_size]; done) | (simp only [alloc_size,drew_size,setCell_size]; omega))) | (with_reducible apply box2) | (with_reducible apply box3) | (with_reducible refine (heap_set _ _ _ _ _ ?_).trans ?_; (· (first | omega | (simp only [alloc_size,drew_size,setCell_size]; done) | (simp only [alloc_size,drew_size,setCell_size]; omega)))) | (with_reducible refine (Below.heap_alloc _ _ _ ?_).trans ?_; (· (first | omega | (simp only [alloc_size,drew_size,setCell_size]; done) | (simp only [alloc_size,drew_size,setCell_size]; omega)))) | (with_reducible refine (drew_at _ _).trans ?_) | (with_reducible refine (f4.block _ ?_).trans ?_; (· (first | omega | (simp only [alloc_size,drew_size,setCell_size]; done) | (simp only [alloc_size,drew_size,setCell_size]; omega)))) | (with_reducible refine (f3.block _ ?_).trans ?_; (· (first | omega | (simp only [alloc_size,drew_size,setCell_size]; done) | (simp only [alloc_size,drew_size,setCell_size]; omega))))))); intro Q3; obtain ⟨qa3,qb3,qc3,qd3,qe3,qf3⟩:=cells3 Q3 (Below.refl _ _))))
   | (go_at_call 141; (with_reducible refine (HA.out _ ?_ w0 ?_).mono ?_); (repeat (first | with_reducible assumption | with_reducible exact Below.refl _ _ | with_reducible apply Below.drew | with_reducible apply below_al)); rintro e w3 ⟨b3,a3,c3,x3,d3,e3,y3,rfl,F3,O3,f3,k3,_⟩; obtain ⟨r3a,r3b,r3c,_⟩:=cells3 HH.out.1 k3; obtain ⟨v3a,v3b,v3c,_⟩:=cells3 HH.out.2.1 k3; have z3:=f3.size; (try simp only [alloc_size,drew_size] at z3); (try (have nl3_0:w.heap.size < w3.heap.size:=by omega)); (try (have nq3_61:¬ (w.heap.size=w3.heap.size):=by omega); (have nr3_61:¬ (w3.heap.size=w.heap.size):=by omega)); (try (have nq3_187:¬ (w.heap.size=w3.heap.size + 1):=by omega); (have nr3_187:¬ (w3.heap.size + 1=w.heap.size):=by omega)); (try (have nl3_323:w.heap.size + 1 < w3.heap.size:=by omega)); (try (have nq3_390:¬ (w.heap.size + 1=w3.heap.size):=by omega); (have nr3_390:¬ (w3.heap.size=w.heap.size + 1):=by omega)); (try (have nq3_526:¬ (w.heap.size + 1=w3.heap.size + 1):=by omega); (have nr3_526:¬ (w3.heap.size + 1=w.heap.size + 1):=by omega)); (try (have nl3_670:w0.heap.size < w3.heap.size:=by omega)); (try (have nq3_734:¬ (w0.heap.size=w3.heap.size):=by omega); (have nr3_734:¬ (w3.heap.size=w0.heap.size):=by omega)); (try (have nq3_864:¬ (w0.heap.size=w3.heap.size + 1):=by omega); (have nr3_864:¬ (w3.heap.size + 1=w0.heap.size):=by omega)); (try (have nl3_1002:w0.heap.size + 1 < w3.heap.size:=by omega)); (try (have nq3_1071:¬ (w0.heap.size + 1=w3.heap.size):=by omega); (have nr3_1071:¬ (w3.heap.size=w0.heap.size + 1):=by omega)); (try (have nq3_1211:¬ (w0.heap.size + 1=w3.heap.size + 1):=by omega); (have nr3_1211:¬ (w3.heap.size + 1=w0.heap.size + 1):=by omega))))
  all_goals
   (try clear nq3_61); (try clear nr3_61); (try clear nq3_187); (try clear nr3_187); (try clear nq3_390); (try clear nr3_390); (try clear nq3_526); (try clear nr3_526); (try clear nq3_734); (try clear nr3_734); (try clear nq3_864); (try clear nr3_864); (try clear nq3_1071); (try clear nr3_1071); (try clear nq3_1211); (try clear nr3_1211); (try clear nq4_61); (try clear nr4_61); (try clear nq4_187); (try clear nr4_187); (try clear nq4_390); (try clear nr4_390); (try clear nq4_526); (try clear nr4_526); (try clear nq4_734); (try clear nr4_734); (try clear nq4_864); (try clear nr4_864); (try clear nq4_1071); (try clear nr4_1071); (try clear nq4_1211); (try clear nr4_1211); (try clear nq4_1424); (try clear nr4_1424); (try clear nq4_1556); (try clear nr4_1556); (try clear nq4_1765); (try clear nr4_1765); (try clear nq4_1905); (try clear nr4_1905); (try clear m1); (try clear m2); (try clear m3); (try clear m4); (try clear m5); (try clear m6); (try clear n01); (try clear n02); (try clear n03); (try clear n04); (try clear n05); (try clear n06)
   have hs3:=k3.size
   have F3w:=F3.below j4
   go_wp2
   go_meet
   refine ⟨_,_,⟨rfl,rfl⟩,hid ⟨b3,a3,c3,x3,d3,e3,y3,b4,a4,c4,x4,d4,e4,y4,?_,?_,?_,?_,?_,?_,?_,?_⟩⟩
   ·(repeat (first | (with_reducible refine heap_at' _ _ _ ?_; (first | omega | (simp only [alloc_size,drew_size,setCell_size]; done) | (simp only [alloc_size,drew_size,setCell_size]; omega))) | (with_reducible apply box2) | (with_reducible apply box3) | (with_reducible refine (heap_set _ _ _ _ _ ?_).trans ?_; (· (first | omega | (simp only [alloc_size,drew_size,setCell_size]; done) | (simp only [alloc_size,drew_size,setCell_size]; omega)))) | (with_reducible refine (Below.heap_alloc _ _ _ ?_).trans ?_; (· (first | omega | (simp only [alloc_size,drew_size,setCell_size]; done) | (simp only [alloc_size,drew_size,setCell_size]; omega)))) | (with_reducible refine (drew_at _ _).trans ?_) | (with_reducible refine (f4.block _ ?_).trans ?_; (· (first | omega | (simp only [alloc_size,drew_size,setCell_size]; done) | (simp only [alloc_size,drew_size,setCell_size]; omega)))) | (with_reducible refine (f3.block _ ?_).trans ?_; (· (first | omega | (simp only [alloc_size,drew_size,setCell_size]; done) | (simp only [alloc_size,drew_size,setCell_size]; omega))))))
   ·(repeat (first | (with_reducible refine heap_at' _ _ _ ?_; (first | omega | (simp only [alloc_size,drew_size,setCell_size]; done) | (simp only [alloc_size,drew_size,setCell_size]; omega))) | (with_reducible apply box2) | (with_reducible apply box3) | (with_reducible refine (heap_set _ _ _ _ _ ?_).trans ?_; (· (first | omega | (simp only [alloc_size,drew_size,setCell_size]; done) | (simp only [alloc_size,drew_size,setCell_size]; omega)))) | (with_reducible refine (Below.heap_alloc _ _ _ ?_).trans ?_; (· (first | omega | (simp only [alloc_size,drew_size,setCell_size]; done) | (simp only [alloc_size,drew_size,setCell_size]; omega)))) | (with_reducible refine (drew_at _ _).trans ?_) | (with_reducible refine (f4.block _ ?_).trans ?_; (· (first | omega | (simp only [alloc_size,drew_size,setCell_size]; done) | (simp only [alloc_size,drew_size,setCell_size]; omega)))) | (with_reducible refine (f3.block _ ?_).trans ?_; (· (first | omega | (simp only [alloc_size,drew_size,setCell_size]; done) | (simp only [alloc_size,drew_size,setCell_size]; omega))))))
   ·(repeat (first | with_reducible exact F3w | with_reducible refine fr_al ?_ _ | (with_reducible refine fr_set _ _ ?_ ?_; (· (first | exact O3 _ (by (first | omega | (simp only [alloc_size,drew_size,setCell_size]; done) | (simp only [alloc_size,drew_size,setCell_size]; omega))) (by (first | omega | (simp only [alloc_size,drew_size,setCell_size]; done) | (simp only [alloc_size,drew_size,setCell_size]; omega))) | exact ⟨F3.rn.lt_size (by (first | omega | (simp only [alloc_size,drew_size,setCell_size]; done) | (simp only [alloc_size,drew_size,setCell_size]; omega))),F3.rd.lt_size (by (first | omega | (simp only [alloc_size,drew_size,setCell_size]; done) | (simp only [alloc_size,drew_size,setCell_size]; omega)))⟩)))))
   ·(repeat (first | with_reducible exact F4 | with_reducible refine fr_al ?_ _ | (with_reducible refine fr_set _ _ ?_ ?_; (· (first | exact O4 _ (by (first | omega | (simp only [alloc_size,drew_size,setCell_size]; done) | (simp only [alloc_size,drew_size,setCell_size]; omega))) (by (first | omega | (simp only [alloc_size,drew_size,setCell_size]; done) | (simp only [alloc_size,drew_size,setCell_size]; omega))) | exact ⟨F4.rn.lt_size (by (first | omega | (simp only [alloc_size,drew_size,setCell_size]; done) | (simp only [alloc_size,drew_size,setCell_size]; omega))),F4.rd.lt_size (by (first | omega | (simp only [alloc_size,drew_size,setCell_size]; done) | (simp only [alloc_size,drew_size,setCell_size]; omega)))⟩)))))
   ·(repeat (first | with_reducible assumption | with_reducible exact Below.refl _ _ | with_reducible apply Below.drew | with_reducible apply below_al | (with_reducible refine below_set _ _ ?_ ?_; (· (first | omega | (simp only [alloc_size,drew_size,setCell_size]; done) | (simp only [alloc_size,drew_size,setCell_size]; omega))))))
   ·(first | omega | (simp only [alloc_size,drew_size,setCell_size]; done) | (simp only [alloc_size,drew_size,setCell_size]; omega))
   ·(first | omega | (simp only [alloc_size,drew_size,setCell_size]; done) | (simp only [alloc_size,drew_size,setCell_size]; omega))
   ·(first | omega | (simp only [alloc_size,drew_size,setCell_size]; done) | (simp only [alloc_size,drew_size,setCell_size]; omega))
 case rest =>
  obtain ⟨g5,g6,⟨rfl,rfl⟩,HS⟩:=hcut
  obtain ⟨b3,a3,c3,x3,d3,e3,y3,b4,a4,c4,x4,d4,e4,y4,q5,q6,F3,F4,kx,hg5,hg6,hne⟩:=HS.out
  have HP:=hid (And.intro q5 q6)
  have HF:=hid (And.intro F3 F4)
  have HKX:=hid kx
  have HG:=hid (And.intro hg5 hg6)
  have hl3:=F3.ln
  have hl4:=F3.ld
  have hl5:=F4.ln
  have hl6:=F4.ld
  have hc3:=F3.rn.le
  have hc4:=F3.rd.le
  have hc5:=F4.rn.le
  have hc6:=F4.rd.le
  have hd3:=F3.rn.cm
  have hd4:=F3.rd.cm
  have hd5:=F4.rn.cm
  have hd6:=F4.rd.cm
  have nz3:=hid F3.nz
  have nz4:=hid F4.nz
  have ng1:¬ (w.heap.size + 1 + 1=g5):=by have:=HSZ.out; omega
  have ng2:¬ (g5=w.heap.size + 1 + 1):=by have:=HSZ.out; omega
  have ng3:¬ (w.heap.size + 1 + 1=g6):=by have:=HSZ.out; omega
  have ng4:¬ (g6=w.heap.size + 1 + 1):=by have:=HSZ.out; omega
  have ng5:¬ (g5=g6):=hne
  have ng6:¬ (g6=g5):=fun h=>hne h.symm
  clear q5 q6 kx hg5 hg6 hne HS
  have HM:=hid (fun w' (hb:Below wc.heap.size wc w')=>imul_any b3 b4 a3 a4 c3 c4 x3 x4 w' (F3.rn.below hb) (F4.rn.below hb) (by omega) (by omega))
  have HN:=hid (fun w' (hb:Below wc.heap.size wc w')=>mul_any d3 d4 e3 e4 y3 y4 w' (F3.rd.below hb) (F4.rd.below hb) (by omega) (by omega))
  have lz:(nd (iv b3 (val x3) * iv b4 (val x4)).natAbs).length≤n1 + n2 + 2:=by
   refine Nat.le_trans (nd_length_le (k:=n1 + 1 + (n2 + 1)) ?_) (by omega)
   rw [Int.natAbs_mul,iv_abs,iv_abs]
   exact pow_mul_lt (val_lt_of F3.rn.dg hl3) (val_lt_of F4.rn.dg hl5)
  have ld:(nd (val y3 * val y4)).length≤n1 + n2 + 2:=Nat.le_trans (nd_length_le (pow_mul_lt (val_lt_of F3.rd.dg hl4) (val_lt_of F4.rd.dg hl6))) (by omega)
  have hq:mkRat (iv b3 (val x3) * iv b4 (val x4)) (val y3 * val y4)=q1 * q2:=by rw [← rv_mul,F3.vq,F4.vq]
  have hD0:val y3 * val y4≠0:=Nat.mul_ne_zero F3.nz F4.nz
  obtain ⟨Z,hZ⟩:∃ Z,Z=iv b3 (val x3) * iv b4 (val x4):=⟨_,rfl⟩
  obtain ⟨D,hD⟩:∃ D,D=val y3 * val y4:=⟨_,rfl⟩
  simp only [← hZ] at HM
  simp only [← hD] at HN
  rw [← hZ] at lz hq
  rw [← hD] at ld hq hD0
  have hFR:=hid (fun (w':World) a5 c5 a6 c6 (r1:Rd w' a5 c5 (nd Z.natAbs)) (r2:Rd w' a6 c6 (nd D))=>(⟨r1,r2,by rw [val_nd]; exact hD0,by rw [val_nd,val_nd,iv_self]; exact hq,lz,ld⟩:Fr w' (decide (Z < 0)) a5 c5 (nd Z.natAbs) a6 c6 (nd D) (q1 * q2) (n1 + n2 + 2)))
  have hm6:n1 + n2 + 2≤4398046511104:=by omega
  clear hZ hD hq hD0 F3 F4 lz ld
  have p4:Below wc.heap.size wc wc.drew:=below_drewI _ _
  obtain ⟨s0,s1,s2,_⟩:=cells3 HP.out.1 (Below.refl wc.heap.size wc)
  obtain ⟨t0,t1,t2,_⟩:=cells3 HP.out.2 (Below.refl wc.heap.size wc)
  go_wp2_with fail
  go_region_held3 (fun w'=>w'.cell? ⟨g5,0,none⟩=some (.bool b3)∧w'.cell? ⟨g5,1,none⟩=some (.slice a3 x3.length c3)∧w'.cell? ⟨g5,2,none⟩=some (.slice d3 y3.length e3)∧w'.cell? ⟨g6,0,none⟩=some (.bool b4)∧w'.cell? ⟨g6,1,none⟩=some (.slice a4 x4.length c4)∧w'.cell? ⟨g6,2,none⟩=some (.slice d4 y4.length e4)) (go_keep) (first
   | (go_at_call 153; (with_reducible refine (lowest_r F7 hm6 (HT.out.below (HKX.out.trans (p7.mono HKX.out.size)))).mono ?_); rintro e w8 ⟨a8,c8,d8,e8,rfl,o8,u8,f8⟩; have p8:=p7.trans (f8.mono p7.size); obtain ⟨r8a,r8b,r8c,_⟩:=cells3 HP.out.1 p8; obtain ⟨v8a,v8b,v8c,_⟩:=cells3 HP.out.2 p8; obtain ⟨k0,k1,k2,k3,k4,k5⟩:=cells3 HH.out.2.2 (HKX.out.trans (p8.mono HKX.out.size)))
   | (go_at_call 181; (with_reducible refine (over_any (decide (Z < 0)) a5 a6 (nd Z.natAbs).length c5 (nd D).length c6 w6).mono ?_); rintro e w7 ⟨rfl,f7⟩; have p7:=p6.trans (f7.mono p6.size); have F7:=hFR.out w7 a5 c5 a6 c6 ((o5.below f6).below f7).rd (o6.below f7).rd; obtain ⟨r7a,r7b,r7c,_⟩:=cells3 HP.out.1 p7; obtain ⟨v7a,v7b,v7c,_⟩:=cells3 HP.out.2 p7)
   | (go_at_call 183; (with_reducible refine (HN.out w5 p5).mono ?_); rintro e w6 ⟨a6,c6,rfl,o6,f6⟩; have p6:=p5.trans (f6.mono p5.size); obtain ⟨r6a,r6b,r6c,_⟩:=cells3 HP.out.1 p6; obtain ⟨v6a,v6b,v6c,_⟩:=cells3 HP.out.2 p6)
   | (go_at_call 182; (with_reducible refine (HM.out wc.drew p4).mono ?_); rintro e w5 ⟨a5,c5,rfl,o5,f5⟩; have p5:=p4.trans (f5.mono p4.size); obtain ⟨r5a,r5b,r5c,_⟩:=cells3 HP.out.1 p5; obtain ⟨v5a,v5b,v5c,_⟩:=cells3 HP.out.2 p5))
  all_goals
   go_wp2
   have hsz:=HSZ.out
   have hs1:=HKX.out.size
   have hs7:=p7.size
   refine bodyPost_ret (v:=.agg #[.bool (decide ((q1 * q2).num < 0)),.slice a8 (nd (q1 * q2).num.natAbs).length c8,.slice d8 (nd (q1 * q2).den).length e8]) (by simp [results,Tryz.results118,go_sem,k0,k1,k2]) rfl ?_
   exact RetRat.fin o8 u8 (by omega) (HB.out.trans ((HKX.out.trans (p8.mono HKX.out.size)).mono HB.out.size)) (by omega) _ _ _
end Go.Proofs.YtcankknlbljicaaGreatDoor

namespace Go.Proofs.YtcankknlbljicaaGreatDoor
open Go.RowKit Num

end Go.Proofs.YtcankknlbljicaaGreatDoor

namespace Go.Proofs.YtcankknlbljicaaGreatDoor
open Go.RowKit Num

set_option maxHeartbeats 12800000 in
theorem div3_any {b1:Bool} {ao1:Option Addr} {c1:Nat} {xs1:List Nat} {ad1:Option Addr} {d1:Nat} {ds1:List Nat} {q1:Rat} {n1:Nat} {b2:Bool} {ao2:Option Addr} {c2:Nat} {xs2:List Nat} {ad2:Option Addr} {d2:Nat} {ds2:List Nat} {q2:Rat} {n2:Nat} {w:World} (h1:Rq w b1 ao1 c1 xs1 ad1 d1 ds1 q1 n1) (h2:Rq w b2 ao2 c2 xs2 ad2 d2 ds2 q2 n2) (hn1:n1≤999999999999) (hn2:n2≤999999999999) (hT:Tb w) :
  Calls Tryz.prog 184 #[.agg #[.bool b1,.slice ao1 xs1.length c1,.slice ad1 ds1.length d1],.agg #[.bool b2,.slice ao2 xs2.length c2,.slice ad2 ds2.length d2]] w (RetRatE (q1 / q2) (zeq q2) w):=by
 have hle1a:=h1.rn.le
 have hcm1b:=h1.rn.cm
 have hle1c:=h1.rd.le
 have hcm1d:=h1.rd.cm
 have hle2a:=h2.rn.le
 have hcm2b:=h2.rn.cm
 have hle2c:=h2.rd.le
 have hcm2d:=h2.rd.cm
 have hB:=A3_below w (.cells #[.bool b1,.slice ao1 xs1.length c1,.slice ad1 ds1.length d1] 26) (.cells #[.bool b2,.slice ao2 xs2.length c2,.slice ad2 ds2.length d2] 26) (.cells #[.bool false,.slice none 0 0,.slice none 0 0] 26)
 have HH:=hid (A3_heap w (.cells #[.bool b1,.slice ao1 xs1.length c1,.slice ad1 ds1.length d1] 26) (.cells #[.bool b2,.slice ao2 xs2.length c2,.slice ad2 ds2.length d2] 26) (.cells #[.bool false,.slice none 0 0,.slice none 0 0] 26))
 have HSZ:=hid (A3_size w (.cells #[.bool b1,.slice ao1 xs1.length c1,.slice ad1 ds1.length d1] 26) (.cells #[.bool b2,.slice ao2 xs2.length c2,.slice ad2 ds2.length d2] 26) (.cells #[.bool false,.slice none 0 0,.slice none 0 0] 26))
 have HB:=hid hB
 have HT:=hid (hT.below hB)
 have HR:=hid (And.intro (h1.below hB) (h2.below hB))
 have hm4:n1≤4398046511103:=by omega
 have hm5:n2≤4398046511103:=by omega
 unfold A3 at HH HSZ HB HT HR
 clear h1 h2 hT hB
 have n01:¬ (w.heap.size=w.heap.size + 1 + 1):=by omega
 have n02:¬ (w.heap.size + 1 + 1=w.heap.size):=by omega
 have n03:¬ (w.heap.size + 1=w.heap.size + 1 + 1):=by omega
 have n04:¬ (w.heap.size + 1 + 1=w.heap.size + 1):=by omega
 have n05:¬ (w.heap.size=w.heap.size + 1):=by omega
 have n06:¬ (w.heap.size + 1=w.heap.size):=by omega
 go_enter Tryz.func184,Tryz.ntmps184
 go_wp2_with fail
 obtain ⟨w0,hw0⟩:∃ x,x=(((w.alloc (.cells #[.bool b1,.slice ao1 xs1.length c1,.slice ad1 ds1.length d1] 26)).alloc (.cells #[.bool b2,.slice ao2 xs2.length c2,.slice ad2 ds2.length d2] 26)).alloc (.cells #[.bool false,.slice none 0 0,.slice none 0 0] 26)):=⟨_,rfl⟩
 rw [← hw0] at HH HSZ HB HT HR ⊢
 clear hw0
 have HA:=hid (fun w' (hb:Below w0.heap.size w0 w') v (hv:Below v.heap.size v w')=>read_u HR.out.1 hm4 w' hb v hv)
 have HB2:=hid (fun w' (hb:Below w0.heap.size w0 w') v (hv:Below v.heap.size v w')=>read_u HR.out.2 hm5 w' hb v hv)
 go_upto_region 1 with fail
 go_cut [6,7] from 8 to 11 (fun v5 v6 wx=>∃ g5 g6,(v5 = .pointer (some ⟨g5,0,none⟩)∧v6 = .pointer (some ⟨g6,0,none⟩))∧Hid (P2S w0 wx g5 g6 q1 q2 (n1 + 1) (n2 + 1)))
 case first =>
  have z0:w0.heap.size=w.heap.size + 3:=HSZ.out
  have kk:Below w0.heap.size w0 w0.drew:=below_drewI _ _
  obtain ⟨s0,s1,s2,_⟩:=cells3 HH.out.1 (Below.refl w0.heap.size w0)
  obtain ⟨t0,t1,t2,_⟩:=cells3 HH.out.2.1 (Below.refl w0.heap.size w0)
  have m1:¬ (w.heap.size=w0.heap.size):=by omega
  have m2:¬ (w0.heap.size=w.heap.size):=by omega
  have m3:¬ (w.heap.size=w0.heap.size + 1):=by omega
  have m4:¬ (w0.heap.size + 1=w.heap.size):=by omega
  have m5:¬ (w.heap.size + 1=w0.heap.size):=by omega
  have m6:¬ (w0.heap.size=w.heap.size + 1):=by omega
  have m7:w.heap.size < w0.heap.size:=by omega
  have m8:w.heap.size + 1 < w0.heap.size:=by omega
  clear z0
  go_region_held3 (fun w'=>w'.cell? ⟨w.heap.size,0,none⟩=some (.bool b1)∧w'.cell? ⟨w.heap.size,1,none⟩=some (.slice ao1 xs1.length c1)∧w'.cell? ⟨w.heap.size,2,none⟩=some (.slice ad1 ds1.length d1)∧w'.cell? ⟨w.heap.size + 1,0,none⟩=some (.bool b2)∧w'.cell? ⟨w.heap.size + 1,1,none⟩=some (.slice ao2 xs2.length c2)∧w'.cell? ⟨w.heap.size + 1,2,none⟩=some (.slice ad2 ds2.length d2)) (go_keep) (first
   | (go_at_call 141; (with_reducible refine (HB2.out _ ?_ w3 ?_).mono ?_); (repeat (first | with_reducible assumption | with_reducible exact Below.refl _ _ | with_reducible apply Below.drew | with_reducible apply below_al)); rintro e w4 ⟨b4,a4,c4,x4,d4,e4,y4,rfl,F4,O4,f4,k4,j4⟩; obtain ⟨r4a,r4b,r4c,_⟩:=cells3 HH.out.1 k4; obtain ⟨v4a,v4b,v4c,_⟩:=cells3 HH.out.2.1 k4; have z4:=f4.size; (try simp only [alloc_size,drew_size] at z4); (try (have nl4_0:w.heap.size < w4.heap.size:=by omega)); (try (have nq4_61:¬ (w.heap.size=w4.heap.size):=by omega); (have nr4_61:¬ (w4.heap.size=w.heap.size):=by omega)); (try (have nq4_187:¬ (w.heap.size=w4.heap.size + 1):=by omega); (have nr4_187:¬ (w4.heap.size + 1=w.heap.size):=by omega)); (try (have nl4_323:w.heap.size + 1 < w4.heap.size:=by omega)); (try (have nq4_390:¬ (w.heap.size + 1=w4.heap.size):=by omega); (have nr4_390:¬ (w4.heap.size=w.heap.size + 1):=by omega)); (try (have nq4_526:¬ (w.heap.size + 1=w4.heap.size + 1):=by omega); (have nr4_526:¬ (w4.heap.size + 1=w.heap.size + 1):=by omega)); (try (have nl4_670:w0.heap.size < w4.heap.size:=by omega)); (try (have nq4_734:¬ (w0.heap.size=w4.heap.size):=by omega); (have nr4_734:¬ (w4.heap.size=w0.heap.size):=by omega)); (try (have nq4_864:¬ (w0.heap.size=w4.heap.size + 1):=by omega); (have nr4_864:¬ (w4.heap.size + 1=w0.heap.size):=by omega)); (try (have nl4_1002:w0.heap.size + 1 < w4.heap.size:=by omega)); (try (have nq4_1071:¬ (w0.heap.size + 1=w4.heap.size):=by omega); (have nr4_1071:¬ (w4.heap.size=w0.heap.size + 1):=by omega)); (try (have nq4_1211:¬ (w0.heap.size + 1=w4.heap.size + 1):=by omega); (have nr4_1211:¬ (w4.heap.size + 1=w0.heap.size + 1):=by omega)); (try (have nl4_1359:w3.heap.size < w4.heap.size:=by omega)); (try (have nq4_1424:¬ (w3.heap.size=w4.heap.size):=by omega); (have nr4_1424:¬ (w4.heap.size=w3.heap.size):=by omega)); (try (have nq4_1556:¬ (w3.heap.size=w4.heap.size + 1):=by omega); (have nr4_1556:¬ (w4.heap.size + 1=w3.heap.size):=by omega)); (try (have nl4_1696:w3.heap.size + 1 < w4.heap.size:=by omega)); (try (have nq4_1765:¬ (w3.heap.size + 1=w4.heap.size):=by omega); (have nr4_1765:¬ (w4.heap.size=w3.heap.size + 1):=by omega)); (try (have nq4_1905:¬ (w3.heap.size + 1=w4.heap.size + 1):=by omega); (have nr4_1905:¬ (w4.heap.size + 1=w3.heap.size + 1):=by omega)); (try (refine cutp (p:=w4.heap[w0.heap.size]?=some (.cells #[.bool false,.slice none 0 0,.slice none 0 0] 122)) ?_ ?_; (· (repeat (first | (with_reducible refine heap_at' _ _ _ ?_; (first | omega | (simp only [alloc_size,drew_size,setCell_size]; done) | (simp only [alloc_size,drew_size,setCell_size]; omega))) | (with_reducible apply box2) | (with_reducible apply box3) | (with_reducible refine (heap_set _ _ _ _ _ ?_).trans ?_; (· (first | omega | (simp only [alloc_size,drew_size,setCell_size]; done) | (simp only [alloc_size,drew_size,setCell_size]; omega)))) | (with_reducible refine (Below.heap_alloc _ _ _ ?_).trans ?_; (· (first | omega | (simp only [alloc_size,drew_size,setCell_size]; done) | (simp only [alloc_size,drew_size,setCell_size]; omega)))) | (with_reducible refine (drew_at _ _).trans ?_) | (with_reducible refine (f4.block _ ?_).trans ?_; (· (first | omega | (simp only [alloc_size,drew_size,setCell_size]; done) | (simp only [alloc_size,drew_size,setCell_size]; omega)))) | (with_reducible refine (f3.block _ ?_).trans ?_; (· (first | omega | (simp only [alloc_size,drew_size,setCell_size]; done) | (simp only [alloc_size,drew_size,setCell_size]; omega))))))); intro Q0; obtain ⟨qa0,qb0,qc0,qd0,qe0,qf0⟩:=cells3 Q0 (Below.refl _ _))); (try (refine cutp (p:=w4.heap[w0.heap.size + 1]?=some (.cells #[.bool false,.slice none 0 0,.slice none 0 0] 122)) ?_ ?_; (· (repeat (first | (with_reducible refine heap_at' _ _ _ ?_; (first | omega | (simp only [alloc_size,drew_size,setCell_size]; done) | (simp only [alloc_size,drew_size,setCell_size]; omega))) | (with_reducible apply box2) | (with_reducible apply box3) | (with_reducible refine (heap_set _ _ _ _ _ ?_).trans ?_; (· (first | omega | (simp only [alloc_size,drew_size,setCell_size]; done) | (simp only [alloc_size,drew_size,setCell_size]; omega)))) | (with_reducible refine (Below.heap_alloc _ _ _ ?_).trans ?_; (· (first | omega | (simp only [alloc_size,drew_size,setCell_size]; done) | (simp only [alloc_size,drew_size,setCell_size]; omega)))) | (with_reducible refine (drew_at _ _).trans ?_) | (with_reducible refine (f4.block _ ?_).trans ?_; (· (first | omega | (simp only [alloc_size,drew_size,setCell_size]; done) | (simp only [alloc_size,drew_size,setCell_size]; omega)))) | (with_reducible refine (f3.block _ ?_).trans ?_; (· (first | omega | (simp only [alloc_size,drew_size,setCell_size]; done) | (simp only [alloc_size,drew_size,setCell_size]; omega))))))); intro Q1; obtain ⟨qa1,qb1,qc1,qd1,qe1,qf1⟩:=cells3 Q1 (Below.refl _ _))); (try (refine cutp (p:=w4.heap[w3.heap.size]?=some (.cells #[.bool false,.slice none 0 0,.slice none 0 0] 122)) ?_ ?_; (· (repeat (first | (with_reducible refine heap_at' _ _ _ ?_; (first | omega | (simp only [alloc_size,drew_size,setCell_size]; done) | (simp only [alloc_size,drew_size,setCell_size]; omega))) | (with_reducible apply box2) | (with_reducible apply box3) | (with_reducible refine (heap_set _ _ _ _ _ ?_).trans ?_; (· (first | omega | (simp only [alloc_size,drew_size,setCell_size]; done) | (simp only [alloc_size,drew_size,setCell_size]; omega)))) | (with_reducible refine (Below.heap_alloc _ _ _ ?_).trans ?_; (· (first | omega | (simp only [alloc_size,drew_size,setCell_size]; done) | (simp only [alloc_size,drew_size,setCell_size]; omega)))) | (with_reducible refine (drew_at _ _).trans ?_) | (with_reducible refine (f4.block _ ?_).trans ?_; (· (first | omega | (simp only [alloc_size,drew_size,setCell_size]; done) | (simp only [alloc_size,drew_size,setCell_size]; omega)))) | (with_reducible refine (f3.block _ ?_).trans ?_; (· (first | omega | (simp only [alloc_size,drew_size,setCell_size]; done) | (simp only [alloc_size,drew_size,setCell_size]; omega))))))); intro Q2; obtain ⟨qa2,qb2,qc2,qd2,qe2,qf2⟩:=cells3 Q2 (Below.refl _ _))); (try (refine cutp (p:=w4.heap[w3.heap.size + 1]?=some (.cells #[.bool false,.slice none 0 0,.slice none 0 0] 122)) ?_ ?_; (· (repeat (first | (with_reducible refine heap_at' _ _ _ ?_; (first | omega | (simp only [alloc_size,drew_size,setCell_size]; done) | (simp only [alloc_size,drew_size,setCell_size]; omega))) | (with_reducible apply box2) | (with_reducible apply box3) | (with_reducible refine (heap_set _ _ _ _ _ ?_).trans ?_; (· (first | omega | (simp only [alloc_size,drew_size,setCell_size]; done) | (simp only [alloc_size,drew_size,setCell_size]; omega)))) | (with_reducible refine (Below.heap_alloc _ _ _ ?_).trans ?_; (· (first | omega | (simp only [alloc_size,drew_size,setCell_size]; done) | (simp only [alloc_size,drew_size,setCell_size]; omega)))) | (with_reducible refine (drew_at _ _).trans ?_) | (with_reducible refine (f4.block _ ?_).trans ?_; (· (first | omega | (simp only [alloc_size,drew_size,setCell_size]; done) | (simp only [alloc_size,drew_size,setCell_size]; omega)))) | (with_reducible refine (f3.block _ ?_).trans ?_; (· (first | omega | (simp only [alloc_size,drew_size,setCell_size]; done) | (simp only [alloc_size,drew_size,setCell_size]; omega))))))); intro Q3; obtain ⟨qa3,qb3,qc3,qd3,qe3,qf3⟩:=cells3 Q3 (Below.refl _ _))))
   | (go_at_call 141; (with_reducible refine (HA.out _ ?_ w0 ?_).mono ?_); (repeat (first | with_reducible assumption | with_reducible exact Below.refl _ _ | with_reducible apply Below.drew | with_reducible apply below_al)); rintro e w3 ⟨b3,a3,c3,x3,d3,e3,y3,rfl,F3,O3,f3,k3,_⟩; obtain ⟨r3a,r3b,r3c,_⟩:=cells3 HH.out.1 k3; obtain ⟨v3a,v3b,v3c,_⟩:=cells3 HH.out.2.1 k3; have z3:=f3.size; (try simp only [alloc_size,drew_size] at z3); (try (have nl3_0:w.heap.size < w3.heap.size:=by omega)); (try (have nq3_61:¬ (w.heap.size=w3.heap.size):=by omega); (have nr3_61:¬ (w3.heap.size=w.heap.size):=by omega)); (try (have nq3_187:¬ (w.heap.size=w3.heap.size + 1):=by omega); (have nr3_187:¬ (w3.heap.size + 1=w.heap.size):=by omega)); (try (have nl3_323:w.heap.size + 1 < w3.heap.size:=by omega)); (try (have nq3_390:¬ (w.heap.size + 1=w3.heap.size):=by omega); (have nr3_390:¬ (w3.heap.size=w.heap.size + 1):=by omega)); (try (have nq3_526:¬ (w.heap.size + 1=w3.heap.size + 1):=by omega); (have nr3_526:¬ (w3.heap.size + 1=w.heap.size + 1):=by omega)); (try (have nl3_670:w0.heap.size < w3.heap.size:=by omega)); (try (have nq3_734:¬ (w0.heap.size=w3.heap.size):=by omega); (have nr3_734:¬ (w3.heap.size=w0.heap.size):=by omega)); (try (have nq3_864:¬ (w0.heap.size=w3.heap.size + 1):=by omega); (have nr3_864:¬ (w3.heap.size + 1=w0.heap.size):=by omega)); (try (have nl3_1002:w0.heap.size + 1 < w3.heap.size:=by omega)); (try (have nq3_1071:¬ (w0.heap.size + 1=w3.heap.size):=by omega); (have nr3_1071:¬ (w3.heap.size=w0.heap.size + 1):=by omega)); (try (have nq3_1211:¬ (w0.heap.size + 1=w3.heap.size + 1):=by omega); (have nr3_1211:¬ (w3.heap.size + 1=w0.heap.size + 1):=by omega))))
  all_goals
   (try clear nq3_61); (try clear nr3_61); (try clear nq3_187); (try clear nr3_187); (try clear nq3_390); (try clear nr3_390); (try clear nq3_526); (try clear nr3_526); (try clear nq3_734); (try clear nr3_734); (try clear nq3_864); (try clear nr3_864); (try clear nq3_1071); (try clear nr3_1071); (try clear nq3_1211); (try clear nr3_1211); (try clear nq4_61); (try clear nr4_61); (try clear nq4_187); (try clear nr4_187); (try clear nq4_390); (try clear nr4_390); (try clear nq4_526); (try clear nr4_526); (try clear nq4_734); (try clear nr4_734); (try clear nq4_864); (try clear nr4_864); (try clear nq4_1071); (try clear nr4_1071); (try clear nq4_1211); (try clear nr4_1211); (try clear nq4_1424); (try clear nr4_1424); (try clear nq4_1556); (try clear nr4_1556); (try clear nq4_1765); (try clear nr4_1765); (try clear nq4_1905); (try clear nr4_1905); (try clear m1); (try clear m2); (try clear m3); (try clear m4); (try clear m5); (try clear m6); (try clear n01); (try clear n02); (try clear n03); (try clear n04); (try clear n05); (try clear n06)
   have hs3:=k3.size
   have F3w:=F3.below j4
   go_wp2
   go_meet
   refine ⟨_,_,⟨rfl,rfl⟩,hid ⟨b3,a3,c3,x3,d3,e3,y3,b4,a4,c4,x4,d4,e4,y4,?_,?_,?_,?_,?_,?_,?_,?_⟩⟩
   ·(repeat (first | (with_reducible refine heap_at' _ _ _ ?_; (first | omega | (simp only [alloc_size,drew_size,setCell_size]; done) | (simp only [alloc_size,drew_size,setCell_size]; omega))) | (with_reducible apply box2) | (with_reducible apply box3) | (with_reducible refine (heap_set _ _ _ _ _ ?_).trans ?_; (· (first | omega | (simp only [alloc_size,drew_size,setCell_size]; done) | (simp only [alloc_size,drew_size,setCell_size]; omega)))) | (with_reducible refine (Below.heap_alloc _ _ _ ?_).trans ?_; (· (first | omega | (simp only [alloc_size,drew_size,setCell_size]; done) | (simp only [alloc_size,drew_size,setCell_size]; omega)))) | (with_reducible refine (drew_at _ _).trans ?_) | (with_reducible refine (f4.block _ ?_).trans ?_; (· (first | omega | (simp only [alloc_size,drew_size,setCell_size]; done) | (simp only [alloc_size,drew_size,setCell_size]; omega)))) | (with_reducible refine (f3.block _ ?_).trans ?_; (· (first | omega | (simp only [alloc_size,drew_size,setCell_size]; done) | (simp only [alloc_size,drew_size,setCell_size]; omega))))))
   ·(repeat (first | (with_reducible refine heap_at' _ _ _ ?_; (first | omega | (simp only [alloc_size,drew_size,setCell_size]; done) | (simp only [alloc_size,drew_size,setCell_size]; omega))) | (with_reducible apply box2) | (with_reducible apply box3) | (with_reducible refine (heap_set _ _ _ _ _ ?_).trans ?_; (· (first | omega | (simp only [alloc_size,drew_size,setCell_size]; done) | (simp only [alloc_size,drew_size,setCell_size]; omega)))) | (with_reducible refine (Below.heap_alloc _ _ _ ?_).trans ?_; (· (first | omega | (simp only [alloc_size,drew_size,setCell_size]; done) | (simp only [alloc_size,drew_size,setCell_size]; omega)))) | (with_reducible refine (drew_at _ _).trans ?_) | (with_reducible refine (f4.block _ ?_).trans ?_; (· (first | omega | (simp only [alloc_size,drew_size,setCell_size]; done) | (simp only [alloc_size,drew_size,setCell_size]; omega)))) | (with_reducible refine (f3.block _ ?_).trans ?_; (· (first | omega | (simp only [alloc_size,drew_size,setCell_size]; done) | (simp only [alloc_size,drew_size,setCell_size]; omega))))))
   ·(repeat (first | with_reducible exact F3w | with_reducible refine fr_al ?_ _ | (with_reducible refine fr_set _ _ ?_ ?_; (· (first | exact O3 _ (by (first | omega | (simp only [alloc_size,drew_size,setCell_size]; done) | (simp only [alloc_size,drew_size,setCell_size]; omega))) (by (first | omega | (simp only [alloc_size,drew_size,setCell_size]; done) | (simp only [alloc_size,drew_size,setCell_size]; omega))) | exact ⟨F3.rn.lt_size (by (first | omega | (simp only [alloc_size,drew_size,setCell_size]; done) | (simp only [alloc_size,drew_size,setCell_size]; omega))),F3.rd.lt_size (by (first | omega | (simp only [alloc_size,drew_size,setCell_size]; done) | (simp only [alloc_size,drew_size,setCell_size]; omega)))⟩)))))
   ·(repeat (first | with_reducible exact F4 | with_reducible refine fr_al ?_ _ | (with_reducible refine fr_set _ _ ?_ ?_; (· (first | exact O4 _ (by (first | omega | (simp only [alloc_size,drew_size,setCell_size]; done) | (simp only [alloc_size,drew_size,setCell_size]; omega))) (by (first | omega | (simp only [alloc_size,drew_size,setCell_size]; done) | (simp only [alloc_size,drew_size,setCell_size]; omega))) | exact ⟨F4.rn.lt_size (by (first | omega | (simp only [alloc_size,drew_size,setCell_size]; done) | (simp only [alloc_size,drew_size,setCell_size]; omega))),F4.rd.lt_size (by (first | omega | (simp only [alloc_size,drew_size,setCell_size]; done) | (simp only [alloc_size,drew_size,setCell_size]; omega)))⟩)))))
   ·(repeat (first | with_reducible assumption | with_reducible exact Below.refl _ _ | with_reducible apply Below.drew | with_reducible apply below_al | (with_reducible refine below_set _ _ ?_ ?_; (· (first | omega | (simp only [alloc_size,drew_size,setCell_size]; done) | (simp only [alloc_size,drew_size,setCell_size]; omega))))))
   ·(first | omega | (simp only [alloc_size,drew_size,setCell_size]; done) | (simp only [alloc_size,drew_size,setCell_size]; omega))
   ·(first | omega | (simp only [alloc_size,drew_size,setCell_size]; done) | (simp only [alloc_size,drew_size,setCell_size]; omega))
   ·(first | omega | (simp only [alloc_size,drew_size,setCell_size]; done) | (simp only [alloc_size,drew_size,setCell_size]; omega))
 case rest =>
  obtain ⟨g5,g6,⟨rfl,rfl⟩,HS⟩:=hcut
  obtain ⟨b3,a3,c3,x3,d3,e3,y3,b4,a4,c4,x4,d4,e4,y4,q5,q6,F3,F4,kx,hg5,hg6,hne⟩:=HS.out
  have HP:=hid (And.intro q5 q6)
  have HF:=hid (And.intro F3 F4)
  have HKX:=hid kx
  have HG:=hid (And.intro hg5 hg6)
  have hl3:=F3.ln
  have hl4:=F3.ld
  have hl5:=F4.ln
  have hl6:=F4.ld
  have hc3:=F3.rn.le
  have hc4:=F3.rd.le
  have hc5:=F4.rn.le
  have hc6:=F4.rd.le
  have hd3:=F3.rn.cm
  have hd4:=F3.rd.cm
  have hd5:=F4.rn.cm
  have hd6:=F4.rd.cm
  have nz3:=hid F3.nz
  have nz4:=hid F4.nz
  have ng1:¬ (w.heap.size + 1 + 1=g5):=by have:=HSZ.out; omega
  have ng2:¬ (g5=w.heap.size + 1 + 1):=by have:=HSZ.out; omega
  have ng3:¬ (w.heap.size + 1 + 1=g6):=by have:=HSZ.out; omega
  have ng4:¬ (g6=w.heap.size + 1 + 1):=by have:=HSZ.out; omega
  have ng5:¬ (g5=g6):=hne
  have ng6:¬ (g6=g5):=fun h=>hne h.symm
  clear q5 q6 kx hg5 hg6 hne HS
  have HT1:=hid (fun w' (hb:Below wc.heap.size wc w')=>times_any b3 a3 d4 c3 e4 x3 y4 w' (F3.rn.below hb) (F4.rd.below hb) (by omega) (by omega))
  have HT2:=hid (fun w' (hb:Below wc.heap.size wc w')=>times_any b4 a4 d3 c4 e3 x4 y3 w' (F4.rn.below hb) (F3.rd.below hb) (by omega) (by omega))
  have l1:(nd (iv b3 (val x3) * (val y4:Int)).natAbs).length≤4398046511104:=by
   refine Nat.le_trans (nd_length_le (k:=n1 + 1 + (n2 + 1)) ?_) (by omega)
   rw [Int.natAbs_mul,iv_abs,Int.natAbs_natCast]
   exact pow_mul_lt (val_lt_of F3.rn.dg hl3) (val_lt_of F4.rd.dg hl6)
  have l2:(nd (iv b4 (val x4) * (val y3:Int)).natAbs).length≤4398046511104:=by
   refine Nat.le_trans (nd_length_le (k:=n2 + 1 + (n1 + 1)) ?_) (by omega)
   rw [Int.natAbs_mul,iv_abs,Int.natAbs_natCast]
   exact pow_mul_lt (val_lt_of F4.rn.dg hl5) (val_lt_of F3.rd.dg hl4)
  have hq:Rat.divInt (iv b3 (val x3) * (val y4:Int)) (iv b4 (val x4) * (val y3:Int))=q1 / q2:=by
   rw [← F3.vq,← F4.vq,rv_div,Int.mul_comm (val y3:Int)]
  have hz:zer (iv b4 (val x4) * (val y3:Int))=zeq q2:=by
   unfold zer zeq
   have h1:q2=0 ↔ iv b4 (val x4)=0:=by rw [← F4.vq,Rat.mkRat_eq_zero F4.nz]
   have h2:iv b4 (val x4) * (val y3:Int)=0 ↔ iv b4 (val x4)=0:=by
    rw [Int.mul_eq_zero]
    exact ⟨fun h=>h.resolve_right (by have:=F3.nz; omega),Or.inl⟩
   simp only [h1,h2]
  obtain ⟨Z1,hZ1⟩:∃ Z,Z=iv b3 (val x3) * (val y4:Int):=⟨_,rfl⟩
  obtain ⟨Z2,hZ2⟩:∃ Z,Z=iv b4 (val x4) * (val y3:Int):=⟨_,rfl⟩
  simp only [← hZ1] at HT1
  simp only [← hZ2] at HT2
  rw [← hZ1] at l1
  rw [← hZ2] at l2 hz
  rw [← hZ1,← hZ2] at hq
  have HMK:=hid (fun w' a7 c7 a8 c8 (h1:Rd w' a7 c7 (nd Z1.natAbs)) (h2:Rd w' a8 c8 (nd Z2.natAbs)) (hT:Tb w')=>show Calls Tryz.prog 136 #[.agg #[.bool (decide (Z1 < 0)),.slice a7 (nd Z1.natAbs).length c7],.agg #[.bool (decide (Z2 < 0)),.slice a8 (nd Z2.natAbs).length c8]] w' (RetRatE (q1 / q2) (zeq q2) w') from by
   have h3:=make_any (decide (Z1 < 0)) (decide (Z2 < 0)) a7 a8 c7 c8 (nd Z1.natAbs) (nd Z2.natAbs) w' h1 h2 l1 l2 hT
   rw [val_nd,val_nd,iv_self,iv_self,hq,hz] at h3
   exact h3)
  clear hZ1 hZ2 hq hz l1 l2 F3 F4
  have p4:Below wc.heap.size wc wc.drew:=below_drewI _ _
  obtain ⟨s0,s1,s2,_⟩:=cells3 HP.out.1 (Below.refl wc.heap.size wc)
  obtain ⟨t0,t1,t2,_⟩:=cells3 HP.out.2 (Below.refl wc.heap.size wc)
  go_wp2_with fail
  go_region_held3 (fun w'=>w'.cell? ⟨g5,0,none⟩=some (.bool b3)∧w'.cell? ⟨g5,1,none⟩=some (.slice a3 x3.length c3)∧w'.cell? ⟨g5,2,none⟩=some (.slice d3 y3.length e3)∧w'.cell? ⟨g6,0,none⟩=some (.bool b4)∧w'.cell? ⟨g6,1,none⟩=some (.slice a4 x4.length c4)∧w'.cell? ⟨g6,2,none⟩=some (.slice d4 y4.length e4)) (go_keep) (first
   | (go_at_call 136; (with_reducible refine (HMK.out w6 a5 c5 a6 c6 (o5.below f6).rd o6.rd (HT.out.below (HKX.out.trans (p6.mono HKX.out.size)))).mono ?_); rintro e w7 ⟨a7,c7,d7,e7,rfl,o7,u7,f7⟩; have p7:=p6.trans (f7.mono p6.size); obtain ⟨r7a,r7b,r7c,_⟩:=cells3 HP.out.1 p7; obtain ⟨v7a,v7b,v7c,_⟩:=cells3 HP.out.2 p7; obtain ⟨k0,k1,k2,k3,k4,k5⟩:=cells3 HH.out.2.2 (HKX.out.trans (p7.mono HKX.out.size)))
   | (go_at_call 168; (with_reducible refine (HT2.out w5 p5).mono ?_); rintro e w6 ⟨a6,c6,rfl,o6,f6⟩; have p6:=p5.trans (f6.mono p5.size); obtain ⟨r6a,r6b,r6c,_⟩:=cells3 HP.out.1 p6; obtain ⟨v6a,v6b,v6c,_⟩:=cells3 HP.out.2 p6)
   | (go_at_call 168; (with_reducible refine (HT1.out wc.drew p4).mono ?_); rintro e w5 ⟨a5,c5,rfl,o5,f5⟩; have p5:=p4.trans (f5.mono p4.size); obtain ⟨r5a,r5b,r5c,_⟩:=cells3 HP.out.1 p5; obtain ⟨v5a,v5b,v5c,_⟩:=cells3 HP.out.2 p5))
  all_goals
   go_wp2
   have hsz:=HSZ.out
   have hs1:=HKX.out.size
   have hs6:=p6.size
   refine bodyPost_ret (v:=.tuple #[.agg #[.bool (rsg (q1 / q2) (zeq q2)),.slice a7 (rnm (q1 / q2) (zeq q2)).length c7,.slice d7 (rdn (q1 / q2) (zeq q2)).length e7],.int .i64 (zeq q2)]) (by simp [results,Tryz.results184,go_sem,k0,k1,k2]) rfl ?_
   exact RetRatE.fin2 o7 u7 (by omega) (HB.out.trans ((HKX.out.trans (p7.mono HKX.out.size)).mono HB.out.size)) (by omega) _ _ _
end Go.Proofs.YtcankknlbljicaaGreatDoor
