/-  -/
import Derived.Test.YtcankknlbljicaaGreatDoorY6

set_option linter.unusedVariables false
set_option linter.unusedSimpArgs false
set_option linter.unusedSectionVars false
set_option maxRecDepth 100000
set_option maxHeartbeats 3200000

namespace Go.Proofs.YtcankknlbljicaaGreatDoor
open Go.RowKit Num

theorem fr_div {w:World} {b:Bool} {ao:Option Addr} {c:Nat} {xs:List Nat} {ad:Option Addr} {d:Nat} {ds:List Nat} {q:Rat} {n:Nat} (h:Fr w b ao c xs ad d ds q n):Rat.divInt (iv b (val xs)) (iv false (val ds))=q:=by
 rw [show iv false (val ds)=((val ds:Nat):Int) from rfl,Rat.divInt_ofNat,h.vq]

theorem rtrim3_any {w:World} {b:Bool} {ao:Option Addr} {c:Nat} {xs:List Nat} {ad:Option Addr} {d:Nat} {ds:List Nat} {q:Rat} {n:Nat} (h:Rq w b ao c xs ad d ds q n) (hn:n≤4398046511103) :
  Calls Tryz.prog 19 #[.agg #[.bool b,.slice ao xs.length c,.slice ad ds.length d]] w (RetRat q w):=by
 have hle1:=h.rn.le
 have hcm1:=h.rn.cm
 have hle2:=h.rd.le
 have hcm2:=h.rd.cm
 have hB:=A2_below w (.cells #[.bool b,.slice ao xs.length c,.slice ad ds.length d] 26) (.cells #[.bool false,.slice none 0 0,.slice none 0 0] 26)
 have HH:=hid (A2_heap w (.cells #[.bool b,.slice ao xs.length c,.slice ad ds.length d] 26) (.cells #[.bool false,.slice none 0 0,.slice none 0 0] 26))
 have HSZ:=hid (A2_size w (.cells #[.bool b,.slice ao xs.length c,.slice ad ds.length d] 26) (.cells #[.bool false,.slice none 0 0,.slice none 0 0] 26))
 have HB:=hid hB
 have hp:=parts_r (h.below hB) hn
 unfold A2 at HH HSZ HB hp
 clear h hB
 have n01:¬ (w.heap.size=w.heap.size + 1 + 1):=by omega
 have n02:¬ (w.heap.size + 1 + 1=w.heap.size):=by omega
 have n03:¬ (w.heap.size + 1=w.heap.size + 1 + 1):=by omega
 have n04:¬ (w.heap.size + 1 + 1=w.heap.size + 1):=by omega
 have n05:¬ (w.heap.size=w.heap.size + 1):=by omega
 have n06:¬ (w.heap.size + 1=w.heap.size):=by omega
 go_enter Tryz.func19,Tryz.ntmps19
 go_wp2_with fail
 obtain ⟨w0,hw0⟩:∃ x,x=((w.alloc (.cells #[.bool b,.slice ao xs.length c,.slice ad ds.length d] 26)).alloc (.cells #[.bool false,.slice none 0 0,.slice none 0 0] 26)):=⟨_,rfl⟩
 rw [← hw0] at HH HSZ HB hp ⊢
 clear hw0
 refine hp.mono ?_
 rintro e w1 ⟨bp,ap,cp,xp,dp,ep,Dp,rfl,Fp,f1⟩
 have hl1a:=Fp.ln
 have hl1b:=Fp.ld
 have hv1c:=Fp.rn.le
 have hv1d:=Fp.rd.le
 have hw1e:=Fp.rn.cm
 have hw1f:=Fp.rd.cm
 have hbp:=A2_below w1 (.cells #[.bool bp,.slice ap xp.length cp] 24) (.cells #[.bool false,.slice dp (nd Dp).length ep] 24)
 have HP:=hid (A2_heap w1 (.cells #[.bool bp,.slice ap xp.length cp] 24) (.cells #[.bool false,.slice dp (nd Dp).length ep] 24))
 have HPZ:=hid (A2_size w1 (.cells #[.bool bp,.slice ap xp.length cp] 24) (.cells #[.bool false,.slice dp (nd Dp).length ep] 24))
 have HF:=hid (Fp.below hbp)
 have H1:=hid (And.intro (f1.trans (hbp.mono f1.size)) f1.size)
 unfold A2 at HP HPZ HF H1
 clear hp f1 hbp Fp
 go_wp2_with fail
 obtain ⟨wz,hwz⟩:∃ x,x=((w1.alloc (.cells #[.bool bp,.slice ap xp.length cp] 24)).alloc (.cells #[.bool false,.slice dp (nd Dp).length ep] 24)):=⟨_,rfl⟩
 rw [← hwz] at HP HPZ HF H1 ⊢
 clear hwz
 refine (reduce_q HF.out.rn HF.out.rd (by omega) (by omega) (fr_div HF.out)).mono ?_
 rintro e w2 ⟨a2,c2,d2,e2,rfl,o2,u2,f2⟩
 have p2:=H1.out.1.trans (f2.mono H1.out.1.size)
 obtain ⟨k0,k1,k2,k3,k4,k5⟩:=cells3 HH.out.2 p2
 have H2:=hid (And.intro o2 (And.intro u2 p2))
 clear o2 u2 f2 p2
 go_wp2
 have hsz:=HSZ.out
 have hs1:=H1.out
 have hs2:=H1.out.1.size
 refine bodyPost_ret (v:=.agg #[.bool (decide (q.num < 0)),.slice a2 (nd q.num.natAbs).length c2,.slice d2 (nd q.den).length e2]) (by simp [results,Tryz.results19,go_sem,k0,k1,k2]) rfl ?_
 exact RetRat.fin H2.out.1 H2.out.2.1 (by omega) (HB.out.trans (H2.out.2.2.mono HB.out.size)) (by omega) _ _ _

theorem rsign3_any {w:World} {b:Bool} {ao:Option Addr} {c:Nat} {xs:List Nat} {ad:Option Addr} {d:Nat} {ds:List Nat} {q:Rat} {n:Nat} (h:Rq w b ao c xs ad d ds q n) (hn:n≤4398046511103) :
  Calls Tryz.prog 72 #[.agg #[.bool b,.slice ao xs.length c,.slice ad ds.length d]] w (RetB (.int .i64 (sgnQ q)) w):=by
 have hle1:=h.rn.le
 have hcm1:=h.rn.cm
 have hle2:=h.rd.le
 have hcm2:=h.rd.cm
 have hB:=A1_below w (.cells #[.bool b,.slice ao xs.length c,.slice ad ds.length d] 26)
 have HH:=hid (A1_heap w (.cells #[.bool b,.slice ao xs.length c,.slice ad ds.length d] 26))
 have HSZ:=hid ((show (w.alloc (.cells #[.bool b,.slice ao xs.length c,.slice ad ds.length d] 26)).heap.size=w.heap.size + 1 by simp))
 have HB:=hid hB
 have hp:=parts_r (h.below hB) hn
 clear h hB
 have n01:¬ (w.heap.size=w.heap.size + 1 + 1):=by omega
 have n02:¬ (w.heap.size + 1 + 1=w.heap.size):=by omega
 have n03:¬ (w.heap.size + 1=w.heap.size + 1 + 1):=by omega
 have n04:¬ (w.heap.size + 1 + 1=w.heap.size + 1):=by omega
 have n05:¬ (w.heap.size=w.heap.size + 1):=by omega
 have n06:¬ (w.heap.size + 1=w.heap.size):=by omega
 go_enter Tryz.func72,Tryz.ntmps72
 go_wp2_with fail
 obtain ⟨w0,hw0⟩:∃ x,x=(w.alloc (.cells #[.bool b,.slice ao xs.length c,.slice ad ds.length d] 26)):=⟨_,rfl⟩
 rw [← hw0] at HH HSZ HB hp ⊢
 clear hw0
 refine hp.mono ?_
 rintro e w1 ⟨bp,ap,cp,xp,dp,ep,Dp,rfl,Fp,f1⟩
 have hl1a:=Fp.ln
 have hl1b:=Fp.ld
 have hv1c:=Fp.rn.le
 have hv1d:=Fp.rd.le
 have hw1e:=Fp.rn.cm
 have hw1f:=Fp.rd.cm
 have hbp:=A2_below w1 (.cells #[.bool bp,.slice ap xp.length cp] 24) (.cells #[.bool false,.slice dp (nd Dp).length ep] 24)
 have HP:=hid (A2_heap w1 (.cells #[.bool bp,.slice ap xp.length cp] 24) (.cells #[.bool false,.slice dp (nd Dp).length ep] 24))
 have HPZ:=hid (A2_size w1 (.cells #[.bool bp,.slice ap xp.length cp] 24) (.cells #[.bool false,.slice dp (nd Dp).length ep] 24))
 have HF:=hid (Fp.below hbp)
 have H1:=hid (And.intro (f1.trans (hbp.mono f1.size)) f1.size)
 unfold A2 at HP HPZ HF H1
 clear hp f1 hbp Fp
 go_wp2_with fail
 obtain ⟨wz,hwz⟩:∃ x,x=((w1.alloc (.cells #[.bool bp,.slice ap xp.length cp] 24)).alloc (.cells #[.bool false,.slice dp (nd Dp).length ep] 24)):=⟨_,rfl⟩
 rw [← hwz] at HP HPZ HF H1 ⊢
 clear hwz
 have hs:=rsign_any bp ap cp xp wz HF.out.rn (by omega)
 rw [show sgn (iv bp (val xp))=sgnQ q by rw [← HF.out.vq]; exact sgn_mk HF.out.nz] at hs
 refine hs.mono ?_
 rintro e w2 ⟨rfl,f2⟩
 have H2:=hid (HB.out.trans ((H1.out.1.trans (f2.mono H1.out.1.size)).mono HB.out.size))
 clear hs f2
 go_wp2
 go_ret
 exact ⟨rfl,H2.out⟩

end Go.Proofs.YtcankknlbljicaaGreatDoor

namespace Go.Proofs.YtcankknlbljicaaGreatDoor
open Go.RowKit Num

theorem rneg3_any {w:World} {b:Bool} {ao:Option Addr} {c:Nat} {xs:List Nat} {ad:Option Addr} {d:Nat} {ds:List Nat} {q:Rat} {n:Nat} (h:Rq w b ao c xs ad d ds q n) (hn:n≤4398046511103) :
  Calls Tryz.prog 128 #[.agg #[.bool b,.slice ao xs.length c,.slice ad ds.length d]] w (RetRat (-q) w):=by
 have hle1:=h.rn.le
 have hcm1:=h.rn.cm
 have hle2:=h.rd.le
 have hcm2:=h.rd.cm
 have hB:=A2_below w (.cells #[.bool b,.slice ao xs.length c,.slice ad ds.length d] 26) (.cells #[.bool false,.slice none 0 0,.slice none 0 0] 26)
 have HH:=hid (A2_heap w (.cells #[.bool b,.slice ao xs.length c,.slice ad ds.length d] 26) (.cells #[.bool false,.slice none 0 0,.slice none 0 0] 26))
 have HSZ:=hid (A2_size w (.cells #[.bool b,.slice ao xs.length c,.slice ad ds.length d] 26) (.cells #[.bool false,.slice none 0 0,.slice none 0 0] 26))
 have HB:=hid hB
 have ht:=rtrim3_any (h.below hB) hn
 have hs:=h.sz
 unfold A2 at HH HSZ HB ht
 clear h hB
 have n01:¬ (w.heap.size=w.heap.size + 1 + 1):=by omega
 have n02:¬ (w.heap.size + 1 + 1=w.heap.size):=by omega
 have n03:¬ (w.heap.size + 1=w.heap.size + 1 + 1):=by omega
 have n04:¬ (w.heap.size + 1 + 1=w.heap.size + 1):=by omega
 have n05:¬ (w.heap.size=w.heap.size + 1):=by omega
 have n06:¬ (w.heap.size + 1=w.heap.size):=by omega
 go_enter Tryz.func128,Tryz.ntmps128
 go_wp2_with fail
 obtain ⟨w0,hw0⟩:∃ x,x=((w.alloc (.cells #[.bool b,.slice ao xs.length c,.slice ad ds.length d] 26)).alloc (.cells #[.bool false,.slice none 0 0,.slice none 0 0] 26)):=⟨_,rfl⟩
 rw [← hw0] at HH HSZ HB ht ⊢
 clear hw0
 refine ht.mono ?_
 rintro e w1 ⟨a1,c1,d1,e1,rfl,o1,u1,f1⟩
 have hx1:=o1.rd.le
 have hx2:=o1.rd.cm
 have hx3:=u1.rd.le
 have hx4:=u1.rd.cm
 obtain ⟨s0,s1,s2,s3,s4,s5⟩:=cells3 HH.out.1 f1
 have K1:=hid ((f1.block w.heap.size (by have:=HSZ.out; omega)).trans HH.out.1)
 have K2:=hid ((f1.block (w.heap.size + 1) (by have:=HSZ.out; omega)).trans HH.out.2)
 have H1:=hid (And.intro f1 (And.intro o1 u1))
 clear ht f1 o1 u1
 go_wp2_with fail
 obtain ⟨w2,hw2⟩:∃ x,x=(((w1.setCell ⟨w.heap.size,0,none⟩ (.bool (decide (q.num < 0)))).setCell ⟨w.heap.size,1,none⟩ (.slice a1 (nd q.num.natAbs).length c1)).setCell ⟨w.heap.size,2,none⟩ (.slice d1 (nd q.den).length e1)):=⟨_,rfl⟩
 rw [← hw2]
 have B1:=hid (show w2.heap[w.heap.size]?=some (.cells #[.bool (decide (q.num < 0)),.slice a1 (nd q.num.natAbs).length c1,.slice d1 (nd q.den).length e1] 26) from hw2 ▸ box3 K1.out)
 have B2:=hid (show w2.heap[w.heap.size + 1]?=some (.cells #[.bool false,.slice none 0 0,.slice none 0 0] 26) from by rw [hw2,heap_set _ _ _ _ _ (by omega),heap_set _ _ _ _ _ (by omega),heap_set _ _ _ _ _ (by omega)]; exact K2.out)
 have BB:=hid (show Below w.heap.size w w2 from by
  rw [hw2]
  have:=HB.out.trans (H1.out.1.mono HB.out.size)
  exact below_set _ _ (Nat.le_refl _) (below_set _ _ (Nat.le_refl _) (below_set _ _ (Nat.le_refl _) this)))
 have O2:=hid (show Own w0.heap.size w2 a1 c1 (nd q.num.natAbs)∧Own w0.heap.size w2 d1 e1 (nd q.den) from by
  have:=HSZ.out
  rw [hw2]
  exact ⟨((H1.out.2.1.setOld (by omega) _).setOld (by omega) _).setOld (by omega) _,((H1.out.2.2.setOld (by omega) _).setOld (by omega) _).setOld (by omega) _⟩)
 have Z2:=hid (show w0.heap.size≤w2.heap.size by rw [hw2,setCell_size,setCell_size,setCell_size]; exact H1.out.1.size)
 clear hw2 s0 s1 s2 s3 s4 s5 K1 K2
 have hng:Calls Tryz.prog 164 #[.agg #[.bool (decide (q.num < 0)),.slice a1 (nd q.num.natAbs).length c1]] w2 (RetInt w2.heap.size (-q.num) w2):=by
  have h3:=rneg2_any (decide (q.num < 0)) a1 c1 (nd q.num.natAbs) w2 O2.out.1.rd (by have:=hs.1; omega)
  rw [val_nd] at h3
  rw [iv_self] at h3
  exact h3
 refine hng.mono ?_
 rintro e w3 ⟨a3,c3,rfl,o3,f3⟩
 have hx5:=o3.rd.le
 have hx6:=o3.rd.cm
 obtain ⟨s0,s1,s2,s3,s4,s5⟩:=cells3 B1.out f3
 obtain ⟨k0,k1,k2,k3,k4,k5⟩:=cells3 B2.out f3
 have H3:=hid (And.intro f3 o3)
 clear hng f3 o3
 go_wp2
 have hsz:=HSZ.out
 have hz2:=Z2.out
 have hQ:(-q).num = -q.num∧(-q).den=q.den:=⟨rfl,rfl⟩
 refine bodyPost_ret (v:=.agg #[.bool (decide (-q.num < 0)),.slice a3 (nd (-q.num).natAbs).length c3,.slice d1 (nd q.den).length e1]) (by simp [results,Tryz.results128,go_sem,k0,k1,k2]) rfl ?_
 unfold RetRat
 rw [hQ.1,hQ.2]
 refine ⟨a3,c3,d1,e1,rfl,?_,?_,?_⟩
 ·refine Own.mono (B:=w2.heap.size) ?_ (by omega)
  repeat refine Own.setOld ?_ (by omega) _
  exact H3.out.2
 ·refine Own.mono (B:=w0.heap.size) ?_ (by omega)
  repeat refine Own.setOld ?_ (by omega) _
  exact O2.out.2.below H3.out.1
 ·repeat refine below_set _ _ (by omega) ?_
  exact BB.out.trans (H3.out.1.mono BB.out.size)

end Go.Proofs.YtcankknlbljicaaGreatDoor

namespace Go.Proofs.YtcankknlbljicaaGreatDoor
open Go.RowKit Num

set_option maxHeartbeats 6400000 in
theorem rmul3_any {b1:Bool} {ao1:Option Addr} {c1:Nat} {xs1:List Nat} {ad1:Option Addr} {d1:Nat} {ds1:List Nat} {q1:Rat} {n1:Nat} {b2:Bool} {ao2:Option Addr} {c2:Nat} {xs2:List Nat} {ad2:Option Addr} {d2:Nat} {ds2:List Nat} {q2:Rat} {n2:Nat} {w:World} (h1:Rq w b1 ao1 c1 xs1 ad1 d1 ds1 q1 n1) (h2:Rq w b2 ao2 c2 xs2 ad2 d2 ds2 q2 n2) (hn1:n1≤999999999999) (hn2:n2≤999999999999) :
  Calls Tryz.prog 66 #[.agg #[.bool b1,.slice ao1 xs1.length c1,.slice ad1 ds1.length d1],.agg #[.bool b2,.slice ao2 xs2.length c2,.slice ad2 ds2.length d2]] w (RetRat (q1 * q2) w):=by
 have hle1a:=h1.rn.le
 have hcm1b:=h1.rn.cm
 have hle1c:=h1.rd.le
 have hcm1d:=h1.rd.cm
 have hle2a:=h2.rn.le
 have hcm2b:=h2.rn.cm
 have hle2c:=h2.rd.le
 have hcm2d:=h2.rd.cm
 have hB:=A3_below w (.cells #[.bool b1,.slice ao1 xs1.length c1,.slice ad1 ds1.length d1] 26) (.cells #[.bool b2,.slice ao2 xs2.length c2,.slice ad2 ds2.length d2] 26) (.cells #[.bool false,.slice none 0 0,.slice none 0 0] 26)
 have HH:=hid (A3_heap w (.cells #[.bool b1,.slice ao1 xs1.length c1,.slice ad1 ds1.length d1] 26) (.cells #[.bool b2,.slice ao2 xs2.length c2,.slice ad2 ds2.length d2] 26) (.cells #[.bool false,.slice none 0 0,.slice none 0 0] 26))
 have HSZ:=hid (A3_size w (.cells #[.bool b1,.slice ao1 xs1.length c1,.slice ad1 ds1.length d1] 26) (.cells #[.bool b2,.slice ao2 xs2.length c2,.slice ad2 ds2.length d2] 26) (.cells #[.bool false,.slice none 0 0,.slice none 0 0] 26))
 have HB:=hid hB
 have HR2:=hid (h2.below hB)
 have hp:=parts_r (h1.below hB) (show n1≤4398046511103 by omega)
 unfold A3 at HH HSZ HB hp HR2
 clear h1 h2 hB
 have n01:¬ (w.heap.size=w.heap.size + 1 + 1):=by omega
 have n02:¬ (w.heap.size + 1 + 1=w.heap.size):=by omega
 have n03:¬ (w.heap.size + 1=w.heap.size + 1 + 1):=by omega
 have n04:¬ (w.heap.size + 1 + 1=w.heap.size + 1):=by omega
 have n05:¬ (w.heap.size=w.heap.size + 1):=by omega
 have n06:¬ (w.heap.size + 1=w.heap.size):=by omega
 go_enter Tryz.func66,Tryz.ntmps66
 go_wp2_with fail
 obtain ⟨w0,hw0⟩:∃ x,x=(((w.alloc (.cells #[.bool b1,.slice ao1 xs1.length c1,.slice ad1 ds1.length d1] 26)).alloc (.cells #[.bool b2,.slice ao2 xs2.length c2,.slice ad2 ds2.length d2] 26)).alloc (.cells #[.bool false,.slice none 0 0,.slice none 0 0] 26)):=⟨_,rfl⟩
 rw [← hw0] at HH HSZ HB hp HR2 ⊢
 clear hw0
 refine hp.mono ?_
 rintro e w1 ⟨bp,ap,cp,xp,dp,ep,Dp,rfl,Fp,f1⟩
 have hl1a:=Fp.ln
 have hl1b:=Fp.ld
 have hv1c:=Fp.rn.le
 have hv1d:=Fp.rd.le
 have hw1e:=Fp.rn.cm
 have hw1f:=Fp.rd.cm
 obtain ⟨s0,s1,s2,_⟩:=cells3 HH.out.2.1 f1
 have nl0:w.heap.size + 1 < w1.heap.size:=by have:=HSZ.out; have:=f1.size; omega
 have nl1:w.heap.size < w1.heap.size:=by omega
 have nl2:w.heap.size≤w1.heap.size:=by omega
 have nl3:w.heap.size + 1≤w1.heap.size:=by omega
 have hbp:=A2_below w1 (.cells #[.bool bp,.slice ap xp.length cp] 24) (.cells #[.bool false,.slice dp (nd Dp).length ep] 24)
 have HP:=hid (A2_heap w1 (.cells #[.bool bp,.slice ap xp.length cp] 24) (.cells #[.bool false,.slice dp (nd Dp).length ep] 24))
 have HPZ:=hid (A2_size w1 (.cells #[.bool bp,.slice ap xp.length cp] 24) (.cells #[.bool false,.slice dp (nd Dp).length ep] 24))
 have HF:=hid (Fp.below hbp)
 have H1:=hid (And.intro (f1.trans (hbp.mono f1.size)) f1.size)
 have hp2:=parts_r (HR2.out.below H1.out.1) (show n2≤4398046511103 by omega)
 unfold A2 at HP HPZ HF H1 hp2
 clear hp f1 hbp Fp
 go_wp2_with fail
 obtain ⟨wy,hwy⟩:∃ x,x=((w1.alloc (.cells #[.bool bp,.slice ap xp.length cp] 24)).alloc (.cells #[.bool false,.slice dp (nd Dp).length ep] 24)):=⟨_,rfl⟩
 rw [← hwy] at HP HPZ HF H1 hp2 ⊢
 clear hwy s0 s1 s2 nl0 nl1 nl2 nl3
 refine hp2.mono ?_
 rintro e w2 ⟨bq,aq,cq,xq,dq,eq,Dq,rfl,Fq,f2⟩
 have hl2a:=Fq.ln
 have hl2b:=Fq.ld
 have hv2c:=Fq.rn.le
 have hv2d:=Fq.rd.le
 have hw2e:=Fq.rn.cm
 have hw2f:=Fq.rd.cm
 have hbq:=A2_below w2 (.cells #[.bool bq,.slice aq xq.length cq] 24) (.cells #[.bool false,.slice dq (nd Dq).length eq] 24)
 have HQ:=hid (A2_heap w2 (.cells #[.bool bq,.slice aq xq.length cq] 24) (.cells #[.bool false,.slice dq (nd Dq).length eq] 24))
 have HQZ:=hid (A2_size w2 (.cells #[.bool bq,.slice aq xq.length cq] 24) (.cells #[.bool false,.slice dq (nd Dq).length eq] 24))
 have HG:=hid (Fq.below hbq)
 have H2:=hid (And.intro (f2.trans (hbq.mono f2.size)) f2.size)
 unfold A2 at HQ HQZ HG H2
 clear hp2 f2 hbq Fq
 have nl4:w1.heap.size < w2.heap.size:=by have:=H2.out.2; have:=HPZ.out; omega
 have nl5:w1.heap.size + 1 < w2.heap.size:=by have:=H2.out.2; have:=HPZ.out; omega
 go_wp2_with fail
 obtain ⟨wz,hwz⟩:∃ x,x=((w2.alloc (.cells #[.bool bq,.slice aq xq.length cq] 24)).alloc (.cells #[.bool false,.slice dq (nd Dq).length eq] 24)):=⟨_,rfl⟩
 rw [← hwz] at HQ HQZ HG H2 ⊢
 clear hwz nl4 nl5
 have HPz:=hid (And.intro ((H2.out.1.block w1.heap.size (by have:=HPZ.out; omega)).trans HP.out.1) ((H2.out.1.block (w1.heap.size + 1) (by have:=HPZ.out; omega)).trans HP.out.2))
 have HFz:=hid (HF.out.below H2.out.1)
 have HZ:=hid (H1.out.1.trans (H2.out.1.mono H1.out.1.size))
 have HS:=hid (And.intro H1.out.2 (And.intro HPZ.out (And.intro H2.out.2 HQZ.out)))
 clear HP HF H1 H2
 obtain ⟨Za,hZa⟩:∃ Za,Za=iv bp (val xp) * iv bq (val xq):=⟨_,rfl⟩
 have HM1:=hid (fun w' (hb:Below wz.heap.size wz w')=>show Calls Tryz.prog 131 #[.agg #[.bool bp,.slice ap (List.length xp) cp],.agg #[.bool bq,.slice aq (List.length xq) cq]] w' (RetInt w'.heap.size Za w') from hZa ▸ rmul2_any bp bq ap aq cp cq xp xq w' (HFz.out.rn.below hb) (HG.out.rn.below hb) (by omega) (by omega))
 have lZa:Za.natAbs < 4294967296 ^ (n1 + n2 + 2):=by
  rw [hZa,Int.natAbs_mul,iv_abs,iv_abs]
  exact Nat.lt_of_lt_of_le (pow_mul_lt (val_lt_of (k:=n1 + 1) HFz.out.rn.dg (by omega)) (val_lt_of (k:=n2 + 1) HG.out.rn.dg (by omega))) (Nat.pow_le_pow_right (by omega) (by omega))
 obtain ⟨Zb,hZb⟩:∃ Zb,Zb=iv false (val (nd Dp)) * iv false (val (nd Dq)):=⟨_,rfl⟩
 have HM2:=hid (fun w' (hb:Below wz.heap.size wz w')=>show Calls Tryz.prog 131 #[.agg #[.bool false,.slice dp (List.length (nd Dp)) ep],.agg #[.bool false,.slice dq (List.length (nd Dq)) eq]] w' (RetInt w'.heap.size Zb w') from hZb ▸ rmul2_any false false dp dq ep eq (nd Dp) (nd Dq) w' (HFz.out.rd.below hb) (HG.out.rd.below hb) (by omega) (by omega))
 have lZb:Zb.natAbs < 4294967296 ^ (n1 + n2 + 2):=by
  rw [hZb,Int.natAbs_mul,iv_abs,iv_abs]
  exact Nat.lt_of_lt_of_le (pow_mul_lt (val_lt_of (k:=n1 + 1) HFz.out.rd.dg (by omega)) (val_lt_of (k:=n2 + 1) HG.out.rd.dg (by omega))) (Nat.pow_le_pow_right (by omega) (by omega))
 have mZa:(nd Za.natAbs).length≤4398046511104:=Nat.le_trans (nd_length_le lZa) (by omega)
 have mZb:(nd Zb.natAbs).length≤4398046511104:=Nat.le_trans (nd_length_le lZb) (by omega)
 have vp:=HFz.out.vq
 have vq:=HG.out.vq
 have np:=HFz.out.nz
 have nq:=HG.out.nz
 rw [val_nd] at vp vq np nq
 have hq:Rat.divInt Za Zb=q1 * q2:=by
  rw [hZa,hZb,← vp,← vq,rv_mul,val_nd,val_nd,← Rat.divInt_ofNat,Int.natCast_mul]; rfl
 have HRD:=hid (fun w' a7 c7 a8 c8 (r1:Rd w' a7 c7 (nd Za.natAbs)) (r2:Rd w' a8 c8 (nd Zb.natAbs))=>show Calls Tryz.prog 95 #[.agg #[.bool (decide (Za < 0)),.slice a7 (nd Za.natAbs).length c7],.agg #[.bool (decide (Zb < 0)),.slice a8 (nd Zb.natAbs).length c8]] w' (RetRat (q1 * q2) w') from
  reduce_q r1 r2 mZa mZb (by rw [val_nd,val_nd,iv_self,iv_self]; exact hq))
 clear hZa hZb vp vq np nq hq lZa lZb mZa mZb
 have ng1:¬ (w.heap.size + 1 + 1=w1.heap.size):=by have:=HSZ.out; have:=HS.out; omega
 have ng2:¬ (w1.heap.size=w.heap.size + 1 + 1):=fun h=>ng1 h.symm
 have ng3:¬ (w.heap.size + 1 + 1=w1.heap.size + 1):=by have:=HSZ.out; have:=HS.out; omega
 have ng4:¬ (w1.heap.size + 1=w.heap.size + 1 + 1):=fun h=>ng3 h.symm
 have ng5:¬ (w.heap.size + 1 + 1=w2.heap.size):=by have:=HSZ.out; have:=HS.out; omega
 have ng6:¬ (w2.heap.size=w.heap.size + 1 + 1):=fun h=>ng5 h.symm
 have ng7:¬ (w.heap.size + 1 + 1=w2.heap.size + 1):=by have:=HSZ.out; have:=HS.out; omega
 have ng8:¬ (w2.heap.size + 1=w.heap.size + 1 + 1):=fun h=>ng7 h.symm
 have ng9:¬ (w.heap.size + 1=w1.heap.size):=by have:=HSZ.out; have:=HS.out; omega
 have ng10:¬ (w1.heap.size=w.heap.size + 1):=fun h=>ng9 h.symm
 have ng11:¬ (w.heap.size + 1=w2.heap.size):=by have:=HSZ.out; have:=HS.out; omega
 have ng12:¬ (w2.heap.size=w.heap.size + 1):=fun h=>ng11 h.symm
 have p0:Below wz.heap.size wz wz.drew:=below_drewI _ _
 obtain ⟨sa0,sa1,_,_⟩:=pair_cells HPz.out.1 (Below.refl _ _)
 obtain ⟨sb0,sb1,_,_⟩:=pair_cells HPz.out.2 (Below.refl _ _)
 obtain ⟨sc0,sc1,_,_⟩:=pair_cells HQ.out.1 (Below.refl _ _)
 obtain ⟨sd0,sd1,_,_⟩:=pair_cells HQ.out.2 (Below.refl _ _)
 go_region_held3 (fun w'=>w'.cell? ⟨w1.heap.size,0,none⟩=some (.bool bp)∧w'.cell? ⟨w1.heap.size,1,none⟩=some (.slice ap xp.length cp)∧w'.cell? ⟨w1.heap.size + 1,0,none⟩=some (.bool false)∧w'.cell? ⟨w1.heap.size + 1,1,none⟩=some (.slice dp (nd Dp).length ep)∧w'.cell? ⟨w2.heap.size,0,none⟩=some (.bool bq)∧w'.cell? ⟨w2.heap.size,1,none⟩=some (.slice aq xq.length cq)∧w'.cell? ⟨w2.heap.size + 1,0,none⟩=some (.bool false)∧w'.cell? ⟨w2.heap.size + 1,1,none⟩=some (.slice dq (nd Dq).length eq)) (go_keep) (first
  | (go_at_call 95; (with_reducible refine (HRD.out w6 a5 c5 a6 c6 (o5.below f6).rd o6.rd).mono ?_); rintro e w9 ⟨a9,c9,d9,e9,rfl,o9,u9,f9⟩; have p9:=p6.trans (f9.mono p6.size); obtain ⟨ra9a,ra9b,_,_⟩:=pair_cells HPz.out.1 p9; obtain ⟨rb9a,rb9b,_,_⟩:=pair_cells HPz.out.2 p9; obtain ⟨rc9a,rc9b,_,_⟩:=pair_cells HQ.out.1 p9; obtain ⟨rd9a,rd9b,_,_⟩:=pair_cells HQ.out.2 p9; obtain ⟨k0,k1,k2,k3,k4,k5⟩:=cells3 HH.out.2.2 (HZ.out.trans (p9.mono HZ.out.size)))
  | (go_at_call 131; (with_reducible refine (HM2.out w5 p5).mono ?_); rintro e w6 ⟨a6,c6,rfl,o6,f6⟩; have p6:=p5.trans (f6.mono p5.size); obtain ⟨ra6a,ra6b,_,_⟩:=pair_cells HPz.out.1 p6; obtain ⟨rb6a,rb6b,_,_⟩:=pair_cells HPz.out.2 p6; obtain ⟨rc6a,rc6b,_,_⟩:=pair_cells HQ.out.1 p6; obtain ⟨rd6a,rd6b,_,_⟩:=pair_cells HQ.out.2 p6)
  | (go_at_call 131; (with_reducible refine (HM1.out wz.drew p0).mono ?_); rintro e w5 ⟨a5,c5,rfl,o5,f5⟩; have p5:=p0.trans (f5.mono p0.size); obtain ⟨ra5a,ra5b,_,_⟩:=pair_cells HPz.out.1 p5; obtain ⟨rb5a,rb5b,_,_⟩:=pair_cells HPz.out.2 p5; obtain ⟨rc5a,rc5b,_,_⟩:=pair_cells HQ.out.1 p5; obtain ⟨rd5a,rd5b,_,_⟩:=pair_cells HQ.out.2 p5))
 all_goals
  go_wp2
  have hsz:=HSZ.out
  have hs:=HS.out
  have hs1:=p6.size
  refine bodyPost_ret (v:=.agg #[.bool (decide ((q1 * q2).num < 0)),.slice a9 (nd (q1 * q2).num.natAbs).length c9,.slice d9 (nd (q1 * q2).den).length e9]) (by simp [results,Tryz.results66,go_sem,k0,k1,k2]) rfl ?_
  exact RetRat.fin o9 u9 (by omega) (HB.out.trans ((HZ.out.trans (p9.mono HZ.out.size)).mono HB.out.size)) (by omega) _ _ _

end Go.Proofs.YtcankknlbljicaaGreatDoor
