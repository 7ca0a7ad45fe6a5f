/-  -/
import Derived.Test.YtcankknlbljicaaGreatDoorYba
import Derived.Test.YtcankknlbljicaaGreatDoorYId0
import Derived.Test.YtcankknlbljicaaGreatDoorYt

set_option linter.unusedVariables false
set_option linter.unusedSimpArgs false
set_option linter.unusedSectionVars false
set_option maxRecDepth 100000
set_option maxHeartbeats 3200000

namespace Go.Proofs.YtcankknlbljicaaGreatDoor
open Go.RowKit Num

theorem rgcd_any (aa ab:Option Addr) (ca cb:Nat) (xs ys:List Nat) (w:World) (ha:Rd w aa ca xs) (hb:Rd w ab cb ys) (hl1:xs.length≤4398046511104) (hl2:ys.length≤4398046511104) :
  Calls Tryz.prog 209 #[.slice aa xs.length ca,.slice ab ys.length cb] w (RetOwn w.heap.size (nd (Nat.gcd (val xs) (val ys))) w):=by
 have hle1:=ha.le
 have hle2:=hb.le
 have ht1:=rtrim_any aa ca xs w ha (by omega)
 have ht2:=fun w1 (h:Rd w1 ab cb ys)=>rtrim_any ab cb ys w1 h (by omega)
 have hlx:=Nat.le_trans (nd_length_le_of ha.dg) hl1
 have hly:=Nat.le_trans (nd_length_le_of hb.dg) hl2
 obtain ⟨u0,hu0⟩:∃ u,u=val xs:=⟨_,rfl⟩
 obtain ⟨v0,hv0⟩:∃ u,u=val ys:=⟨_,rfl⟩
 rw [← hu0] at ht1 hlx ⊢
 rw [← hv0] at hly ⊢
 simp only [← hv0] at ht2
 obtain ⟨G,hG⟩:∃ G,G=Nat.gcd u0 v0:=⟨_,rfl⟩
 rw [← hG]
 have HG:=hid hG
 have HB:=hid hb
 have HT2:=hid ht2
 clear hu0 hv0 hG ha hb ht2
 go_enter Tryz.func209,Tryz.ntmps209
 go_wp2_with fail
 refine ht1.mono ?_
 rintro e w1 ⟨a1,c1,rfl,ho1,hb1⟩
 have ht2:=HT2.out w1 (HB.out.below hb1)
 go_wp2_with fail
 refine ht2.mono ?_
 rintro e w2 ⟨a2,c2,rfl,ho2,hb2⟩
 have hb02:=hb1.trans (hb2.mono hb1.size)
 have HS:=hid (And.intro (ho1.below hb2) (And.intro (ho2.mono hb1.size) hb02))
 clear ht1 ht2 ho1 ho2 hb1 hb2 hb02
 go_wp2_with fail
 go_loopw [0,1] (fun av bv wr=>∃ (u v:Nat) (a3 a4:Option Addr) (c3 c4:Nat),av = .slice a3 (nd u).length c3∧bv = .slice a4 (nd v).length c4∧(nd u).length≤4398046511104∧(nd v).length≤4398046511104 ∧
   Hid (Nat.gcd u v=G∧Own w.heap.size wr a3 c3 (nd u)∧Own w.heap.size wr a4 c4 (nd v)∧Below w.heap.size w wr)) (fun _ bv wr=>valOf bv wr)
 case atStart=>exact ⟨u0,v0,a1,a2,c1,c2,rfl,rfl,hlx,hly,⟨HG.out.symm,HS.out⟩⟩
 case round =>
  obtain ⟨u,v,a3,a4,c3,c4,rfl,rfl,hlu,hlv,H⟩:=hrel
  clear HS HG
  by_cases h0:v=0
  ·subst h0
   have hg:decide (((nd 0).length:Int) > 0)=false:=by rw [nd_zero]; simp
   have hg2:¬ (0 < ((nd 0).length:Int)):=by rw [nd_zero]; simp
   go_wp2
   go_ret
   have h:=H.out
   rw [Nat.gcd_zero_right] at h
   obtain ⟨rfl,h1,h2,h3⟩:=h
   exact ⟨a3,c3,rfl,h1,h3⟩
  ·have hp : 0 < (nd v).length:=Nat.pos_of_ne_zero fun h=>h0 (nd_eq_nil.1 (List.eq_nil_of_length_eq_zero h))
   have hg:decide (((nd v).length:Int) > 0)=true:=decide_eq_true (by omega)
   have hva:=H.out.2.2.1.rd.valOf
   rw [val_nd] at hva
   have hdm:=rdivmod_any a3 a4 c3 c4 (nd u) (nd v) wr H.out.2.1.rd H.out.2.2.1.rd (by rw [val_nd]; exact h0) hlu hlv
   rw [val_nd,val_nd] at hdm
   have hml:(nd (u % v)).length≤4398046511104:=Nat.le_trans (nd_length_mono (Nat.le_of_lt (Nat.mod_lt _ (Nat.pos_of_ne_zero h0)))) hlv
   have HVA:=hid hva
   have HM:=hid (show Nat.gcd v (u % v)=Nat.gcd u v∧u % v < v from ⟨by rw [Nat.gcd_comm v,← Nat.gcd_rec,Nat.gcd_comm],Nat.mod_lt _ (Nat.pos_of_ne_zero h0)⟩)
   obtain ⟨qq,hqq⟩:∃ q,q=u / v:=⟨_,rfl⟩
   obtain ⟨r,hr⟩:∃ r,r=u % v:=⟨_,rfl⟩
   rw [← hqq,← hr] at hdm
   rw [← hr] at hml HM
   clear h0 hva hqq hr
   go_wp2_with fail
   refine hdm.mono ?_
   rintro e w3 ⟨ax,cx,ay,cy,rfl,hx3,hy3,hb3⟩
   have h1:=hid (show Nat.gcd v r=G∧Own w.heap.size w3 a4 c4 (nd v)∧Own w.heap.size w3 ay cy (nd r)∧Below w.heap.size w w3 from
    ⟨HM.out.1.trans H.out.1,H.out.2.2.1.below hb3,hy3.mono H.out.2.2.2.size,H.out.2.2.2.trans (hb3.mono H.out.2.2.2.size)⟩)
   have h2:=hid (show valOf (.slice ay (nd r).length cy) w3 < valOf (.slice a4 (nd v).length c4) wr by
    rw [hy3.rd.valOf,val_nd,HVA.out]; exact HM.out.2)
   clear hdm hx3 hy3 hb3
   go_wp2
   exact ⟨⟨v,r,a4,ay,c4,cy,rfl,rfl,hlv,hml,h1⟩,h2.out⟩
end Go.Proofs.YtcankknlbljicaaGreatDoor

namespace Go.Proofs.YtcankknlbljicaaGreatDoor
open Go.RowKit Num

def V3 (w:World) (b1 b2:Bool) (aa ab:Option Addr) (n1 n2 ca cb:Nat):World :=
 ((w.alloc (.cells #[.bool b1,.slice aa n1 ca] 24)).alloc (.cells #[.bool b2,.slice ab n2 cb] 24)).alloc (.cells #[.bool false,.slice none 0 0] 24)
theorem V3_below (w:World) (b1 b2:Bool) (aa ab:Option Addr) (n1 n2 ca cb:Nat):Below w.heap.size w (V3 w b1 b2 aa ab n1 n2 ca cb):=by
 have h:=W3_below w b1 b2 aa ab n1 n2 ca cb
 exact ⟨h.os,h.tape,h.output,h.size,h.block⟩
theorem V3_size (w:World) (b1 b2:Bool) (aa ab:Option Addr) (n1 n2 ca cb:Nat):(V3 w b1 b2 aa ab n1 n2 ca cb).heap.size=w.heap.size + 3:=by simp [V3]
theorem V3_heap (w:World) (b1 b2:Bool) (aa ab:Option Addr) (n1 n2 ca cb:Nat) :
  (V3 w b1 b2 aa ab n1 n2 ca cb).heap[w.heap.size]?=some (.cells #[.bool b1,.slice aa n1 ca] 24 (0,0))∧(V3 w b1 b2 aa ab n1 n2 ca cb).heap[w.heap.size + 1]?=some (.cells #[.bool b2,.slice ab n2 cb] 24 (0,0))∧(V3 w b1 b2 aa ab n1 n2 ca cb).heap[w.heap.size + 2]?=some (.cells #[.bool false,.slice none 0 0] 24 (0,0)):=by
 have x1:=heap_alloc_at w (.cells #[.bool b1,.slice aa n1 ca] 24)
 have z1:(w.alloc (.cells #[.bool b1,.slice aa n1 ca] 24)).heap.size=w.heap.size + 1:=by simp
 have x2:=heap_alloc_at (w.alloc (.cells #[.bool b1,.slice aa n1 ca] 24)) (.cells #[.bool b2,.slice ab n2 cb] 24)
 rw [z1] at x2
 have z2:((w.alloc (.cells #[.bool b1,.slice aa n1 ca] 24)).alloc (.cells #[.bool b2,.slice ab n2 cb] 24)).heap.size=w.heap.size + 2:=by simp
 have x3:=heap_alloc_at ((w.alloc (.cells #[.bool b1,.slice aa n1 ca] 24)).alloc (.cells #[.bool b2,.slice ab n2 cb] 24)) (.cells #[.bool false,.slice none 0 0] 24)
 rw [z2] at x3
 have y2:=(below_alloc (w.alloc (.cells #[.bool b1,.slice aa n1 ca] 24)) (.cells #[.bool b2,.slice ab n2 cb] 24)).block w.heap.size (by omega)
 have y3:=(below_alloc ((w.alloc (.cells #[.bool b1,.slice aa n1 ca] 24)).alloc (.cells #[.bool b2,.slice ab n2 cb] 24)) (.cells #[.bool false,.slice none 0 0] 24)).block w.heap.size (by omega)
 have y4:=(below_alloc ((w.alloc (.cells #[.bool b1,.slice aa n1 ca] 24)).alloc (.cells #[.bool b2,.slice ab n2 cb] 24)) (.cells #[.bool false,.slice none 0 0] 24)).block (w.heap.size + 1) (by omega)
 exact ⟨y3.trans (y2.trans x1),y4.trans x2,x3⟩
theorem V3_cells {w w':World} {b1 b2:Bool} {aa ab:Option Addr} {n1 n2 ca cb:Nat} (hb:Below (V3 w b1 b2 aa ab n1 n2 ca cb).heap.size (V3 w b1 b2 aa ab n1 n2 ca cb) w') :
  (w'.cell? ⟨w.heap.size,0,none⟩=some (.bool b1)∧w'.cell? ⟨w.heap.size,1,none⟩=some (.slice aa n1 ca)∧w'.frozen? ⟨w.heap.size,0,none⟩=false∧w'.frozen? ⟨w.heap.size,1,none⟩=false) ∧
  (w'.cell? ⟨w.heap.size + 1,0,none⟩=some (.bool b2)∧w'.cell? ⟨w.heap.size + 1,1,none⟩=some (.slice ab n2 cb)∧w'.frozen? ⟨w.heap.size + 1,0,none⟩=false∧w'.frozen? ⟨w.heap.size + 1,1,none⟩=false) ∧
  (w'.cell? ⟨w.heap.size + 2,0,none⟩=some (.bool false)∧w'.cell? ⟨w.heap.size + 2,1,none⟩=some (.slice none 0 0)∧w'.frozen? ⟨w.heap.size + 2,0,none⟩=false∧w'.frozen? ⟨w.heap.size + 2,1,none⟩=false):=by
 obtain ⟨h1,h2,h3⟩:=V3_heap w b1 b2 aa ab n1 n2 ca cb
 exact ⟨pair_cells h1 hb,pair_cells h2 hb,pair_cells h3 hb⟩

theorem itrim_any (b:Bool) (ao:Option Addr) (c:Nat) (xs:List Nat) (w:World) (h:Rd w ao c xs) (hl:xs.length≤17592186044416) :
  Calls Tryz.prog 203 #[.agg #[.bool b,.slice ao xs.length c]] w (RetInt w.heap.size (iv b (val xs)) w):=by
 have hb1:=below_alloc w (.cells #[.bool b,.slice ao xs.length c] 24)
 have hle:=h.le
 have hcm:=h.cm
 have hb2:=hb1.trans ((below_alloc (w.alloc (.cells #[.bool b,.slice ao xs.length c] 24)) (.cells #[.bool false,.slice none 0 0] 24)).mono hb1.size)
 have hb3:Below w.heap.size w ((w.alloc (.cells #[.bool b,.slice ao xs.length c] 24)).alloc (.cells #[.bool false,.slice none 0 0] 24)).drew:=hb2.drew
 have HT:=hid (trim_any ao c xs _ (h.below hb3) (by omega))
 have hP:((w.alloc (.cells #[.bool b,.slice ao xs.length c] 24)).alloc (.cells #[.bool false,.slice none 0 0] 24)).drew.heap[w.heap.size + 1]?=some (.cells #[.bool false,.slice none 0 0] 24 (0,0)):=by
  have:=heap_alloc_at (w.alloc (.cells #[.bool b,.slice ao xs.length c] 24)) (.cells #[.bool false,.slice none 0 0] 24)
  rw [show (w.alloc (.cells #[.bool b,.slice ao xs.length c] 24)).heap.size=w.heap.size + 1 by simp] at this
  exact this
 have hP0:((w.alloc (.cells #[.bool b,.slice ao xs.length c] 24)).alloc (.cells #[.bool false,.slice none 0 0] 24)).drew.heap[w.heap.size]?=some (.cells #[.bool b,.slice ao xs.length c] 24 (0,0)):=by
  have h1:=heap_alloc_at w (.cells #[.bool b,.slice ao xs.length c] 24)
  exact ((below_alloc (w.alloc (.cells #[.bool b,.slice ao xs.length c] 24)) (.cells #[.bool false,.slice none 0 0] 24)).block w.heap.size (by simp)).trans h1
 have HP:=hid (And.intro hP0 hP)
 have HB:=hid hb3
 clear h hb1 hb2 hb3 hP hP0
 go_enter Tryz.func203,Tryz.ntmps203
 go_wp2_with fail
 go_region_held3 (fun w'=>w'.cell? ⟨w.heap.size,0,none⟩=some (.bool b)∧w'.cell? ⟨w.heap.size,1,none⟩=some (.slice ao xs.length c)) (go_keep) (first
  | (go_at_call 155; (with_reducible refine HT.out.mono ?_); rintro e w3 ⟨a3,c3,rfl,ho3,hb3⟩; obtain ⟨s0,s1,s2,s3⟩:=pair_cells HP.out.1 hb3)
  | (go_at_call 145; (with_reducible refine (signed_any _ b a3 c3 (val xs) w3 ho3).mono ?_); rintro e w4 ⟨a4,c4,rfl,ho4,hb4⟩; obtain ⟨s4,s5,s6,s7⟩:=pair_cells HP.out.1 (hb3.trans (hb4.mono hb3.size)); obtain ⟨k0,k1,k2,k3⟩:=pair_cells HP.out.2 (hb3.trans (hb4.mono hb3.size))))
 all_goals
  go_wp2
  have hsz:((w.alloc (.cells #[.bool b,.slice ao xs.length c] 24)).alloc (.cells #[.bool false,.slice none 0 0] 24)).drew.heap.size=w.heap.size + 2:=by simp [World.drew]
  refine bodyPost_ret (v:=.agg #[.bool (decide (iv b (val xs) < 0)),.slice a4 (nd (iv b (val xs)).natAbs).length c4]) (by simp [results,Tryz.results203,go_sem,k0,k1]) rfl ?_
  exact RetInt.fin ho4 (by omega) (HB.out.trans ((hb3.trans (hb4.mono hb3.size)).mono (by omega))) (by omega) _ _


theorem rgcd2_any (b1 b2:Bool) (aa ab:Option Addr) (ca cb:Nat) (xs ys:List Nat) (w:World) (ha:Rd w aa ca xs) (hb:Rd w ab cb ys) (hl1:xs.length≤4398046511104) (hl2:ys.length≤4398046511104) :
  Calls Tryz.prog 162 #[.agg #[.bool b1,.slice aa xs.length ca],.agg #[.bool b2,.slice ab ys.length cb]] w (RetInt w.heap.size (iv false (Nat.gcd (val xs) (val ys))) w):=by
 have hle1:=ha.le
 have hcm1:=ha.cm
 have hle2:=hb.le
 have hcm2:=hb.cm
 have hB:=V3_below w b1 b2 aa ab xs.length ys.length ca cb
 have HM:=hid (rgcd_any aa ab ca cb xs ys _ (ha.below hB) (hb.below hB) hl1 hl2)
 have HC:=hid (fun w'=>V3_cells (w':=w') (w:=w) (b1:=b1) (b2:=b2) (aa:=aa) (ab:=ab) (n1:=xs.length) (n2:=ys.length) (ca:=ca) (cb:=cb))
 have HB:=hid hB
 have HSZ:=hid (V3_size w b1 b2 aa ab xs.length ys.length ca cb)
 unfold V3 at HM HC HB HSZ
 obtain ⟨G,hG⟩:∃ G,G=Nat.gcd (val xs) (val ys):=⟨_,rfl⟩
 rw [← hG] at HM ⊢
 have HN:=hid (And.intro (iv_abs false G) (iv_neg false G))
 clear ha hb hB hG
 go_enter Tryz.func162,Tryz.ntmps162
 go_wp2_with fail
 refine HM.out.mono ?_
 rintro e w3 ⟨a3,c3,rfl,o3,f3⟩
 obtain ⟨_,_,k0,k1,k2,k3⟩:=HC.out w3 f3
 have H3:=hid (And.intro o3 (HB.out.trans (f3.mono HB.out.size)))
 clear o3 f3
 go_wp2
 have hsz:=HSZ.out
 refine bodyPost_ret (v:=.agg #[.bool false,.slice a3 (nd G).length c3]) (by simp [results,Tryz.results162,go_sem,k0,k1]) rfl ?_
 exact RetInt.fin2 (by rw [HN.out.2]; rfl) HN.out.1 H3.out.1 (by omega) H3.out.2 (by omega) _ _


theorem rmul2_any (b1 b2:Bool) (aa ab:Option Addr) (ca cb:Nat) (xs ys:List Nat) (w:World) (ha:Rd w aa ca xs) (hb:Rd w ab cb ys) (hl1:xs.length≤4398046511104) (hl2:ys.length≤4398046511104) :
  Calls Tryz.prog 131 #[.agg #[.bool b1,.slice aa xs.length ca],.agg #[.bool b2,.slice ab ys.length cb]] w (RetInt w.heap.size (iv b1 (val xs) * iv b2 (val ys)) w):=by
 have hle1:=ha.le
 have hcm1:=ha.cm
 have hle2:=hb.le
 have hcm2:=hb.cm
 have HV:=hid (show iv (!(b1 == b2)) (val xs * val ys)=iv b1 (val xs) * iv b2 (val ys) by
  cases b1 <;> cases b2 <;> simp [iv,Int.neg_mul,Int.mul_neg])
 have hlm:=len_mul (u:=val xs) (v:=val ys) (Nat.le_trans (nd_length_le_of ha.dg) hl1) (Nat.le_trans (nd_length_le_of hb.dg) hl2)
 have HLM:=hid hlm
 have hB:=W3_below w b1 b2 aa ab xs.length ys.length ca cb
 have HM:=hid (rmul_any aa ab ca cb xs ys _ (ha.below hB) (hb.below hB) hl1 hl2)
 have HC:=hid (fun w'=>W3_cells (w':=w') (w:=w) (b1:=b1) (b2:=b2) (aa:=aa) (ab:=ab) (n1:=xs.length) (n2:=ys.length) (ca:=ca) (cb:=cb))
 have HB:=hid hB
 have HSZ:=hid (W3_size w b1 b2 aa ab xs.length ys.length ca cb)
 unfold W3 at HM HC HB HSZ
 have hn0:¬ (w.heap.size + 1 + 1=w.heap.size):=by omega
 have hn1:¬ (w.heap.size=w.heap.size + 1 + 1):=by omega
 have HTR:=hid (fun (w3:World) (a3:Option Addr) (c3:Nat) (h:Rd w3 a3 c3 (nd (val xs * val ys)))=>show Calls Tryz.prog 142 #[.agg #[.bool (!(b1 == b2)),.slice a3 (nd (val xs * val ys)).length c3]] w3 (RetInt w3.heap.size (iv (!(b1 == b2)) (val xs * val ys)) w3) from by
  have h2:=rtrim2_any (!(b1 == b2)) a3 c3 (nd (val xs * val ys)) w3 h (by have:=HLM.out; omega)
  rw [val_nd] at h2; exact h2)
 clear ha hb hB hlm
 go_enter Tryz.func131,Tryz.ntmps131
 go_wp2_with fail
 go_region_held3 (fun w'=>w'.cell? ⟨w.heap.size,0,none⟩=some (.bool b1)∧w'.cell? ⟨w.heap.size,1,none⟩=some (.slice aa xs.length ca)∧w'.cell? ⟨w.heap.size + 1,0,none⟩=some (.bool b2)∧w'.cell? ⟨w.heap.size + 1,1,none⟩=some (.slice ab ys.length cb)) (go_keep) (first
  | (go_at_call 142; (with_reducible refine (HTR.out w3 a3 c3 ho3.rd).mono ?_); rintro e w4 ⟨a4,c4,rfl,ho4,hb4⟩; obtain ⟨⟨s4,s5,s6,s7⟩,k0,k1,k2,k3⟩:=HC.out w4 (hb3.trans (hb4.mono hb3.size)))
  | (go_at_call 152; (with_reducible refine HM.out.mono ?_); rintro e w3 ⟨a3,c3,rfl,ho3,hb3⟩; obtain ⟨⟨s0,s1,s2,s3⟩,t0,t1,t2,t3⟩:=HC.out w3 hb3))
 all_goals
  go_wp2
  have hsz:=HSZ.out
  refine bodyPost_ret (v:=.agg #[.bool (decide (iv (!(b1 == b2)) (val xs * val ys) < 0)),.slice a4 (nd (iv (!(b1 == b2)) (val xs * val ys)).natAbs).length c4]) (by simp [results,Tryz.results131,go_sem,k0,k1]) rfl ?_
  rw [← HV.out]
  exact RetInt.fin ho4 (by have:=hb3.size; omega) (HB.out.trans ((hb3.trans (hb4.mono hb3.size)).mono (by omega))) (by omega) _ _


theorem rneg2_any (b:Bool) (ao:Option Addr) (c:Nat) (xs:List Nat) (w:World) (h:Rd w ao c xs) (hl:xs.length≤17592186044416) :
  Calls Tryz.prog 164 #[.agg #[.bool b,.slice ao xs.length c]] w (RetInt w.heap.size (-(iv b (val xs))) w):=by
 have hB:=W2_below w b ao xs.length c
 have HT:=hid (rtrim2_any b ao c xs _ (h.below hB) hl)
 have HSZ:=hid (W2_size w b ao xs.length c)
 have HB:=hid hB
 have x1:=heap_alloc_at w (.cells #[.bool b,.slice ao xs.length c] 24)
 have z1:(w.alloc (.cells #[.bool b,.slice ao xs.length c] 24)).heap.size=w.heap.size + 1:=by simp
 have x2:=heap_alloc_at (w.alloc (.cells #[.bool b,.slice ao xs.length c] 24)) (.cells #[.bool false,.slice none 0 0] 24)
 rw [z1] at x2
 have y2:=((below_alloc (w.alloc (.cells #[.bool b,.slice ao xs.length c] 24)) (.cells #[.bool false,.slice none 0 0] 24)).block w.heap.size (by omega)).trans x1
 have HP:=hid (fun w' hb=>And.intro (pair_cells (w':=w') y2 hb) (pair_cells x2 hb))
 unfold W2 at HT HSZ HB
 obtain ⟨z,hz⟩:∃ z,z=iv b (val xs):=⟨_,rfl⟩
 rw [← hz] at HT ⊢
 clear h hB x1 z1 x2 y2 hz
 have hn0:¬ (w.heap.size + 1=w.heap.size):=by omega
 have hn1:¬ (w.heap.size=w.heap.size + 1):=by omega
 obtain ⟨⟨s0,s1,s2,s3⟩,_⟩:=HP.out _ (Below.refl _ _)
 rcases (by omega:z < 0 ∨ z=0 ∨ 0 < z) with hz | hz | hz
 ·have hd:decide (z < 0)=true:=by simp; omega
  have HR:=hid (show decide (-z < 0)=false by simp; omega)
  clear hz
  go_enter Tryz.func164,Tryz.ntmps164
  go_wp2_with fail
  refine HT.out.mono ?_
  rintro e w3 ⟨a3,c3,rfl,o3,f3⟩
  clear s0 s1 s2 s3
  obtain ⟨⟨k0,k1,k2,k3⟩,t0,t1,t2,t3⟩:=HP.out w3 f3
  have H3:=hid (And.intro (o3.mono (show w.heap.size + 2≤_ from Nat.le_of_eq HSZ.out.symm)) (HB.out.trans (f3.mono HB.out.size)))
  clear o3 f3
  rw [hd]
  clear hd
  go_wp2
  refine bodyPost_ret (v:=.agg #[.bool false,.slice a3 (nd z.natAbs).length c3]) (by simp [results,Tryz.results164,go_sem,t0,t1]) rfl ?_
  refine ⟨a3,c3,by rw [Int.natAbs_neg,HR.out],?_,?_⟩
  ·rw [Int.natAbs_neg]
   refine Own.mono ?_ (show w.heap.size≤w.heap.size + 2 by omega)
   repeat refine Own.setOld ?_ (by omega) _
   exact H3.out.1
  ·repeat refine Below.setCell (p:=⟨_,_,none⟩) ?_ (by dsimp only; omega) _
   exact H3.out.2
 ·have hd:decide (z < 0)=false:=by simp; omega
  have HR:=hid (show decide (-z < 0)=false by simp; omega)
  have hg:¬ (0 < ((nd z.natAbs).length:Int)):=by rw [hz,show nd (0:Int).natAbs = [] from nd_zero]; simp
  have HN:=hid (show nd z.natAbs = [] by rw [hz]; exact nd_zero)
  clear hz
  go_enter Tryz.func164,Tryz.ntmps164
  go_wp2_with fail
  refine HT.out.mono ?_
  rintro e w3 ⟨a3,c3,rfl,o3,f3⟩
  clear s0 s1 s2 s3
  obtain ⟨⟨k0,k1,k2,k3⟩,t0,t1,t2,t3⟩:=HP.out w3 f3
  have H3:=hid (And.intro (o3.mono (show w.heap.size + 2≤_ from Nat.le_of_eq HSZ.out.symm)) (HB.out.trans (f3.mono HB.out.size)))
  clear o3 f3
  rw [hd]
  clear hd
  go_wp2
  refine bodyPost_ret (v:=.agg #[.bool false,.slice a3 (nd z.natAbs).length c3]) (by simp [results,Tryz.results164,go_sem,t0,t1,HN.out]) rfl ?_
  refine ⟨a3,c3,by rw [Int.natAbs_neg,HR.out],?_,?_⟩
  ·rw [Int.natAbs_neg]
   refine Own.mono ?_ (show w.heap.size≤w.heap.size + 2 by omega)
   repeat refine Own.setOld ?_ (by omega) _
   exact H3.out.1
  ·repeat refine Below.setCell (p:=⟨_,_,none⟩) ?_ (by dsimp only; omega) _
   exact H3.out.2
 ·have hd:decide (z < 0)=false:=by simp; omega
  have HR:=hid (show decide (-z < 0)=true by simp; omega)
  have hg : 0 < ((nd z.natAbs).length:Int):=by
   have h1:(nd z.natAbs).length≠0:=fun h=>by have:=nd_eq_nil.1 (List.eq_nil_of_length_eq_zero h); omega
   omega
  have HN:=hid (show 0 < (nd z.natAbs).length by omega)
  clear hz
  go_enter Tryz.func164,Tryz.ntmps164
  go_wp2_with fail
  refine HT.out.mono ?_
  rintro e w3 ⟨a3,c3,rfl,o3,f3⟩
  clear s0 s1 s2 s3
  obtain ⟨⟨k0,k1,k2,k3⟩,t0,t1,t2,t3⟩:=HP.out w3 f3
  have H3:=hid (And.intro (o3.mono (show w.heap.size + 2≤_ from Nat.le_of_eq HSZ.out.symm)) (HB.out.trans (f3.mono HB.out.size)))
  clear o3 f3
  rw [hd]
  clear hd
  go_wp2
  refine bodyPost_ret (v:=.agg #[.bool true,.slice a3 (nd z.natAbs).length c3]) (by simp [results,Tryz.results164,go_sem,t0,t1,HN.out]) rfl ?_
  refine ⟨a3,c3,by rw [Int.natAbs_neg,HR.out],?_,?_⟩
  ·rw [Int.natAbs_neg]
   refine Own.mono ?_ (show w.heap.size≤w.heap.size + 2 by omega)
   repeat refine Own.setOld ?_ (by omega) _
   exact H3.out.1
  ·repeat refine Below.setCell (p:=⟨_,_,none⟩) ?_ (by dsimp only; omega) _
   exact H3.out.2
end Go.Proofs.YtcankknlbljicaaGreatDoor

namespace Go.Proofs.YtcankknlbljicaaGreatDoor
open Go.RowKit Num

def AddS (w wx:World) (A B:Int) (a1 a2:Option Addr) (c1 c2:Nat):Prop :=
 wx.heap[w.heap.size]?=some (.cells #[.bool (decide (A < 0)),.slice a1 (nd A.natAbs).length c1] 24 (0,0))∧wx.heap[w.heap.size + 1]?=some (.cells #[.bool (decide (B < 0)),.slice a2 (nd B.natAbs).length c2] 24 (0,0)) ∧
 wx.heap[w.heap.size + 2]?=some (.cells #[.bool false,.slice none 0 0] 24 (0,0)) ∧
 Own (w.heap.size + 3) wx a1 c1 (nd A.natAbs)∧Own (w.heap.size + 3) wx a2 c2 (nd B.natAbs)∧Below w.heap.size w wx∧w.heap.size + 3≤wx.heap.size
theorem AddS.of {w w4:World} {A B:Int} {a1 a2:Option Addr} {c1 c2:Nat} {p1 p2 p3 p4:Value}
  (h0:w4.heap[w.heap.size]?=some (.cells #[p1,p2] 24 (0,0))) (h1:w4.heap[w.heap.size + 1]?=some (.cells #[p3,p4] 24 (0,0)))
  (h2:w4.heap[w.heap.size + 2]?=some (.cells #[.bool false,.slice none 0 0] 24 (0,0)))
  (o1:Own (w.heap.size + 3) w4 a1 c1 (nd A.natAbs)) (o2:Own (w.heap.size + 3) w4 a2 c2 (nd B.natAbs)) (hb:Below w.heap.size w w4) (hs:w.heap.size + 3≤w4.heap.size) :
  AddS w ((((w4.setCell ⟨w.heap.size,0,none⟩ (.bool (decide (A < 0)))).setCell ⟨w.heap.size,1,none⟩ (.slice a1 (nd A.natAbs).length c1)).setCell ⟨w.heap.size + 1,0,none⟩ (.bool (decide (B < 0)))).setCell ⟨w.heap.size + 1,1,none⟩ (.slice a2 (nd B.natAbs).length c2)) A B a1 a2 c1 c2:=by
 have n1:w.heap.size≠w.heap.size + 1:=by omega
 have n2:w.heap.size + 1≠w.heap.size:=by omega
 refine ⟨?_,?_,?_,(((o1.setOld (by omega) _).setOld (by omega) _).setOld (by omega) _).setOld (by omega) _,(((o2.setOld (by omega) _).setOld (by omega) _).setOld (by omega) _).setOld (by omega) _,(((hb.setCell (p:=⟨w.heap.size,0,none⟩) (Nat.le_refl _) _).setCell (p:=⟨w.heap.size,1,none⟩) (Nat.le_refl _) _).setCell (p:=⟨w.heap.size + 1,0,none⟩) (Nat.le_succ _) _).setCell (p:=⟨w.heap.size + 1,1,none⟩) (Nat.le_succ _) _,?_⟩
 ·rw [Below.heap_setCell _ ⟨w.heap.size + 1,1,none⟩ _ _ n1,Below.heap_setCell _ ⟨w.heap.size + 1,0,none⟩ _ _ n1]
  exact Go.Joins.block_setCell (i:=1) (Go.Joins.block_setCell (i:=0) h0 _) _
 ·have h1':((w4.setCell ⟨w.heap.size,0,none⟩ (.bool (decide (A < 0)))).setCell ⟨w.heap.size,1,none⟩ (.slice a1 (nd A.natAbs).length c1)).heap[w.heap.size + 1]?=some (.cells #[p3,p4] 24 (0,0)):=by
   rw [Below.heap_setCell _ ⟨w.heap.size,1,none⟩ _ _ n2,Below.heap_setCell _ ⟨w.heap.size,0,none⟩ _ _ n2]; exact h1
  exact Go.Joins.block_setCell (i:=1) (Go.Joins.block_setCell (i:=0) h1' _) _
 ·rw [Below.heap_setCell _ ⟨w.heap.size + 1,1,none⟩ _ _ (show w.heap.size + 2≠w.heap.size + 1 by omega),Below.heap_setCell _ ⟨w.heap.size + 1,0,none⟩ _ _ (show w.heap.size + 2≠w.heap.size + 1 by omega),Below.heap_setCell _ ⟨w.heap.size,1,none⟩ _ _ (show w.heap.size + 2≠w.heap.size by omega),Below.heap_setCell _ ⟨w.heap.size,0,none⟩ _ _ (show w.heap.size + 2≠w.heap.size by omega)]
  exact h2
 ·rw [setCell_size,setCell_size,setCell_size,setCell_size]; exact hs

set_option maxHeartbeats 6400000 in
theorem radd2_any (b1 b2:Bool) (aa ab:Option Addr) (ca cb:Nat) (xs ys:List Nat) (w:World) (ha:Rd w aa ca xs) (hb:Rd w ab cb ys) (hl1:xs.length≤4398046511104) (hl2:ys.length≤4398046511104) :
  Calls Tryz.prog 132 #[.agg #[.bool b1,.slice aa xs.length ca],.agg #[.bool b2,.slice ab ys.length cb]] w (RetInt w.heap.size (iv b1 (val xs) + iv b2 (val ys)) w):=by
 have hB:=V3_below w b1 b2 aa ab xs.length ys.length ca cb
 have HC:=hid (fun w'=>V3_cells (w':=w') (w:=w) (b1:=b1) (b2:=b2) (aa:=aa) (ab:=ab) (n1:=xs.length) (n2:=ys.length) (ca:=ca) (cb:=cb))
 have HH:=hid (V3_heap w b1 b2 aa ab xs.length ys.length ca cb)
 have HSZ:=hid (V3_size w b1 b2 aa ab xs.length ys.length ca cb)
 have HB:=hid hB
 have hT1:=rtrim2_any b1 aa ca xs (V3 w b1 b2 aa ab xs.length ys.length ca cb).drew ((ha.below hB).keep fun _ _ h=>h) (by omega)
 have HT2:=hid (fun w' (h:Rd w' ab cb ys)=>rtrim2_any b2 ab cb ys w' h (by omega))
 have HBB:=hid (hb.below hB)
 have lA:(nd (iv b1 (val xs)).natAbs).length≤4398046511104:=by rw [iv_abs]; exact Nat.le_trans (nd_length_le_of ha.dg) hl1
 have lB:(nd (iv b2 (val ys)).natAbs).length≤4398046511104:=by rw [iv_abs]; exact Nat.le_trans (nd_length_le_of hb.dg) hl2
 obtain ⟨A,hA⟩:∃ A,A=iv b1 (val xs):=⟨_,rfl⟩
 obtain ⟨B,hBv⟩:∃ B,B=iv b2 (val ys):=⟨_,rfl⟩
 rw [← hA] at hT1 lA
 rw [← hBv] at lB
 simp only [← hBv] at HT2
 have HT1:=hid hT1
 rw [← hA,← hBv]
 unfold V3 at HT1 HC HSZ HB HH HBB
 clear ha hb hB hT1 hl1 hl2 hA hBv
 have hn0:¬ (w.heap.size + 1=w.heap.size):=by omega
 have hn1:¬ (w.heap.size=w.heap.size + 1):=by omega
 go_enter Tryz.func132,Tryz.ntmps132
 go_wp2_with fail
 go_upto_region 1 with fail
 go_cut [5] from 5 to 8 (fun _ wx=>∃ a1 c1 a2 c2,Hid (AddS w wx A B a1 a2 c1 c2))
 case first =>
  obtain ⟨w0,hw0⟩:∃ x,x=(((w.alloc (.cells #[.bool b1,.slice aa xs.length ca] 24)).alloc (.cells #[.bool b2,.slice ab ys.length cb] 24)).alloc (.cells #[.bool false,.slice none 0 0] 24)):=⟨_,rfl⟩
  rw [← hw0] at HT1 HC HSZ HB HH HBB ⊢
  clear hw0
  obtain ⟨⟨s0,s1,_,_⟩,⟨s2,s3,_,_⟩,_⟩:=HC.out w0 (Below.refl _ _)
  go_region_with (first
   | (go_at_call 142; (with_reducible refine HT1.out.mono ?_); rintro e w3 ⟨a3,c3,rfl,o3,f3⟩; obtain ⟨⟨r0,r1,_,_⟩,⟨r2,r3,_,_⟩,_⟩:=HC.out w3 (below_undrew f3); have HT2':=hid (HT2.out w3 (HBB.out.below (below_undrew f3))))
   | (go_at_call 142; (with_reducible refine HT2'.out.mono ?_); rintro e w4 ⟨a4,c4,rfl,o4,f4⟩; have f34:=below_undrew (f3.trans (f4.mono f3.size)); obtain ⟨t0,t1,j0,j1⟩:=pair_cells HH.out.1 f34; obtain ⟨t2,t3,j2,j3⟩:=pair_cells HH.out.2.1 f34))
  all_goals
   have hz:=HSZ.out
   have q0:=(f34.block w.heap.size (by omega)).trans HH.out.1
   have q1:=(f34.block (w.heap.size + 1) (by omega)).trans HH.out.2.1
   have q2:=(f34.block (w.heap.size + 2) (by omega)).trans HH.out.2.2
   have hz0:w0.drew.heap.size=w0.heap.size:=rfl
   have hf3:=f3.size
   have hf34:=f34.size
   have HD:=hid (AddS.of q0 q1 q2 ((o3.below f4).mono (by omega)) (o4.mono (by omega)) (HB.out.trans (f34.mono HB.out.size)) (by omega))
   clear q0 q1 q2
   go_wp2
   go_meet
   exact ⟨a3,c3,a4,c4,HD⟩
 case rest =>
  obtain ⟨a1,c1,a2,c2,HS⟩:=hcut
  obtain ⟨q0,q1,q2,o1,o2,hbw,hsz⟩:=HS.out
  have HP:=hid (fun w' (h:Below wc.heap.size wc w')=>And.intro (pair_cells q0 h) (And.intro (pair_cells q1 h) (pair_cells q2 h)))
  obtain ⟨⟨s0,s1,_,_⟩,⟨s2,s3,_,_⟩,_⟩:=HP.out wc (Below.refl _ _)
  obtain ⟨x,hx⟩:∃ x,x=A.natAbs:=⟨_,rfl⟩
  obtain ⟨y,hy⟩:∃ y,y=B.natAbs:=⟨_,rfl⟩
  obtain ⟨p,hp⟩:∃ p,p=decide (A < 0):=⟨_,rfl⟩
  obtain ⟨s,hs⟩:∃ s,s=decide (B < 0):=⟨_,rfl⟩
  have eA:iv p x=A:=by rw [hp,hx]; exact iv_self A
  have eB:iv s y=B:=by rw [hs,hy]; exact iv_self B
  rw [← hx] at lA o1 s1 HP
  rw [← hy] at lB o2 s3 HP
  rw [← hp] at s0 HP
  rw [← hs] at s2 HP
  have HE:=hid (And.intro eA eB)
  have hn2:¬ (w.heap.size + 1 + 1=w.heap.size):=by omega
  have hn3:¬ (w.heap.size=w.heap.size + 1 + 1):=by omega
  have HB2:=hid (And.intro hbw hsz)
  have O12:=hid (And.intro o1 o2)
  clear HT1 HT2 HBB HC HSZ HB HH hx hy hp hs q0 q1 q2 hbw hsz HS hn0 hn1 eA eB o1 o2
  have b0:=below_drewI wc.heap.size wc
  by_cases hps:p=s
  ·subst hps
   have hlv:(nd (x + y)).length≤17592186044416:=by
    have h1:=len_add (u:=x) (v:=y) lA lB
    omega
   have hee:(p == p)=true:=by simp
   have had:=radd_any a1 a2 c1 c2 (nd x) (nd y) wc.drew (O12.out.1.rd.below b0) (O12.out.2.rd.below b0) (by omega) (by omega)
   rw [val_nd,val_nd] at had
   have HAD:=hid had
   have HV:=hid (show iv p (x + y)=A + B by rw [iadd_same,HE.out.1,HE.out.2])
   clear had
   have HTR:=hid (fun w3 a3 c3 (h:Rd w3 a3 c3 (nd (x + y)))=>show Calls Tryz.prog 142 #[.agg #[.bool (p),.slice a3 (nd (x + y)).length c3]] w3 (RetInt w3.heap.size (iv (p) (x + y)) w3) from by
    have h2:=rtrim2_any (p) a3 c3 (nd (x + y)) w3 h hlv
    rw [val_nd] at h2; exact h2)
   go_wp2_with fail
   go_region_held3 (fun w'=>w'.cell? ⟨w.heap.size,0,none⟩=some (.bool p)∧w'.cell? ⟨w.heap.size,1,none⟩=some (.slice a1 (nd x).length c1)∧w'.cell? ⟨w.heap.size + 1,0,none⟩=some (.bool p)∧w'.cell? ⟨w.heap.size + 1,1,none⟩=some (.slice a2 (nd y).length c2)) (go_keep) (first
    | (go_at_call 142; (with_reducible refine (HTR.out w3 a3 c3 o3.rd).mono ?_); rintro e w4 ⟨a4,c4,rfl,o4,f4⟩; have f34:=f3.trans (f4.mono f3.size); obtain ⟨⟨r4,r5,_,_⟩,⟨r6,r7,_,_⟩,k0,k1,k2,k3⟩:=HP.out w4 (below_undrew f34))
    | (go_at_call 151; (with_reducible refine HAD.out.mono ?_); rintro e w3 ⟨a3,c3,rfl,o3,f3⟩; obtain ⟨⟨r0,r1,_,_⟩,⟨r2,r3,_,_⟩,_⟩:=HP.out w3 (below_undrew f3)))
   all_goals
    go_wp2
    have hs1:=HB2.out.2
    have hs2:=(below_undrew f34).size
    have hs3:=(below_undrew f3).size
    refine bodyPost_ret (v:=.agg #[.bool (decide (iv (p) (x + y) < 0)),.slice a4 (nd (iv (p) (x + y)).natAbs).length c4]) (by simp [results,Tryz.results132,go_sem,k0,k1]) rfl ?_
    rw [← HV.out]
    exact RetInt.fin o4 (by omega) (HB2.out.1.trans ((below_undrew f34).mono HB2.out.1.size)) (by omega) _ _
  ·obtain rfl:s = !p:=by cases p <;> cases s <;> simp_all
   have hee:(p == !p)=false:=by cases p <;> rfl
   have hcm:=rcompare_any a1 a2 c1 c2 (nd x) (nd y) wc O12.out.1.rd O12.out.2.rd (by omega) (by omega)
   rw [val_nd,val_nd] at hcm
   clear hps
   by_cases hxy:x < y
   ·have hr:cmpN x y = -1:=by rw [cmpN,if_pos hxy]
    rw [hr] at hcm
    have HCM:=hid hcm
    have hlv:(nd (y - x)).length≤17592186044416:=Nat.le_trans (nd_length_mono (Nat.sub_le y x)) (by omega)
    have HV:=hid (show iv (!p) (y - x)=A + B by rw [iadd_less p x y (Nat.le_of_lt hxy),HE.out.1,HE.out.2])
    clear hcm hr hxy
    go_wp2_with fail
    refine HCM.out.mono ?_
    rintro e wk ⟨rfl,fk⟩
    have bk:=fk.trans (below_drewI wc.heap.size wk)
    clear s0 s1 s2 s3 HCM
    obtain ⟨⟨s0,s1,_,_⟩,⟨s2,s3,_,_⟩,_⟩:=HP.out wk fk
    have had:=rsub_any a2 a1 c2 c1 (nd y) (nd x) wk.drew (O12.out.2.rd.below bk) (O12.out.1.rd.below bk) (by omega) (by omega)
    rw [val_nd,val_nd] at had
    have HAD:=hid had
    clear had
    have HTR:=hid (fun w3 a3 c3 (h:Rd w3 a3 c3 (nd (y - x)))=>show Calls Tryz.prog 142 #[.agg #[.bool (!p),.slice a3 (nd (y - x)).length c3]] w3 (RetInt w3.heap.size (iv (!p) (y - x)) w3) from by
     have h2:=rtrim2_any (!p) a3 c3 (nd (y - x)) w3 h hlv
     rw [val_nd] at h2; exact h2)
    go_wp2_with fail
    go_region_held3 (fun w'=>w'.cell? ⟨w.heap.size,0,none⟩=some (.bool p)∧w'.cell? ⟨w.heap.size,1,none⟩=some (.slice a1 (nd x).length c1)∧w'.cell? ⟨w.heap.size + 1,0,none⟩=some (.bool (!p))∧w'.cell? ⟨w.heap.size + 1,1,none⟩=some (.slice a2 (nd y).length c2)) (go_keep) (first
     | (go_at_call 142; (with_reducible refine (HTR.out w3 a3 c3 o3.rd).mono ?_); rintro e w4 ⟨a4,c4,rfl,o4,f4⟩; have f34:=f3.trans (f4.mono f3.size); obtain ⟨⟨r4,r5,_,_⟩,⟨r6,r7,_,_⟩,k0,k1,k2,k3⟩:=HP.out w4 (fk.trans ((below_undrew f34).mono fk.size)))
     | (go_at_call 189; (with_reducible refine HAD.out.mono ?_); rintro e w3 ⟨a3,c3,rfl,o3,f3⟩; obtain ⟨⟨r0,r1,_,_⟩,⟨r2,r3,_,_⟩,_⟩:=HP.out w3 (fk.trans ((below_undrew f3).mono fk.size))))
    all_goals
     go_wp2
     have hs1:=HB2.out.2
     have hs2:=(fk.trans ((below_undrew f34).mono fk.size)).size
     have hs3:=(fk.trans ((below_undrew f3).mono fk.size)).size
     refine bodyPost_ret (v:=.agg #[.bool (decide (iv (!p) (y - x) < 0)),.slice a4 (nd (iv (!p) (y - x)).natAbs).length c4]) (by simp [results,Tryz.results132,go_sem,k0,k1]) rfl ?_
     rw [← HV.out]
     exact RetInt.fin o4 (by omega) (HB2.out.1.trans ((fk.trans ((below_undrew f34).mono fk.size)).mono HB2.out.1.size)) (by omega) _ _
   ·obtain ⟨r,hr⟩:∃ r,r=cmpN x y:=⟨_,rfl⟩
    have hr0:r ≥ 0:=by rw [hr,cmpN,if_neg hxy]; split <;> omega
    rw [← hr] at hcm
    have HCM:=hid hcm
    have hlv:(nd (x - y)).length≤17592186044416:=Nat.le_trans (nd_length_mono (Nat.sub_le x y)) (by omega)
    have HV:=hid (show iv p (x - y)=A + B by rw [iadd_more p x y (by omega),HE.out.1,HE.out.2])
    clear hcm hr hxy
    go_wp2_with fail
    refine HCM.out.mono ?_
    rintro e wk ⟨rfl,fk⟩
    have bk:=fk.trans (below_drewI wc.heap.size wk)
    clear s0 s1 s2 s3 HCM
    obtain ⟨⟨s0,s1,_,_⟩,⟨s2,s3,_,_⟩,_⟩:=HP.out wk fk
    have had:=rsub_any a1 a2 c1 c2 (nd x) (nd y) wk.drew (O12.out.1.rd.below bk) (O12.out.2.rd.below bk) (by omega) (by omega)
    rw [val_nd,val_nd] at had
    have HAD:=hid had
    clear had
    have HTR:=hid (fun w3 a3 c3 (h:Rd w3 a3 c3 (nd (x - y)))=>show Calls Tryz.prog 142 #[.agg #[.bool (p),.slice a3 (nd (x - y)).length c3]] w3 (RetInt w3.heap.size (iv (p) (x - y)) w3) from by
     have h2:=rtrim2_any (p) a3 c3 (nd (x - y)) w3 h hlv
     rw [val_nd] at h2; exact h2)
    go_wp2_with fail
    go_region_held3 (fun w'=>w'.cell? ⟨w.heap.size,0,none⟩=some (.bool p)∧w'.cell? ⟨w.heap.size,1,none⟩=some (.slice a1 (nd x).length c1)∧w'.cell? ⟨w.heap.size + 1,0,none⟩=some (.bool (!p))∧w'.cell? ⟨w.heap.size + 1,1,none⟩=some (.slice a2 (nd y).length c2)) (go_keep) (first
     | (go_at_call 142; (with_reducible refine (HTR.out w3 a3 c3 o3.rd).mono ?_); rintro e w4 ⟨a4,c4,rfl,o4,f4⟩; have f34:=f3.trans (f4.mono f3.size); obtain ⟨⟨r4,r5,_,_⟩,⟨r6,r7,_,_⟩,k0,k1,k2,k3⟩:=HP.out w4 (fk.trans ((below_undrew f34).mono fk.size)))
     | (go_at_call 189; (with_reducible refine HAD.out.mono ?_); rintro e w3 ⟨a3,c3,rfl,o3,f3⟩; obtain ⟨⟨r0,r1,_,_⟩,⟨r2,r3,_,_⟩,_⟩:=HP.out w3 (fk.trans ((below_undrew f3).mono fk.size))))
    all_goals
     go_wp2
     have hs1:=HB2.out.2
     have hs2:=(fk.trans ((below_undrew f34).mono fk.size)).size
     have hs3:=(fk.trans ((below_undrew f3).mono fk.size)).size
     refine bodyPost_ret (v:=.agg #[.bool (decide (iv (p) (x - y) < 0)),.slice a4 (nd (iv (p) (x - y)).natAbs).length c4]) (by simp [results,Tryz.results132,go_sem,k0,k1]) rfl ?_
     rw [← HV.out]
     exact RetInt.fin o4 (by omega) (HB2.out.1.trans ((fk.trans ((below_undrew f34).mono fk.size)).mono HB2.out.1.size)) (by omega) _ _

theorem rsub2_any (b1 b2:Bool) (aa ab:Option Addr) (ca cb:Nat) (xs ys:List Nat) (w:World) (ha:Rd w aa ca xs) (hb:Rd w ab cb ys) (hl1:xs.length≤4398046511104) (hl2:ys.length≤4398046511104) :
  Calls Tryz.prog 187 #[.agg #[.bool b1,.slice aa xs.length ca],.agg #[.bool b2,.slice ab ys.length cb]] w (RetInt w.heap.size (iv b1 (val xs) - iv b2 (val ys)) w):=by
 have hle1:=ha.le
 have hcm1:=ha.cm
 have hle2:=hb.le
 have hcm2:=hb.cm
 have hB:Below w.heap.size w (V3 w b1 b2 aa ab xs.length ys.length ca cb).drew:=(V3_below w b1 b2 aa ab xs.length ys.length ca cb).drew
 have HN:=hid (rneg2_any b2 ab cb ys _ (hb.below hB) (by omega))
 have HC:=hid (fun w' (h:Below (V3 w b1 b2 aa ab xs.length ys.length ca cb).drew.heap.size (V3 w b1 b2 aa ab xs.length ys.length ca cb).drew w')=>V3_cells (w':=w') (w:=w) (b1:=b1) (b2:=b2) (aa:=aa) (ab:=ab) (n1:=xs.length) (n2:=ys.length) (ca:=ca) (cb:=cb) (below_undrew h))
 have HB:=hid hB
 have HSZ:=hid (show (V3 w b1 b2 aa ab xs.length ys.length ca cb).drew.heap.size=w.heap.size + 3 from V3_size w b1 b2 aa ab xs.length ys.length ca cb)
 obtain ⟨B,hBv⟩:∃ B,B = -(iv b2 (val ys)):=⟨_,rfl⟩
 have lB:(nd B.natAbs).length≤4398046511104:=by rw [hBv,Int.natAbs_neg,iv_abs]; exact Nat.le_trans (nd_length_le_of hb.dg) hl2
 rw [← hBv] at HN
 have HV:=hid (show iv b1 (val xs) + B=iv b1 (val xs) - iv b2 (val ys) by rw [hBv]; omega)
 have HA:=hid (ha.below hB)
 unfold V3 at HN HC HB HSZ HA
 clear ha hb hB hBv
 have hn2:¬ (w.heap.size + 1 + 1=w.heap.size):=by omega
 have hn3:¬ (w.heap.size=w.heap.size + 1 + 1):=by omega
 go_enter Tryz.func187,Tryz.ntmps187
 go_wp2_with fail
 obtain ⟨w0,hw0⟩:∃ x,x=(((w.alloc (.cells #[.bool b1,.slice aa xs.length ca] 24)).alloc (.cells #[.bool b2,.slice ab ys.length cb] 24)).alloc (.cells #[.bool false,.slice none 0 0] 24)):=⟨_,rfl⟩
 rw [← hw0] at HN HC HB HSZ HA ⊢
 clear hw0
 obtain ⟨⟨s0,s1,_,_⟩,⟨s2,s3,_,_⟩,_⟩:=HC.out w0.drew (Below.refl _ _)
 have z0:w0.cell? ⟨w.heap.size,0,none⟩=some (.bool b1):=s0
 have z1:w0.cell? ⟨w.heap.size,1,none⟩=some (.slice aa xs.length ca):=s1
 have z2:w0.cell? ⟨w.heap.size + 1,0,none⟩=some (.bool b2):=s2
 have z3:w0.cell? ⟨w.heap.size + 1,1,none⟩=some (.slice ab ys.length cb):=s3
 have HADD:=hid (fun w3 a3 c3 (h3:Rd w3 a3 c3 (nd B.natAbs)) (f:Below w0.drew.heap.size w0.drew w3)=>show Calls Tryz.prog 132 #[.agg #[.bool b1,.slice aa xs.length ca],.agg #[.bool (decide (B < 0)),.slice a3 (nd B.natAbs).length c3]] w3 (RetInt w3.heap.size (iv b1 (val xs) - iv b2 (val ys)) w3) from by
  have h:=radd2_any b1 (decide (B < 0)) aa a3 ca c3 xs (nd B.natAbs) w3 (HA.out.below f) h3 hl1 lB
  rw [val_nd,iv_self,HV.out] at h; exact h)
 go_region_held3 (fun w'=>w'.cell? ⟨w.heap.size,0,none⟩=some (.bool b1)∧w'.cell? ⟨w.heap.size,1,none⟩=some (.slice aa xs.length ca)∧w'.cell? ⟨w.heap.size + 1,0,none⟩=some (.bool b2)∧w'.cell? ⟨w.heap.size + 1,1,none⟩=some (.slice ab ys.length cb)) (go_keep) (first
  | (go_at_call 132; (with_reducible refine (HADD.out w3 a3 c3 o3.rd f3).mono ?_); rintro e w4 ⟨a4,c4,rfl,o4,f4⟩; have f34:=f3.trans (f4.mono f3.size); obtain ⟨⟨r4,r5,_,_⟩,⟨r6,r7,_,_⟩,k0,k1,k2,k3⟩:=HC.out w4 f34)
  | (go_at_call 164; (with_reducible refine HN.out.mono ?_); rintro e w3 ⟨a3,c3,rfl,o3,f3⟩; obtain ⟨⟨r0,r1,_,_⟩,⟨r2,r3,_,_⟩,_⟩:=HC.out w3 f3))
 all_goals
  go_wp2
  have hsz:=HSZ.out
  refine bodyPost_ret (v:=.agg #[.bool (decide (iv b1 (val xs) - iv b2 (val ys) < 0)),.slice a4 (nd (iv b1 (val xs) - iv b2 (val ys)).natAbs).length c4]) (by simp [results,Tryz.results187,go_sem,k0,k1]) rfl ?_
  exact RetInt.fin o4 (by have:=f3.size; omega) (HB.out.trans (f34.mono HB.out.size)) (by omega) _ _

theorem rcompare2_any (b1 b2:Bool) (aa ab:Option Addr) (ca cb:Nat) (xs ys:List Nat) (w:World) (ha:Rd w aa ca xs) (hb:Rd w ab cb ys) (hl1:xs.length≤4398046511104) (hl2:ys.length≤4398046511104) :
  Calls Tryz.prog 130 #[.agg #[.bool b1,.slice aa xs.length ca],.agg #[.bool b2,.slice ab ys.length cb]] w (RetB (.int .i64 (cmpI (iv b1 (val xs)) (iv b2 (val ys)))) w):=by
 have hB:=B2_below w b1 b2 aa ab xs.length ys.length ca cb
 have HS:=hid (rsub2_any b1 b2 aa ab ca cb xs ys _ (ha.below hB) (hb.below hB) hl1 hl2)
 have HB:=hid hB
 have hz:(nd (iv b1 (val xs) - iv b2 (val ys)).natAbs).length≤17592186044416:=by
  have h1:=len_add (u:=val xs) (v:=val ys) (Nat.le_trans (nd_length_le_of ha.dg) hl1) (Nat.le_trans (nd_length_le_of hb.dg) hl2)
  have h2:(iv b1 (val xs) - iv b2 (val ys)).natAbs≤val xs + val ys:=by cases b1 <;> cases b2 <;> simp [iv] <;> omega
  have h3:=nd_length_mono h2
  omega
 obtain ⟨z,hzv⟩:∃ z,z=iv b1 (val xs) - iv b2 (val ys):=⟨_,rfl⟩
 rw [cmpI_sub,← hzv]
 rw [← hzv] at HS hz
 unfold B2 at HS HB
 clear ha hb hB hzv
 go_enter Tryz.func130,Tryz.ntmps130
 go_wp2_with fail
 refine HS.out.mono ?_
 rintro e w3 ⟨a3,c3,rfl,o3,f3⟩
 have hsg:=rsign_any (decide (z < 0)) a3 c3 (nd z.natAbs) w3 o3.rd hz
 rw [val_nd,iv_self] at hsg
 have H3:=hid (HB.out.trans (f3.mono HB.out.size))
 clear o3 f3
 go_wp2_with fail
 refine hsg.mono ?_
 rintro e w4 ⟨rfl,f4⟩
 have H4:=hid (H3.out.trans (f4.mono H3.out.size))
 clear hsg f4
 go_wp2
 go_ret
 exact ⟨rfl,H4.out⟩
end Go.Proofs.YtcankknlbljicaaGreatDoor
