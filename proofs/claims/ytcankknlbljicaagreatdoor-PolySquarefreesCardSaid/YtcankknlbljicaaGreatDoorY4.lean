/-  -/
import Derived.Test.YtcankknlbljicaaGreatDoorY1

set_option linter.unusedVariables false
set_option linter.unusedSimpArgs false
set_option linter.unusedSectionVars false
set_option maxRecDepth 100000
set_option maxHeartbeats 3200000

namespace Go.Proofs.YtcankknlbljicaaGreatDoor
open Go.RowKit Num

end Go.Proofs.YtcankknlbljicaaGreatDoor

namespace Go.Proofs.YtcankknlbljicaaGreatDoor
open Go.RowKit Num

theorem RetFq.fin {g c d n:Nat} {bb:Bool} {q:Rat} {w w4:World} {ao ad:Option Addr} {xs ds:List Nat} {v0 v1 v2:Value} (hF:Fr (((w4.setCell ⟨g,0,none⟩ v0).setCell ⟨g,1,none⟩ v1).setCell ⟨g,2,none⟩ v2) bb ao c xs ad d ds q n) (hb:Below w.heap.size w w4) (hgw:w.heap.size≤g) :
  RetFq q n w (.returned (.agg #[.bool bb,.slice ao xs.length c,.slice ad ds.length d])) (((w4.setCell ⟨g,0,none⟩ v0).setCell ⟨g,1,none⟩ v1).setCell ⟨g,2,none⟩ v2) :=
 ⟨bb,ao,c,xs,ad,d,ds,rfl,hF,((hb.setCell (p:=⟨g,0,none⟩) hgw _).setCell (p:=⟨g,1,none⟩) hgw _).setCell (p:=⟨g,2,none⟩) hgw _⟩
theorem below3 {g:Nat} {w w4:World} (hb:Below w.heap.size w w4) (hgw:w.heap.size≤g) (v0 v1 v2:Value):Below w.heap.size w (((w4.setCell ⟨g,0,none⟩ v0).setCell ⟨g,1,none⟩ v1).setCell ⟨g,2,none⟩ v2) :=
 ((hb.setCell (p:=⟨g,0,none⟩) hgw _).setCell (p:=⟨g,1,none⟩) hgw _).setCell (p:=⟨g,2,none⟩) hgw _
theorem Own.set3 {B g c:Nat} {w:World} {ao:Option Addr} {xs:List Nat} (h:Own B w ao c xs) (hg:g < B) (v0 v1 v2:Value):Own B (((w.setCell ⟨g,0,none⟩ v0).setCell ⟨g,1,none⟩ v1).setCell ⟨g,2,none⟩ v2) ao c xs:=((h.setOld hg _).setOld hg _).setOld hg _
theorem sum_eq {z1 z2:Int} {d1 d2:Nat} {q1 q2:Rat} (h1:mkRat z1 d1=q1) (h2:mkRat z2 d2=q2) (hd:d1=d2) (h0:d1≠0):mkRat (z1 + z2) d1=q1 + q2:=by
 rw [← h1,← h2,← hd,rv_same h0]

theorem sum_same {b1:Bool} {ao1:Option Addr} {c1:Nat} {xs1:List Nat} {ad1:Option Addr} {d1:Nat} {ds1:List Nat} {q1:Rat} {n1:Nat} {b2:Bool} {ao2:Option Addr} {c2:Nat} {xs2:List Nat} {ad2:Option Addr} {d2:Nat} {ds2:List Nat} {q2:Rat} {n2:Nat} {w:World} (h1:Fr w b1 ao1 c1 xs1 ad1 d1 ds1 q1 n1) (h2:Fr w b2 ao2 c2 xs2 ad2 d2 ds2 q2 n2) (hn1:n1≤1000000000000) (hn2:n2≤1000000000000) (he:val ds1=val ds2) :
  Calls Tryz.prog 214 #[.agg #[.bool b1,.slice ao1 xs1.length c1,.slice ad1 ds1.length d1],.agg #[.bool b2,.slice ao2 xs2.length c2,.slice ad2 ds2.length d2]] w (RetFq (q1 + q2) (n1 + n2 + 3) w):=by
 have hle1a:=h1.rn.le
 have hcm1b:=h1.rn.cm
 have hle1c:=h1.rd.le
 have hcm1d:=h1.rd.cm
 have hle2a:=h2.rn.le
 have hcm2b:=h2.rn.cm
 have hle2c:=h2.rd.le
 have hcm2d:=h2.rd.cm
 have m1:=h1.ln
 have m2:=h2.ln
 have m3:=h1.ld
 have m4:=h2.ld
 have hB:=A3_below w (.cells #[.bool b1,.slice ao1 xs1.length c1,.slice ad1 ds1.length d1] 122) (.cells #[.bool b2,.slice ao2 xs2.length c2,.slice ad2 ds2.length d2] 122) (.cells #[.bool false,.slice none 0 0,.slice none 0 0] 122)
 have HH:=hid (A3_heap w (.cells #[.bool b1,.slice ao1 xs1.length c1,.slice ad1 ds1.length d1] 122) (.cells #[.bool b2,.slice ao2 xs2.length c2,.slice ad2 ds2.length d2] 122) (.cells #[.bool false,.slice none 0 0,.slice none 0 0] 122))
 have HSZ:=hid (A3_size w (.cells #[.bool b1,.slice ao1 xs1.length c1,.slice ad1 ds1.length d1] 122) (.cells #[.bool b2,.slice ao2 xs2.length c2,.slice ad2 ds2.length d2] 122) (.cells #[.bool false,.slice none 0 0,.slice none 0 0] 122))
 have HB:=hid hB
 have hc:=compare_any ad1 ad2 d1 d2 ds1 ds2 _ (h1.rd.below hB) (h2.rd.below hB)
 have hc0:cmpN (val ds1) (val ds2)=0:=by rw [he]; unfold cmpN; rw [if_neg (Nat.lt_irrefl _),if_neg (Nat.lt_irrefl _)]
 rw [hc0] at hc
 have HR:=hid (And.intro (h1.below hB) (h2.below hB))
 have HV:=hid (sum_eq h1.vq h2.vq he h1.nz)
 have HD:=hid h1.rd
 have H1:=hid h1
 obtain ⟨Z,hZ⟩:∃ Z,Z=iv b1 (val xs1) + iv b2 (val xs2):=⟨_,rfl⟩
 have hZl:(nd Z.natAbs).length≤n1 + n2 + 3:=by
  refine Nat.le_trans (nd_length_le (k:=n1 + n2 + 2 + 1) (Nat.lt_of_lt_of_le ?_ (pow_le_succ (n1 + n2 + 2)))) (by omega)
  have e1:=val_lt_of (k:=n1 + n2 + 2) h1.rn.dg (by omega)
  have e2:=val_lt_of (k:=n1 + n2 + 2) h2.rn.dg (by omega)
  have e4:=Int.natAbs_add_le (iv b1 (val xs1)) (iv b2 (val xs2))
  rw [iv_abs,iv_abs,← hZ] at e4
  omega
 rw [← hZ] at HV
 have HA:=hid (fun w' (hb:Below w.heap.size w w')=>show Calls Tryz.prog 236 #[.agg #[.bool b1,.slice ao1 xs1.length c1],.agg #[.bool b2,.slice ao2 xs2.length c2]] w' (RetInt w'.heap.size Z w') from hZ ▸ iadd_any b1 b2 ao1 ao2 c1 c2 xs1 xs2 w' (h1.rn.below hb) (h2.rn.below hb) (by omega) (by omega))
 unfold A3 at HH HSZ HB HR hc
 clear h1 h2 hB hc0 hZ he
 have n01:¬ (w.heap.size=w.heap.size + 1 + 1):=by omega
 have n02:¬ (w.heap.size + 1 + 1=w.heap.size):=by omega
 have n03:¬ (w.heap.size + 1=w.heap.size + 1 + 1):=by omega
 have n04:¬ (w.heap.size + 1 + 1=w.heap.size + 1):=by omega
 have n05:¬ (w.heap.size=w.heap.size + 1):=by omega
 have n06:¬ (w.heap.size + 1=w.heap.size):=by omega
 go_enter Tryz.func214,Tryz.ntmps214
 go_wp2_with fail
 obtain ⟨w0,hw0⟩:∃ x,x=(((w.alloc (.cells #[.bool b1,.slice ao1 xs1.length c1,.slice ad1 ds1.length d1] 122)).alloc (.cells #[.bool b2,.slice ao2 xs2.length c2,.slice ad2 ds2.length d2] 122)).alloc (.cells #[.bool false,.slice none 0 0,.slice none 0 0] 122)):=⟨_,rfl⟩
 rw [← hw0] at HH HSZ HB HR hc ⊢
 clear hw0
 refine hc.mono ?_
 rintro e w1 ⟨rfl,qd,rfl⟩
 have p0:Below w0.heap.size w0 (w0.drewN qd):=below_drewN w0 qd
 obtain ⟨s0,s1,s2,_⟩:=cells3 HH.out.1 p0
 obtain ⟨t0,t1,t2,_⟩:=cells3 HH.out.2.1 p0
 clear hc
 go_wp2_with fail
 obtain ⟨wd,hwd⟩:∃ x,x=w0.drewN qd:=⟨_,rfl⟩
 rw [← hwd] at p0 s0 s1 s2 t0 t1 t2 ⊢
 clear hwd
 have pp:=p0.drew
 go_region_held3 (fun w'=>w'.cell? ⟨w.heap.size,0,none⟩=some (.bool b1)∧w'.cell? ⟨w.heap.size,1,none⟩=some (.slice ao1 xs1.length c1)∧w'.cell? ⟨w.heap.size,2,none⟩=some (.slice ad1 ds1.length d1)∧w'.cell? ⟨w.heap.size + 1,0,none⟩=some (.bool b2)∧w'.cell? ⟨w.heap.size + 1,1,none⟩=some (.slice ao2 xs2.length c2)) (go_keep) (first
  | (go_at_call 181; (with_reducible refine (over_any _ _ _ _ _ _ _ w3).mono ?_); rintro e w4 ⟨rfl,f4⟩; have p4:=p3.trans (f4.mono p3.size); obtain ⟨r4,r5,r6,_⟩:=cells3 HH.out.1 p4; obtain ⟨v4,v5,v6,_⟩:=cells3 HH.out.2.1 p4; obtain ⟨k0,k1,k2,k3,k4,k5⟩:=cells3 HH.out.2.2 p4)
  | (go_at_call 236; (with_reducible refine (HA.out wd.drew (HB.out.trans (pp.mono HB.out.size))).mono ?_); rintro e w3 ⟨a3,c3,rfl,o3,f3⟩; have p3:=pp.trans (f3.mono pp.size); obtain ⟨r0,r1,r2,_⟩:=cells3 HH.out.1 p3; obtain ⟨v0,v1,v2,_⟩:=cells3 HH.out.2.1 p3))
 all_goals
  go_wp2
  have hsz:=HSZ.out
  have hs3:w0.heap.size≤wd.heap.size:=p0.size
  have hz1:wd.drew.heap.size=wd.heap.size:=rfl
  have hb4:=HB.out.trans (p4.mono HB.out.size)
  refine bodyPost_ret (v:=.agg #[.bool (decide (Z < 0)),.slice a3 (nd Z.natAbs).length c3,.slice ad1 ds1.length d1]) (by simp [results,Tryz.results214,go_sem,k0,k1,k2]) rfl ?_
  refine RetFq.fin ⟨((o3.below f4).set3 (by omega) _ _ _).rd,HD.out.below (below3 hb4 (by omega) _ _ _),H1.out.nz,?_,hZl,by omega⟩ hb4 (by omega)
  rw [val_nd,iv_self]
  exact HV.out

end Go.Proofs.YtcankknlbljicaaGreatDoor

namespace Go.Proofs.YtcankknlbljicaaGreatDoor
open Go.RowKit Num

set_option maxHeartbeats 6400000 in
theorem sum_other {b1:Bool} {ao1:Option Addr} {c1:Nat} {xs1:List Nat} {ad1:Option Addr} {d1:Nat} {ds1:List Nat} {q1:Rat} {n1:Nat} {b2:Bool} {ao2:Option Addr} {c2:Nat} {xs2:List Nat} {ad2:Option Addr} {d2:Nat} {ds2:List Nat} {q2:Rat} {n2:Nat} {w:World} (h1:Fr w b1 ao1 c1 xs1 ad1 d1 ds1 q1 n1) (h2:Fr w b2 ao2 c2 xs2 ad2 d2 ds2 q2 n2) (hn1:n1≤1000000000000) (hn2:n2≤1000000000000) (hT:Tb w) (he:¬ val ds1=val ds2) :
  Calls Tryz.prog 214 #[.agg #[.bool b1,.slice ao1 xs1.length c1,.slice ad1 ds1.length d1],.agg #[.bool b2,.slice ao2 xs2.length c2,.slice ad2 ds2.length d2]] w (RetFq (q1 + q2) (n1 + n2 + 3) w):=by
 have hle1a:=h1.rn.le
 have hcm1b:=h1.rn.cm
 have hle1c:=h1.rd.le
 have hcm1d:=h1.rd.cm
 have hle2a:=h2.rn.le
 have hcm2b:=h2.rn.cm
 have hle2c:=h2.rd.le
 have hcm2d:=h2.rd.cm
 have m1:=h1.ln
 have m2:=h2.ln
 have m3:=h1.ld
 have m4:=h2.ld
 have z1:=h1.nz
 have z2:=h2.nz
 have hB:=A3_below w (.cells #[.bool b1,.slice ao1 xs1.length c1,.slice ad1 ds1.length d1] 122) (.cells #[.bool b2,.slice ao2 xs2.length c2,.slice ad2 ds2.length d2] 122) (.cells #[.bool false,.slice none 0 0,.slice none 0 0] 122)
 have HH:=hid (A3_heap w (.cells #[.bool b1,.slice ao1 xs1.length c1,.slice ad1 ds1.length d1] 122) (.cells #[.bool b2,.slice ao2 xs2.length c2,.slice ad2 ds2.length d2] 122) (.cells #[.bool false,.slice none 0 0,.slice none 0 0] 122))
 have HSZ:=hid (A3_size w (.cells #[.bool b1,.slice ao1 xs1.length c1,.slice ad1 ds1.length d1] 122) (.cells #[.bool b2,.slice ao2 xs2.length c2,.slice ad2 ds2.length d2] 122) (.cells #[.bool false,.slice none 0 0,.slice none 0 0] 122))
 have HB:=hid hB
 have hc:=compare_any ad1 ad2 d1 d2 ds1 ds2 _ (h1.rd.below hB) (h2.rd.below hB)
 have hc0:((cmpN (val ds1) (val ds2):Int) == 0)=false:=by
  rw [beq_eq_false_iff_ne]
  unfold cmpN
  split
  ·decide
  ·split
   ·decide
   ·omega
 obtain ⟨G,hG⟩:∃ G,G=Nat.gcd (val ds1) (val ds2):=⟨_,rfl⟩
 have hG0:G≠0:=by rw [hG]; exact fun h=>z1 (Nat.gcd_eq_zero_iff.1 h).1
 have HV:=hid (show mkRat (iv b1 (val xs1) * (val ds2 / G:Nat) + iv b2 (val xs2) * (val ds1 / G:Nat)) (val ds1 * (val ds2 / G))=q1 + q2 by rw [← rv_add_gcd z1 z2 hG,h1.vq,h2.vq])
 have gd1:G ∣ val ds1:=by rw [hG]; exact Nat.gcd_dvd_left _ _
 have gd2:G ∣ val ds2:=by rw [hG]; exact Nat.gcd_dvd_right _ _
 have hu0:val ds2 / G≠0:=fun h=>z2 (by rw [← Nat.div_mul_cancel gd2,h,Nat.zero_mul])
 have HGG:=hid (fun w' (hb:Below w.heap.size w w')=>show Calls Tryz.prog 150 #[.slice ad1 ds1.length d1,.slice ad2 ds2.length d2] w' (RetOwn w'.heap.size (nd G) w') from hG ▸ gcd_any ad1 ad2 d1 d2 ds1 ds2 w' (h1.rd.below hb) (h2.rd.below hb) (by omega) (by omega) (hT.below hb))
 have HDA:=hid (fun w' a1 c1 (hb:Below w.heap.size w w') (hr:Rd w' a1 c1 (nd G))=>show ∃ R,Calls Tryz.prog 199 #[.slice ad2 ds2.length d2,.slice a1 (nd G).length c1] w' (RetDiv w'.heap.size (nd (val ds2 / G)) R 0 w') from by
  have h3:=divmod_any ad2 a1 d2 c1 ds2 (nd G) w' (h2.rd.below hb) hr (by rw [val_nd]; exact hG0) (by omega)
  rw [val_nd] at h3
  exact ⟨_,h3⟩)
 have HDB:=hid (fun w' a1 c1 (hb:Below w.heap.size w w') (hr:Rd w' a1 c1 (nd G))=>show ∃ R,Calls Tryz.prog 199 #[.slice ad1 ds1.length d1,.slice a1 (nd G).length c1] w' (RetDiv w'.heap.size (nd (val ds1 / G)) R 0 w') from by
  have h3:=divmod_any ad1 a1 d1 c1 ds1 (nd G) w' (h1.rd.below hb) hr (by rw [val_nd]; exact hG0) (by omega)
  rw [val_nd] at h3
  exact ⟨_,h3⟩)
 have lG:(nd G).length≤n1:=Nat.le_trans (nd_length_mono (Nat.le_of_dvd (Nat.pos_of_ne_zero z1) gd1)) (Nat.le_trans (nd_length_le_of h1.rd.dg) m3)
 have lU:(nd (val ds2 / G)).length≤n2:=Nat.le_trans (nd_length_mono (Nat.div_le_self _ _)) (Nat.le_trans (nd_length_le_of h2.rd.dg) m4)
 have lV:(nd (val ds1 / G)).length≤n1:=Nat.le_trans (nd_length_mono (Nat.div_le_self _ _)) (Nat.le_trans (nd_length_le_of h1.rd.dg) m3)
 obtain ⟨U,hU⟩:∃ U,U=val ds2 / G:=⟨_,rfl⟩
 obtain ⟨V,hVv⟩:∃ V,V=val ds1 / G:=⟨_,rfl⟩
 rw [← hU] at hu0 lU
 rw [← hVv] at lV
 simp only [← hU] at HDA
 simp only [← hVv] at HDB
 rw [← hU,← hVv] at HV
 obtain ⟨Z1,hZ1⟩:∃ Z1,Z1=iv b1 (val xs1) * (U:Int):=⟨_,rfl⟩
 obtain ⟨Z2,hZ2⟩:∃ Z2,Z2=iv b2 (val xs2) * (V:Int):=⟨_,rfl⟩
 obtain ⟨D,hD⟩:∃ D,D=val ds1 * U:=⟨_,rfl⟩
 have b1l:Z1.natAbs < 4294967296 ^ (n1 + n2):=by
  rw [hZ1,Int.natAbs_mul,iv_abs,Int.natAbs_natCast]
  exact pow_mul_lt (val_lt_of h1.rn.dg m1) (lt_of_nd lU)
 have b2l:Z2.natAbs < 4294967296 ^ (n1 + n2):=by
  rw [hZ2,Int.natAbs_mul,iv_abs,Int.natAbs_natCast,Nat.add_comm]
  exact pow_mul_lt (val_lt_of h2.rn.dg m2) (lt_of_nd lV)
 have l1:(nd Z1.natAbs).length≤n1 + n2:=nd_length_le b1l
 have l2:(nd Z2.natAbs).length≤n1 + n2:=nd_length_le b2l
 have l3:(nd (Z1 + Z2).natAbs).length≤n1 + n2 + 3:=by
  refine Nat.le_trans (nd_length_le (k:=n1 + n2 + 1) ?_) (by omega)
  have e3:=pow_le_succ (n1 + n2)
  have e4:=Int.natAbs_add_le Z1 Z2
  omega
 have lD:(nd D).length≤n1 + n2 + 3:=by
  rw [hD]
  exact Nat.le_trans (nd_length_le (pow_mul_lt (val_lt_of h1.rd.dg m3) (lt_of_nd lU))) (by omega)
 have hD0:D≠0:=by rw [hD]; exact Nat.mul_ne_zero z1 hu0
 rw [← hZ1,← hZ2,← hD] at HV
 have HT1:=hid (fun w' aa cc (hb:Below w.heap.size w w') (hr:Rd w' aa cc (nd U))=>show Calls Tryz.prog 168 #[.agg #[.bool b1,.slice ao1 xs1.length c1],.slice aa (nd U).length cc] w' (RetInt w'.heap.size Z1 w') from by
  have h3:=times_any b1 ao1 aa c1 cc xs1 (nd U) w' (h1.rn.below hb) hr (by omega) (by omega)
  rw [val_nd,← hZ1] at h3
  exact h3)
 have HT2:=hid (fun w' aa cc (hb:Below w.heap.size w w') (hr:Rd w' aa cc (nd V))=>show Calls Tryz.prog 168 #[.agg #[.bool b2,.slice ao2 xs2.length c2],.slice aa (nd V).length cc] w' (RetInt w'.heap.size Z2 w') from by
  have h3:=times_any b2 ao2 aa c2 cc xs2 (nd V) w' (h2.rn.below hb) hr (by omega) (by omega)
  rw [val_nd,← hZ2] at h3
  exact h3)
 have HA:=hid (fun w' aa cc ab cb (ha:Rd w' aa cc (nd Z1.natAbs)) (hb:Rd w' ab cb (nd Z2.natAbs))=>show Calls Tryz.prog 236 #[.agg #[.bool (decide (Z1 < 0)),.slice aa (nd Z1.natAbs).length cc],.agg #[.bool (decide (Z2 < 0)),.slice ab (nd Z2.natAbs).length cb]] w' (RetInt w'.heap.size (Z1 + Z2) w') from by
  have h3:=iadd_any (decide (Z1 < 0)) (decide (Z2 < 0)) aa ab cc cb (nd Z1.natAbs) (nd Z2.natAbs) w' ha hb (by omega) (by omega)
  rw [val_nd,val_nd,iv_self,iv_self] at h3
  exact h3)
 have HM:=hid (fun w' aa cc (hb:Below w.heap.size w w') (hr:Rd w' aa cc (nd U))=>show Calls Tryz.prog 183 #[.slice ad1 ds1.length d1,.slice aa (nd U).length cc] w' (RetOwn w'.heap.size (nd D) w') from by
  have h3:=mul_any ad1 aa d1 cc ds1 (nd U) w' (h1.rd.below hb) hr (by omega) (by omega)
  rw [val_nd,← hD] at h3
  exact h3)
 have HDD:=hid hD0
 clear hG0 gd1 gd2 hu0 lG lU lV b1l b2l hU hVv hZ1 hZ2 hD hD0 hG z1 z2 he
 unfold A3 at HH HSZ HB hc
 clear h1 h2 hB hT
 have n01:¬ (w.heap.size=w.heap.size + 1 + 1):=by omega
 have n02:¬ (w.heap.size + 1 + 1=w.heap.size):=by omega
 have n03:¬ (w.heap.size + 1=w.heap.size + 1 + 1):=by omega
 have n04:¬ (w.heap.size + 1 + 1=w.heap.size + 1):=by omega
 have n05:¬ (w.heap.size=w.heap.size + 1):=by omega
 have n06:¬ (w.heap.size + 1=w.heap.size):=by omega
 go_enter Tryz.func214,Tryz.ntmps214
 go_wp2_with fail
 obtain ⟨w0,hw0⟩:∃ x,x=(((w.alloc (.cells #[.bool b1,.slice ao1 xs1.length c1,.slice ad1 ds1.length d1] 122)).alloc (.cells #[.bool b2,.slice ao2 xs2.length c2,.slice ad2 ds2.length d2] 122)).alloc (.cells #[.bool false,.slice none 0 0,.slice none 0 0] 122)):=⟨_,rfl⟩
 rw [← hw0] at HH HSZ HB hc ⊢
 clear hw0
 refine hc.mono ?_
 rintro e w1 ⟨rfl,qd,rfl⟩
 obtain ⟨wd,hwd⟩:∃ x,x=w0.drewN qd:=⟨_,rfl⟩
 have p1:Below w0.heap.size w0 wd:=by rw [hwd]; exact below_drewN w0 qd
 rw [← hwd]
 clear hwd hc
 obtain ⟨s0,s1,s2,_⟩:=cells3 HH.out.1 p1
 obtain ⟨t0,t1,t2,_⟩:=cells3 HH.out.2.1 p1
 go_wp2_with fail
 refine (HGG.out wd (HB.out.trans (p1.mono HB.out.size))).mono ?_
 rintro e w2 ⟨ag,cg,rfl,og,f2⟩
 have p2:=p1.trans (f2.mono p1.size)
 clear s0 s1 s2 t0 t1 t2 f2 p1
 obtain ⟨s0,s1,s2,_⟩:=cells3 HH.out.1 p2
 obtain ⟨t0,t1,t2,_⟩:=cells3 HH.out.2.1 p2
 have hle3:=og.rd.le
 have hcm3:=og.rd.cm
 obtain ⟨R1,hdm1⟩:=HDA.out w2 ag cg (HB.out.trans (p2.mono HB.out.size)) og.rd
 go_wp2_with fail
 refine hdm1.mono ?_
 rintro e w3 ⟨au,cu,ax,cx,rfl,ou,_,f3⟩
 have p3:=p2.trans (f3.mono p2.size)
 have hle4:=ou.rd.le
 have hcm4:=ou.rd.cm
 clear s0 s1 s2 t0 t1 t2 p2 hdm1
 obtain ⟨s0,s1,s2,_⟩:=cells3 HH.out.1 p3
 obtain ⟨t0,t1,t2,_⟩:=cells3 HH.out.2.1 p3
 obtain ⟨R2,hdm2⟩:=HDB.out w3 ag cg (HB.out.trans (p3.mono HB.out.size)) (og.rd.below f3)
 clear og
 go_wp2_with fail
 refine hdm2.mono ?_
 rintro e w4 ⟨av,cv,ay,cy,rfl,ov,_,f4⟩
 have p4:=p3.trans (f4.mono p3.size)
 have hle5:=ov.rd.le
 have hcm5:=ov.rd.cm
 clear s0 s1 s2 t0 t1 t2 hdm2
 obtain ⟨s0,s1,s2,_⟩:=cells3 HH.out.1 p4
 obtain ⟨t0,t1,t2,_⟩:=cells3 HH.out.2.1 p4
 have HO:=hid (And.intro (ou.below f4) ov)
 have H4:=hid (And.intro p4 p3.size)
 clear ou ov f3 f4 p3 p4
 go_wp2_with fail
 have pp:=H4.out.1.drew
 have BB:=hid (fun (w':World) (h:Below w0.heap.size w0 w')=>(HB.out.trans (h.mono HB.out.size):Below w.heap.size w w'))
 have g0:Below w4.heap.size w4 w4.drew:=below_drewI _ _
 go_region_held3 (fun w'=>w'.cell? ⟨w.heap.size,0,none⟩=some (.bool b1)∧w'.cell? ⟨w.heap.size,1,none⟩=some (.slice ao1 xs1.length c1)∧w'.cell? ⟨w.heap.size,2,none⟩=some (.slice ad1 ds1.length d1)∧w'.cell? ⟨w.heap.size + 1,0,none⟩=some (.bool b2)∧w'.cell? ⟨w.heap.size + 1,1,none⟩=some (.slice ao2 xs2.length c2)) (go_keep) (first
  | (go_at_call 181; (with_reducible refine (over_any _ _ _ _ _ _ _ w8).mono ?_); rintro e w9 ⟨rfl,f9⟩; have p9:=p8.trans (f9.mono p8.size); obtain ⟨r15,r16,r17,_⟩:=cells3 HH.out.1 p9; obtain ⟨v15,v16,v17,_⟩:=cells3 HH.out.2.1 p9; obtain ⟨k0,k1,k2,k3,k4,k5⟩:=cells3 HH.out.2.2 p9)
  | (go_at_call 183; (with_reducible refine (HM.out w7 au cu (BB.out _ p7) (HO.out.1.below g7).rd).mono ?_); rintro e w8 ⟨am,cm,rfl,om,f8⟩; have p8:=p7.trans (f8.mono p7.size); have g8:=g7.trans (f8.mono g7.size); obtain ⟨r12,r13,r14,_⟩:=cells3 HH.out.1 p8; obtain ⟨v12,v13,v14,_⟩:=cells3 HH.out.2.1 p8)
  | (go_at_call 236; (with_reducible refine (HA.out w6 a5 c5 a6 c6 (o5.below f6).rd o6.rd).mono ?_); rintro e w7 ⟨a7,c7,rfl,o7,f7⟩; have p7:=p6.trans (f7.mono p6.size); have g7:=g6.trans (f7.mono g6.size); obtain ⟨r9,r10,r11,_⟩:=cells3 HH.out.1 p7; obtain ⟨v9,v10,v11,_⟩:=cells3 HH.out.2.1 p7)
  | (go_at_call 168; (with_reducible refine (HT2.out w5 av cv (BB.out _ p5) (HO.out.2.below g5).rd).mono ?_); rintro e w6 ⟨a6,c6,rfl,o6,f6⟩; have p6:=p5.trans (f6.mono p5.size); have g6:=g5.trans (f6.mono g5.size); obtain ⟨r6,r7,r8,_⟩:=cells3 HH.out.1 p6; obtain ⟨v6,v7,v8,_⟩:=cells3 HH.out.2.1 p6)
  | (go_at_call 168; (with_reducible refine (HT1.out w4.drew au cu (BB.out _ pp) (HO.out.1.below g0).rd).mono ?_); rintro e w5 ⟨a5,c5,rfl,o5,f5⟩; have p5:=pp.trans (f5.mono pp.size); have g5:=g0.trans (f5.mono g0.size); obtain ⟨r3,r4,r5,_⟩:=cells3 HH.out.1 p5; obtain ⟨v3,v4,v5,_⟩:=cells3 HH.out.2.1 p5))
 all_goals
  go_wp2
  have hsz:=HSZ.out
  have hs4:=H4.out.1.size
  have hs7:=p6.size
  have hs8:=p7.size
  have hb9:=BB.out _ p9
  refine bodyPost_ret (v:=.agg #[.bool (decide (Z1 + Z2 < 0)),.slice a7 (nd (Z1 + Z2).natAbs).length c7,.slice am (nd D).length cm]) (by simp [results,Tryz.results214,go_sem,k0,k1,k2]) rfl ?_
  refine RetFq.fin ⟨(((o7.below f8).below f9).set3 (by omega) _ _ _).rd,((om.below f9).set3 (by omega) _ _ _).rd,by rw [val_nd]; exact HDD.out,?_,l3,lD⟩ hb9 (by omega)
  rw [val_nd,val_nd,iv_self]
  exact HV.out

theorem sum_r {b1:Bool} {ao1:Option Addr} {c1:Nat} {xs1:List Nat} {ad1:Option Addr} {d1:Nat} {ds1:List Nat} {q1:Rat} {n1:Nat} {b2:Bool} {ao2:Option Addr} {c2:Nat} {xs2:List Nat} {ad2:Option Addr} {d2:Nat} {ds2:List Nat} {q2:Rat} {n2:Nat} {w:World} (h1:Fr w b1 ao1 c1 xs1 ad1 d1 ds1 q1 n1) (h2:Fr w b2 ao2 c2 xs2 ad2 d2 ds2 q2 n2) (hn1:n1≤1000000000000) (hn2:n2≤1000000000000) (hT:Tb w) :
  Calls Tryz.prog 214 #[.agg #[.bool b1,.slice ao1 xs1.length c1,.slice ad1 ds1.length d1],.agg #[.bool b2,.slice ao2 xs2.length c2,.slice ad2 ds2.length d2]] w (RetFq (q1 + q2) (n1 + n2 + 3) w):=by
 by_cases he:val ds1=val ds2
 ·exact sum_same h1 h2 hn1 hn2 he
 ·exact sum_other h1 h2 hn1 hn2 hT he
end Go.Proofs.YtcankknlbljicaaGreatDoor

namespace Go.Proofs.YtcankknlbljicaaGreatDoor
open Go.RowKit Num

end Go.Proofs.YtcankknlbljicaaGreatDoor

namespace Go.Proofs.YtcankknlbljicaaGreatDoor
open Go.RowKit Num

end Go.Proofs.YtcankknlbljicaaGreatDoor

namespace Go.Proofs.YtcankknlbljicaaGreatDoor
open Go.RowKit Num

end Go.Proofs.YtcankknlbljicaaGreatDoor

namespace Go.Proofs.YtcankknlbljicaaGreatDoor
open Go.RowKit Num

end Go.Proofs.YtcankknlbljicaaGreatDoor

namespace Go.Proofs.YtcankknlbljicaaGreatDoor
open Go.RowKit Num

theorem add3_any {b1:Bool} {ao1:Option Addr} {c1:Nat} {xs1:List Nat} {ad1:Option Addr} {d1:Nat} {ds1:List Nat} {q1:Rat} {n1:Nat} {b2:Bool} {ao2:Option Addr} {c2:Nat} {xs2:List Nat} {ad2:Option Addr} {d2:Nat} {ds2:List Nat} {q2:Rat} {n2:Nat} {w:World} (h1:Rq w b1 ao1 c1 xs1 ad1 d1 ds1 q1 n1) (h2:Rq w b2 ao2 c2 xs2 ad2 d2 ds2 q2 n2) (hn1:n1≤999999999999) (hn2:n2≤999999999999) (hT:Tb w) :
  Calls Tryz.prog 172 #[.agg #[.bool b1,.slice ao1 xs1.length c1,.slice ad1 ds1.length d1],.agg #[.bool b2,.slice ao2 xs2.length c2,.slice ad2 ds2.length d2]] w (RetRat (q1 + q2) w):=by
 have hle1a:=h1.rn.le
 have hcm1b:=h1.rn.cm
 have hle1c:=h1.rd.le
 have hcm1d:=h1.rd.cm
 have hle2a:=h2.rn.le
 have hcm2b:=h2.rn.cm
 have hle2c:=h2.rd.le
 have hcm2d:=h2.rd.cm
 have hB:=A3_below w (.cells #[.bool b1,.slice ao1 xs1.length c1,.slice ad1 ds1.length d1] 26) (.cells #[.bool b2,.slice ao2 xs2.length c2,.slice ad2 ds2.length d2] 26) (.cells #[.bool false,.slice none 0 0,.slice none 0 0] 26)
 have HH:=hid (A3_heap w (.cells #[.bool b1,.slice ao1 xs1.length c1,.slice ad1 ds1.length d1] 26) (.cells #[.bool b2,.slice ao2 xs2.length c2,.slice ad2 ds2.length d2] 26) (.cells #[.bool false,.slice none 0 0,.slice none 0 0] 26))
 have HSZ:=hid (A3_size w (.cells #[.bool b1,.slice ao1 xs1.length c1,.slice ad1 ds1.length d1] 26) (.cells #[.bool b2,.slice ao2 xs2.length c2,.slice ad2 ds2.length d2] 26) (.cells #[.bool false,.slice none 0 0,.slice none 0 0] 26))
 have HB:=hid hB
 have HT:=hid (hT.below hB)
 have HR:=hid (And.intro (h1.below hB) (h2.below hB))
 have hm1:n1 + 1≤1000000000000:=by omega
 have hm2:n2 + 1≤1000000000000:=by omega
 have hm3:n1 + 1 + (n2 + 1) + 3≤4398046511104:=by omega
 have hm4:n1≤4398046511103:=by omega
 have hm5:n2≤4398046511103:=by omega
 unfold A3 at HH HSZ HB HT HR
 clear h1 h2 hT hB
 have n01:¬ (w.heap.size=w.heap.size + 1 + 1):=by omega
 have n02:¬ (w.heap.size + 1 + 1=w.heap.size):=by omega
 have n03:¬ (w.heap.size + 1=w.heap.size + 1 + 1):=by omega
 have n04:¬ (w.heap.size + 1 + 1=w.heap.size + 1):=by omega
 have n05:¬ (w.heap.size=w.heap.size + 1):=by omega
 have n06:¬ (w.heap.size + 1=w.heap.size):=by omega
 go_enter Tryz.func172,Tryz.ntmps172
 go_wp2_with fail
 obtain ⟨w0,hw0⟩:∃ x,x=(((w.alloc (.cells #[.bool b1,.slice ao1 xs1.length c1,.slice ad1 ds1.length d1] 26)).alloc (.cells #[.bool b2,.slice ao2 xs2.length c2,.slice ad2 ds2.length d2] 26)).alloc (.cells #[.bool false,.slice none 0 0,.slice none 0 0] 26)):=⟨_,rfl⟩
 rw [← hw0] at HH HSZ HB HT HR ⊢
 clear hw0
 have HA:=hid (fun w' (hb:Below w0.heap.size w0 w')=>read_r (HR.out.1.below hb) hm4)
 have HB2:=hid (fun w' (hb:Below w0.heap.size w0 w')=>read_r (HR.out.2.below hb) hm5)
 have p2:Below w0.heap.size w0 w0.drew:=below_drewI _ _
 obtain ⟨s0,s1,s2,_⟩:=cells3 HH.out.1 p2
 obtain ⟨t0,t1,t2,_⟩:=cells3 HH.out.2.1 p2
 go_region_held3 (fun w'=>w'.cell? ⟨w.heap.size,0,none⟩=some (.bool b1)∧w'.cell? ⟨w.heap.size,1,none⟩=some (.slice ao1 xs1.length c1)∧w'.cell? ⟨w.heap.size,2,none⟩=some (.slice ad1 ds1.length d1)∧w'.cell? ⟨w.heap.size + 1,0,none⟩=some (.bool b2)∧w'.cell? ⟨w.heap.size + 1,1,none⟩=some (.slice ao2 xs2.length c2)∧w'.cell? ⟨w.heap.size + 1,2,none⟩=some (.slice ad2 ds2.length d2)) (go_keep) (first
  | (go_at_call 153; (with_reducible refine (lowest_r F6 hm3 (HT.out.below p6)).mono ?_); rintro e w7 ⟨a7,c7,d7,e7,rfl,o7,u7,f7⟩; have p7:=p6.trans (f7.mono p6.size); obtain ⟨r7a,r7b,r7c,_⟩:=cells3 HH.out.1 p7; obtain ⟨v7a,v7b,v7c,_⟩:=cells3 HH.out.2.1 p7; obtain ⟨k0,k1,k2,k3,k4,k5⟩:=cells3 HH.out.2.2 p7)
  | (go_at_call 214; (with_reducible refine (sum_r (F3.below f4) F4 hm1 hm2 (HT.out.below p4)).mono ?_); rintro e w6 ⟨b6,a6,c6,x6,d6,e6,y6,rfl,F6,f6⟩; have p6:=p4.trans (f6.mono p4.size); obtain ⟨r6a,r6b,r6c,_⟩:=cells3 HH.out.1 p6; obtain ⟨v6a,v6b,v6c,_⟩:=cells3 HH.out.2.1 p6)
  | (go_at_call 141; (with_reducible refine (HB2.out w3 p3).mono ?_); rintro e w4 ⟨b4,a4,c4,x4,d4,e4,y4,rfl,F4,f4⟩; have p4:=p3.trans (f4.mono p3.size); obtain ⟨r4a,r4b,r4c,_⟩:=cells3 HH.out.1 p4; obtain ⟨v4a,v4b,v4c,_⟩:=cells3 HH.out.2.1 p4)
  | (go_at_call 141; (with_reducible refine (HA.out w0.drew p2).mono ?_); rintro e w3 ⟨b3,a3,c3,x3,d3,e3,y3,rfl,F3,f3⟩; have p3:=p2.trans (f3.mono p2.size); obtain ⟨r3a,r3b,r3c,_⟩:=cells3 HH.out.1 p3; obtain ⟨v3a,v3b,v3c,_⟩:=cells3 HH.out.2.1 p3))
 all_goals
  go_wp2
  have hsz:=HSZ.out
  have hs6:=p6.size
  refine bodyPost_ret (v:=.agg #[.bool (decide ((q1 + q2).num < 0)),.slice a7 (nd (q1 + q2).num.natAbs).length c7,.slice d7 (nd (q1 + q2).den).length e7]) (by simp [results,Tryz.results172,go_sem,k0,k1,k2]) rfl ?_
  exact RetRat.fin o7 u7 (by omega) (HB.out.trans (p7.mono HB.out.size)) (by omega) _ _ _

theorem sub3_any {b1:Bool} {ao1:Option Addr} {c1:Nat} {xs1:List Nat} {ad1:Option Addr} {d1:Nat} {ds1:List Nat} {q1:Rat} {n1:Nat} {b2:Bool} {ao2:Option Addr} {c2:Nat} {xs2:List Nat} {ad2:Option Addr} {d2:Nat} {ds2:List Nat} {q2:Rat} {n2:Nat} {w:World} (h1:Rq w b1 ao1 c1 xs1 ad1 d1 ds1 q1 n1) (h2:Rq w b2 ao2 c2 xs2 ad2 d2 ds2 q2 n2) (hn1:n1≤999999999999) (hn2:n2≤999999999999) (hT:Tb w) :
  Calls Tryz.prog 180 #[.agg #[.bool b1,.slice ao1 xs1.length c1,.slice ad1 ds1.length d1],.agg #[.bool b2,.slice ao2 xs2.length c2,.slice ad2 ds2.length d2]] w (RetRat (q1 - q2) w):=by
 rw [Rat.sub_eq_add_neg]
 have hle1a:=h1.rn.le
 have hcm1b:=h1.rn.cm
 have hle1c:=h1.rd.le
 have hcm1d:=h1.rd.cm
 have hle2a:=h2.rn.le
 have hcm2b:=h2.rn.cm
 have hle2c:=h2.rd.le
 have hcm2d:=h2.rd.cm
 have hB:=A3_below w (.cells #[.bool b1,.slice ao1 xs1.length c1,.slice ad1 ds1.length d1] 26) (.cells #[.bool b2,.slice ao2 xs2.length c2,.slice ad2 ds2.length d2] 26) (.cells #[.bool false,.slice none 0 0,.slice none 0 0] 26)
 have HH:=hid (A3_heap w (.cells #[.bool b1,.slice ao1 xs1.length c1,.slice ad1 ds1.length d1] 26) (.cells #[.bool b2,.slice ao2 xs2.length c2,.slice ad2 ds2.length d2] 26) (.cells #[.bool false,.slice none 0 0,.slice none 0 0] 26))
 have HSZ:=hid (A3_size w (.cells #[.bool b1,.slice ao1 xs1.length c1,.slice ad1 ds1.length d1] 26) (.cells #[.bool b2,.slice ao2 xs2.length c2,.slice ad2 ds2.length d2] 26) (.cells #[.bool false,.slice none 0 0,.slice none 0 0] 26))
 have HB:=hid hB
 have HT:=hid (hT.below hB)
 have HR:=hid (And.intro (h1.below hB) (h2.below hB))
 have hm1:n1 + 1≤1000000000000:=by omega
 have hm2:n2 + 1≤1000000000000:=by omega
 have hm3:n1 + 1 + (n2 + 1) + 3≤4398046511104:=by omega
 have hm4:n1≤4398046511103:=by omega
 have hm5:n2≤4398046511103:=by omega
 unfold A3 at HH HSZ HB HT HR
 clear h1 h2 hT hB
 have n01:¬ (w.heap.size=w.heap.size + 1 + 1):=by omega
 have n02:¬ (w.heap.size + 1 + 1=w.heap.size):=by omega
 have n03:¬ (w.heap.size + 1=w.heap.size + 1 + 1):=by omega
 have n04:¬ (w.heap.size + 1 + 1=w.heap.size + 1):=by omega
 have n05:¬ (w.heap.size=w.heap.size + 1):=by omega
 have n06:¬ (w.heap.size + 1=w.heap.size):=by omega
 go_enter Tryz.func180,Tryz.ntmps180
 go_wp2_with fail
 obtain ⟨w0,hw0⟩:∃ x,x=(((w.alloc (.cells #[.bool b1,.slice ao1 xs1.length c1,.slice ad1 ds1.length d1] 26)).alloc (.cells #[.bool b2,.slice ao2 xs2.length c2,.slice ad2 ds2.length d2] 26)).alloc (.cells #[.bool false,.slice none 0 0,.slice none 0 0] 26)):=⟨_,rfl⟩
 rw [← hw0] at HH HSZ HB HT HR ⊢
 clear hw0
 have HA:=hid (fun w' (hb:Below w0.heap.size w0 w')=>read_r (HR.out.1.below hb) hm4)
 have HB2:=hid (fun w' (hb:Below w0.heap.size w0 w')=>read_r (HR.out.2.below hb) hm5)
 have p2:Below w0.heap.size w0 w0.drew:=below_drewI _ _
 obtain ⟨s0,s1,s2,_⟩:=cells3 HH.out.1 p2
 obtain ⟨t0,t1,t2,_⟩:=cells3 HH.out.2.1 p2
 go_region_held3 (fun w'=>w'.cell? ⟨w.heap.size,0,none⟩=some (.bool b1)∧w'.cell? ⟨w.heap.size,1,none⟩=some (.slice ao1 xs1.length c1)∧w'.cell? ⟨w.heap.size,2,none⟩=some (.slice ad1 ds1.length d1)∧w'.cell? ⟨w.heap.size + 1,0,none⟩=some (.bool b2)∧w'.cell? ⟨w.heap.size + 1,1,none⟩=some (.slice ao2 xs2.length c2)∧w'.cell? ⟨w.heap.size + 1,2,none⟩=some (.slice ad2 ds2.length d2)) (go_keep) (first
  | (go_at_call 153; (with_reducible refine (lowest_r F6 hm3 (HT.out.below p6)).mono ?_); rintro e w7 ⟨a7,c7,d7,e7,rfl,o7,u7,f7⟩; have p7:=p6.trans (f7.mono p6.size); obtain ⟨r7a,r7b,r7c,_⟩:=cells3 HH.out.1 p7; obtain ⟨v7a,v7b,v7c,_⟩:=cells3 HH.out.2.1 p7; obtain ⟨k0,k1,k2,k3,k4,k5⟩:=cells3 HH.out.2.2 p7)
  | (go_at_call 214; (with_reducible refine (sum_r ((F3.below f4).below f5) (F4.neg.below f5) hm1 hm2 (HT.out.below p5)).mono ?_); rintro e w6 ⟨b6,a6,c6,x6,d6,e6,y6,rfl,F6,f6⟩; have p6:=p5.trans (f6.mono p5.size); obtain ⟨r6a,r6b,r6c,_⟩:=cells3 HH.out.1 p6; obtain ⟨v6a,v6b,v6c,_⟩:=cells3 HH.out.2.1 p6)
  | (go_at_call 178; (with_reducible refine (negated_any b4 a4 d4 x4.length c4 y4.length e4 w4).mono ?_); rintro e w5 ⟨rfl,f5⟩; have p5:=p4.trans (f5.mono p4.size); obtain ⟨r5a,r5b,r5c,_⟩:=cells3 HH.out.1 p5; obtain ⟨v5a,v5b,v5c,_⟩:=cells3 HH.out.2.1 p5)
  | (go_at_call 141; (with_reducible refine (HB2.out w3 p3).mono ?_); rintro e w4 ⟨b4,a4,c4,x4,d4,e4,y4,rfl,F4,f4⟩; have p4:=p3.trans (f4.mono p3.size); obtain ⟨r4a,r4b,r4c,_⟩:=cells3 HH.out.1 p4; obtain ⟨v4a,v4b,v4c,_⟩:=cells3 HH.out.2.1 p4)
  | (go_at_call 141; (with_reducible refine (HA.out w0.drew p2).mono ?_); rintro e w3 ⟨b3,a3,c3,x3,d3,e3,y3,rfl,F3,f3⟩; have p3:=p2.trans (f3.mono p2.size); obtain ⟨r3a,r3b,r3c,_⟩:=cells3 HH.out.1 p3; obtain ⟨v3a,v3b,v3c,_⟩:=cells3 HH.out.2.1 p3))
 all_goals
  go_wp2
  have hsz:=HSZ.out
  have hs6:=p6.size
  refine bodyPost_ret (v:=.agg #[.bool (decide ((q1 + -q2).num < 0)),.slice a7 (nd (q1 + -q2).num.natAbs).length c7,.slice d7 (nd (q1 + -q2).den).length e7]) (by simp [results,Tryz.results180,go_sem,k0,k1,k2]) rfl ?_
  exact RetRat.fin o7 u7 (by omega) (HB.out.trans (p7.mono HB.out.size)) (by omega) _ _ _

end Go.Proofs.YtcankknlbljicaaGreatDoor

namespace Go.Proofs.YtcankknlbljicaaGreatDoor
open Go.RowKit Num

end Go.Proofs.YtcankknlbljicaaGreatDoor
