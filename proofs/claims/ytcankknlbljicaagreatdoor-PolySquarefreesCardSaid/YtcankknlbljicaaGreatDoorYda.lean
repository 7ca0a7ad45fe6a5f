/-  -/
import Derived.Test.YtcankknlbljicaaGreatDoorYe
import Derived.Deep.RegionWith

set_option linter.unusedVariables false
set_option linter.unusedSimpArgs false
set_option linter.unusedSectionVars false
set_option maxRecDepth 100000
set_option maxHeartbeats 3200000

namespace Go.Proofs.YtcankknlbljicaaGreatDoor
open Go.RowKit Num

def ProdTo (n:Nat):Prop:=∀ (aa ab:Option Addr) (ca cb:Nat) (xs ys:List Nat) (w:World),xs.length + ys.length < n→Rd w aa ca xs→Rd w ab cb ys→xs.length≤4398046511104→ys.length≤4398046511104 →
  Calls Tryz.prog 215 #[.slice aa xs.length ca,.slice ab ys.length cb] w (RetOwn w.heap.size (nd (val xs * val ys)) w)

theorem product_one (aa ab:Option Addr) (ca cb:Nat) (xs ys:List Nat) (w:World) (IH:ProdTo (xs.length + ys.length)) (ha:Rd w aa ca xs) (hb:Rd w ab cb ys) (hl1:xs.length≤4398046511104) (hl2:ys.length≤4398046511104)
  (hlen:ys.length≤xs.length) :
  Calls Tryz.prog 215 #[.slice aa xs.length ca,.slice ab ys.length cb] w (RetOwn w.heap.size (nd (val xs * val ys)) w):=by
 obtain ⟨R,hR⟩:∃ R,R=val xs * val ys:=⟨_,rfl⟩
 rw [← hR]
 have HR:=hid hR.symm
 clear hR

 go_enter Tryz.func215,Tryz.ntmps215
 by_cases hshort:ys.length < 48
 ·have hsp:=shortProduct_any aa ab ca cb xs ys w ha hb (by omega) (by omega)
  rw [HR.out] at hsp
  go_wp2_with (go_at_call 237; refine hsp.mono ?_; rintro e w' ⟨ao,c,rfl,hown,hbel⟩)
  go_ret
  exact ⟨ao,c,rfl,hown,hbel⟩
 ·obtain ⟨h,hh⟩:∃ h,h=(xs.length + 1) / 2:=⟨_,rfl⟩
  have hh1:xs.length≤2 * h:=by omega
  have hh2 : 2 * h≤xs.length + 1:=by omega
  have hhi:(((xs.length:Int) + 1) / 2)=(h:Int):=by omega
  have hsU:=split_any aa ca h xs w ha (by omega)
  have HU:=hid ha.dg
  have HV:=hid hb.dg
  clear hh
  go_wp2_with fail
  refine hsU.mono ?_
  rintro e w1 ⟨ahU,chU,loU,rfl,hloU,hvloU,hloUl,hloUl2,hhiU,hb1⟩
  have HhU:=hid (show (xs.drop h).length=xs.length - h by simp)
  have hsV:=split_any ab cb h ys w1 (hb.below hb1) (by omega)
  obtain ⟨hiU,hhiUe⟩:∃ hiU,hiU=xs.drop h:=⟨_,rfl⟩
  have HVU:=hid (show val xs=val loU + 4294967296 ^ h * val hiU by rw [hvloU,hhiUe]; exact val_split xs h (by omega))
  have hhiUl:hiU.length + h≤xs.length:=by rw [hhiUe]; simp; omega
  have hhiUl2:xs.length≤hiU.length + h:=by rw [hhiUe]; simp; omega
  rw [← hhiUe] at hhiU ⊢
  clear hhiUe hvloU HhU hsU
  go_wp2_with fail
  refine hsV.mono ?_
  rintro e w2 ⟨ahV,chV,loV,rfl,hloV,hvloV,hloVl,hloVl2,hhiV,hb2⟩
  have hb02:Below w.heap.size w w2:=hb1.trans (hb2.mono hb1.size)
  obtain ⟨hiV,hhiVe⟩:∃ hiV,hiV=ys.drop h:=⟨_,rfl⟩
  have hhiVl:hiV.length≤ys.length - h:=by rw [hhiVe]; simp
  have hhiVl2:ys.length≤hiV.length + h:=by rw [hhiVe]; simp; omega
  have HVV:=hid (show val ys=val loV + 4294967296 ^ h * val hiV by
   rw [hvloV,hhiVe]
   by_cases hc:h≤ys.length
   ·exact val_split ys h hc
   ·rw [List.drop_eq_nil_of_le (by omega),List.take_of_length_le (by omega)]; simp [val])
  rw [← hhiVe] at hhiV ⊢
  have hloU:=hloU.below hb2
  have hhiU:=hhiU.below hb2
  clear hhiVe hvloV hsV hb1 hb2 ha hb
  obtain ⟨N,hN⟩:∃ N,N=xs.length + ys.length:=⟨_,rfl⟩
  have hNi:(xs.length:Int) + (ys.length:Int)=(N:Int):=by omega
  have hN1:xs.length + ys.length≤N:=by omega
  have hN2:N≤xs.length + ys.length:=by omega
  clear hN
  go_wp2_with (at_make; refine wp_make _ rfl _ rfl w.heap.size N _ rfl rfl (by omega) hb02.size ?_; intro w3 hown3 hb3 hsz3)
  obtain ⟨g,hg⟩:∃ g,g=w2.heap.size:=⟨_,rfl⟩
  rw [← hg] at hown3 ⊢
  have hgle:w.heap.size≤g:=by rw [hg]; exact hb02.size
  have hg3:g < w3.heap.size:=by rw [hg]; exact hsz3
  have hoff:∀ {ao c xs},Rd w2 ao c xs→Off g ao xs:=fun hr=>hr.lt_size (by omega)
  have hgge:w2.heap.size≤g:=by omega
  have HG:=hid hg
  clear hg hsz3
  obtain ⟨L,hL⟩:∃ L,L=val loU * val loV:=⟨_,rfl⟩
  have hlow:=IH aa ab ca cb loU loV w3 (by omega) (hloU.below hb3) (hloV.below hb3) (by omega) (by omega)
  rw [← hL] at hlow
  have hLl:L < 4294967296 ^ (2 * h):=by
   have h1:=Nat.lt_of_lt_of_le (val_lt hloU.dg) (Nat.pow_le_pow_right (show 0 < 4294967296 by omega) hloUl)
   have h2:=Nat.lt_of_lt_of_le (val_lt hloV.dg) (Nat.pow_le_pow_right (show 0 < 4294967296 by omega) hloVl)
   have h3:=Nat.mul_lt_mul_of_lt_of_le h1 (Nat.le_of_lt h2) (pow_pos h)
   rw [hL,show 2 * h=h + h by omega,Nat.pow_add]; exact h3
  have hLn:L < 4294967296 ^ N:=by
   have h1:=val_lt hloU.dg
   have h2:=val_lt hloV.dg
   have h3:=Nat.mul_lt_mul_of_lt_of_le h1 (Nat.le_of_lt h2) (pow_pos _)
   rw [hL]
   refine Nat.lt_of_lt_of_le (by rw [← Nat.pow_add] at h3; exact h3) (Nat.pow_le_pow_right (by omega) (by omega))
  have HLn:=hid (And.intro hLl hLn)
  have hLlen:=nd_length_le hLn
  have HL:=hid hL
  clear hL hLl hLn
  go_wp2_with fail
  refine hlow.mono ?_
  rintro e w4 ⟨al,cl,rfl,hlow4,hb4⟩
  have hz4:=hown3.below hb4
  have hb24:Below w2.heap.size w2 w4:=hb3.trans (hb4.mono hb3.size)
  have hs34:w3.heap.size≤w4.heap.size:=hb4.size
  go_wp2_with fail
  obtain ⟨cur,hcur,hcurl⟩:=hz4.row
  rw [List.length_replicate] at hcurl
  rw [run_copy w4 _ g 0 _ _ _ _ _ (List.replicate N 0) (nd L) (by simp) rfl cur _ hcur (by simp; omega) hlow4.rd (by simp; omega)]
  have hz5:=hz4.copied (ys:=nd L) hLlen (wf_nd L)
  rw [nd_pad HLn.out.2] at hz5
  have hlow5:=hlow4.keep_put (g:=g) (fun a ha=>by subst ha; have:=hlow4.block; omega) 0 (nd L)
  have hb25:=below_put hb24 hgge 0 (nd L)
  have hs5:=wput_size w4 g 0 (nd L)
  have hs35:w3.heap.size≤(wput w4 g 0 (nd L)).heap.size:=by omega
  clear hcur hcurl hz4 hb24 hs34 hs5 hlow4 hb4 hown3
  generalize wput w4 g 0 (nd L)=w5 at hz5 hlow5 hb25 hs35 ⊢
  have hb05:Below w.heap.size w w5:=hb02.trans (hb25.mono hb02.size)
  by_cases hhv:hiV.length=0
  ·have hbv:((hiV.length:Int) == 0)=true:=by simp [hhv]
   have HNIL:=hid (List.eq_nil_of_length_eq_zero hhv)
   obtain ⟨Pd,hPd⟩:∃ Pd,Pd=val hiU * val loV:=⟨_,rfl⟩
   have HP:=hid hPd
   have hPl:(nd Pd).length≤N - h:=by
    refine nd_length_le ?_
    have h1:=val_lt hhiU.dg
    have h2:=val_lt hloV.dg
    have h3:=Nat.mul_lt_mul_of_lt_of_le h1 (Nat.le_of_lt h2) (pow_pos _)
    rw [hPd]
    refine Nat.lt_of_lt_of_le (by rw [← Nat.pow_add] at h3; exact h3) (Nat.pow_le_pow_right (by omega) (by omega))
   have HTOT:=hid (show L + 4294967296 ^ h * Pd=R by
    rw [← HR.out,HVU.out,HVV.out,HNIL.out,HL.out,hPd]; simp only [val]; grind)
   have HLT:=hid (show R < 4294967296 ^ N by
    rw [← HR.out]
    have h3:=Nat.mul_lt_mul_of_lt_of_le (val_lt HU.out) (Nat.le_of_lt (val_lt HV.out)) (pow_pos _)
    refine Nat.lt_of_lt_of_le (by rw [← Nat.pow_add] at h3; exact h3) (Nat.pow_le_pow_right (by omega) (by omega)))
   have hprod:∀ W,Below w2.heap.size w2 W→Calls Tryz.prog 215 #[.slice ahU hiU.length chU,.slice ab loV.length cb] W (RetOwn W.heap.size (nd Pd) W):=by
    intro W hW
    have:=IH ahU ab chU cb hiU loV W (by omega) (hhiU.below hW) (hloV.below hW) (by omega) (by omega)
    rwa [← hPd] at this
   have HPROD:=hid hprod
   have hinc:∀ (W:World) (ap:Option Addr) (cp B':Nat),g < B'→Own w.heap.size W (some ⟨g,0,none⟩) N (dig N L)→Own B' W ap cp (nd Pd) →
     Calls Tryz.prog 239 #[.slice (some ⟨g,h,none⟩) (N - h) (N - h),.slice ap (nd Pd).length cp] W (PutOwn w.heap.size g N (dig N R) W):=by
    intro W ap cp B' hB' hz hp
    have:=increase_own w.heap.size g N h (N - h) (N - h) cp ap (dig N L) (nd Pd) W hz (by rw [length_dig]; omega) hp.rd (hp.off hB') hPl (by rw [length_dig]; omega) (by rw [val_dig,val_nd,length_dig,Nat.mod_eq_of_lt HLn.out.2,HTOT.out]; exact HLT.out)
    rwa [val_dig,val_nd,length_dig,Nat.mod_eq_of_lt HLn.out.2,HTOT.out] at this
   have HINC:=hid hinc
   have hNh:¬ (N=h):=by omega
   have hg5:g < w5.drew.heap.size:=by show g < w5.heap.size; omega
   clear hprod hinc hPd hlow5 hhv
   go_wp2_with fail
   go_region_with (first
    | (go_at_call 215; refine (HPROD.out _ hb25.drew).mono ?_; rintro e w6 ⟨ap,cp,rfl,hp6,hb6⟩)
    | (go_at_call 239; refine (HINC.out _ _ _ w5.drew.heap.size hg5 (Own.below (w:=w5.drew) hz5 hb6) hp6).mono ?_; rintro e w7 ⟨rfl,hz7,o7,y7,hw7⟩))
   all_goals
    have hb7:Below w.heap.size w w7:=by
     rw [hw7.out]
     exact below_put (hb05.drew.trans (hb6.mono hb05.size)) hgle _ _
    have hcut:=cut_any _ _ _ _ hz7.rd
    have hown8:=hz7.cutND
    rw [length_dig,val_dig,Nat.mod_eq_of_lt HLT.out] at hcut
    rw [val_dig,Nat.mod_eq_of_lt HLT.out] at hown8
    clear hw7
    go_wp2_with (go_at_call 157; refine hcut.mono ?_; rintro e w' ⟨rfl,rfl⟩)
    go_ret
    exact ⟨_,_,rfl,hown8,hb7⟩
  ·have hbv:((hiV.length:Int) == 0)=false:=beq_eq_false_iff_ne.2 (by omega)
   have hvl:h < ys.length:=by omega
   obtain ⟨H,hH⟩:∃ H,H=val hiU * val hiV:=⟨_,rfl⟩
   have hHl:(nd H).length≤N - 2 * h:=by
    refine nd_length_le ?_
    have h1:=val_lt hhiU.dg
    have h2:=val_lt hhiV.dg
    have h3:=Nat.mul_lt_mul_of_lt_of_le h1 (Nat.le_of_lt h2) (pow_pos _)
    rw [hH]
    refine Nat.lt_of_lt_of_le (by rw [← Nat.pow_add] at h3; exact h3) (Nat.pow_le_pow_right (by omega) (by omega))
   have hhigh:=IH ahU ahV chU chV hiU hiV w5 (by omega) (hhiU.below hb25) (hhiV.below hb25) (by omega) (by omega)
   rw [← hH] at hhigh
   have HH:=hid hH
   clear hH hhv
   go_wp2_with fail
   refine hhigh.mono ?_
   rintro e w6 ⟨ahh,chh,rfl,hhigh6,hb6⟩
   have hz6:=hz5.below hb6
   have hlow6:=hlow5.below hb6
   have hb26:Below w2.heap.size w2 w6:=hb25.trans (hb6.mono hb25.size)
   have hs56:w5.heap.size≤w6.heap.size:=hb6.size
   have hN2h:¬ (N=2 * h):=by omega
   have h2n : 2 * h≤N:=by omega
   clear hz5 hlow5 hb6 hb05
   go_wp2_with fail
   obtain ⟨cur,hcur,hcurl⟩:=hz6.row
   rw [length_dig] at hcurl
   rw [run_copy w6 _ g (2 * h) _ _ _ _ _ ((dig N L).drop (2 * h)) (nd H) (by simp [length_dig]) rfl cur _ hcur (by simp [length_dig]; omega) hhigh6.rd (by simp [length_dig]; omega)]
   have hz7:=hz6.put_at (2 * h) (nd H) (by rw [length_dig]; omega) (wf_nd H)
   rw [put_hi HLn.out.1 (by omega)] at hz7
   have hlow7:=hlow6.keep_put (g:=g) (fun a ha=>by subst ha; have:=hlow6.block; omega) (2 * h) (nd H)
   have hhigh7:=hhigh6.keep_put (g:=g) (fun a ha=>by subst ha; have:=hhigh6.block; omega) (2 * h) (nd H)
   have hb27:=below_put hb26 hgge (2 * h) (nd H)
   have hs7:=wput_size w6 g (2 * h) (nd H)
   have hs57:w5.heap.size≤(wput w6 g (2 * h) (nd H)).heap.size:=by omega
   clear hcur hcurl hz6 hb26 hs56 hs7 hlow6 hhigh6
   generalize wput w6 g (2 * h) (nd H)=w7 at hz7 hlow7 hhigh7 hb27 hs57 ⊢
   have hsA:=add_any aa ahU ca chU loU hiU w7 (hloU.below hb27) (hhiU.below hb27) (by omega) (by omega)
   have hsB:=fun W (hW:Below w2.heap.size w2 W)=>add_any ab ahV cb chV loV hiV W (hloV.below hW) (hhiV.below hW) (by omega) (by omega)
   obtain ⟨sA,hsAe⟩:∃ sA,sA=val loU + val hiU:=⟨_,rfl⟩
   obtain ⟨sB,hsBe⟩:∃ sB,sB=val loV + val hiV:=⟨_,rfl⟩
   rw [← hsAe] at hsA
   simp only [← hsBe] at hsB
   have hsAl:(nd sA).length≤h + 1:=by
    refine nd_length_le ?_
    have h1:=Nat.lt_of_lt_of_le (val_lt hloU.dg) (Nat.pow_le_pow_right (show 0 < 4294967296 by omega) hloUl)
    have h2:=Nat.lt_of_lt_of_le (val_lt hhiU.dg) (Nat.pow_le_pow_right (show 0 < 4294967296 by omega) (show hiU.length≤h by omega))
    rw [Nat.pow_succ]; omega
   have hsBl:(nd sB).length≤h + 1:=by
    refine nd_length_le ?_
    have h1:=Nat.lt_of_lt_of_le (val_lt hloV.dg) (Nat.pow_le_pow_right (show 0 < 4294967296 by omega) hloVl)
    have h2:=Nat.lt_of_lt_of_le (val_lt hhiV.dg) (Nat.pow_le_pow_right (show 0 < 4294967296 by omega) (show hiV.length≤h by omega))
    rw [Nat.pow_succ]; omega
   obtain ⟨C,hC⟩:∃ C,C=val loU * val hiV + val hiU * val loV:=⟨_,rfl⟩
   have hM:sA * sB=C + H + L:=by rw [hsAe,hsBe,hC,HH.out,HL.out]; grind
   have HTOT:=hid (show L + 4294967296 ^ (2 * h) * H + 4294967296 ^ h * C=R by
    rw [← HR.out,HVU.out,HVV.out,HL.out,HH.out,hC,show 2 * h=h + h by omega,Nat.pow_add]; grind)
   have HLT:=hid (show R < 4294967296 ^ N by
    rw [← HR.out]
    have h3:=Nat.mul_lt_mul_of_lt_of_le (val_lt HU.out) (Nat.le_of_lt (val_lt HV.out)) (pow_pos _)
    refine Nat.lt_of_lt_of_le (by rw [← Nat.pow_add] at h3; exact h3) (Nat.pow_le_pow_right (by omega) (by omega)))
   have hCl:(nd C).length≤N - h:=by
    refine nd_length_le ?_
    have h1:=HTOT.out
    have h2:=HLT.out
    have h3 : 4294967296 ^ h * C < 4294967296 ^ h * 4294967296 ^ (N - h):=by
     rw [← Nat.pow_add,show h + (N - h)=N by omega]; omega
    exact Nat.lt_of_mul_lt_mul_left h3
   have HM:=hid hM
   have HSUM:=hid (And.intro hsAe hsBe)
   clear hsAe hsBe hC hM
   go_wp2_with fail
   refine hsA.mono ?_
   rintro e w8 ⟨asA,csA,rfl,hsA8,hb8⟩
   have hb28:Below w2.heap.size w2 w8:=hb27.trans (hb8.mono hb27.size)
   have hz8:=hz7.below hb8
   have hlow8:=hlow7.below hb8
   have hhigh8:=hhigh7.below hb8
   have hs8:=hb8.size
   clear hsA hz7 hlow7 hhigh7 hb27 hb8
   go_wp2_with fail
   refine (hsB w8 hb28).mono ?_
   rintro e w9 ⟨asB,csB,rfl,hsB9,hb9⟩
   have hb29:Below w2.heap.size w2 w9:=hb28.trans (hb9.mono hb28.size)
   have hz9:=hz8.below hb9
   have hlow9:=hlow8.below hb9
   have hhigh9:=hhigh8.below hb9
   have hsA9:=hsA8.below hb9
   have hs9:=hb9.size
   have hlow9b:∀ a,al=some a→a.block < w9.heap.size:=fun a ha=>by subst ha; exact hlow9.block.2
   have hhigh9b:∀ a,ahh=some a→a.block < w9.heap.size:=fun a ha=>by subst ha; exact hhigh9.block.2
   have hg9:g < w9.heap.size:=hz9.block.2
   clear hsB hz8 hlow8 hhigh8 hb28 hb9 hsA8
   have hmid:=IH asA asB csA csB (nd sA) (nd sB) w9 (by omega) hsA9.rd hsB9.rd (by omega) (by omega)
   rw [val_nd,val_nd] at hmid
   obtain ⟨M,hMe⟩:∃ M,M=sA * sB:=⟨_,rfl⟩
   rw [← hMe] at hmid
   have HME:=hid (show M=C + H + L by rw [hMe,HM.out])
   clear hMe
   go_wp2_with fail
   refine hmid.mono ?_
   rintro e w10 ⟨am,cm,rfl,hm10,hb10⟩
   have hb210:Below w2.heap.size w2 w10:=hb29.trans (hb10.mono hb29.size)
   have hz10:=hz9.below hb10
   have hlow10:=hlow9.below hb10
   have hhigh10:=hhigh9.below hb10
   have hs10:=hb10.size
   have hmidl:(nd M).length≤9223372036854775807:=by
    have h1:(nd M).length≤(nd sA).length + (nd sB).length:=by
     refine nd_length_le ?_
     rw [HME.out,← HM.out,Nat.pow_add]
     exact Nat.mul_lt_mul_of_lt_of_le (lt_pow_nd sA) (Nat.le_of_lt (lt_pow_nd sB)) (pow_pos _)
    omega
   clear hmid hz9 hlow9 hhigh9 hb29 hb10 hsA9 hsB9
   have hd1:=decrease_own w9.heap.size cm cl (C + H) am al (nd M) (nd L) w10 hm10 hs10 hlow10.rd
    (fun g' hg'=>Or.inr (fun a ha=>by have:=hlow9b a ha; omega)) (nd_length_mono (by have:=HME.out; omega)) hmidl (by rw [val_nd,val_nd,HME.out])
   go_wp2_with fail
   refine hd1.mono ?_
   rintro e w11 ⟨rfl,hm11,gm,ym,hgm,hw11⟩
   have hMN:M < 4294967296 ^ (nd M).length:=lt_pow_nd M
   have hv11:val (dig (nd M).length (C + H))=C + H:=by
    rw [val_dig,Nat.mod_eq_of_lt (by have:=HME.out; omega)]
   have hz11:=hz10.keep_put (g:=gm) (fun a ha=>by cases ha; show g≠gm; omega) 0 ym
   have hhigh11:=hhigh10.keep_put (g:=gm) (fun a ha=>by have:=hhigh9b a ha; omega) 0 ym
   have hs11:=wput_size w10 gm 0 ym
   have hbz10:Below w.heap.size w w10:=hb02.trans (hb210.mono hb02.size)
   have hgw:w.heap.size≤gm:=by omega
   have hbz11:=below_put hbz10 hgw 0 ym
   rw [← hw11.out] at hz11 hhigh11 hs11 hbz11
   clear hd1 hz10 hlow10 hhigh10 hb210 hm10 hw11 hbz10
   have hd2:=decrease_own w9.heap.size cm chh C am ahh (dig (nd M).length (C + H)) (nd H) w11 hm11 (by omega) hhigh11.rd
    (fun g' hg'=>Or.inr (fun a ha=>by have:=hhigh9b a ha; omega)) (by rw [length_dig]; exact nd_length_mono (by have:=HME.out; omega)) (by rw [length_dig]; exact hmidl) (by rw [hv11,val_nd])
   rw [length_dig] at hd2
   go_wp2_with fail
   refine hd2.mono ?_
   rintro e w12 ⟨rfl,hm12,gm2,ym2,hgm2,hw12⟩
   have hv12:val (dig (nd M).length C)=C:=by
    rw [val_dig,Nat.mod_eq_of_lt (by have:=HME.out; omega)]
   have hz12:=hz11.keep_put (g:=gm2) (fun a ha=>by cases ha; show g≠gm2; omega) 0 ym2
   have hbz12:=below_put hbz11 (show w.heap.size≤gm2 by omega) 0 ym2
   have hs12:=wput_size w11 gm2 0 ym2
   rw [← hw12.out] at hz12 hbz12 hs12
   clear hd2 hz11 hhigh11 hbz11 hm11 hw12
   have hcutm:∀ W,Own w9.heap.size W am cm (dig (nd M).length C)→Calls Tryz.prog 157 #[.slice am (nd M).length cm] W (Ret (.slice am (nd C).length cm) W):=by
    intro W hW
    have:=cut_any _ _ _ _ hW.rd
    rw [length_dig,hv12] at this
    exact this
   have HCUT:=hid hcutm
   have hinc:∀ W:World,Own w.heap.size W (some ⟨g,0,none⟩) N (dig N (L + 4294967296 ^ (2 * h) * H))→Own w9.heap.size W am cm (nd C) →
     Calls Tryz.prog 239 #[.slice (some ⟨g,h,none⟩) (N - h) (N - h),.slice am (nd C).length cm] W (PutOwn w.heap.size g N (dig N R) W):=by
    intro W hz hp
    have h1:L + 4294967296 ^ (2 * h) * H < 4294967296 ^ N:=by have:=HTOT.out; have:=HLT.out; omega
    have:=increase_own w.heap.size g N h (N - h) (N - h) cm am (dig N (L + 4294967296 ^ (2 * h) * H)) (nd C) W hz (by rw [length_dig]; omega) hp.rd (hp.off hg9) hCl (by rw [length_dig]; omega)
     (by rw [val_dig,val_nd,length_dig,Nat.mod_eq_of_lt h1,HTOT.out]; exact HLT.out)
    rwa [val_dig,val_nd,length_dig,Nat.mod_eq_of_lt h1,HTOT.out] at this
   have HINC:=hid hinc
   have hmC:=hm12.cutND
   rw [hv12] at hmC
   have hNh:¬ (N=h):=by omega
   clear hcutm hinc hv11 hv12 hMN
   go_wp2_with fail
   go_region_with (first
    | (go_at_call 157; refine (HCUT.out _ (Own.drewN (w:=w12) hm12 _)).mono ?_; rintro e w' ⟨rfl,rfl⟩)
    | (go_at_call 239; refine (HINC.out _ (Own.drewN (w:=w12) hz12 _) (Own.drewN (w:=w12) hmC _)).mono ?_; rintro e w13 ⟨rfl,hz13,o13,y13,hw13⟩))
   all_goals
    have hbz13:Below w.heap.size w w13:=by
     rw [hw13.out]
     exact below_put (hbz12.trans (below_drewN w12 1 |>.mono (by have:=hbz12.size; omega))) hgle _ _
    have hcut:=cut_any _ _ _ _ hz13.rd
    have hown:=hz13.cutND
    rw [length_dig,val_dig,Nat.mod_eq_of_lt HLT.out] at hcut
    rw [val_dig,Nat.mod_eq_of_lt HLT.out] at hown
    clear hw13
    go_wp2_with (go_at_call 157; refine hcut.mono ?_; rintro e w' ⟨rfl,rfl⟩)
    go_ret
    exact ⟨_,_,rfl,hown,hbz13⟩
end Go.Proofs.YtcankknlbljicaaGreatDoor

namespace Go.Proofs.YtcankknlbljicaaGreatDoor
open Go.RowKit Num

theorem product_two (aa ab:Option Addr) (ca cb:Nat) (xs ys:List Nat) (w:World) (IH:ProdTo (xs.length + ys.length)) (ha:Rd w aa ca xs) (hb:Rd w ab cb ys) (hl1:xs.length≤4398046511104) (hl2:ys.length≤4398046511104)
  (hlen:xs.length < ys.length) :
  Calls Tryz.prog 215 #[.slice aa xs.length ca,.slice ab ys.length cb] w (RetOwn w.heap.size (nd (val xs * val ys)) w):=by
 obtain ⟨R,hR⟩:∃ R,R=val xs * val ys:=⟨_,rfl⟩
 rw [← hR]
 have HR:=hid (show val ys * val xs=R by rw [hR,Nat.mul_comm])
 clear hR

 go_enter Tryz.func215,Tryz.ntmps215
 by_cases hshort:xs.length < 48
 ·have hsp:=shortProduct_any ab aa cb ca ys xs w hb ha (by omega) (by omega)
  rw [HR.out] at hsp
  go_wp2_with (go_at_call 237; refine hsp.mono ?_; rintro e w' ⟨ao,c,rfl,hown,hbel⟩)
  go_ret
  exact ⟨ao,c,rfl,hown,hbel⟩
 ·obtain ⟨h,hh⟩:∃ h,h=(ys.length + 1) / 2:=⟨_,rfl⟩
  have hh1:ys.length≤2 * h:=by omega
  have hh2 : 2 * h≤ys.length + 1:=by omega
  have hhi:(((ys.length:Int) + 1) / 2)=(h:Int):=by omega
  have hsU:=split_any ab cb h ys w hb (by omega)
  have HU:=hid hb.dg
  have HV:=hid ha.dg
  clear hh
  go_wp2_with fail
  refine hsU.mono ?_
  rintro e w1 ⟨ahU,chU,loU,rfl,hloU,hvloU,hloUl,hloUl2,hhiU,hb1⟩
  have HhU:=hid (show (ys.drop h).length=ys.length - h by simp)
  have hsV:=split_any aa ca h xs w1 (ha.below hb1) (by omega)
  obtain ⟨hiU,hhiUe⟩:∃ hiU,hiU=ys.drop h:=⟨_,rfl⟩
  have HVU:=hid (show val ys=val loU + 4294967296 ^ h * val hiU by rw [hvloU,hhiUe]; exact val_split ys h (by omega))
  have hhiUl:hiU.length + h≤ys.length:=by rw [hhiUe]; simp; omega
  have hhiUl2:ys.length≤hiU.length + h:=by rw [hhiUe]; simp; omega
  rw [← hhiUe] at hhiU ⊢
  clear hhiUe hvloU HhU hsU
  go_wp2_with fail
  refine hsV.mono ?_
  rintro e w2 ⟨ahV,chV,loV,rfl,hloV,hvloV,hloVl,hloVl2,hhiV,hb2⟩
  have hb02:Below w.heap.size w w2:=hb1.trans (hb2.mono hb1.size)
  obtain ⟨hiV,hhiVe⟩:∃ hiV,hiV=xs.drop h:=⟨_,rfl⟩
  have hhiVl:hiV.length≤xs.length - h:=by rw [hhiVe]; simp
  have hhiVl2:xs.length≤hiV.length + h:=by rw [hhiVe]; simp; omega
  have HVV:=hid (show val xs=val loV + 4294967296 ^ h * val hiV by
   rw [hvloV,hhiVe]
   by_cases hc:h≤xs.length
   ·exact val_split xs h hc
   ·rw [List.drop_eq_nil_of_le (by omega),List.take_of_length_le (by omega)]; simp [val])
  rw [← hhiVe] at hhiV ⊢
  have hloU:=hloU.below hb2
  have hhiU:=hhiU.below hb2
  clear hhiVe hvloV hsV hb1 hb2 hb ha
  obtain ⟨N,hN⟩:∃ N,N=ys.length + xs.length:=⟨_,rfl⟩
  have hNi:(ys.length:Int) + (xs.length:Int)=(N:Int):=by omega
  have hN1:ys.length + xs.length≤N:=by omega
  have hN2:N≤ys.length + xs.length:=by omega
  clear hN
  go_wp2_with (at_make; refine wp_make _ rfl _ rfl w.heap.size N _ rfl rfl (by omega) hb02.size ?_; intro w3 hown3 hb3 hsz3)
  obtain ⟨g,hg⟩:∃ g,g=w2.heap.size:=⟨_,rfl⟩
  rw [← hg] at hown3 ⊢
  have hgle:w.heap.size≤g:=by rw [hg]; exact hb02.size
  have hg3:g < w3.heap.size:=by rw [hg]; exact hsz3
  have hoff:∀ {ao c ys},Rd w2 ao c ys→Off g ao ys:=fun hr=>hr.lt_size (by omega)
  have hgge:w2.heap.size≤g:=by omega
  have HG:=hid hg
  clear hg hsz3
  obtain ⟨L,hL⟩:∃ L,L=val loU * val loV:=⟨_,rfl⟩
  have hlow:=IH ab aa cb ca loU loV w3 (by omega) (hloU.below hb3) (hloV.below hb3) (by omega) (by omega)
  rw [← hL] at hlow
  have hLl:L < 4294967296 ^ (2 * h):=by
   have h1:=Nat.lt_of_lt_of_le (val_lt hloU.dg) (Nat.pow_le_pow_right (show 0 < 4294967296 by omega) hloUl)
   have h2:=Nat.lt_of_lt_of_le (val_lt hloV.dg) (Nat.pow_le_pow_right (show 0 < 4294967296 by omega) hloVl)
   have h3:=Nat.mul_lt_mul_of_lt_of_le h1 (Nat.le_of_lt h2) (pow_pos h)
   rw [hL,show 2 * h=h + h by omega,Nat.pow_add]; exact h3
  have hLn:L < 4294967296 ^ N:=by
   have h1:=val_lt hloU.dg
   have h2:=val_lt hloV.dg
   have h3:=Nat.mul_lt_mul_of_lt_of_le h1 (Nat.le_of_lt h2) (pow_pos _)
   rw [hL]
   refine Nat.lt_of_lt_of_le (by rw [← Nat.pow_add] at h3; exact h3) (Nat.pow_le_pow_right (by omega) (by omega))
  have HLn:=hid (And.intro hLl hLn)
  have hLlen:=nd_length_le hLn
  have HL:=hid hL
  clear hL hLl hLn
  go_wp2_with fail
  refine hlow.mono ?_
  rintro e w4 ⟨al,cl,rfl,hlow4,hb4⟩
  have hz4:=hown3.below hb4
  have hb24:Below w2.heap.size w2 w4:=hb3.trans (hb4.mono hb3.size)
  have hs34:w3.heap.size≤w4.heap.size:=hb4.size
  go_wp2_with fail
  obtain ⟨cur,hcur,hcurl⟩:=hz4.row
  rw [List.length_replicate] at hcurl
  rw [run_copy w4 _ g 0 _ _ _ _ _ (List.replicate N 0) (nd L) (by simp) rfl cur _ hcur (by simp; omega) hlow4.rd (by simp; omega)]
  have hz5:=hz4.copied (ys:=nd L) hLlen (wf_nd L)
  rw [nd_pad HLn.out.2] at hz5
  have hlow5:=hlow4.keep_put (g:=g) (fun a hb=>by subst hb; have:=hlow4.block; omega) 0 (nd L)
  have hb25:=below_put hb24 hgge 0 (nd L)
  have hs5:=wput_size w4 g 0 (nd L)
  have hs35:w3.heap.size≤(wput w4 g 0 (nd L)).heap.size:=by omega
  clear hcur hcurl hz4 hb24 hs34 hs5 hlow4 hb4 hown3
  generalize wput w4 g 0 (nd L)=w5 at hz5 hlow5 hb25 hs35 ⊢
  have hb05:Below w.heap.size w w5:=hb02.trans (hb25.mono hb02.size)
  by_cases hhv:hiV.length=0
  ·have hbv:((hiV.length:Int) == 0)=true:=by simp [hhv]
   have HNIL:=hid (List.eq_nil_of_length_eq_zero hhv)
   obtain ⟨Pd,hPd⟩:∃ Pd,Pd=val hiU * val loV:=⟨_,rfl⟩
   have HP:=hid hPd
   have hPl:(nd Pd).length≤N - h:=by
    refine nd_length_le ?_
    have h1:=val_lt hhiU.dg
    have h2:=val_lt hloV.dg
    have h3:=Nat.mul_lt_mul_of_lt_of_le h1 (Nat.le_of_lt h2) (pow_pos _)
    rw [hPd]
    refine Nat.lt_of_lt_of_le (by rw [← Nat.pow_add] at h3; exact h3) (Nat.pow_le_pow_right (by omega) (by omega))
   have HTOT:=hid (show L + 4294967296 ^ h * Pd=R by
    rw [← HR.out,HVU.out,HVV.out,HNIL.out,HL.out,hPd]; simp only [val]; grind)
   have HLT:=hid (show R < 4294967296 ^ N by
    rw [← HR.out]
    have h3:=Nat.mul_lt_mul_of_lt_of_le (val_lt HU.out) (Nat.le_of_lt (val_lt HV.out)) (pow_pos _)
    refine Nat.lt_of_lt_of_le (by rw [← Nat.pow_add] at h3; exact h3) (Nat.pow_le_pow_right (by omega) (by omega)))
   have hprod:∀ W,Below w2.heap.size w2 W→Calls Tryz.prog 215 #[.slice ahU hiU.length chU,.slice aa loV.length ca] W (RetOwn W.heap.size (nd Pd) W):=by
    intro W hW
    have:=IH ahU aa chU ca hiU loV W (by omega) (hhiU.below hW) (hloV.below hW) (by omega) (by omega)
    rwa [← hPd] at this
   have HPROD:=hid hprod
   have hinc:∀ (W:World) (ap:Option Addr) (cp B':Nat),g < B'→Own w.heap.size W (some ⟨g,0,none⟩) N (dig N L)→Own B' W ap cp (nd Pd) →
     Calls Tryz.prog 239 #[.slice (some ⟨g,h,none⟩) (N - h) (N - h),.slice ap (nd Pd).length cp] W (PutOwn w.heap.size g N (dig N R) W):=by
    intro W ap cp B' hB' hz hp
    have:=increase_own w.heap.size g N h (N - h) (N - h) cp ap (dig N L) (nd Pd) W hz (by rw [length_dig]; omega) hp.rd (hp.off hB') hPl (by rw [length_dig]; omega) (by rw [val_dig,val_nd,length_dig,Nat.mod_eq_of_lt HLn.out.2,HTOT.out]; exact HLT.out)
    rwa [val_dig,val_nd,length_dig,Nat.mod_eq_of_lt HLn.out.2,HTOT.out] at this
   have HINC:=hid hinc
   have hNh:¬ (N=h):=by omega
   have hg5:g < w5.drew.heap.size:=by show g < w5.heap.size; omega
   clear hprod hinc hPd hlow5 hhv
   go_wp2_with fail
   go_region_with (first
    | (go_at_call 215; refine (HPROD.out _ hb25.drew).mono ?_; rintro e w6 ⟨ap,cp,rfl,hp6,hb6⟩)
    | (go_at_call 239; refine (HINC.out _ _ _ w5.drew.heap.size hg5 (Own.below (w:=w5.drew) hz5 hb6) hp6).mono ?_; rintro e w7 ⟨rfl,hz7,o7,y7,hw7⟩))
   all_goals
    have hb7:Below w.heap.size w w7:=by
     rw [hw7.out]
     exact below_put (hb05.drew.trans (hb6.mono hb05.size)) hgle _ _
    have hcut:=cut_any _ _ _ _ hz7.rd
    have hown8:=hz7.cutND
    rw [length_dig,val_dig,Nat.mod_eq_of_lt HLT.out] at hcut
    rw [val_dig,Nat.mod_eq_of_lt HLT.out] at hown8
    clear hw7
    go_wp2_with (go_at_call 157; refine hcut.mono ?_; rintro e w' ⟨rfl,rfl⟩)
    go_ret
    exact ⟨_,_,rfl,hown8,hb7⟩
  ·have hbv:((hiV.length:Int) == 0)=false:=beq_eq_false_iff_ne.2 (by omega)
   have hvl:h < xs.length:=by omega
   obtain ⟨H,hH⟩:∃ H,H=val hiU * val hiV:=⟨_,rfl⟩
   have hHl:(nd H).length≤N - 2 * h:=by
    refine nd_length_le ?_
    have h1:=val_lt hhiU.dg
    have h2:=val_lt hhiV.dg
    have h3:=Nat.mul_lt_mul_of_lt_of_le h1 (Nat.le_of_lt h2) (pow_pos _)
    rw [hH]
    refine Nat.lt_of_lt_of_le (by rw [← Nat.pow_add] at h3; exact h3) (Nat.pow_le_pow_right (by omega) (by omega))
   have hhigh:=IH ahU ahV chU chV hiU hiV w5 (by omega) (hhiU.below hb25) (hhiV.below hb25) (by omega) (by omega)
   rw [← hH] at hhigh
   have HH:=hid hH
   clear hH hhv
   go_wp2_with fail
   refine hhigh.mono ?_
   rintro e w6 ⟨ahh,chh,rfl,hhigh6,hb6⟩
   have hz6:=hz5.below hb6
   have hlow6:=hlow5.below hb6
   have hb26:Below w2.heap.size w2 w6:=hb25.trans (hb6.mono hb25.size)
   have hs56:w5.heap.size≤w6.heap.size:=hb6.size
   have hN2h:¬ (N=2 * h):=by omega
   have h2n : 2 * h≤N:=by omega
   clear hz5 hlow5 hb6 hb05
   go_wp2_with fail
   obtain ⟨cur,hcur,hcurl⟩:=hz6.row
   rw [length_dig] at hcurl
   rw [run_copy w6 _ g (2 * h) _ _ _ _ _ ((dig N L).drop (2 * h)) (nd H) (by simp [length_dig]) rfl cur _ hcur (by simp [length_dig]; omega) hhigh6.rd (by simp [length_dig]; omega)]
   have hz7:=hz6.put_at (2 * h) (nd H) (by rw [length_dig]; omega) (wf_nd H)
   rw [put_hi HLn.out.1 (by omega)] at hz7
   have hlow7:=hlow6.keep_put (g:=g) (fun a hb=>by subst hb; have:=hlow6.block; omega) (2 * h) (nd H)
   have hhigh7:=hhigh6.keep_put (g:=g) (fun a hb=>by subst hb; have:=hhigh6.block; omega) (2 * h) (nd H)
   have hb27:=below_put hb26 hgge (2 * h) (nd H)
   have hs7:=wput_size w6 g (2 * h) (nd H)
   have hs57:w5.heap.size≤(wput w6 g (2 * h) (nd H)).heap.size:=by omega
   clear hcur hcurl hz6 hb26 hs56 hs7 hlow6 hhigh6
   generalize wput w6 g (2 * h) (nd H)=w7 at hz7 hlow7 hhigh7 hb27 hs57 ⊢
   have hsA:=add_any ab ahU cb chU loU hiU w7 (hloU.below hb27) (hhiU.below hb27) (by omega) (by omega)
   have hsB:=fun W (hW:Below w2.heap.size w2 W)=>add_any aa ahV ca chV loV hiV W (hloV.below hW) (hhiV.below hW) (by omega) (by omega)
   obtain ⟨sA,hsAe⟩:∃ sA,sA=val loU + val hiU:=⟨_,rfl⟩
   obtain ⟨sB,hsBe⟩:∃ sB,sB=val loV + val hiV:=⟨_,rfl⟩
   rw [← hsAe] at hsA
   simp only [← hsBe] at hsB
   have hsAl:(nd sA).length≤h + 1:=by
    refine nd_length_le ?_
    have h1:=Nat.lt_of_lt_of_le (val_lt hloU.dg) (Nat.pow_le_pow_right (show 0 < 4294967296 by omega) hloUl)
    have h2:=Nat.lt_of_lt_of_le (val_lt hhiU.dg) (Nat.pow_le_pow_right (show 0 < 4294967296 by omega) (show hiU.length≤h by omega))
    rw [Nat.pow_succ]; omega
   have hsBl:(nd sB).length≤h + 1:=by
    refine nd_length_le ?_
    have h1:=Nat.lt_of_lt_of_le (val_lt hloV.dg) (Nat.pow_le_pow_right (show 0 < 4294967296 by omega) hloVl)
    have h2:=Nat.lt_of_lt_of_le (val_lt hhiV.dg) (Nat.pow_le_pow_right (show 0 < 4294967296 by omega) (show hiV.length≤h by omega))
    rw [Nat.pow_succ]; omega
   obtain ⟨C,hC⟩:∃ C,C=val loU * val hiV + val hiU * val loV:=⟨_,rfl⟩
   have hM:sA * sB=C + H + L:=by rw [hsAe,hsBe,hC,HH.out,HL.out]; grind
   have HTOT:=hid (show L + 4294967296 ^ (2 * h) * H + 4294967296 ^ h * C=R by
    rw [← HR.out,HVU.out,HVV.out,HL.out,HH.out,hC,show 2 * h=h + h by omega,Nat.pow_add]; grind)
   have HLT:=hid (show R < 4294967296 ^ N by
    rw [← HR.out]
    have h3:=Nat.mul_lt_mul_of_lt_of_le (val_lt HU.out) (Nat.le_of_lt (val_lt HV.out)) (pow_pos _)
    refine Nat.lt_of_lt_of_le (by rw [← Nat.pow_add] at h3; exact h3) (Nat.pow_le_pow_right (by omega) (by omega)))
   have hCl:(nd C).length≤N - h:=by
    refine nd_length_le ?_
    have h1:=HTOT.out
    have h2:=HLT.out
    have h3 : 4294967296 ^ h * C < 4294967296 ^ h * 4294967296 ^ (N - h):=by
     rw [← Nat.pow_add,show h + (N - h)=N by omega]; omega
    exact Nat.lt_of_mul_lt_mul_left h3
   have HM:=hid hM
   have HSUM:=hid (And.intro hsAe hsBe)
   clear hsAe hsBe hC hM
   go_wp2_with fail
   refine hsA.mono ?_
   rintro e w8 ⟨asA,csA,rfl,hsA8,hb8⟩
   have hb28:Below w2.heap.size w2 w8:=hb27.trans (hb8.mono hb27.size)
   have hz8:=hz7.below hb8
   have hlow8:=hlow7.below hb8
   have hhigh8:=hhigh7.below hb8
   have hs8:=hb8.size
   clear hsA hz7 hlow7 hhigh7 hb27 hb8
   go_wp2_with fail
   refine (hsB w8 hb28).mono ?_
   rintro e w9 ⟨asB,csB,rfl,hsB9,hb9⟩
   have hb29:Below w2.heap.size w2 w9:=hb28.trans (hb9.mono hb28.size)
   have hz9:=hz8.below hb9
   have hlow9:=hlow8.below hb9
   have hhigh9:=hhigh8.below hb9
   have hsA9:=hsA8.below hb9
   have hs9:=hb9.size
   have hlow9b:∀ a,al=some a→a.block < w9.heap.size:=fun a hb=>by subst hb; exact hlow9.block.2
   have hhigh9b:∀ a,ahh=some a→a.block < w9.heap.size:=fun a hb=>by subst hb; exact hhigh9.block.2
   have hg9:g < w9.heap.size:=hz9.block.2
   clear hsB hz8 hlow8 hhigh8 hb28 hb9 hsA8
   have hmid:=IH asA asB csA csB (nd sA) (nd sB) w9 (by omega) hsA9.rd hsB9.rd (by omega) (by omega)
   rw [val_nd,val_nd] at hmid
   obtain ⟨M,hMe⟩:∃ M,M=sA * sB:=⟨_,rfl⟩
   rw [← hMe] at hmid
   have HME:=hid (show M=C + H + L by rw [hMe,HM.out])
   clear hMe
   go_wp2_with fail
   refine hmid.mono ?_
   rintro e w10 ⟨am,cm,rfl,hm10,hb10⟩
   have hb210:Below w2.heap.size w2 w10:=hb29.trans (hb10.mono hb29.size)
   have hz10:=hz9.below hb10
   have hlow10:=hlow9.below hb10
   have hhigh10:=hhigh9.below hb10
   have hs10:=hb10.size
   have hmidl:(nd M).length≤9223372036854775807:=by
    have h1:(nd M).length≤(nd sA).length + (nd sB).length:=by
     refine nd_length_le ?_
     rw [HME.out,← HM.out,Nat.pow_add]
     exact Nat.mul_lt_mul_of_lt_of_le (lt_pow_nd sA) (Nat.le_of_lt (lt_pow_nd sB)) (pow_pos _)
    omega
   clear hmid hz9 hlow9 hhigh9 hb29 hb10 hsA9 hsB9
   have hd1:=decrease_own w9.heap.size cm cl (C + H) am al (nd M) (nd L) w10 hm10 hs10 hlow10.rd
    (fun g' hg'=>Or.inr (fun a hb=>by have:=hlow9b a hb; omega)) (nd_length_mono (by have:=HME.out; omega)) hmidl (by rw [val_nd,val_nd,HME.out])
   go_wp2_with fail
   refine hd1.mono ?_
   rintro e w11 ⟨rfl,hm11,gm,ym,hgm,hw11⟩
   have hMN:M < 4294967296 ^ (nd M).length:=lt_pow_nd M
   have hv11:val (dig (nd M).length (C + H))=C + H:=by
    rw [val_dig,Nat.mod_eq_of_lt (by have:=HME.out; omega)]
   have hz11:=hz10.keep_put (g:=gm) (fun a hb=>by cases hb; show g≠gm; omega) 0 ym
   have hhigh11:=hhigh10.keep_put (g:=gm) (fun a hb=>by have:=hhigh9b a hb; omega) 0 ym
   have hs11:=wput_size w10 gm 0 ym
   have hbz10:Below w.heap.size w w10:=hb02.trans (hb210.mono hb02.size)
   have hgw:w.heap.size≤gm:=by omega
   have hbz11:=below_put hbz10 hgw 0 ym
   rw [← hw11.out] at hz11 hhigh11 hs11 hbz11
   clear hd1 hz10 hlow10 hhigh10 hb210 hm10 hw11 hbz10
   have hd2:=decrease_own w9.heap.size cm chh C am ahh (dig (nd M).length (C + H)) (nd H) w11 hm11 (by omega) hhigh11.rd
    (fun g' hg'=>Or.inr (fun a hb=>by have:=hhigh9b a hb; omega)) (by rw [length_dig]; exact nd_length_mono (by have:=HME.out; omega)) (by rw [length_dig]; exact hmidl) (by rw [hv11,val_nd])
   rw [length_dig] at hd2
   go_wp2_with fail
   refine hd2.mono ?_
   rintro e w12 ⟨rfl,hm12,gm2,ym2,hgm2,hw12⟩
   have hv12:val (dig (nd M).length C)=C:=by
    rw [val_dig,Nat.mod_eq_of_lt (by have:=HME.out; omega)]
   have hz12:=hz11.keep_put (g:=gm2) (fun a hb=>by cases hb; show g≠gm2; omega) 0 ym2
   have hbz12:=below_put hbz11 (show w.heap.size≤gm2 by omega) 0 ym2
   have hs12:=wput_size w11 gm2 0 ym2
   rw [← hw12.out] at hz12 hbz12 hs12
   clear hd2 hz11 hhigh11 hbz11 hm11 hw12
   have hcutm:∀ W,Own w9.heap.size W am cm (dig (nd M).length C)→Calls Tryz.prog 157 #[.slice am (nd M).length cm] W (Ret (.slice am (nd C).length cm) W):=by
    intro W hW
    have:=cut_any _ _ _ _ hW.rd
    rw [length_dig,hv12] at this
    exact this
   have HCUT:=hid hcutm
   have hinc:∀ W:World,Own w.heap.size W (some ⟨g,0,none⟩) N (dig N (L + 4294967296 ^ (2 * h) * H))→Own w9.heap.size W am cm (nd C) →
     Calls Tryz.prog 239 #[.slice (some ⟨g,h,none⟩) (N - h) (N - h),.slice am (nd C).length cm] W (PutOwn w.heap.size g N (dig N R) W):=by
    intro W hz hp
    have h1:L + 4294967296 ^ (2 * h) * H < 4294967296 ^ N:=by have:=HTOT.out; have:=HLT.out; omega
    have:=increase_own w.heap.size g N h (N - h) (N - h) cm am (dig N (L + 4294967296 ^ (2 * h) * H)) (nd C) W hz (by rw [length_dig]; omega) hp.rd (hp.off hg9) hCl (by rw [length_dig]; omega)
     (by rw [val_dig,val_nd,length_dig,Nat.mod_eq_of_lt h1,HTOT.out]; exact HLT.out)
    rwa [val_dig,val_nd,length_dig,Nat.mod_eq_of_lt h1,HTOT.out] at this
   have HINC:=hid hinc
   have hmC:=hm12.cutND
   rw [hv12] at hmC
   have hNh:¬ (N=h):=by omega
   clear hcutm hinc hv11 hv12 hMN
   go_wp2_with fail
   go_region_with (first
    | (go_at_call 157; refine (HCUT.out _ (Own.drewN (w:=w12) hm12 _)).mono ?_; rintro e w' ⟨rfl,rfl⟩)
    | (go_at_call 239; refine (HINC.out _ (Own.drewN (w:=w12) hz12 _) (Own.drewN (w:=w12) hmC _)).mono ?_; rintro e w13 ⟨rfl,hz13,o13,y13,hw13⟩))
   all_goals
    have hbz13:Below w.heap.size w w13:=by
     rw [hw13.out]
     exact below_put (hbz12.trans (below_drewN w12 1 |>.mono (by have:=hbz12.size; omega))) hgle _ _
    have hcut:=cut_any _ _ _ _ hz13.rd
    have hown:=hz13.cutND
    rw [length_dig,val_dig,Nat.mod_eq_of_lt HLT.out] at hcut
    rw [val_dig,Nat.mod_eq_of_lt HLT.out] at hown
    clear hw13
    go_wp2_with (go_at_call 157; refine hcut.mono ?_; rintro e w' ⟨rfl,rfl⟩)
    go_ret
    exact ⟨_,_,rfl,hown,hbz13⟩

theorem product_to (n:Nat):ProdTo n:=by
 induction n with
 | zero=>intro _ _ _ _ _ _ _ h; omega
 | succ n ih =>
  intro aa ab ca cb xs ys w h ha hb hl1 hl2
  have IH:ProdTo (xs.length + ys.length):=fun aa ab ca cb us vs w hlt=>ih aa ab ca cb us vs w (by omega)
  by_cases hlen:ys.length≤xs.length
  ·exact product_one aa ab ca cb xs ys w IH ha hb hl1 hl2 hlen
  ·exact product_two aa ab ca cb xs ys w IH ha hb hl1 hl2 (by omega)
theorem product_any (aa ab:Option Addr) (ca cb:Nat) (xs ys:List Nat) (w:World) (ha:Rd w aa ca xs) (hb:Rd w ab cb ys) (hl1:xs.length≤4398046511104) (hl2:ys.length≤4398046511104) :
  Calls Tryz.prog 215 #[.slice aa xs.length ca,.slice ab ys.length cb] w (RetOwn w.heap.size (nd (val xs * val ys)) w) :=
 product_to _ aa ab ca cb xs ys w (Nat.lt_succ_self _) ha hb hl1 hl2

theorem mul_any (aa ab:Option Addr) (ca cb:Nat) (xs ys:List Nat) (w:World) (ha:Rd w aa ca xs) (hb:Rd w ab cb ys) (hl1:xs.length≤4398046511104) (hl2:ys.length≤4398046511104) :
  Calls Tryz.prog 183 #[.slice aa xs.length ca,.slice ab ys.length cb] w (RetOwn w.heap.size (nd (val xs * val ys)) w):=by
 have hcx:=cut_any aa ca xs w ha
 have hcy:=cut_any ab cb ys w hb
 have hlx:=nd_length_le_of ha.dg
 have hly:=nd_length_le_of hb.dg
 have hp:=product_any aa ab ca cb (nd (val xs)) (nd (val ys)) w ha.cutND hb.cutND (by omega) (by omega)
 rw [val_nd,val_nd] at hp
 clear ha hb
 go_enter Tryz.func183,Tryz.ntmps183
 go_wp2_with fail
 refine hcx.mono ?_
 rintro e w' ⟨rfl,rfl⟩
 go_wp2_with fail
 refine hcy.mono ?_
 rintro e w' ⟨rfl,rfl⟩
 go_wp2_with fail
 refine hp.mono ?_
 rintro e w' ⟨ao,c,rfl,hown,hbel⟩
 go_wp2
 go_ret
 exact ⟨ao,c,rfl,hown,hbel⟩
end Go.Proofs.YtcankknlbljicaaGreatDoor
