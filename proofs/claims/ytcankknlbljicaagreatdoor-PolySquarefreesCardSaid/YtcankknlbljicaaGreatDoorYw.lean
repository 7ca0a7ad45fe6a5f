/-  -/
import Derived.Test.YtcankknlbljicaaGreatDoorYba
import Derived.Test.YtcankknlbljicaaGreatDoorYr
import Derived.Test.YtcankknlbljicaaGreatDoorRows
import Derived.ProofKit
import Derived.OpenShut
import Derived.ShutString
import Derived.LaidMore
import Derived.Lay
import Derived.ChangeOld
import Derived.Below
import Derived.Stop.Joined
import Derived.Lib.LaidTab

set_option linter.unusedVariables false
set_option linter.unusedSimpArgs false
set_option linter.unusedSectionVars false
set_option maxRecDepth 100000
set_option maxHeartbeats 3200000

namespace Go.Proofs.YtcankknlbljicaaGreatDoor
open Go.RowKit Num

def rv (b:Bool) (n d:Nat):Rat:=mkRat (iv b n) d
theorem rv_zero (b:Bool) (n:Nat):rv b n 0=0:=Rat.mkRat_zero _
theorem low_parts {z:Int} {d:Nat} (hd:d≠0):(mkRat z d).num=z / (Nat.gcd z.natAbs d:Int)∧(mkRat z d).den=d / Nat.gcd z.natAbs d:=by
 refine ⟨?_,?_⟩
 ·rw [Rat.num_mkRat,if_neg hd,Nat.gcd_comm]
 ·rw [Rat.den_mkRat,if_neg hd,Nat.gcd_comm]
theorem low_one {z:Int} {d:Nat} (hd:d≠0) (h1:Nat.gcd z.natAbs d=1):(mkRat z d).num=z∧(mkRat z d).den=d:=by
 obtain ⟨h2,h3⟩:=low_parts (z:=z) hd
 rw [h1] at h2 h3
 exact ⟨by rw [h2]; simp,by rw [h3]; simp⟩
theorem low_abs {b:Bool} {n d:Nat} (hd:d≠0):(rv b n d).num=iv b n / (Nat.gcd n d:Int)∧(rv b n d).den=d / Nat.gcd n d:=by
 have h:=low_parts (z:=iv b n) hd
 rw [iv_abs] at h
 exact h
theorem rv_add_gcd {z1 z2:Int} {d1 d2 g:Nat} (h1:d1≠0) (h2:d2≠0) (hg:g=Nat.gcd d1 d2):mkRat z1 d1 + mkRat z2 d2=mkRat (z1 * (d2 / g:Nat) + z2 * (d1 / g:Nat)) (d1 * (d2 / g)):=by
 have hg0:g≠0:=by
  rw [hg]; exact fun h=>h1 (Nat.gcd_eq_zero_iff.1 h).1
 obtain ⟨k1,hk1⟩:g ∣ d1:=by rw [hg]; exact Nat.gcd_dvd_left _ _
 obtain ⟨k2,hk2⟩:g ∣ d2:=by rw [hg]; exact Nat.gcd_dvd_right _ _
 have e1:d1 / g=k1:=by rw [hk1,Nat.mul_div_cancel_left _ (Nat.pos_of_ne_zero hg0)]
 have e2:d2 / g=k2:=by rw [hk2,Nat.mul_div_cancel_left _ (Nat.pos_of_ne_zero hg0)]
 rw [e1,e2,Rat.mkRat_add_mkRat _ _ h1 h2]
 have e3:(z1 * (d2:Int) + z2 * (d1:Int))=(g:Int) * (z1 * (k2:Int) + z2 * (k1:Int)):=by
  rw [hk1,hk2]; simp only [Int.natCast_mul]; grind
 have e4:d1 * d2=g * (d1 * k2):=by rw [hk2]; grind
 rw [e3,e4,Rat.mkRat_mul_left hg0]
theorem rv_same {z1 z2:Int} {d:Nat} (h:d≠0):mkRat z1 d + mkRat z2 d=mkRat (z1 + z2) d:=by
 rw [Rat.mkRat_add_mkRat _ _ h h]
 have e:z1 * (d:Int) + z2 * (d:Int)=(d:Int) * (z1 + z2):=by grind
 rw [e,Rat.mkRat_mul_left h]
theorem rv_mul {z1 z2:Int} {d1 d2:Nat}:mkRat z1 d1 * mkRat z2 d2=mkRat (z1 * z2) (d1 * d2):=Rat.mkRat_mul_mkRat _ _ _ _
theorem rv_le {z1 z2:Int} {d1 d2:Nat} (h1:d1≠0) (h2:d2≠0):mkRat z1 d1≤mkRat z2 d2 ↔ z1 * d2≤z2 * d1:=by
 rw [Rat.le_iff_sub_nonneg,Rat.sub_eq_add_neg,Rat.neg_mkRat,Rat.mkRat_add_mkRat _ _ h2 h1,← Rat.divInt_ofNat]
 have hp:(0:Int) < ((d2 * d1:Nat):Int):=by
  have:=Nat.mul_pos (Nat.pos_of_ne_zero h2) (Nat.pos_of_ne_zero h1)
  omega
 rw [Rat.divInt_nonneg_iff_of_pos_right hp]
 constructor
 ·intro h; grind
 ·intro h; grind
theorem rv_lt {z1 z2:Int} {d1 d2:Nat} (h1:d1≠0) (h2:d2≠0):mkRat z1 d1 < mkRat z2 d2 ↔ z1 * d2 < z2 * d1:=by
 have h:=rv_le (z1:=z2) (z2:=z1) h2 h1
 constructor
 ·intro hl
  refine Int.not_le.1 fun hle=>?_
  exact absurd (Rat.not_lt.2 (h.2 hle)) (fun hn=>hn hl)
 ·intro hl
  refine Classical.byContradiction fun hn=>?_
  have:=h.1 (Rat.not_lt.1 hn)
  omega
theorem cmp_cross {z1 z2:Int} {d1 d2:Nat} (h1:d1≠0) (h2:d2≠0):cmpI (z1 * d2) (z2 * d1)=if mkRat z1 d1 < mkRat z2 d2 then -1 else if mkRat z2 d2 < mkRat z1 d1 then 1 else 0:=by
 unfold cmpI
 by_cases ha:mkRat z1 d1 < mkRat z2 d2
 ·rw [if_pos ha,if_pos ((rv_lt h1 h2).1 ha)]
 ·rw [if_neg ha,if_neg (fun h=>ha ((rv_lt h1 h2).2 h))]
  by_cases hb:mkRat z2 d2 < mkRat z1 d1
  ·rw [if_pos hb,if_pos ((rv_lt h2 h1).1 hb)]
  ·rw [if_neg hb,if_neg (fun h=>hb ((rv_lt h2 h1).2 h))]
theorem rv_div {z1 z2:Int} {d1 d2:Nat}:mkRat z1 d1 / mkRat z2 d2=Rat.divInt (z1 * d2) (d1 * z2):=by
 rw [← Rat.divInt_ofNat,← Rat.divInt_ofNat,Rat.div_def,Rat.inv_divInt,Rat.divInt_mul_divInt]
theorem divInt_sign {z e:Int} (he:e≠0):Rat.divInt z e=mkRat (if e < 0 then -z else z) e.natAbs:=by
 by_cases h:e < 0
 ·rw [if_pos h,← Rat.divInt_ofNat,← Rat.neg_divInt_neg]
  congr 1; omega
 ·rw [if_neg h,← Rat.divInt_ofNat]
  congr 1; omega
end Go.Proofs.YtcankknlbljicaaGreatDoor

namespace Go.Proofs.YtcankknlbljicaaGreatDoor
open Go.RowKit Num

def rabs (q:Rat):Rat:=mkRat (q.num.natAbs:Int) q.den
def cmpQ (a b:Rat):Int:=if a < b then -1 else if b < a then 1 else 0
def sgnQ (a:Rat):Int:=sgn a.num
theorem sgn_mk {z:Int} {d:Nat} (hd:d≠0):sgn z=sgnQ (mkRat z d):=by
 unfold sgnQ
 have h1 : 0≤(mkRat z d).num ↔ 0≤z:=by
  have hd':(0:Int) < (d:Int):=by omega
  rw [Rat.num_nonneg,← Rat.divInt_ofNat,Rat.divInt_nonneg_iff_of_pos_right hd']
 have h2:(mkRat z d).num=0 ↔ z=0:=by rw [Rat.num_eq_zero,Rat.mkRat_eq_zero hd]
 unfold sgn
 by_cases ha:z < 0
 ·have hb:(mkRat z d).num < 0:=by omega
  rw [if_pos ha,if_pos hb]
 ·have hc:¬ (mkRat z d).num < 0:=by omega
  rw [if_neg ha,if_neg hc]
  by_cases hb:z=0
  ·rw [if_pos hb,if_pos (h2.2 hb)]
  ·rw [if_neg hb,if_neg (fun h=>hb (h2.1 h))]
theorem make_mk (b1 b2:Bool) (n d:Nat):mkRat (iv (b1 != b2) n) d=Rat.divInt (iv b1 n) (iv b2 d):=by
 cases b1 <;> cases b2 <;> simp [iv,Rat.divInt_neg',← Rat.divInt_ofNat]
theorem neg_mk (b:Bool) (n d:Nat):mkRat (iv (!b) n) d = -mkRat (iv b n) d:=by
 rw [Rat.neg_mkRat]; cases b <;> simp [iv]
def dnQ (q:Rat) (k:Nat):Rat:=mkRat ((q * mkRat (2 ^ k:Nat) 1).floor) (2 ^ k)
def upQ (q:Rat) (k:Nat):Rat:=-(dnQ (-q) k)
def neQ (q:Rat) (k:Nat):Rat:=dnQ (q + mkRat 1 (2 ^ (k + 1))) k
theorem cmp_crossQ {z1 z2:Int} {d1 d2:Nat} (h1:d1≠0) (h2:d2≠0):cmpI (z1 * d2) (z2 * d1)=cmpQ (mkRat z1 d1) (mkRat z2 d2):=cmp_cross h1 h2
end Go.Proofs.YtcankknlbljicaaGreatDoor

namespace Go.Proofs.YtcankknlbljicaaGreatDoor
open Go.ChangeShapes Go.WideShapes Go.ChangeAt Go.RowKit

theorem own:ownKnob Tryz.prog.godebug=none:=by kernel_rfl
theorem laidOut:laidOutB Tryz.prog=true:=by kernel_rfl

def IsRow (w:World) (a:Option Addr) (len cap:Nat) (zs:List Int):Prop :=
 (a=none∧len=0∧cap=0∧zs = []) ∨
 ∃ x,a=some x∧len≤cap∧cap≤maxLen∧zs.length=cap∧(∀ i,i < zs.length→w.cell? (x.add i)=some (.int .u32 (zs.getD i 0)))∧∀ n ∈ zs,(Lit.int .u32 n).wf=true

theorem cell_spot {w:World} {x:Addr} {v:Value} (h:w.cell? x=some v):x.spot=none:=by
 unfold World.cell? at h
 split at h
 ·split at h
  ·cases h
  ·rename_i hs; simpa using hs
 all_goals cases h

theorem IsRow.rd {w:World} {a:Option Addr} {len cap:Nat} {zs:List Int} (h:IsRow w a len cap zs):∃ xs:List Nat,xs.length=len∧Rd w a cap xs:=by
 rcases h with ⟨rfl,rfl,rfl,rfl⟩ | ⟨x,rfl,hl,hm,hz,hc,hw⟩
 ·exact ⟨[],rfl,Rd.nil (by omega) (fun _=>rfl)⟩
 ·have hm':cap≤9223372036854775807:=hm
  cases hcap:cap with
  | zero =>
   subst hcap
   exact ⟨[],by simp; omega,Rd.nil (by omega) (fun h=>by cases h)⟩
  | succ c =>
   have h0:=hc 0 (by omega)
   have hs:x.spot=none:=cell_spot (x:=x) (by simpa [Addr.add] using h0)
   obtain ⟨b,off,sp⟩:=x
   simp only at hs
   subst hs
   have hnn:∀ i,i < zs.length→0≤zs.getD i 0∧zs.getD i 0 < 4294967296:=by
    intro i hi
    have h1:=hw (zs.getD i 0) (by rw [List.getD,List.getElem?_eq_getElem hi]; exact List.getElem_mem hi)
    have e1:IntKind.u32.min=0:=rfl
    have e2:IntKind.u32.max=4294967295:=rfl
    simp only [Lit.wf,Bool.and_eq_true,decide_eq_true_eq] at h1
    rw [e1,e2] at h1
    omega
   have hcm:c + 1≤9223372036854775807:=by omega
   refine ⟨(zs.take len).map Int.toNat,by rw [List.length_map,List.length_take]; omega,?_,hcm,(fun h=>by cases h),?_,?_⟩
   ·rw [List.length_map,List.length_take]; omega
   ·intro d hd
    obtain ⟨z,hz1,rfl⟩:=List.mem_map.1 hd
    obtain ⟨i,hi,rfl⟩:=List.getElem_of_mem (List.mem_of_mem_take hz1)
    have:=hnn i hi
    rw [List.getD,List.getElem?_eq_getElem hi] at this
    simp at this
    omega
   ·right
    refine ⟨b,off,rfl,fun i hi=>?_⟩
    rw [List.length_map,List.length_take] at hi
    have hi2:i < zs.length:=by omega
    have h1:=hc i hi2
    have h2:=hnn i hi2
    have e1:Addr.add ⟨b,off,none⟩ i = ⟨b,off + i,none⟩:=by
     unfold Addr.add; split
     ·rename_i h; subst h; rfl
     ·rfl
    rw [e1] at h1
    rw [h1]
    congr 2
    have e3:((zs.take len).map Int.toNat).getD i 0=(zs.getD i 0).toNat:=by
     rw [List.getD_eq_getElem?_getD,List.getD_eq_getElem?_getD,List.getElem?_map,List.getElem?_take,if_pos (by omega),List.getElem?_eq_getElem hi2]
     rfl
    rw [e3]
    omega
end Go.Proofs.YtcankknlbljicaaGreatDoor

namespace Go.Proofs.YtcankknlbljicaaGreatDoor
open Go.ChangeShapes Go.WideShapes Go.ChangeAt Go.RowKit

theorem tb_of_met {rest:List (String × DataW Unit)} {W:World} (h:laidMet Tryz.prog (("math/bits.deBruijn64tab",Rows.laid_math_bits_deBruijn64tab) :: rest) W):Tb W:=by
 have h1:Lib.TabIs Tryz.prog W "math/bits.deBruijn64tab" .u8 (Lib.deBruijn64tab.map Int.ofNat) :=
  Lib.tabIs_of_head (g:=1) (t:=192) (e:=5) (n:=64) (by kernel_rfl) (by kernel_rfl) Tryz.underlying192 Tryz.underlying5 (by kernel_rfl) (by kernel_rfl) h
 intro j hj
 have h2:=h1.cell (g:=1) (by kernel_rfl) j (by rw [List.length_map]; exact hj)
 rw [h2]
 congr 2
 rw [List.getD_eq_getElem?_getD,List.getD_eq_getElem?_getD,List.getElem?_map,List.getElem?_eq_getElem hj]
 rfl
end Go.Proofs.YtcankknlbljicaaGreatDoor
