/-  -/
import Derived.Test.YtcankknlbljicaaGreatDoorYy

set_option linter.unusedVariables false
set_option linter.unusedSimpArgs false
set_option linter.unusedSectionVars false
set_option maxRecDepth 100000
set_option maxHeartbeats 3200000

namespace Go.Proofs.YtcankknlbljicaaGreatDoor
open Go.RowKit Num

end Go.Proofs.YtcankknlbljicaaGreatDoor

namespace Go.Proofs.YtcankknlbljicaaGreatDoor
open Go.RowKit Num

theorem fld_fr (b:Bool) (ao ad:Option Addr) (n c m d:Nat) (w:World):(Instr.field 122 (.agg #[.bool b,.slice ao n c,.slice ad m d]) 0).run Tryz.prog w = .ok (.agg #[.bool b,.slice ao n c,.slice ad m d]) w:=by kernel_rfl
theorem fld_rt (b:Bool) (ao ad:Option Addr) (n c m d:Nat) (w:World):(Instr.field 26 (.agg #[.bool b,.slice ao n c,.slice ad m d]) 0).run Tryz.prog w = .ok (.agg #[.bool b,.slice ao n c]) w:=by kernel_rfl

theorem sign3_any {w:World} {b:Bool} {ao:Option Addr} {c:Nat} {xs:List Nat} {ad:Option Addr} {d:Nat} {ds:List Nat} {q:Rat} {n:Nat} (h:Rq w b ao c xs ad d ds q n) (hn:n≤4398046511103) :
  Calls Tryz.prog 96 #[.agg #[.bool b,.slice ao xs.length c,.slice ad ds.length d]] w (RetB (.int .i64 (sgnQ q)) w):=by
 have hle1:=h.rn.le
 have hcm1:=h.rn.cm
 have hle2:=h.rd.le
 have hcm2:=h.rd.cm
 have hB:=below_alloc w (.cells #[.bool b,.slice ao xs.length c,.slice ad ds.length d] 26)
 have HB:=hid hB
 have hr:=read_r (h.below hB) hn
 clear h hB
 go_enter Tryz.func96,Tryz.ntmps96
 go_wp2_with fail
 obtain ⟨w0,hw0⟩:∃ x,x=(w.alloc (.cells #[.bool b,.slice ao xs.length c,.slice ad ds.length d] 26)):=⟨_,rfl⟩
 rw [← hw0] at HB hr ⊢
 clear hw0
 refine hr.mono ?_
 rintro e w1 ⟨b1,a1,c1,x1,d1,e1,y1,rfl,F1,f1⟩
 have hle3:=F1.rn.le
 have hcm3:=F1.rn.cm
 have hln:=F1.ln
 have hs:=Sign_any b1 a1 c1 x1 w1 F1.rn (by omega)
 rw [show sgn (iv b1 (val x1))=sgnQ q by rw [← F1.vq]; exact sgn_mk F1.nz] at hs
 have H1:=hid (HB.out.trans (f1.mono HB.out.size))
 clear hr f1 F1
 have i1:=fld_fr b1 a1 d1 x1.length c1 y1.length e1 w1
 have i2:=fld_rt b1 a1 d1 x1.length c1 y1.length e1 w1
 go_wp2_with fail
 refine hs.mono ?_
 rintro e w2 ⟨rfl,f2⟩
 have H2:=hid (H1.out.trans (f2.mono H1.out.size))
 clear hs f2
 go_wp2
 go_ret
 exact ⟨rfl,H2.out⟩

end Go.Proofs.YtcankknlbljicaaGreatDoor
