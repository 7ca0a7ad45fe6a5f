/-  -/
import Derived.Test.YtcankknlbljicaaGreatDoorYbd
import Derived.Test.YtcankknlbljicaaGreatDoorY2

set_option linter.unusedVariables false
set_option linter.unusedSimpArgs false
set_option linter.unusedSectionVars false
set_option maxRecDepth 100000
set_option maxHeartbeats 3200000

namespace Go.Proofs.YtcankknlbljicaaGreatDoor
open Go.RowKit Num

end Go.Proofs.YtcankknlbljicaaGreatDoor

namespace Go.Proofs.YtcankknlbljicaaGreatDoor
open Go.RowKit Num

end Go.Proofs.YtcankknlbljicaaGreatDoor

namespace Go.Proofs.YtcankknlbljicaaGreatDoor
open Go.RowKit Num

end Go.Proofs.YtcankknlbljicaaGreatDoor

namespace Go.Proofs.YtcankknlbljicaaGreatDoor
open Go.RowKit Num

theorem iv_keepV {neg:Bool} {V:Nat} (h:¬ (neg=true∧V=0)):decide (iv neg V < 0)=neg:=by
 rw [iv_neg]
 cases neg with
 | false=>rfl
 | true=>simp; exact Nat.pos_of_ne_zero fun h2=>h ⟨rfl,h2⟩

theorem canon_iff {b:Bool} {xs ds:List Nat} (hx:wf xs) (hd:wf ds) {q:Rat} (hq:rv b (val xs) (val ds)=q) :
  canon b xs ds ↔ (b=decide (q.num < 0)∧xs=nd q.num.natAbs)∧ds=nd q.den:=by
 constructor
 ·rintro ⟨⟨h1,h2⟩,h3,h4,h5⟩
  have hd0:val ds≠0:=val_pos_of h3 h4
  have e:q = ⟨iv b (val xs),val ds,hd0,by rw [iv_abs]; exact h5⟩:=by
   rw [← hq,rv,mkRat,dif_neg hd0]
   exact Rat.normalize_eq_mk' _ _ hd0 (by rw [iv_abs]; exact h5)
  have en:q.num=iv b (val xs):=by rw [e]
  have ed:q.den=val ds:=by rw [e]
  rw [en,ed,iv_abs,nd_val hx h1,nd_val hd h3]
  refine ⟨⟨?_,rfl⟩,rfl⟩
  refine (iv_keepV ?_).symm
  rintro ⟨hb,hv⟩
  exact h2 ⟨hb,Classical.byContradiction fun hne=>val_pos_of h1 hne hv⟩
 ·rintro ⟨⟨rfl,rfl⟩,rfl⟩
  refine ⟨⟨nrm_nd _,?_⟩,nrm_nd _,?_,?_⟩
  ·rintro ⟨h1,h2⟩
   have h3:=nd_eq_nil.1 h2
   have h4:=of_decide_eq_true h1
   omega
  ·intro h
   exact q.den_nz (nd_eq_nil.1 h)
  ·rw [val_nd,val_nd]; exact q.reduced

end Go.Proofs.YtcankknlbljicaaGreatDoor
