/-  -/
import Derived.Test.YtcankknlbljicaaGreatDoorWec
import Derived.Test.YtcankknlbljicaaGreatDoorWfa
import Derived.OwnWalk

set_option linter.unusedVariables false
set_option linter.unusedSimpArgs false
set_option linter.unusedSectionVars false
set_option maxRecDepth 100000
set_option maxHeartbeats 3200000

namespace Go.Proofs.YtcankknlbljicaaGreatDoor
open Go.RowKit Num

def cutn : List Rat → Nat
 | [] => 0
 | q :: r => if cutn r = 0 then (if q = 0 then 0 else 1) else cutn r + 1
abbrev cutQ (qs : List Rat) : List Rat := qs.take (cutn qs)
theorem take_succ_getD {qs : List Rat} {n : Nat} (h : n < qs.length) : qs.take (n + 1) = qs.take n ++ [qs.getD n 0] := by
 rw [List.take_add_one, List.getElem?_eq_getElem h]; simp [h]
def addQ (ps qs : List Rat) : List Rat := (List.range (max ps.length qs.length)).map fun j => ps.getD j 0 + qs.getD j 0
def dQ (qs : List Rat) (i : Nat) : List Rat := (List.range (i - 1)).map fun j => (((j + 1 : Nat) : Int) : Rat) * qs.getD (j + 1) 0
def derQ (qs : List Rat) : List Rat := dQ qs qs.length
def clr (qs : List Rat) : Rat := qs.foldl (fun d c => d * ((((c * d).den : Nat) : Int) : Rat)) 1
def inQ (ps qs : List Rat) (i j : Nat) (z : List Rat) : List Rat := (List.range j).foldl (fun z l => z.set (i + l) (z.getD (i + l) 0 + ps.getD i 0 * qs.getD l 0)) z
def outQ (ps qs : List Rat) (i : Nat) : List Rat := (List.range i).foldl (fun z l => inQ ps qs l qs.length z) (List.replicate (ps.length + qs.length - 1) 0)
def mulQ (ps qs : List Rat) : List Rat := if ps.length = 0 ∨ qs.length = 0 then [] else outQ ps qs ps.length
theorem intN {v : Value} {j : Int} {n : Nat} (h : v = .int .i64 j) (hj : j = (n : Int)) : v = .int .i64 (n : Int) := hj ▸ h
def clq (qs : List Rat) : List Rat := (cutQ qs).map fun q => q * clr qs
end Go.Proofs.YtcankknlbljicaaGreatDoor

namespace Go.Proofs.YtcankknlbljicaaGreatDoor
open Go.RowKit Num
variable {O : Bs}

section
variable {ops : Array Oper} {rest : List Oper} {o : Oper} {a : Act} {w W0 : World} {Q : Exit → Act → World → Prop} {N : Nat} {O0 : Bs} {L : List (Nat × MP)} {X : List RX}
end
theorem isZ.r0 {q : Rat} {k : Nat} {w : World} {v : Value} (hq : q = 0) (h : isZ v) : isR q k w v := hq ▸ isR.mono (isZ.r h) (Nat.zero_le _)
end Go.Proofs.YtcankknlbljicaaGreatDoor

namespace Go.Proofs.YtcankknlbljicaaGreatDoor
open Go.RowKit Num
variable {O : Bs}

def mI (ms : List MP) (m : MP) : MP := mAg [(0, mSl 3 ms), (3, m)]
section
variable {N : Nat} {O O0 : Bs} {W0 w : World} {a : Act} {L : List (Nat × MP)} {X : List RX}
theorem St.nil (S : St N O0 O W0 a w L X) (T : TypeId) (es : Nat) : St N O0 O W0 a w L (.own (.slice none 0 0) T es [] :: X) :=
 S.add (fun g e => by cases e) (Or.inl ⟨rfl, rfl⟩) fun p _ g e => by cases e
end
def mT3 (m1 m2 m3 : MP) : MP := mTu [m1, m2, m3]
end Go.Proofs.YtcankknlbljicaaGreatDoor
