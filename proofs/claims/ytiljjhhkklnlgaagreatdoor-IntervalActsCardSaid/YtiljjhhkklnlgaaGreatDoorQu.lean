/-  -/
import Derived.Test.YtiljjhhkklnlgaaGreatDoorQr
import Derived.Test.YtiljjhhkklnlgaaGreatDoorRows
import Derived.ProofKit
import Derived.OpenShut
import Derived.ShutString
import Derived.LaidMore
import Derived.Lay
import Derived.ChangeOld
import Derived.Below
import Derived.Stop.Joined
import Derived.Lib.SmallJoins
import Derived.Lib.LaidTab

set_option linter.unusedVariables false
set_option linter.unusedSimpArgs false
set_option linter.unusedSectionVars false
set_option maxRecDepth 100000
set_option maxHeartbeats 3200000

namespace Go.Proofs.YtiljjhhkklnlgaaGreatDoor
open Go.ChangeShapes Go.WideShapes Go.ChangeAt Go.RowKit

theorem own : ownKnob Tryz.prog.godebug = none := by kernel_rfl
theorem laidOut : laidOutB Tryz.prog = true := by kernel_rfl

def IsRow (w : World) (a : Option Addr) (len cap : Nat) (zs : List Int) : Prop :=
 (a = none ∧ len = 0 ∧ cap = 0 ∧ zs = []) ∨
 ∃ x, a = some x ∧ len ≤ cap ∧ cap ≤ maxLen ∧ zs.length = cap ∧ (∀ i, i < zs.length → w.cell? (x.add i) = some (.int .u32 (zs.getD i 0))) ∧ ∀ n ∈ zs, (Lit.int .u32 n).wf = true

theorem cell_spot {w : World} {x : Addr} {v : Value} (h : w.cell? x = some v) : x.spot = none := by
 unfold World.cell? at h
 split at h
 ·split at h
  ·cases h
  ·rename_i hs; simpa using hs
 all_goals cases h

theorem IsRow.rd {w : World} {a : Option Addr} {len cap : Nat} {zs : List Int} (h : IsRow w a len cap zs) : ∃ xs : List Nat, xs.length = len ∧ Rd w a cap xs := by
 rcases h with ⟨rfl, rfl, rfl, rfl⟩ | ⟨x, rfl, hl, hm, hz, hc, hw⟩
 ·exact ⟨[], rfl, Rd.nil (by omega) (fun _ => rfl)⟩
 ·have hm' : cap ≤ 9223372036854775807 := hm
  cases hcap : cap with
  | zero =>
   subst hcap
   exact ⟨[], by simp; omega, Rd.nil (by omega) (fun h => by cases h)⟩
  | succ c =>
   have h0 := hc 0 (by omega)
   have hs : x.spot = none := cell_spot (x := x) (by simpa [Addr.add] using h0)
   obtain ⟨b, off, sp⟩ := x
   simp only at hs
   subst hs
   have hnn : ∀ i, i < zs.length → 0 ≤ zs.getD i 0 ∧ zs.getD i 0 < 4294967296 := by
    intro i hi
    have h1 := hw (zs.getD i 0) (by rw [List.getD, List.getElem?_eq_getElem hi]; exact List.getElem_mem hi)
    have e1 : IntKind.u32.min = 0 := rfl
    have e2 : IntKind.u32.max = 4294967295 := rfl
    simp only [Lit.wf, Bool.and_eq_true, decide_eq_true_eq] at h1
    rw [e1, e2] at h1
    omega
   have hcm : c + 1 ≤ 9223372036854775807 := by omega
   refine ⟨(zs.take len).map Int.toNat, by rw [List.length_map, List.length_take]; omega, ?_, hcm, (fun h => by cases h), ?_, ?_⟩
   ·rw [List.length_map, List.length_take]; omega
   ·intro d hd
    obtain ⟨z, hz1, rfl⟩ := List.mem_map.1 hd
    obtain ⟨i, hi, rfl⟩ := List.getElem_of_mem (List.mem_of_mem_take hz1)
    have := hnn i hi
    rw [List.getD, List.getElem?_eq_getElem hi] at this
    simp at this
    omega
   ·right
    refine ⟨b, off, rfl, fun i hi => ?_⟩
    rw [List.length_map, List.length_take] at hi
    have hi2 : i < zs.length := by omega
    have h1 := hc i hi2
    have h2 := hnn i hi2
    have e1 : Addr.add ⟨b, off, none⟩ i = ⟨b, off + i, none⟩ := by
     unfold Addr.add; split
     ·rename_i h; subst h; rfl
     ·rfl
    rw [e1] at h1
    rw [h1]
    congr 2
    have e3 : ((zs.take len).map Int.toNat).getD i 0 = (zs.getD i 0).toNat := by
     rw [List.getD_eq_getElem?_getD, List.getD_eq_getElem?_getD, List.getElem?_map, List.getElem?_take, if_pos (by omega), List.getElem?_eq_getElem hi2]
     rfl
    rw [e3]
    omega
end Go.Proofs.YtiljjhhkklnlgaaGreatDoor

namespace Go.Proofs.YtiljjhhkklnlgaaGreatDoor
open Go.ChangeShapes Go.WideShapes Go.ChangeAt Go.RowKit

end Go.Proofs.YtiljjhhkklnlgaaGreatDoor

namespace Go.Proofs.YtiljjhhkklnlgaaGreatDoor
open Go.ChangeShapes Go.WideShapes Go.ChangeAt Go.RowKit

theorem tb_of_met {rest : List (String × DataW Unit)} {W : World} (h : laidMet Tryz.prog (("math/bits.deBruijn64tab", Rows.laid_math_bits_deBruijn64tab) :: rest) W) : Tb W := by
 have h1 : Lib.TabIs Tryz.prog W "math/bits.deBruijn64tab" .u8 (Lib.deBruijn64tab.map Int.ofNat) :=
  Lib.tabIs_of_head (g := 1) (t := 199) (e := 5) (n := 64) (by kernel_rfl) (by kernel_rfl) Tryz.underlying199 Tryz.underlying5 (by kernel_rfl) (by kernel_rfl) h
 intro j hj
 have h2 := h1.cell (g := 1) (by kernel_rfl) j (by rw [List.length_map]; exact hj)
 rw [h2]
 congr 2
 rw [List.getD_eq_getElem?_getD, List.getD_eq_getElem?_getD, List.getElem?_map, List.getElem?_eq_getElem hj]
 rfl
end Go.Proofs.YtiljjhhkklnlgaaGreatDoor
