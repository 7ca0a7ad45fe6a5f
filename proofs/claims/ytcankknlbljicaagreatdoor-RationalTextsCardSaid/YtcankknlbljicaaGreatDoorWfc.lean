/-  -/
import Derived.Test.YtcankknlbljicaaGreatDoorWfb

set_option linter.unusedVariables false
set_option linter.unusedSimpArgs false
set_option linter.unusedSectionVars false
set_option maxRecDepth 100000
set_option maxHeartbeats 3200000

namespace Go.Proofs.YtcankknlbljicaaGreatDoor
open Go.RowKit Num
variable {O : Bs}

def isD (xs : List Nat) (w : World) (v : Value) : Prop := ∃ ao c, v = .slice ao xs.length c ∧ Rd w ao c xs
def mD (xs : List Nat) : MP := MP.of (isD xs) fun _ _ _ he ⟨ao, c, h1, h2⟩ => ⟨ao, c, h1, h2.ext he⟩
def isJ (xs : List Nat) (w : World) (v : Value) : Prop := ∃ ao c, v = .agg #[.bool false, .slice ao xs.length c] ∧ Rd w ao c xs
def mJ (xs : List Nat) : MP := MP.of (isJ xs) fun _ _ _ he ⟨ao, c, h1, h2⟩ => ⟨ao, c, h1, h2.ext he⟩
theorem info_U : (Tryz.prog.info? 22).map (·.size) = some 1 := by kernel_rfl
theorem fa_Rat_1 {ρ : Operand → Value} {o : Oper} {w : World} {x : Operand} {g : Nat} (ho : o.op = .fieldAddr 26 x 1) (hx : ρ x = .pointer (some ⟨g, 0, none⟩)) : (execOp ρ o).run Tryz.prog w = .ok (.value (.pointer (some ⟨g, 2, none⟩))) w := run_fieldAddr ho hx Tryz.underlying26 rfl info_U
theorem ld_den {ρ : Operand → Value} {o : Oper} {w : World} {x : Operand} {g : Nat} {T : TypeId} {q : Rat} {k : Nat} (h : bx O T 3 (mC q k) w g) (hx : ρ x = .pointer (some ⟨g, 2, none⟩)) (ho : o.op = .load 22 x := by rfl) : ∃ v, (execOp ρ o).run Tryz.prog w = .ok (.value v) w ∧ (mD (nd q.den)).S O w v := by
 obtain ⟨cs, h1, h2, h3, h4, ao, c, ad, d, e, k1, k2, k3⟩ := h
 obtain rfl := Value.agg.inj e
 have hc : w.cell? ⟨g, 2, none⟩ = some (.slice ad (nd q.den).length d) := by rw [cell_of_row w g 2 _ T (0, 0) h1]; rfl
 refine ⟨_, ?_, ad, d, rfl, k2⟩
 unfold execOp
 simp [ho, hx, Instr.loadAt, Instr.sureAddr, go_sem, loadVar, isAgg, run_underlying Tryz.underlying22, hc]
theorem lit_U1 {a : Act} {w : World} {o : Oper} (ho : o.op = .buildSlice 22 1 #[(0, .const (.int .u32 1))] := by rfl) : ∃ v w', (execOp a.eval o).run Tryz.prog w = .ok (.value v) w' ∧ Below w.heap.size w w' ∧ (mD [1]).S O w' v := by
 refine ⟨_, _, run_buildSliceR ho Tryz.underlying22 (cells := #[.int .u32 1]) ?_, below_alloc _ _, some ⟨w.heap.size, 0, none⟩, 1, rfl, Nat.le_refl _, by omega, fun h => (by cases h), (fun d hd => by simp at hd; omega), Or.inr ⟨_, 0, rfl, fun i hi => ?_⟩⟩
 ·simp only [List.map_toArray, List.map_cons, List.map_nil]
  kernel_rfl
 ·rw [Nat.zero_add, cell_of_row _ _ i _ _ (0, 0) (heap_alloc_at _ _)]
  match i with
  | 0 => rfl
  | i + 1 => simp at hi
theorem Sz.den {q : Rat} {k : Nat} (h : Sz q k) : Sz (((q.den : Nat) : Int) : Rat) k := by
 refine ⟨?_, ?_⟩
 ·exact h.2
 ·have h1 := h.2
  have h2 : 0 < (nd q.den).length := by
   refine Nat.pos_of_ne_zero fun e => ?_
   have h3 := val_nd q.den
   rw [List.eq_nil_of_length_eq_zero e] at h3
   exact q.den_nz h3.symm
  show (nd 1).length ≤ k
  have h4 : (nd 1).length ≤ 1 := nd_length_le (show (1 : Nat) < 4294967296 ^ 1 by omega)
  omega
end Go.Proofs.YtcankknlbljicaaGreatDoor
