/- What the statements give the walks: the arguments, the listed variables. · An integer that came in: its sign, and its digits as a list that reads. · A rational that came in: its sign and its digits as lists that read. · The table of bits.TrailingZeros64, out of what a row lists. -/
import Derived.Test.YtibfeceainemjaaGreatDoorQb
import Derived.Test.YtibfeceainemjaaGreatDoorQr
import Derived.Test.YtibfeceainemjaaGreatDoorRows
import Derived.ProofKit
import Derived.OpenShut
import Derived.ShutString
import Derived.LaidMore
import Derived.Lay
import Derived.ChangeOld
import Derived.Below
import Derived.Stop.Joined
import Derived.Lib.SmallJoins
import Derived.Lib.LaidTab

set_option linter.unusedVariables false
set_option linter.unusedSimpArgs false
set_option linter.unusedSectionVars false

namespace Go.Proofs.YtibfeceainemjaaGreatDoor
open Go.ChangeShapes Go.WideShapes Go.ChangeAt Go.RowKit

theorem own : ownKnob Tryz.prog.godebug = none := by kernel_rfl
theorem laidOut : laidOutB Tryz.prog = true := by kernel_rfl

/-- a slice of uint32 that came in -/
def IsRow (w : World) (a : Option Addr) (len cap : Nat) (zs : List Int) : Prop :=
  (a = none ∧ len = 0 ∧ cap = 0 ∧ zs = []) ∨
  ∃ x, a = some x ∧ len ≤ cap ∧ cap ≤ maxLen ∧ zs.length = cap ∧ (∀ i, i < zs.length → w.cell? (x.add i) = some (.int .u32 (zs.getD i 0))) ∧ ∀ n ∈ zs, (Lit.int .u32 n).wf = true

theorem cell_spot {w : World} {x : Addr} {v : Value} (h : w.cell? x = some v) : x.spot = none := by
  unfold World.cell? at h
  split at h
  · split at h
    · cases h
    · rename_i hs; simpa using hs
  all_goals cases h

theorem IsRow.rd {w : World} {a : Option Addr} {len cap : Nat} {zs : List Int} (h : IsRow w a len cap zs) : ∃ xs : List Nat, xs.length = len ∧ Rd w a cap xs := by
  rcases h with ⟨rfl, rfl, rfl, rfl⟩ | ⟨x, rfl, hl, hm, hz, hc, hw⟩
  · exact ⟨[], rfl, Rd.nil (by omega) (fun _ => rfl)⟩
  · have hm' : cap ≤ 9223372036854775807 := hm
    cases hcap : cap with
    | zero =>
      subst hcap
      exact ⟨[], by simp; omega, Rd.nil (by omega) (fun h => by cases h)⟩
    | succ c =>
      have h0 := hc 0 (by omega)
      have hs : x.spot = none := cell_spot (x := x) (by simpa [Addr.add] using h0)
      obtain ⟨b, off, sp⟩ := x
      simp only at hs
      subst hs
      have hnn : ∀ i, i < zs.length → 0 ≤ zs.getD i 0 ∧ zs.getD i 0 < 4294967296 := by
        intro i hi
        have h1 := hw (zs.getD i 0) (by rw [List.getD, List.getElem?_eq_getElem hi]; exact List.getElem_mem hi)
        have e1 : IntKind.u32.min = 0 := rfl
        have e2 : IntKind.u32.max = 4294967295 := rfl
        simp only [Lit.wf, Bool.and_eq_true, decide_eq_true_eq] at h1
        rw [e1, e2] at h1
        omega
      have hcm : c + 1 ≤ 9223372036854775807 := by omega
      refine ⟨(zs.take len).map Int.toNat, by rw [List.length_map, List.length_take]; omega, ?_, hcm, (fun h => by cases h), ?_, ?_⟩
      · rw [List.length_map, List.length_take]; omega
      · intro d hd
        obtain ⟨z, hz1, rfl⟩ := List.mem_map.1 hd
        obtain ⟨i, hi, rfl⟩ := List.getElem_of_mem (List.mem_of_mem_take hz1)
        have := hnn i hi
        rw [List.getD, List.getElem?_eq_getElem hi] at this
        simp at this
        omega
      · right
        refine ⟨b, off, rfl, fun i hi => ?_⟩
        rw [List.length_map, List.length_take] at hi
        have hi2 : i < zs.length := by omega
        have h1 := hc i hi2
        have h2 := hnn i hi2
        have e1 : Addr.add ⟨b, off, none⟩ i = ⟨b, off + i, none⟩ := by
          unfold Addr.add; split
          · rename_i h; subst h; rfl
          · rfl
        rw [e1] at h1
        rw [h1]
        congr 2
        have e3 : ((zs.take len).map Int.toNat).getD i 0 = (zs.getD i 0).toNat := by
          rw [List.getD_eq_getElem?_getD, List.getD_eq_getElem?_getD, List.getElem?_map, List.getElem?_take, if_pos (by omega), List.getElem?_eq_getElem hi2]
          rfl
        rw [e3]
        omega
end Go.Proofs.YtibfeceainemjaaGreatDoor

namespace Go.Proofs.YtibfeceainemjaaGreatDoor
open Go.ChangeShapes Go.WideShapes Go.ChangeAt Go.RowKit

set_option maxRecDepth 100000 in
theorem open_integer {H : Type} {enc : TypeId × Value → H} {W : World} {r : Reach} {b0 base : Nat} {v : Value} {d : DataW H} {p : List MemPlace}
    (hv : Value.okWide Tryz.prog W r b0 24 v) (h : DataW.Trod enc Tryz.prog W base (fun _ => true) true 24 v d p) :
    ∃ b ao cap, ∃ xs : List Nat, v = .agg #[.bool b, .slice ao xs.length cap] ∧ Rd W ao cap xs := by
  obtain ⟨v0, v1, y0, y1, n, rfl, _, _, h0, h1⟩ := Go.Joins.open_agg2 Tryz.underlying24 (by kernel_rfl) (by kernel_rfl) hv h
  obtain ⟨b, hb, _⟩ := DataW.trod_bool Tryz.underlying4 h0
  simp only [List.cons.injEq, and_true] at hb
  subst hb
  rcases open_ints Tryz.underlying22 Tryz.underlying52 (by kernel_rfl) h1 with ⟨hcs, _⟩ | ⟨x, l, c, zs, hcs, _, hl, hm, hz, _, hcell, hwz⟩
  · simp only [List.cons.injEq, and_true] at hcs
    subst hcs
    exact ⟨b, none, 0, [], rfl, Rd.nil (by omega) (fun _ => rfl)⟩
  · simp only [List.cons.injEq, and_true] at hcs
    subst hcs
    obtain ⟨xs, hl', hr⟩ := IsRow.rd (w := W) (a := some x) (len := l) (cap := c) (zs := zs) (.inr ⟨x, rfl, hl, hm, by simpa using hz, hcell, hwz⟩)
    subst hl'
    exact ⟨b, some x, c, xs, rfl, hr⟩
end Go.Proofs.YtibfeceainemjaaGreatDoor

namespace Go.Proofs.YtibfeceainemjaaGreatDoor
open Go.ChangeShapes Go.WideShapes Go.ChangeAt Go.RowKit

set_option maxRecDepth 100000 in
theorem open_rational {H : Type} {enc : TypeId × Value → H} {W : World} {r : Reach} {b0 base : Nat} {v : Value} {d : DataW H} {p : List MemPlace}
    (hv : Value.okWide Tryz.prog W r b0 26 v) (h : DataW.Trod enc Tryz.prog W base (fun _ => true) true 26 v d p) :
    ∃ b ao cap ad cad, ∃ xs ds : List Nat, v = .agg #[.bool b, .slice ao xs.length cap, .slice ad ds.length cad] ∧ Rd W ao cap xs ∧ Rd W ad cad ds := by
  obtain ⟨cs, rfl, hsz⟩ := okWide_struct Tryz.underlying26 hv
  obtain ⟨v0, v1, v2, rfl⟩ := Go.Joins.array3 (hsz.trans (show Tryz.prog.cellsOf 26 = 3 by kernel_rfl))
  obtain ⟨fuel, hf⟩ := h
  obtain ⟨y0, y1, n, hx, _, h0, h1⟩ := trod_struct2 Tryz.underlying26 hf
  have c24 : Tryz.prog.cellsOf 24 = 2 := by kernel_rfl
  have c22 : Tryz.prog.cellsOf 22 = 1 := by kernel_rfl
  simp only [c24, c22, Value.cells] at h0 h1
  have h0' : DataW.trod enc Tryz.prog W base (fun _ => true) true n 24 [v0, v1] = some y0 := by simpa using h0
  have h1' : DataW.trod enc Tryz.prog W base (fun _ => true) true n 22 [v2] = some y1 := by simpa using h1
  obtain ⟨z0, z1, m, hx2, _, g0, g1⟩ := trod_struct2 Tryz.underlying24 h0'
  have c4 : Tryz.prog.cellsOf 4 = 1 := by kernel_rfl
  simp only [c4, c22] at g0 g1
  have g0' : DataW.trod enc Tryz.prog W base (fun _ => true) true m 4 [v0] = some z0 := by simpa using g0
  have g1' : DataW.trod enc Tryz.prog W base (fun _ => true) true m 22 [v1] = some z1 := by simpa using g1
  obtain ⟨b, hb, _⟩ := DataW.trod_bool Tryz.underlying4 g0'
  simp only [List.cons.injEq, and_true] at hb
  subst hb
  have key : ∀ (m : Nat) (v : Value) y, DataW.trod enc Tryz.prog W base (fun _ => true) true m 22 [v] = some y → ∃ ao cap, ∃ xs : List Nat, v = .slice ao xs.length cap ∧ Rd W ao cap xs := by
    intro m v y h
    rcases open_ints Tryz.underlying22 Tryz.underlying52 (by kernel_rfl) h with ⟨hcs, _⟩ | ⟨x, l, c, zs, hcs, _, hl, hm, hz, _, hcell, hwz⟩
    · simp only [List.cons.injEq, and_true] at hcs
      subst hcs
      exact ⟨none, 0, [], rfl, Rd.nil (by omega) (fun _ => rfl)⟩
    · simp only [List.cons.injEq, and_true] at hcs
      subst hcs
      obtain ⟨xs, hl', hr⟩ := IsRow.rd (w := W) (a := some x) (len := l) (cap := c) (zs := zs) (.inr ⟨x, rfl, hl, hm, by simpa using hz, hcell, hwz⟩)
      subst hl'
      exact ⟨some x, c, xs, rfl, hr⟩
  obtain ⟨a1, c1, xs, rfl, r1⟩ := key m v1 _ g1'
  obtain ⟨a2, c2, ds, rfl, r2⟩ := key n v2 _ h1'
  exact ⟨b, a1, c1, a2, c2, xs, ds, rfl, r1, r2⟩
end Go.Proofs.YtibfeceainemjaaGreatDoor

namespace Go.Proofs.YtibfeceainemjaaGreatDoor
open Go.ChangeShapes Go.WideShapes Go.ChangeAt Go.RowKit

set_option maxRecDepth 100000 in
theorem tb_of_met {rest : List (String × DataW Unit)} {W : World} (h : laidMet Tryz.prog (("math/bits.deBruijn64tab", Rows.laid_math_bits_deBruijn64tab) :: rest) W) : Tb W := by
  have h1 : Lib.TabIs Tryz.prog W "math/bits.deBruijn64tab" .u8 (Lib.deBruijn64tab.map Int.ofNat) :=
    Lib.tabIs_of_head (g := 0) (t := 160) (e := 5) (n := 64) (by kernel_rfl) (by kernel_rfl) Tryz.underlying160 Tryz.underlying5 (by kernel_rfl) (by kernel_rfl) h
  intro j hj
  have h2 := h1.cell (g := 0) (by kernel_rfl) j (by rw [List.length_map]; exact hj)
  rw [h2]
  congr 2
  rw [List.getD_eq_getElem?_getD, List.getD_eq_getElem?_getD, List.getElem?_map, List.getElem?_eq_getElem hj]
  rfl
end Go.Proofs.YtibfeceainemjaaGreatDoor
