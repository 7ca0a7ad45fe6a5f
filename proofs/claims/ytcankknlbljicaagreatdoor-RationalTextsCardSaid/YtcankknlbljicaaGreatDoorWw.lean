/-  -/
import Derived.Test.YtcankknlbljicaaGreatDoorWba
import Derived.Test.YtcankknlbljicaaGreatDoorWr
import Derived.Test.YtcankknlbljicaaGreatDoorRows
import Derived.ProofKit
import Derived.OpenShut
import Derived.ShutString
import Derived.LaidMore
import Derived.Lay
import Derived.ChangeOld
import Derived.Below
import Derived.Stop.Joined
import Derived.Lib.SmallJoins
import Derived.Lib.LaidTab

set_option linter.unusedVariables false
set_option linter.unusedSimpArgs false
set_option linter.unusedSectionVars false
set_option maxRecDepth 100000
set_option maxHeartbeats 3200000

namespace Go.Proofs.YtcankknlbljicaaGreatDoor
open Go.RowKit Num

def rv (b : Bool) (n d : Nat) : Rat := mkRat (iv b n) d
theorem rv_zero (b : Bool) (n : Nat) : rv b n 0 = 0 := Rat.mkRat_zero _
theorem low_parts {z : Int} {d : Nat} (hd : d ≠ 0) : (mkRat z d).num = z / (Nat.gcd z.natAbs d : Int) ∧ (mkRat z d).den = d / Nat.gcd z.natAbs d := by
 refine ⟨?_, ?_⟩
 ·rw [Rat.num_mkRat, if_neg hd, Nat.gcd_comm]
 ·rw [Rat.den_mkRat, if_neg hd, Nat.gcd_comm]
theorem low_one {z : Int} {d : Nat} (hd : d ≠ 0) (h1 : Nat.gcd z.natAbs d = 1) : (mkRat z d).num = z ∧ (mkRat z d).den = d := by
 obtain ⟨h2, h3⟩ := low_parts (z := z) hd
 rw [h1] at h2 h3
 exact ⟨by rw [h2]; simp, by rw [h3]; simp⟩
theorem low_abs {b : Bool} {n d : Nat} (hd : d ≠ 0) : (rv b n d).num = iv b n / (Nat.gcd n d : Int) ∧ (rv b n d).den = d / Nat.gcd n d := by
 have h := low_parts (z := iv b n) hd
 rw [iv_abs] at h
 exact h
theorem divInt_sign {z e : Int} (he : e ≠ 0) : Rat.divInt z e = mkRat (if e < 0 then -z else z) e.natAbs := by
 by_cases h : e < 0
 ·rw [if_pos h, ← Rat.divInt_ofNat, ← Rat.neg_divInt_neg]
  congr 1; omega
 ·rw [if_neg h, ← Rat.divInt_ofNat]
  congr 1; omega
end Go.Proofs.YtcankknlbljicaaGreatDoor

namespace Go.Proofs.YtcankknlbljicaaGreatDoor
open Go.RowKit Num

def rabs (q : Rat) : Rat := mkRat (q.num.natAbs : Int) q.den
def cmpQ (a b : Rat) : Int := if a < b then -1 else if b < a then 1 else 0
def sgnQ (a : Rat) : Int := sgn a.num
theorem floor_mk {z : Int} {d : Nat} (hd : d ≠ 0) : (mkRat z d).floor = z / (d : Int) := by
 obtain ⟨h1, h2⟩ := low_parts (z := z) hd
 rw [Rat.floor_def, h1, h2]
 have hg : Nat.gcd z.natAbs d ≠ 0 := fun h => hd (Nat.gcd_eq_zero_iff.1 h).2
 have hk1 : (Nat.gcd z.natAbs d : Int) ∣ z := Int.ofNat_dvd_left.2 (Nat.gcd_dvd_left z.natAbs d)
 obtain ⟨k2, hk2⟩ := Nat.gcd_dvd_right z.natAbs d
 obtain ⟨g, hgg⟩ : ∃ g, g = Nat.gcd z.natAbs d := ⟨_, rfl⟩
 rw [← hgg] at hg hk1 hk2 ⊢
 obtain ⟨k1, hk1⟩ := hk1
 have e1 : z / (g : Int) = k1 := by rw [hk1]; exact Int.mul_ediv_cancel_left _ (by omega)
 have e2 : d / g = k2 := by rw [hk2, Nat.mul_div_cancel_left _ (Nat.pos_of_ne_zero hg)]
 rw [e1, e2, hk1, hk2, Int.natCast_mul, Int.mul_ediv_mul_of_pos _ _ (by omega)]
theorem make_mk (b1 b2 : Bool) (n d : Nat) : mkRat (iv (b1 != b2) n) d = Rat.divInt (iv b1 n) (iv b2 d) := by
 cases b1 <;> cases b2 <;> simp [iv, Rat.divInt_neg', ← Rat.divInt_ofNat]
theorem neg_mk (b : Bool) (n d : Nat) : mkRat (iv (!b) n) d = -mkRat (iv b n) d := by
 rw [Rat.neg_mkRat]; cases b <;> simp [iv]
def dnQ (q : Rat) (k : Nat) : Rat := mkRat ((q * mkRat (2 ^ k : Nat) 1).floor) (2 ^ k)
def upQ (q : Rat) (k : Nat) : Rat := -(dnQ (-q) k)
def neQ (q : Rat) (k : Nat) : Rat := dnQ (q + mkRat 1 (2 ^ (k + 1))) k
theorem p2_ne (k : Nat) : 2 ^ k ≠ 0 := Nat.pos_iff_ne_zero.1 (Nat.two_pow_pos k)
theorem shift_mk (z : Int) (d k : Nat) : mkRat (z * (2 ^ k : Nat)) d = mkRat z d * mkRat (2 ^ k : Nat) 1 := by
 rw [Rat.mkRat_mul_mkRat, Nat.mul_one]
end Go.Proofs.YtcankknlbljicaaGreatDoor

namespace Go.Proofs.YtcankknlbljicaaGreatDoor
open Go.ChangeShapes Go.WideShapes Go.ChangeAt Go.RowKit

theorem own : ownKnob Tryz.prog.godebug = none := by kernel_rfl
theorem laidOut : laidOutB Tryz.prog = true := by kernel_rfl

def IsRow (w : World) (a : Option Addr) (len cap : Nat) (zs : List Int) : Prop :=
 (a = none ∧ len = 0 ∧ cap = 0 ∧ zs = []) ∨
 ∃ x, a = some x ∧ len ≤ cap ∧ cap ≤ maxLen ∧ zs.length = cap ∧ (∀ i, i < zs.length → w.cell? (x.add i) = some (.int .u32 (zs.getD i 0))) ∧ ∀ n ∈ zs, (Lit.int .u32 n).wf = true

theorem cell_spot {w : World} {x : Addr} {v : Value} (h : w.cell? x = some v) : x.spot = none := by
 unfold World.cell? at h
 split at h
 ·split at h
  ·cases h
  ·rename_i hs; simpa using hs
 all_goals cases h

theorem IsRow.rd {w : World} {a : Option Addr} {len cap : Nat} {zs : List Int} (h : IsRow w a len cap zs) : ∃ xs : List Nat, xs.length = len ∧ Rd w a cap xs := by
 rcases h with ⟨rfl, rfl, rfl, rfl⟩ | ⟨x, rfl, hl, hm, hz, hc, hw⟩
 ·exact ⟨[], rfl, Rd.nil (by omega) (fun _ => rfl)⟩
 ·have hm' : cap ≤ 9223372036854775807 := hm
  cases hcap : cap with
  | zero =>
   subst hcap
   exact ⟨[], by simp; omega, Rd.nil (by omega) (fun h => by cases h)⟩
  | succ c =>
   have h0 := hc 0 (by omega)
   have hs : x.spot = none := cell_spot (x := x) (by simpa [Addr.add] using h0)
   obtain ⟨b, off, sp⟩ := x
   simp only at hs
   subst hs
   have hnn : ∀ i, i < zs.length → 0 ≤ zs.getD i 0 ∧ zs.getD i 0 < 4294967296 := by
    intro i hi
    have h1 := hw (zs.getD i 0) (by rw [List.getD, List.getElem?_eq_getElem hi]; exact List.getElem_mem hi)
    have e1 : IntKind.u32.min = 0 := rfl
    have e2 : IntKind.u32.max = 4294967295 := rfl
    simp only [Lit.wf, Bool.and_eq_true, decide_eq_true_eq] at h1
    rw [e1, e2] at h1
    omega
   have hcm : c + 1 ≤ 9223372036854775807 := by omega
   refine ⟨(zs.take len).map Int.toNat, by rw [List.length_map, List.length_take]; omega, ?_, hcm, (fun h => by cases h), ?_, ?_⟩
   ·rw [List.length_map, List.length_take]; omega
   ·intro d hd
    obtain ⟨z, hz1, rfl⟩ := List.mem_map.1 hd
    obtain ⟨i, hi, rfl⟩ := List.getElem_of_mem (List.mem_of_mem_take hz1)
    have := hnn i hi
    rw [List.getD, List.getElem?_eq_getElem hi] at this
    simp at this
    omega
   ·right
    refine ⟨b, off, rfl, fun i hi => ?_⟩
    rw [List.length_map, List.length_take] at hi
    have hi2 : i < zs.length := by omega
    have h1 := hc i hi2
    have h2 := hnn i hi2
    have e1 : Addr.add ⟨b, off, none⟩ i = ⟨b, off + i, none⟩ := by
     unfold Addr.add; split
     ·rename_i h; subst h; rfl
     ·rfl
    rw [e1] at h1
    rw [h1]
    congr 2
    have e3 : ((zs.take len).map Int.toNat).getD i 0 = (zs.getD i 0).toNat := by
     rw [List.getD_eq_getElem?_getD, List.getD_eq_getElem?_getD, List.getElem?_map, List.getElem?_take, if_pos (by omega), List.getElem?_eq_getElem hi2]
     rfl
    rw [e3]
    omega
end Go.Proofs.YtcankknlbljicaaGreatDoor

namespace Go.Proofs.YtcankknlbljicaaGreatDoor
open Go.ChangeShapes Go.WideShapes Go.ChangeAt Go.RowKit

end Go.Proofs.YtcankknlbljicaaGreatDoor

namespace Go.Proofs.YtcankknlbljicaaGreatDoor
open Go.ChangeShapes Go.WideShapes Go.ChangeAt Go.RowKit

theorem tb_of_met {rest : List (String × DataW Unit)} {W : World} (h : laidMet Tryz.prog (("math/bits.deBruijn64tab", Rows.laid_math_bits_deBruijn64tab) :: rest) W) : Tb W := by
 have h1 : Lib.TabIs Tryz.prog W "math/bits.deBruijn64tab" .u8 (Lib.deBruijn64tab.map Int.ofNat) :=
  Lib.tabIs_of_head (g := 1) (t := 192) (e := 5) (n := 64) (by kernel_rfl) (by kernel_rfl) Tryz.underlying192 Tryz.underlying5 (by kernel_rfl) (by kernel_rfl) h
 intro j hj
 have h2 := h1.cell (g := 1) (by kernel_rfl) j (by rw [List.length_map]; exact hj)
 rw [h2]
 congr 2
 rw [List.getD_eq_getElem?_getD, List.getD_eq_getElem?_getD, List.getElem?_map, List.getElem?_eq_getElem hj]
 rfl
end Go.Proofs.YtcankknlbljicaaGreatDoor
