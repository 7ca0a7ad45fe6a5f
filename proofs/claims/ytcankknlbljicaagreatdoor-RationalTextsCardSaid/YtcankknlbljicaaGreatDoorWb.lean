/-  -/
import Derived.Test.YtcankknlbljicaaGreatDoorWa
import Derived.Test.YtcankknlbljicaaGreatDoorProg
import Derived.WalkKit
import Derived.Deep.QuietTactic
import Derived.BigQuiet
import Derived.WalkLawsBesides
import Derived.WalkSpells
import Derived.Laws.AppendOwnNone
import Derived.Laws.CopyOwn

set_option linter.unusedVariables false
set_option linter.unusedSimpArgs false
set_option linter.unusedSectionVars false
set_option maxRecDepth 100000
set_option maxHeartbeats 3200000

namespace Go.Proofs.YtcankknlbljicaaGreatDoor
open Go.RowKit Num

def Ret (v : Value) (w : World) (e : Ending) (w' : World) : Prop := e = .returned v ∧ w = w'
def RetB (v : Value) (w : World) (e : Ending) (w' : World) : Prop := e = .returned v ∧ Below w.heap.size w w'
def RetQ (v : Value) (w : World) (e : Ending) (w' : World) : Prop := e = .returned v ∧ ∃ q, w' = w.drewN q
theorem RetQ.mk {v v' : Value} {w : World} {q : Nat} (h : v' = v) : RetQ v w (.returned v') (w.drewN q) := ⟨by rw [h], q, rfl⟩
theorem below_drewN (w : World) (q : Nat) : Below w.heap.size w (w.drewN q) := ⟨rfl, rfl, rfl, Nat.le_refl _, fun _ _ => rfl⟩
theorem RetQ.b {v : Value} {w : World} {e : Ending} {w' : World} (h : RetQ v w e w') : RetB v w e w' := by
 obtain ⟨h, q, rfl⟩ := h
 exact ⟨h, below_drewN _ _⟩
theorem int_eq {k : IntKind} {a b : Int} (h : a = b) : Value.int k a = Value.int k b := by rw [h]
theorem drewN2 (w : World) (a b : Nat) : (w.drewN a).drewN b = w.drewN (a + b) := World.drewN_drewN _ _ _
theorem drewN3 (w : World) (a b c : Nat) : ((w.drewN a).drewN b).drewN c = w.drewN (a + b + c) := by rw [World.drewN_drewN, World.drewN_drewN, Nat.add_assoc]
theorem Ret.mk {v v' : Value} {w : World} (h : v' = v) : Ret v w (.returned v') w := ⟨by rw [h], rfl⟩
def two (k : IntKind) (a b : Int) : Value := .tuple #[.int k a, .int k b]
def slen : Value → Nat | .slice _ k _ => k | _ => 0
theorem hid {p : Prop} (h : p) : Hid p := h

structure Rd (w : World) (ao : Option Addr) (c : Nat) (xs : List Nat) : Prop where
 le : xs.length ≤ c
 cm : c ≤ 9223372036854775807
 nn : ao = none → c = 0
 dg : wf xs
 lies : xs = [] ∨ ∃ b off, ao = some ⟨b, off, none⟩ ∧ ∀ i, i < xs.length → w.cell? ⟨b, off + i, none⟩ = some (.int .u32 ((xs.getD i 0 : Nat) : Int))

def Off (g : Nat) (ao : Option Addr) (xs : List Nat) : Prop := xs = [] ∨ ∀ a, ao = some a → a.block ≠ g

theorem lt_of_cell {w : World} {a : Addr} {v : Value} (h : w.cell? a = some v) : a.block < w.heap.size := World.block_lt_of_cell? w a h

theorem Rd.keep {w w' : World} {ao : Option Addr} {c : Nat} {xs : List Nat} (h : Rd w ao c xs) (hk : ∀ a v, w.cell? a = some v → w'.cell? a = some v) : Rd w' ao c xs := by
 refine ⟨h.le, h.cm, h.nn, h.dg, ?_⟩
 rcases h.lies with h1 | ⟨b, off, h1, h2⟩
 ·exact Or.inl h1
 ·exact Or.inr ⟨b, off, h1, fun i hi => hk _ _ (h2 i hi)⟩
theorem Rd.below {w w' : World} {ao : Option Addr} {c : Nat} {xs : List Nat} (h : Rd w ao c xs) (hb : Below w.heap.size w w') : Rd w' ao c xs :=
 h.keep fun _ _ hv => (hb.cell (lt_of_cell hv)).trans hv
theorem Rd.drewN {w : World} {ao : Option Addr} {c : Nat} {xs : List Nat} (h : Rd w ao c xs) (q : Nat) : Rd (w.drewN q) ao c xs := h.keep fun _ _ hv => hv
theorem Rd.nil {w : World} {ao : Option Addr} {c : Nat} (hc : c ≤ 9223372036854775807) (hn : ao = none → c = 0) : Rd w ao c [] := ⟨Nat.zero_le _, hc, hn, wf_nil, Or.inl rfl⟩
theorem Rd.take {w : World} {ao : Option Addr} {c : Nat} {xs : List Nat} (h : Rd w ao c xs) (m : Nat) : Rd w ao c (xs.take m) := by
 refine ⟨Nat.le_trans (List.length_take_le' _ _) h.le, h.cm, h.nn, wf_take h.dg m, ?_⟩
 rcases h.lies with h1 | ⟨b, off, h1, h2⟩
 ·left; rw [h1]; simp
 ·right
  refine ⟨b, off, h1, fun i hi => ?_⟩
  have hi' : i < m ∧ i < xs.length := by rw [List.length_take] at hi; omega
  rw [h2 i hi'.2]; simp [hi'.1]
theorem Rd.drop {w : World} {ao : Option Addr} {c : Nat} {xs : List Nat} (h : Rd w ao c xs) (l : Nat) (hl : l ≤ xs.length) : Rd w (if c = l then ao else ao.map (·.add l)) (c - l) (xs.drop l) := by
 have := h.le
 have := h.cm
 refine ⟨by simp; omega, by omega, ?_, wf_drop h.dg l, ?_⟩
 ·intro hn
  split at hn
  ·omega
  ·have := h.nn (by simpa using hn); omega
 rcases h.lies with h1 | ⟨b, off, h1, h2⟩
 ·left; rw [h1]; simp
 ·by_cases hx : l = xs.length
  ·left; simp [hx]
  ·right
   refine ⟨b, off + l, ?_, fun i hi => ?_⟩
   ·rw [if_neg (by omega), h1, Option.map_some, Addr.add_lit]
   ·have hi' : i < xs.length - l := by simpa using hi
    rw [Nat.add_assoc, h2 (l + i) (by omega)]; simp

def Own (B : Nat) (w : World) (ao : Option Addr) (c : Nat) (xs : List Nat) : Prop :=
 w.ownsRow B 88 1 (.slice ao xs.length c) xs.length (xs.map fun d : Nat => Value.int .u32 (d : Int)) ∧ wf xs

theorem Own.nil (B : Nat) (w : World) : Own B w none 0 [] := ⟨World.ownsRow_nil _ _ _ _, wf_nil⟩
theorem Own.cases {B : Nat} {w : World} {ao : Option Addr} {c : Nat} {xs : List Nat} (h : Own B w ao c xs) :
  (ao = none ∧ c = 0 ∧ xs = []) ∨ ∃ g cur, ao = some ⟨g, 0, none⟩ ∧ B ≤ g ∧ w.heap[g]? = some (.cells cur 88 (0, 0)) ∧ xs.length ≤ c ∧ c ≤ 9223372036854775807 ∧ cur.size = c ∧ cur.toList.take xs.length = xs.map (fun d : Nat => Value.int .u32 (d : Int)) := by
 rcases h.1.2 with ⟨h1, h2⟩ | ⟨g, cap, cur, h1, h2, h3, h4, h5, h6, h7⟩
 ·left
  simp only [Value.slice.injEq] at h1
  exact ⟨h1.1, h1.2.2, List.eq_nil_of_length_eq_zero h2⟩
 ·right
  simp only [Value.slice.injEq] at h1
  obtain ⟨rfl, _, rfl⟩ := h1
  exact ⟨g, cur, rfl, h2, h3, h4, h5, by simpa using h6, by simpa using h7⟩
theorem Own.mk_some {B g : Nat} {w : World} {c : Nat} {xs : List Nat} {cur : Array Value} (hB : B ≤ g) (hh : w.heap[g]? = some (.cells cur 88 (0, 0))) (hl : xs.length ≤ c) (hc : c ≤ 9223372036854775807) (hs : cur.size = c)
  (ht : cur.toList.take xs.length = xs.map (fun d : Nat => Value.int .u32 (d : Int))) (hw : wf xs) : Own B w (some ⟨g, 0, none⟩) c xs :=
 ⟨⟨by simp, Or.inr ⟨g, c, cur, rfl, hB, hh, hl, hc, by simpa using hs, by simpa using ht⟩⟩, hw⟩
theorem Own.cell {B g : Nat} {w : World} {c : Nat} {xs : List Nat} (h : Own B w (some ⟨g, 0, none⟩) c xs) (i : Nat) (hi : i < xs.length) : w.cell? ⟨g, i, none⟩ = some (.int .u32 ((xs.getD i 0 : Nat) : Int)) := by
 rw [h.1.cellAt i (by simpa using hi)]; simp [hi]
theorem Own.frozen {B g : Nat} {w : World} {c : Nat} {xs : List Nat} (h : Own B w (some ⟨g, 0, none⟩) c xs) (i : Nat) : w.frozen? ⟨g, i, none⟩ = false := h.1.frozenAt i
theorem Own.rd {B : Nat} {w : World} {ao : Option Addr} {c : Nat} {xs : List Nat} (h : Own B w ao c xs) : Rd w ao c xs := by
 rcases h.cases with ⟨h1, h2, h3⟩ | ⟨g, cur, h1, h2, h3, h4, h5, h6, h7⟩
 ·subst h1 h2 h3; exact Rd.nil (by omega) (fun _ => rfl)
 ·subst h1
  exact ⟨h4, h5, (fun h => by cases h), h.2, Or.inr ⟨g, 0, rfl, fun i hi => by rw [Nat.zero_add]; exact h.cell i hi⟩⟩
theorem Own.block {B : Nat} {w : World} {a : Addr} {c : Nat} {xs : List Nat} (h : Own B w (some a) c xs) : B ≤ a.block ∧ a.block < w.heap.size := by
 have := h.1.lt a.block rfl
 exact this
theorem Own.off {B g : Nat} {w : World} {ao : Option Addr} {c : Nat} {xs : List Nat} (h : Own B w ao c xs) (hg : g < B) : Off g ao xs := by
 right; rintro a rfl; have := h.block; omega
theorem Own.keep {B : Nat} {w w' : World} {ao : Option Addr} {c : Nat} {xs : List Nat} (h : Own B w ao c xs) (hk : ∀ a, ao = some a → w'.heap[a.block]? = w.heap[a.block]?) : Own B w' ao c xs := by
 rcases h.cases with ⟨h1, h2, h3⟩ | ⟨g, cur, h1, h2, h3, h4, h5, h6, h7⟩
 ·subst h1 h2 h3; exact Own.nil _ _
 ·subst h1
  exact Own.mk_some h2 ((hk _ rfl).trans h3) h4 h5 h6 h7 h.2
theorem Own.below {B : Nat} {w w' : World} {ao : Option Addr} {c : Nat} {xs : List Nat} (h : Own B w ao c xs) (hb : Below w.heap.size w w') : Own B w' ao c xs :=
 h.keep fun a ha => by subst ha; exact hb.block _ h.block.2
theorem Own.drewN {B : Nat} {w : World} {ao : Option Addr} {c : Nat} {xs : List Nat} (h : Own B w ao c xs) (q : Nat) : Own B (w.drewN q) ao c xs := h.keep fun _ _ => rfl
theorem Own.mono {B B' : Nat} {w : World} {ao : Option Addr} {c : Nat} {xs : List Nat} (h : Own B w ao c xs) (hB : B' ≤ B) : Own B' w ao c xs := by
 rcases h.cases with ⟨h1, h2, h3⟩ | ⟨g, cur, h1, h2, h3, h4, h5, h6, h7⟩
 ·subst h1 h2 h3; exact Own.nil _ _
 ·subst h1
  exact Own.mk_some (Nat.le_trans hB h2) h3 h4 h5 h6 h7 h.2
theorem Own.take {B : Nat} {w : World} {ao : Option Addr} {c : Nat} {xs : List Nat} (h : Own B w ao c xs) (m : Nat) : Own B w ao c (xs.take m) := by
 rcases h.cases with ⟨h1, h2, h3⟩ | ⟨g, cur, h1, h2, h3, h4, h5, h6, h7⟩
 ·subst h1 h2 h3; simpa using Own.nil _ _
 ·subst h1
  refine Own.mk_some h2 h3 (Nat.le_trans (List.length_take_le' _ _) h4) h5 h6 ?_ (wf_take h.2 m)
  rw [List.map_take, ← h7, List.take_take, List.length_take]

def Wr (w : World) (g o : Nat) (xs : List Nat) : Prop := ∀ i, i < xs.length → w.cell? ⟨g, o + i, none⟩ = some (.int .u32 ((xs.getD i 0 : Nat) : Int)) ∧ w.frozen? ⟨g, o + i, none⟩ = false
theorem Own.wr {B g : Nat} {w : World} {c : Nat} {xs : List Nat} (h : Own B w (some ⟨g, 0, none⟩) c xs) : Wr w g 0 xs := fun i hi => by
 rw [Nat.zero_add]; exact ⟨h.cell i hi, h.frozen i⟩
theorem Wr.take {w : World} {g o : Nat} {xs : List Nat} (h : Wr w g o xs) (m : Nat) : Wr w g o (xs.take m) := by
 intro i hi
 have hi' : i < m ∧ i < xs.length := by rw [List.length_take] at hi; omega
 have := h i hi'.2
 simpa [hi'.1] using this
theorem Wr.drop {w : World} {g o : Nat} {xs : List Nat} (h : Wr w g o xs) (l : Nat) : Wr w g (o + l) (xs.drop l) := by
 intro i hi
 have hi' : i < xs.length - l := by simpa using hi
 have := h (l + i) (by omega)
 rw [Nat.add_assoc]
 simpa using this
theorem Wr.rd {w : World} {g o c : Nat} {xs : List Nat} (h : Wr w g o xs) (hl : xs.length ≤ c) (hc : c ≤ 9223372036854775807) (hw : wf xs) : Rd w (some ⟨g, o, none⟩) c xs :=
 ⟨hl, hc, (fun h => by cases h), hw, Or.inr ⟨g, o, rfl, fun i hi => (h i hi).1⟩⟩

def putAt (o : Nat) (xs : List Nat) : Obj → Obj
 | .cells c e f => .cells (c.mapIdx fun i x => if o ≤ i ∧ i < o + xs.length then .int .u32 ((xs.getD (i - o) 0 : Nat) : Int) else x) e f
 | x => x
def wput (w : World) (g o : Nat) (xs : List Nat) : World := { w with heap := w.heap.modify g (putAt o xs) }

theorem wput_heap (w : World) (g o : Nat) (xs : List Nat) (k : Nat) : (wput w g o xs).heap[k]? = if g = k then (w.heap[k]?).map (putAt o xs) else w.heap[k]? := by
 simp [wput, Array.getElem?_modify]
theorem wput_size (w : World) (g o : Nat) (xs : List Nat) : (wput w g o xs).heap.size = w.heap.size := by simp [wput]
theorem wput_cell (w : World) (g o : Nat) (xs : List Nat) (k : Nat) : (wput w g o xs).cell? ⟨g, k, none⟩ = if o ≤ k ∧ k < o + xs.length then (w.cell? ⟨g, k, none⟩).map fun _ => Value.int .u32 ((xs.getD (k - o) 0 : Nat) : Int) else w.cell? ⟨g, k, none⟩ := by
 simp only [World.cell?, wput_heap, if_true]
 cases hg : w.heap[g]? with
 | none => simp
 | some x =>
  cases x with
  | cells c e f =>
   simp only [Option.map_some, putAt, Option.isSome_none, Bool.false_eq_true, if_false, Array.getElem?_mapIdx]
   cases hc : c[k]? with
   | none => simp
   | some v => by_cases hk : o ≤ k ∧ k < o + xs.length <;> simp [hk]
  | _ => simp [putAt]
theorem wput_cell_other (w : World) (g o : Nat) (xs : List Nat) (a : Addr) (h : a.block ≠ g) : (wput w g o xs).cell? a = w.cell? a := by
 simp only [World.cell?, wput_heap, if_neg (Ne.symm h)]
theorem wput_frozen (w : World) (g o : Nat) (xs : List Nat) (a : Addr) : (wput w g o xs).frozen? a = w.frozen? a := by
 simp only [World.frozen?, wput_heap]
 by_cases h : g = a.block
 ·rw [if_pos h]
  cases w.heap[a.block]? with
  | none => rfl
  | some x => cases x <;> rfl
 ·rw [if_neg h]
theorem World.ext_heap {w w' : World} (h : w'.heap = w.heap) (h1 : w'.tape = w.tape) (h2 : w'.drawn = w.drawn) (h3 : w'.os = w.os) (h4 : w'.output = w.output) : w' = w := by
 cases w; cases w'; simp_all
theorem wput_self {w : World} {g o : Nat} {xs : List Nat} (h : Wr w g o xs) : wput w g o xs = w := by
 refine World.ext_heap ?_ rfl rfl rfl rfl
 apply Array.ext_getElem?
 intro k
 rw [wput_heap]
 by_cases hk : g = k
 ·subst hk
  rw [if_pos rfl]
  cases hg : w.heap[g]? with
  | none => rfl
  | some x =>
   cases x with
   | cells c e f =>
    simp only [Option.map_some, putAt, Option.some.injEq, Obj.cells.injEq, and_true]
    apply Array.ext_getElem?
    intro i
    rw [Array.getElem?_mapIdx]
    cases hc : c[i]? with
    | none => rfl
    | some v =>
     simp only [Option.map_some, Option.some.injEq]
     by_cases hi : o ≤ i ∧ i < o + xs.length
     ·rw [if_pos hi]
      have := (h (i - o) (by omega)).1
      rw [show o + (i - o) = i by omega] at this
      simp only [World.cell?, hg, Option.isSome_none, Bool.false_eq_true, if_false, hc, Option.some.injEq] at this
      exact this.symm
     ·rw [if_neg hi]
   | _ => rfl
 ·rw [if_neg hk]
theorem wput_set (w : World) (g o : Nat) (xs : List Nat) (i x : Nat) (hi : i < xs.length) : (wput w g o xs).setCell ⟨g, o + i, none⟩ (.int .u32 (x : Int)) = wput w g o (xs.set i x) := by
 refine World.ext_heap ?_ rfl rfl rfl rfl
 apply Array.ext_getElem?
 intro k
 simp only [wput_heap, World.setCell, Array.getElem?_modify]
 by_cases hk : g = k
 ·subst hk
  simp only [if_true]
  cases hg : w.heap[g]? with
  | none => rfl
  | some y =>
   cases y with
   | cells c e f =>
    simp only [Option.map_some, putAt, Option.isSome_none, Bool.false_eq_true, if_false, Option.some.injEq, Obj.cells.injEq, and_true]
    apply Array.ext_getElem?
    intro j
    simp only [Array.getElem?_setIfInBounds, Array.getElem?_mapIdx, Array.size_mapIdx, List.length_set]
    by_cases hj : o + i = j
    ·subst hj
     rw [if_pos rfl]
     by_cases hc : o + i < c.size
     ·rw [if_pos hc, Array.getElem?_eq_getElem hc, Option.map_some, if_pos ⟨by omega, by omega⟩, show o + i - o = i by omega]
      simp [hi]
     ·rw [if_neg hc, Array.getElem?_eq_none (by omega)]; rfl
    ·rw [if_neg hj]
     cases hc : c[j]? with
     | none => rfl
     | some v =>
      simp only [Option.map_some, Option.some.injEq]
      by_cases hr : o ≤ j ∧ j < o + xs.length
      ·rw [if_pos hr, if_pos hr]
       have : i ≠ j - o := by omega
       simp [this]
      ·rw [if_neg hr, if_neg hr]
   | _ => rfl
 ·simp only [if_neg hk]
theorem wput_seti (w : World) (g o : Nat) (xs : List Nat) (i x : Nat) (v : Int) (hv : v = (x : Int)) (hi : i < xs.length) : (wput w g o xs).setCell ⟨g, o + i, none⟩ (.int .u32 v) = wput w g o (xs.set i x) := by
 rw [hv]; exact wput_set w g o xs i x hi
theorem Wr.put {w : World} {g o : Nat} {xs ys : List Nat} (h : Wr w g o xs) (hl : ys.length = xs.length) : Wr (wput w g o ys) g o ys := by
 intro i hi
 have := h i (by omega)
 refine ⟨?_, by rw [wput_frozen]; exact this.2⟩
 rw [wput_cell, if_pos ⟨by omega, by omega⟩, this.1, show o + i - o = i by omega]; rfl
theorem Rd.put {w : World} {ao : Option Addr} {c : Nat} {xs : List Nat} (h : Rd w ao c xs) {g : Nat} (ho : Off g ao xs) (o : Nat) (ys : List Nat) : Rd (wput w g o ys) ao c xs := by
 refine ⟨h.le, h.cm, h.nn, h.dg, ?_⟩
 rcases h.lies with h1 | ⟨b, off, h1, h2⟩
 ·exact Or.inl h1
 ·rcases ho with ho | ho
  ·exact Or.inl ho
  ·exact Or.inr ⟨b, off, h1, fun i hi => by rw [wput_cell_other _ _ _ _ ⟨b, off + i, none⟩ (show b ≠ g from ho _ h1)]; exact h2 i hi⟩
theorem below_put {B : Nat} {a w : World} (h : Below B a w) {g : Nat} (hg : B ≤ g) (o : Nat) (ys : List Nat) : Below B a (wput w g o ys) :=
 h.trans ⟨rfl, rfl, rfl, by rw [wput_size]; exact Nat.le_refl _, fun k hk => by rw [wput_heap, if_neg (by omega)]⟩
theorem Own.keep_put {B g : Nat} {w : World} {ao : Option Addr} {c : Nat} {xs : List Nat} (h : Own B w ao c xs) (ho : ∀ a, ao = some a → a.block ≠ g) (o : Nat) (ys : List Nat) : Own B (wput w g o ys) ao c xs :=
 h.keep fun a ha => by rw [wput_heap, if_neg (Ne.symm (ho a ha))]
theorem Own.put_at {B g : Nat} {w : World} {c : Nat} {xs : List Nat} (h : Own B w (some ⟨g, 0, none⟩) c xs) (o : Nat) (ys : List Nat) (hl : o + ys.length ≤ xs.length) (hw : wf ys) :
  Own B (wput w g o ys) (some ⟨g, 0, none⟩) c (xs.take o ++ ys ++ xs.drop (o + ys.length)) := by
 rcases h.cases with ⟨h1, h2, h3⟩ | ⟨g', cur, h1, h2, h3, h4, h5, h6, h7⟩
 ·cases h1
 ·simp only [Option.some.injEq, Addr.mk.injEq] at h1
  obtain ⟨rfl, _⟩ := h1
  have hlen : (xs.take o ++ ys ++ xs.drop (o + ys.length)).length = xs.length := by simp; omega
  refine Own.mk_some (cur := cur.mapIdx fun i x => if o ≤ i ∧ i < o + ys.length then .int .u32 ((ys.getD (i - o) 0 : Nat) : Int) else x) h2 ?_ (by omega) h5 (by simpa using h6) ?_ (wf_append.2 ⟨wf_append.2 ⟨wf_take h.2 _, hw⟩, wf_drop h.2 _⟩)
  ·rw [wput_heap, if_pos rfl, h3]; rfl
  ·rw [hlen]
   apply List.ext_getElem?
   intro i
   have e7 : (cur.toList.take xs.length)[i]? = (xs.map (fun d : Nat => Value.int .u32 (d : Int)))[i]? := by rw [h7]
   rw [List.getElem?_take] at e7 ⊢
   by_cases hi : i < xs.length
   ·rw [if_pos hi] at e7 ⊢
    simp only [Array.getElem?_toList, List.getElem?_map] at e7 ⊢
    rw [Array.getElem?_mapIdx, e7]
    by_cases h8 : o ≤ i
    ·by_cases h9 : i < o + ys.length
     ·rw [List.getElem?_append_left (by simp; omega), List.getElem?_append_right (by simp; omega)]
      simp [h8, h9, hi, Nat.min_eq_left (show o ≤ xs.length by omega), show i - o < ys.length by omega]
     ·rw [List.getElem?_append_right (by simp; omega)]
      simp only [h9, and_false, if_false, List.length_append, List.length_take, List.getElem?_drop, Option.map_id_fun', id_eq]
      rw [show o + ys.length + (i - (min o xs.length + ys.length)) = i by omega]
    ·rw [List.append_assoc, List.getElem?_append_left (by simp; omega)]
     simp [h8, hi, show i < o by omega]
   ·rw [if_neg hi]
    rw [List.getElem?_eq_none (by simp only [List.length_map]; omega)]
theorem Own.put {B g : Nat} {w : World} {c : Nat} {xs ys : List Nat} (h : Own B w (some ⟨g, 0, none⟩) c xs) (hl : ys.length = xs.length) (hw : wf ys) : Own B (wput w g 0 ys) (some ⟨g, 0, none⟩) c ys := by
 have := h.put_at 0 ys (by omega) hw
 rw [List.take_zero, List.nil_append, List.drop_eq_nil_of_le (by omega), List.append_nil] at this
 exact this

theorem infoU32 : (Tryz.prog.info? 88).map (fun i => (i.zero, i.size, i.bytes)) = some (some (.int .u32 0), 1, 4) := by kernel_rfl
theorem sizeU32 : (Tryz.prog.info? 88).map (·.size) = some 1 := by kernel_rfl

theorem eqNil (w : World) (a : Option Addr) (n c n' c' : Nat) : (binOp .eql 22 (.slice a n c) (.slice none n' c')).run Tryz.prog w = .ok (.bool a.isNone) w := Lib.run_eql_slice_nil w 22 88 a n c n' c' Tryz.underlying22

theorem heap_alloc_at (w : World) (o : Obj) : (w.alloc o).heap[w.heap.size]? = some o := heap_alloc_new w o
theorem below_alloc (w : World) (o : Obj) : Below w.heap.size w (w.alloc o) := (Below.refl _ _).alloc (Nat.le_refl _) o
theorem Own.made (w : World) : Own w.heap.size (w.alloc (.cells #[] 88)) (some ⟨w.heap.size, 0, none⟩) 0 [] :=
 Own.mk_some (cur := #[]) (Nat.le_refl _) (heap_alloc_at w _) (Nat.le_refl _) (by omega) rfl rfl wf_nil

theorem wp_append {ops : Array Oper} {rest : List Oper} {o : Oper} {a : Act} {Q : Exit → Act → World → Prop} (w : World) (hgd : o.guard = none) (s x : Operand)
  (ho : o.op = .call { callee := .builtin .append, args := #[s, x], argTypes := #[22, 22] })
  (B : Nat) (ao ax : Option Addr) (n m c cx : Nat) (xs ys : List Nat) (hs : a.eval s = .slice ao n c) (hx : a.eval x = .slice ax m cx) (hn : n = xs.length) (hm : m = ys.length) (hown : Own B w ao c xs) (hr : Rd w ax cx ys)
  (hb : n + m ≤ 35184372088832) (hB : B ≤ w.heap.size)
  (h : ∀ ao' c' w', Own B w' ao' c' (xs ++ ys) → Below B w w' → wpList Tryz.prog ops Q rest (a.put o.dst (.slice ao' (n + m) c')) w') : wpList Tryz.prog ops Q (o :: rest) a w := by
 subst hn hm
 obtain ⟨i0, hi, hz0, hz1, hz2⟩ := info_parts infoU32
 cases ax with
 | none =>
  have hc := hr.nn rfl
  have hy : ys = [] := List.eq_nil_of_length_eq_zero (by have := hr.le; omega)
  subst hc hy
  refine wpList_append_own_none hgd s x 22 ho B 88 i0 1 Tryz.underlying22 hi _ _ _ hs hown.1 hx ?_
  have := h ao c w (by simpa using hown) (Below.refl _ _)
  simpa using this
 | some ad =>
  refine wpList_append_own w hgd s x 22 ho B 88 i0 (.int .u32 0) 1 4 Tryz.underlying22 hi hz0 hz1 hz2 rfl (by decide) _ _ _ hs hown.1 ad ys.length cx (ys.map fun d : Nat => Value.int .u32 (d : Int)) hx (by simp) ?_ ?_ (by simp only [maxLen]; omega) (by omega) hB ?_
  ·intro j u hu
   rcases hr.lies with h1 | ⟨b, off, h1, h2⟩
   ·subst h1; simp at hu
   ·simp only [Option.some.injEq] at h1
    subst h1
    have hj : j < ys.length := by have := (List.getElem?_eq_some_iff.1 hu).1; simpa using this
    rw [Addr.add_lit, h2 j hj]
    simpa [hj] using hu
  ·intro u hu
   obtain ⟨_, _, rfl⟩ := List.mem_map.1 hu
   rfl
  ·intro v' w' h2 h3 h4
   have hbel : Below B w w' := (Below.refl _ _).grown h3 hB (fun k hk => (hown.1.lt k hk).1)
   have hl : xs.length + ys.length = (xs ++ ys).length := by simp
   obtain ⟨ao', c', rfl⟩ : ∃ ao' c', v' = .slice ao' (xs.length + ys.length) c' := by
    rcases h2.2 with ⟨hv, hn0⟩ | ⟨g, cap, cur, hv, _⟩
    ·exact ⟨none, 0, by rw [hv, hn0]⟩
    ·exact ⟨_, _, hv⟩
   refine h ao' c' w' ⟨?_, wf_append.2 ⟨hown.2, hr.dg⟩⟩ hbel
   rw [← hl]; simpa using h2

theorem wp_make {ops : Array Oper} {rest : List Oper} {o : Oper} {a : Act} {Q : Exit → Act → World → Prop} (w : World) (hgd : o.guard = none) (l : Operand) (hop : o.op = Op.makeSlice 22 l l)
  (B n : Nat) (L : Int) (hl : a.eval l = .int .i64 L) (hL : L = (n : Int)) (hb : n ≤ 35184372088832) (hB : B ≤ w.heap.size)
  (h : ∀ w', Own B w' (some ⟨w.heap.size, 0, none⟩) n (List.replicate n 0) → Below w.heap.size w w' → w.heap.size < w'.heap.size → wpList Tryz.prog ops Q rest (a.put o.dst (.slice (some ⟨w.heap.size, 0, none⟩) n n)) w') :
  wpList Tryz.prog ops Q (o :: rest) a w := by
 obtain ⟨i0, hi, hz0, hz1, hz2⟩ := info_parts infoU32
 refine wpList_make_full w hgd l l 22 hop B 88 i0 (.int .u32 0) 1 Tryz.underlying22 hi hz0 hz1 .i64 .i64 L L n hl hl hL hL (by rw [hz2]; omega) (by simp only [maxLen]; omega) hB ?_
 intro w' h1 h2
 have hown : Own B w' (some ⟨w.heap.size, 0, none⟩) n (List.replicate n 0) := by
  refine ⟨?_, wf_replicate n⟩
  have e : (madeCells (Value.int .u32 0).cells (n * 1)).toList = (List.replicate n 0).map fun d : Nat => Value.int .u32 (d : Int) := by
   rw [show (Value.int .u32 0).cells = #[Value.int .u32 0] from rfl, toList_madeCells_one, List.map_replicate, Nat.mul_one]; rfl
  rw [e] at h1
  simpa using h1
 exact h w' hown ((Below.refl _ _).grown h2 (Nat.le_refl _) (fun k hk => by cases hk)) hown.block.2

theorem setRow_eq_wput {w : World} {g off : Nat} {cur : Array Value} {t : TypeId} {fr : Nat × Nat} (hg : w.heap[g]? = some (.cells cur t fr)) (ys : List Nat) (hl : off + ys.length ≤ cur.size) :
  w.setRow g (cur.toList.take off ++ ((ys.map fun d : Nat => Value.int .u32 (d : Int)) ++ cur.toList.drop (off + ys.length))).toArray = wput w g off ys := by
 refine World.ext_heap ?_ rfl rfl rfl rfl
 apply Array.ext_getElem?
 intro k
 rw [wput_heap]
 by_cases hk : g = k
 ·subst hk
  simp only [World.setRow, Array.getElem?_modify, if_true, hg, Option.map_some, putAt, Option.some.injEq, Obj.cells.injEq, and_true]
  apply Array.ext_getElem?
  intro i
  rw [Array.getElem?_mapIdx, List.getElem?_toArray]
  by_cases h1 : i < off
  ·rw [List.getElem?_append_left (by simp; omega)]
   simp only [List.getElem?_take, h1, if_true, Array.getElem?_toList, show ¬ (off ≤ i ∧ i < off + ys.length) by omega, if_false]
   cases cur[i]? <;> rfl
  ·rw [List.getElem?_append_right (by simp; omega)]
   simp only [List.length_take, Array.length_toList, Nat.min_eq_left (show off ≤ cur.size by omega)]
   by_cases h2 : i < off + ys.length
   ·rw [List.getElem?_append_left (by simp; omega), Array.getElem?_eq_getElem (by omega)]
    simp [show off ≤ i by omega, h2, show i - off < ys.length by omega]
   ·rw [List.getElem?_append_right (by simp; omega)]
    simp only [List.length_map, List.getElem?_drop, show ¬ (off ≤ i ∧ i < off + ys.length) by omega, if_false, Array.getElem?_toList]
    rw [show off + ys.length + (i - off - ys.length) = i by omega]
    cases cur[i]? <;> rfl
 ·rw [if_neg hk, setRow_other w g k _ (by omega)]

theorem run_copy (w : World) (ty g off n dc m c : Nat) (ax : Option Addr) (zs ys : List Nat) (hn : n = zs.length) (hm : m = ys.length)
  (cur : Array Value) (t : TypeId) (hg : w.heap[g]? = some (.cells cur t (0, 0))) (hfit : off + zs.length ≤ cur.size) (hr : Rd w ax c ys) (hl : ys.length ≤ zs.length) :
  (Builtin.copy_ #[22, 22] ty #[.slice (some ⟨g, off, none⟩) n dc, .slice ax m c]).run Tryz.prog w = .ok (.int .i64 (m : Int)) (wput w g off ys) := by
 subst hn hm
 by_cases h0 : ys = []
 ·subst h0
  have hrun := run_copy_none (P := Tryz.prog) w 22 22 ty 88 (some ⟨g, off, none⟩) ax zs.length dc 0 c Tryz.underlying22 sizeU32 (by simp)
  have e : wput w g off [] = w := wput_self (fun i hi => by simp at hi)
  rw [e]
  exact hrun
 ·rcases hr.lies with h1 | ⟨b, o2, rfl, h2⟩
  ·exact absurd h1 h0
  ·have hrun := run_copy_row (P := Tryz.prog) w 22 22 ty 88 g off zs.length dc ⟨b, o2, none⟩ ys.length c cur t (ys.map fun d : Nat => Value.int .u32 (d : Int)) Tryz.underlying22 sizeU32 hg (by simp [Nat.min_eq_left hl])
    (fun j u hu => by
     have hj : j < ys.length := by have := (List.getElem?_eq_some_iff.1 hu).1; simpa using this
     rw [Addr.add_lit, h2 j hj]
     simpa [hj] using hu)
    (by simp; omega)
    (fun u hu => by
     obtain ⟨_, _, rfl⟩ := List.mem_map.1 hu
     rfl)
   have e := setRow_eq_wput (off := off) hg ys (by omega)
   simp only [List.length_map] at hrun
   rw [List.append_assoc, e] at hrun
   exact hrun
theorem Own.set {B g : Nat} {w : World} {c : Nat} {xs : List Nat} (h : Own B w (some ⟨g, 0, none⟩) c xs) (i x : Nat) (v : Int) (hv : v = (x : Int)) (hx : x < 4294967296) (hi : i < xs.length) :
  Own B (w.setCell ⟨g, i, none⟩ (.int .u32 v)) (some ⟨g, 0, none⟩) c (xs.set i x) := by
 have e := wput_seti w g 0 xs i x v hv hi
 rw [wput_self h.wr, Nat.zero_add] at e
 rw [e]
 exact h.put (by simp) (wf_set h.2 i x hx)
theorem snoc_cell {w wr : World} {g o k : Nat} {zs L : List Nat} (hwr : Wr w g o zs) (hL : L.length = k) (hk : k < zs.length) (hW : wr = wput w g o (L ++ zs.drop k)) :
  wr.cell? ⟨g, o + k, none⟩ = some (.int .u32 ((zs.getD k 0 : Nat) : Int)) ∧ wr.frozen? ⟨g, o + k, none⟩ = false := by
 subst hW
 refine ⟨?_, by rw [wput_frozen]; exact (hwr k hk).2⟩
 rw [(hwr.put (length_snoc hL (by omega)) k (by rw [length_snoc hL (by omega)]; omega)).1, getD_snoc hL]
theorem rd_cell {w wr : World} {g o c k : Nat} {ao : Option Addr} {xs ys : List Nat} (hr : Rd w ao c xs) (ho : Off g ao xs) (hk : k < xs.length) (hW : wr = wput w g o ys) :
  ∃ b off, ao = some ⟨b, off, none⟩ ∧ wr.cell? ⟨b, off + k, none⟩ = some (.int .u32 ((xs.getD k 0 : Nat) : Int)) := by
 subst hW
 rcases hr.lies with h1 | ⟨b, off, h1, h2⟩
 ·simp [h1] at hk
 ·refine ⟨b, off, h1, ?_⟩
  rcases ho with h | h
  ·simp [h] at hk
  ·rw [wput_cell_other _ _ _ _ ⟨b, off + k, none⟩ (show b ≠ g from h _ h1)]; exact h2 k hk
theorem snoc_put {w wr : World} {g o k d : Nat} {zs L : List Nat} {v : Int} (hL : L.length = k) (hk : k < zs.length) (hW : wr = wput w g o (L ++ zs.drop k)) (hv : v = (d : Int)) :
  wr.setCell ⟨g, o + k, none⟩ (.int .u32 v) = wput w g o (L ++ [d] ++ zs.drop (k + 1)) := by
 rw [hW, wput_seti _ _ _ _ _ _ _ hv (by rw [length_snoc hL (by omega)]; omega), set_snoc hL hk]
theorem Own.copied {B g n : Nat} {w : World} {c : Nat} {ys : List Nat} (h : Own B w (some ⟨g, 0, none⟩) c (List.replicate n 0)) (hl : ys.length ≤ n) (hw : wf ys) :
  Own B (wput w g 0 ys) (some ⟨g, 0, none⟩) c (ys ++ List.replicate (n - ys.length) 0) := by
 have := h.put_at 0 ys (by simpa using hl) hw
 simpa using this
theorem Own.row {B g : Nat} {w : World} {c : Nat} {xs : List Nat} (h : Own B w (some ⟨g, 0, none⟩) c xs) : ∃ cur, w.heap[g]? = some (.cells cur 88 (0, 0)) ∧ xs.length ≤ cur.size := by
 rcases h.cases with ⟨h1, _⟩ | ⟨g', cur, h1, h2, h3, h4, h5, h6, h7⟩
 ·cases h1
 ·simp only [Option.some.injEq, Addr.mk.injEq] at h1
  obtain ⟨rfl, _⟩ := h1
  exact ⟨cur, h3, by omega⟩
theorem Own.cutND {B : Nat} {w : World} {ao : Option Addr} {c : Nat} {xs : List Nat} (h : Own B w ao c xs) : Own B w ao c (nd (val xs)) := by
 have := h.take (nd (val xs)).length
 rwa [take_nd h.2] at this
theorem Rd.cutND {w : World} {ao : Option Addr} {c : Nat} {xs : List Nat} (h : Rd w ao c xs) : Rd w ao c (nd (val xs)) := by
 have := h.take (nd (val xs)).length
 rwa [take_nd h.dg] at this
theorem Rd.lt_size {w : World} {ao : Option Addr} {c : Nat} {xs : List Nat} (h : Rd w ao c xs) {g : Nat} (hg : w.heap.size ≤ g) : Off g ao xs := by
 rcases h.lies with h1 | ⟨b, off, h1, h2⟩
 ·exact Or.inl h1
 ·by_cases hx : xs = []
  ·exact Or.inl hx
  ·right
   rintro a ha
   rw [ha] at h1
   simp only [Option.some.injEq] at h1
   subst h1
   have h3 : b < w.heap.size := lt_of_cell (h2 0 (List.length_pos_iff.2 hx))
   show b ≠ g
   omega
end Go.Proofs.YtcankknlbljicaaGreatDoor

namespace Go.Proofs.YtcankknlbljicaaGreatDoor
open Go.RowKit Num

theorem add32_any (x y c d q : Nat) (w : World) (hx : x < 4294967296) (hy : y < 4294967296) (hc : c < 4294967296) (hd : d = (x + y + c) % 4294967296) (hq : q = (x + y + c) / 4294967296) :
  Calls Tryz.prog 252 #[.int .u32 x, .int .u32 y, .int .u32 c] w (Ret (.tuple #[.int .u32 (d : Int), .int .u32 (q : Int)]) w) := by
 have HD := hid hd
 have HQ := hid hq
 clear hd hq
 go_enter Tryz.func252, Tryz.ntmps252
 go_wp2
 go_ret2
 refine Ret.mk ?_
 rw [HD.out, HQ.out]
 rfl

theorem normal_any (ao : Option Addr) (c : Nat) (xs : List Nat) (b : Bool) (w : World) (h : Rd w ao c xs) (hb : b = true ↔ nrm xs) :
  Calls Tryz.prog 149 #[.slice ao xs.length c] w fun e w' => e = .returned (.bool b) ∧ w = w' := by
 have hle := h.le
 have hcm := h.cm
 by_cases h0 : xs.length = 0
 ·have hb0 : ((xs.length : Int) == 0) = true := by simp [h0]
  have hbt : b = true := hb.2 (Or.inl (List.eq_nil_of_length_eq_zero h0))
  subst hbt
  clear h
  go_enter Tryz.func149, Tryz.ntmps149
  go_wp2
  go_ret
  exact ⟨rfl, rfl⟩
 ·rcases h.lies with h1 | ⟨bl, off, rfl, hcell⟩
  ·simp [h1] at h0
  ·have hb0 : ((xs.length : Int) == 0) = false := beq_eq_false_iff_ne.2 (by omega)
   obtain ⟨d, hd⟩ : ∃ d, xs.getD (xs.length - 1) 0 = d := ⟨_, rfl⟩
   have hc := hcell (xs.length - 1) (by omega)
   rw [hd] at hc
   have hbd : ((d : Int) != 0) = b := by
    rw [Bool.eq_iff_iff, hb, nrm, hd, bne_iff_ne]
    constructor
    ·intro h; right; omega
    ·rintro (h | h)
     ·simp [h] at h0
     ·omega
   clear hd hcell h hb
   go_enter Tryz.func149, Tryz.ntmps149
   go_wp2
   go_ret
   exact ⟨rfl, rfl⟩

theorem cut_any (ao : Option Addr) (c : Nat) (xs : List Nat) (w : World) (h : Rd w ao c xs) :
  Calls Tryz.prog 157 #[.slice ao xs.length c] w fun e w' => e = .returned (.slice ao (nd (val xs)).length c) ∧ w = w' := by
 have hle := h.le
 have hcm := h.cm
 go_enter Tryz.func157, Tryz.ntmps157
 go_wp2_with fail
 go_loop [0] (fun v => ∃ k : Nat, k ≤ xs.length ∧ val (xs.take k) = val xs ∧ v = .slice ao k c) slen
 case atStart => exact ⟨xs.length, Nat.le_refl _, by simp, rfl⟩
 case round =>
  obtain ⟨k, hk, hv, rfl⟩ := hrel
  have hr := h.take k
  have hlen : (xs.take k).length = k := by simp [hk]
  have HV := hid hv
  clear hv
  by_cases hn : nrm (xs.take k)
  ·have hc := normal_any ao c (xs.take k) true w hr (by simp [hn])
   rw [hlen] at hc
   have HL := hid hlen
   clear hlen
   go_wp2_with (go_at_call 149; refine hc.mono ?_; rintro e w' ⟨rfl, rfl⟩)
   go_ret
   refine ⟨?_, rfl⟩
   have e : nd (val xs) = xs.take k := by rw [← HV.out]; exact nd_val hr.dg hn
   rw [e, HL.out]; rfl
  ·have hc := normal_any ao c (xs.take k) false w hr (by simp [hn])
   rw [hlen] at hc
   have hk0 : k ≠ 0 := by rintro rfl; exact hn (Or.inl (by simp))
   have HN := hid hn
   clear hlen hn
   go_wp2_with (go_at_call 149; refine hc.mono ?_; rintro e w' ⟨rfl, rfl⟩)
   refine ⟨⟨k - 1, by omega, ?_, rfl⟩, by simp [slen]; omega⟩
   rw [← HV.out]
   obtain ⟨m, rfl⟩ : ∃ m, k = m + 1 := ⟨k - 1, by omega⟩
   refine (val_take_pred (by omega) ?_).symm
   have hn := HN.out
   apply Classical.byContradiction
   intro h3
   refine hn (Or.inr ?_)
   have hl2 : (xs.take (m + 1)).length = m + 1 := by simp [hk]
   rw [hl2]
   simpa using h3

theorem top_u32 {n : Nat} (h : n < 4294967296) : n >>> 31 = 0 ∨ n >>> 31 = 1 := by
 rw [Nat.shiftRight_eq_div_pow]; omega
theorem sub32_top (x y c d : Nat) (hx : x < 4294967296) (hy : y < 4294967296) (hc : c ≤ 1) (hd : d = (x + 8589934592 - y - c) % 4294967296) :
  ((4294967295 ^^^ x) &&& y ||| (4294967295 ^^^ (x ^^^ y)) &&& d) / 2147483648 = if x < y + c then 1 else 0 := by
 have hdl : d < 4294967296 := by omega
 rw [show 2147483648 = 2 ^ 31 from rfl, ← Nat.shiftRight_eq_div_pow]
 simp only [Nat.shiftRight_or_distrib, Nat.shiftRight_and_distrib, Nat.shiftRight_xor_distrib]
 rw [show 4294967295 >>> 31 = 1 from rfl]
 have ex := Nat.shiftRight_eq_div_pow x 31
 have ey := Nat.shiftRight_eq_div_pow y 31
 have ed := Nat.shiftRight_eq_div_pow d 31
 rw [show 2 ^ 31 = 2147483648 from rfl] at ex ey ed
 rcases top_u32 hx with h1 | h1 <;> rcases top_u32 hy with h2 | h2 <;> rcases top_u32 hdl with h3 | h3 <;> rw [h1, h2, h3] <;> split <;> first | rfl | omega
theorem int_mod_sub (x y c : Nat) (hx : x < 4294967296) (hy : y < 4294967296) (hc : c ≤ 1) : ((x : Int) - y - c) % 4294967296 = (((x + 8589934592 - y - c) % 4294967296 : Nat) : Int) := by omega
theorem sub32_any (x y c d b : Nat) (w : World) (hx : x < 4294967296) (hy : y < 4294967296) (hc : c ≤ 1) (hd : d = (x + 8589934592 - y - c) % 4294967296) (hb : b = if x < y + c then 1 else 0) :
  Calls Tryz.prog 246 #[.int .u32 x, .int .u32 y, .int .u32 c] w (Ret (.tuple #[.int .u32 (d : Int), .int .u32 (b : Int)]) w) := by
 have HT := hid (sub32_top x y c d hx hy hc hd)
 have HD := hid (int_mod_sub x y c hx hy hc)
 have hdl : d < 4294967296 := by omega
 have HE := hid hd
 have HB := hid hb
 clear hd hb
 go_enter Tryz.func246, Tryz.ntmps246
 go_wp2
 go_ret2
 refine Ret.mk ?_
 show Value.tuple #[.int .u32 (((x : Int) - y - c) % 4294967296), .int .u32 (_ / 2147483648)] = _
 rw [HD.out, ← HE.out, show IntKind.u32.max = ((4294967295 : Nat) : Int) from rfl]
 have h1 : 4294967295 ^^^ x < 4294967296 := Nat.xor_lt_two_pow (n := 32) (by omega) hx
 have h2 : x ^^^ y < 4294967296 := Nat.xor_lt_two_pow (n := 32) hx hy
 have h3 : 4294967295 ^^^ (x ^^^ y) < 4294967296 := Nat.xor_lt_two_pow (n := 32) (by omega) h2
 have h4 : (4294967295 ^^^ x) &&& y < 4294967296 := Nat.and_lt_two_pow (n := 32) _ hy
 have h5 : (4294967295 ^^^ (x ^^^ y)) &&& d < 4294967296 := Nat.and_lt_two_pow (n := 32) _ hdl
 rw [u32_xor_nat _ _ (by omega) hx, u32_xor_nat _ _ hx hy, u32_and_nat _ _ h1 hy, u32_xor_nat _ _ (by omega) h2, u32_and_nat _ _ h3 hdl, u32_or_nat _ _ h4 h5]
 rw [HB.out, ← HT.out]
 simp


theorem increase_any (zo ao : Option Addr) (g o cz c : Nat) (zs bs : List Nat) (w : World) (hz : zs ≠ [] → zo = some ⟨g, o, none⟩) (hwr : Wr w g o zs) (hzw : wf zs) (hr : Rd w ao c bs) (ho : Off g ao bs)
  (hl : bs.length ≤ zs.length) (hm : zs.length ≤ 9223372036854775807) :
  Calls Tryz.prog 239 #[.slice zo zs.length cz, .slice ao bs.length c] w (Ret (.tuple #[]) (wput w g o (dig zs.length (val zs + val bs)))) := by
 go_enter Tryz.func239, Tryz.ntmps239
 go_wp2
 go_loopw [4, 10] (fun cv iv wr => ∃ k cy : Nat, k ≤ bs.length ∧ iv = .int .i64 k ∧ cv = .int .u32 cy ∧ Hid (cy = (val (zs.take k) + val (bs.take k)) / 4294967296 ^ k) ∧ Hid (wr = wput w g o (dig k (val (zs.take k) + val (bs.take k)) ++ zs.drop k)))
  (fun _ iv _ => bs.length - (intOf iv).toNat)
 case atStart => exact ⟨0, 0, Nat.zero_le _, rfl, rfl, by simp [Hid, val], by simp [Hid, dig]; exact (wput_self hwr).symm⟩
 case round =>
  obtain ⟨k, cy, hk, rfl, rfl, HC, HW⟩ := hrel
  by_cases hlt : k < bs.length
  ·obtain rfl := hz (by intro h; simp [h] at hl; simp [hl] at hlt)
   rcases hr.lies with h1 | ⟨b2, o2, rfl, hcell⟩
   ·simp [h1] at hlt
   have hne : b2 ≠ g := by
    rcases ho with h | h
    ·simp [h] at hlt
    ·exact h _ rfl
   obtain ⟨s, hs⟩ : ∃ s, s = val (zs.take k) + val (bs.take k) := ⟨_, rfl⟩
   obtain ⟨x, hx⟩ : ∃ x, x = zs.getD k 0 := ⟨_, rfl⟩
   obtain ⟨y, hy⟩ : ∃ y, y = bs.getD k 0 := ⟨_, rfl⟩
   have hxl : x < 4294967296 := by rw [hx]; exact wf_getD hzw k
   have hyl : y < 4294967296 := by rw [hy]; exact wf_getD hr.dg k
   have hsl : s < 2 * 4294967296 ^ k := by
    have := val_take_lt hzw k
    have := val_take_lt hr.dg k
    omega
   have hcl : cy ≤ 1 := by
    rw [HC.out, ← hs]
    have := Nat.div_lt_of_lt_mul (m := s) (n := 4294967296 ^ k) (k := 2) (by omega)
    omega
   have hs' : val (zs.take (k + 1)) + val (bs.take (k + 1)) = s + 4294967296 ^ k * (x + y) := by
    rw [val_take_succ (by omega), val_take_succ hlt, ← hx, ← hy, hs]; grind
   have hLl := length_dig k s
   have hW := HW.out
   rw [← hs] at hW
   have hzc : wr.cell? ⟨g, o + k, none⟩ = some (.int .u32 (x : Int)) := by
    rw [hW, (hwr.put (length_snoc hLl (by omega)) k (by rw [length_snoc hLl (by omega)]; omega)).1, getD_snoc hLl, hx]
   have hzf : wr.frozen? ⟨g, o + k, none⟩ = false := by
    rw [hW, wput_frozen]; exact (hwr k (by omega)).2
   have hbc : wr.cell? ⟨b2, o2 + k, none⟩ = some (.int .u32 (y : Int)) := by
    rw [hW, wput_cell_other _ _ _ _ ⟨b2, o2 + k, none⟩ hne, hcell k hlt, hy]
   obtain ⟨d, hd⟩ : ∃ d, d = (x + y + cy) % 4294967296 := ⟨_, rfl⟩
   obtain ⟨q, hq⟩ : ∃ q, q = (x + y + cy) / 4294967296 := ⟨_, rfl⟩
   have hcon := fun w => add32_any x y cy d q w hxl hyl (by omega) hd hq
   have HS := hid hs
   have HS' := hid hs'
   have HX := hid (And.intro hx hy)
   have HW' := hid hW
   have HD := hid (And.intro hd hq)
   have HO := hid ho
   have HCELL := hid hcell
   clear hs hs' hx hy hW hd hq ho hcell hz hsl hLl
   go_wp2_with (go_at_call 252; refine (hcon _).mono ?_; rintro e w' ⟨rfl, rfl⟩)
   have hc := HC.out
   rw [← HS.out] at hc
   have hsum : x + y + cy = s / 4294967296 ^ k + (x + y) := by omega
   refine ⟨⟨k + 1, q, by omega, by simp, rfl, ?_, ?_⟩, by simp [intOf]; omega⟩
   ·show q = _
    rw [HS'.out, step_div_succ, HD.out.2, hsum]
   ·show wr.setCell _ _ = _
    have hLl := length_dig k s
    rw [HS'.out, step_dig_succ, HW'.out, wput_set _ _ _ _ _ _ (by rw [length_snoc hLl (by omega)]; omega), set_snoc hLl (by omega), HD.out.1, hsum]
  ·obtain rfl : k = bs.length := by omega
   clear hlt hk
   go_wp2
   go_loopw [4, 7] (fun cv iv wr => ∃ j cy : Nat, bs.length ≤ j ∧ j ≤ zs.length ∧ iv = .int .i64 j ∧ cv = .int .u32 cy ∧ Hid (cy = (val (zs.take j) + val bs) / 4294967296 ^ j) ∧ Hid (wr = wput w g o (dig j (val (zs.take j) + val bs) ++ zs.drop j)))
    (fun _ iv _ => zs.length - (intOf iv).toNat)
   case atStart => exact ⟨bs.length, cy, Nat.le_refl _, hl, rfl, rfl, by simpa using HC, by simpa using HW⟩
   case round =>
    obtain ⟨j, cy, hj, hj2, rfl, rfl, HC, HW⟩ := hrel
    obtain ⟨s, hs⟩ : ∃ s, s = val (zs.take j) + val bs := ⟨_, rfl⟩
    have hsl : s < 2 * 4294967296 ^ j := by
     have h1 := val_take_lt hzw j
     have h2 := val_lt hr.dg
     have h3 := Nat.pow_le_pow_right (show 0 < 4294967296 by omega) hj
     omega
    have hcl : cy ≤ 1 := by
     rw [HC.out, ← hs]
     have := Nat.div_lt_of_lt_mul (m := s) (n := 4294967296 ^ j) (k := 2) (by omega)
     omega
    have hc := HC.out
    have hW := HW.out
    rw [← hs] at hc hW
    have hfin : val zs + val bs = s + 4294967296 ^ j * val (zs.drop j) := by
     rw [val_split zs j hj2, hs]; omega
    by_cases h0 : cy = 0
    ·have HF : Hid (wr = wput w g o (dig zs.length (val zs + val bs))) := by
      show _ = _
      rw [hW, dig_rest hzw hj2 (by omega), hfin]
     have hb : ((cy : Int) != 0) = false := by simp [h0]
     clear hs hc hW hfin h0
     go_wp2
     go_end0
     exact ⟨rfl, HF.out.symm⟩
    ·have hb : ((cy : Int) != 0) = true := by simp [h0]
     by_cases hlt : j < zs.length
     ·obtain rfl := hz (by intro h; simp [h] at hlt)
      obtain ⟨x, hx⟩ : ∃ x, x = zs.getD j 0 := ⟨_, rfl⟩
      have hxl : x < 4294967296 := by rw [hx]; exact wf_getD hzw j
      have hs' : val (zs.take (j + 1)) + val bs = s + 4294967296 ^ j * x := by
       rw [val_take_succ hlt, ← hx, hs]; omega
      have hLl := length_dig j s
      have hzc : wr.cell? ⟨g, o + j, none⟩ = some (.int .u32 (x : Int)) := by
       rw [hW, (hwr.put (length_snoc hLl (by omega)) j (by rw [length_snoc hLl (by omega)]; omega)).1, getD_snoc hLl, hx]
      have hzf : wr.frozen? ⟨g, o + j, none⟩ = false := by
       rw [hW, wput_frozen]; exact (hwr j (by omega)).2
      obtain ⟨d, hd⟩ : ∃ d, d = (x + 0 + cy) % 4294967296 := ⟨_, rfl⟩
      obtain ⟨q, hq⟩ : ∃ q, q = (x + 0 + cy) / 4294967296 := ⟨_, rfl⟩
      have hcon := fun w => add32_any x 0 cy d q w hxl (by omega) (by omega) hd hq
      have HS' := hid hs'
      have HW' := hid hW
      have HD := hid (And.intro hd hq)
      have HCC := hid hc
      have hbt : decide ((j : Int) < (zs.length : Int)) = true := by simp; omega
      clear hs hs' hx hW hd hq hz hsl hLl hc hfin h0
      go_wp2_with (go_at_call 252; refine (hcon _).mono ?_; rintro e w' ⟨rfl, rfl⟩)
      have hsum : x + 0 + cy = s / 4294967296 ^ j + x := by have := HCC.out; omega
      refine ⟨⟨j + 1, q, by omega, by omega, by simp, rfl, ?_, ?_⟩, by simp [intOf]; omega⟩
      ·show q = _
       rw [HS'.out, step_div_succ, HD.out.2, hsum]
      ·show wr.setCell _ _ = _
       have hLl := length_dig j s
       rw [HS'.out, step_dig_succ, HW'.out, wput_set _ _ _ _ _ _ (by rw [length_snoc hLl (by omega)]; omega), set_snoc hLl (by omega), HD.out.1, hsum]
     ·obtain rfl : j = zs.length := by omega
      have HF : Hid (wr = wput w g o (dig zs.length (val zs + val bs))) := by
       show _ = _
       rw [hW, hfin]; simp [val]
      clear hs hc hW hfin h0
      go_wp2
      go_end0
      exact ⟨rfl, HF.out.symm⟩
end Go.Proofs.YtcankknlbljicaaGreatDoor

namespace Go.Proofs.YtcankknlbljicaaGreatDoor
open Go.RowKit Num

theorem isnan_int (x : Int) (w : World) : Calls Tryz.prog 234 #[.int .i64 x] w (Ret (.bool false) w) := by
 go_enter Tryz.func234, Tryz.ntmps234
 go_wp2
 go_ret
 exact Ret.mk rfl
theorem isnan_u32 (x : Int) (w : World) : Calls Tryz.prog 235 #[.int .u32 x] w (Ret (.bool false) w) := by
 go_enter Tryz.func235, Tryz.ntmps235
 go_wp2
 go_ret
 exact Ret.mk rfl
theorem cmp_int (x y r : Int) (w : World) (hr : r = if x < y then -1 else if y < x then 1 else 0) : Calls Tryz.prog 211 #[.int .i64 x, .int .i64 y] w (Ret (.int .i64 r) w) := by
 by_cases h1 : x < y
 ·obtain rfl : r = -1 := by rw [hr, if_pos h1]
  clear hr
  go_enter Tryz.func211, Tryz.ntmps211
  go_wp2_with (go_at_call 234; refine (isnan_int _ _).mono ?_; rintro e w' ⟨rfl, rfl⟩)
  go_ret
  exact Ret.mk rfl
 ·by_cases h2 : y < x
  ·obtain rfl : r = 1 := by rw [hr, if_neg h1, if_pos h2]
   clear hr
   go_enter Tryz.func211, Tryz.ntmps211
   go_wp2_with (go_at_call 234; refine (isnan_int _ _).mono ?_; rintro e w' ⟨rfl, rfl⟩)
   go_ret
   exact Ret.mk rfl
  ·obtain rfl : r = 0 := by rw [hr, if_neg h1, if_neg h2]
   clear hr
   go_enter Tryz.func211, Tryz.ntmps211
   go_wp2_with (go_at_call 234; refine (isnan_int _ _).mono ?_; rintro e w' ⟨rfl, rfl⟩)
   go_ret
   exact Ret.mk rfl
theorem cmp_u32 (x y r : Int) (w : World) (hr : r = if x < y then -1 else if y < x then 1 else 0) : Calls Tryz.prog 212 #[.int .u32 x, .int .u32 y] w (Ret (.int .i64 r) w) := by
 by_cases h1 : x < y
 ·obtain rfl : r = -1 := by rw [hr, if_pos h1]
  clear hr
  go_enter Tryz.func212, Tryz.ntmps212
  go_wp2_with (go_at_call 235; refine (isnan_u32 _ _).mono ?_; rintro e w' ⟨rfl, rfl⟩)
  go_ret
  exact Ret.mk rfl
 ·by_cases h2 : y < x
  ·obtain rfl : r = 1 := by rw [hr, if_neg h1, if_pos h2]
   clear hr
   go_enter Tryz.func212, Tryz.ntmps212
   go_wp2_with (go_at_call 235; refine (isnan_u32 _ _).mono ?_; rintro e w' ⟨rfl, rfl⟩)
   go_ret
   exact Ret.mk rfl
  ·obtain rfl : r = 0 := by rw [hr, if_neg h1, if_neg h2]
   clear hr
   go_enter Tryz.func212, Tryz.ntmps212
   go_wp2_with (go_at_call 235; refine (isnan_u32 _ _).mono ?_; rintro e w' ⟨rfl, rfl⟩)
   go_ret
   exact Ret.mk rfl

def RetOwn (B : Nat) (xs : List Nat) (w : World) (e : Ending) (w' : World) : Prop := ∃ ao c, e = .returned (.slice ao xs.length c) ∧ Own B w' ao c xs ∧ Below w.heap.size w w'

theorem clone_any (ao : Option Addr) (c : Nat) (xs : List Nat) (w : World) (h : Rd w ao c xs) (hl : xs.length ≤ 17592186044416) :
  Calls Tryz.prog 198 #[.slice ao xs.length c] w (RetOwn w.heap.size xs w) := by
 have hle := h.le
 have hcm := h.cm
 have q := eqNil
 cases ao with
 | none =>
  have hc := h.nn rfl
  have hx : xs = [] := List.eq_nil_of_length_eq_zero (by omega)
  subst hx hc
  clear h
  go_enter Tryz.func198, Tryz.ntmps198
  go_wp2
  go_ret
  exact ⟨none, 0, rfl, Own.nil _ _, Below.refl _ _⟩
 | some a =>
  have HL := hid hl
  clear hl
  go_enter Tryz.func198, Tryz.ntmps198
  go_wp2_with (at_builtin; refine wp_append _ rfl _ _ rfl w.heap.size _ _ _ _ _ _ [] xs rfl rfl rfl rfl (Own.made w) (h.below (below_alloc w _)) (by have := HL.out; simp; omega) (by simp) ?_; intro ao' c' w1 hown1 hbel1)
  go_ret
  exact ⟨ao', c', by simp, by simpa using hown1, (below_alloc w _).trans hbel1⟩

theorem trim_any (ao : Option Addr) (c : Nat) (xs : List Nat) (w : World) (h : Rd w ao c xs) (hl : xs.length ≤ 17592186044416) :
  Calls Tryz.prog 155 #[.slice ao xs.length c] w (RetOwn w.heap.size (nd (val xs)) w) := by
 have hcut := cut_any ao c xs w h
 have hr := h.take (nd (val xs)).length
 rw [take_nd h.dg] at hr
 have hlen := nd_length_le_of h.dg
 have hcl := clone_any ao c (nd (val xs)) w hr (by omega)
 go_enter Tryz.func155, Tryz.ntmps155
 go_wp2_with (first | (go_at_call 157; refine hcut.mono ?_; rintro e w' ⟨rfl, rfl⟩) | (go_at_call 198; refine hcl.mono ?_; rintro e w' ⟨ao', c', rfl, hown, hbel⟩))
 go_ret
 exact ⟨ao', c', rfl, hown, hbel⟩

theorem compare_any (aa ab : Option Addr) (ca cb : Nat) (xs ys : List Nat) (w : World) (ha : Rd w aa ca xs) (hb : Rd w ab cb ys) :
  Calls Tryz.prog 166 #[.slice aa xs.length ca, .slice ab ys.length cb] w (RetQ (.int .i64 (cmpN (val xs) (val ys))) w) := by
 have hcx := cut_any aa ca xs w ha
 have hcy := cut_any ab cb ys w hb
 have hlx := nd_length_le_of ha.dg
 have hly := nd_length_le_of hb.dg
 have hra := ha.take (nd (val xs)).length
 have hrb := hb.take (nd (val ys)).length
 rw [take_nd ha.dg] at hra
 rw [take_nd hb.dg] at hrb
 have hax := ha.le
 have hax2 := ha.cm
 have hay := hb.le
 have hay2 := hb.cm
 obtain ⟨us, hus⟩ : ∃ us, us = nd (val xs) := ⟨_, rfl⟩
 obtain ⟨vs, hvs⟩ : ∃ vs, vs = nd (val ys) := ⟨_, rfl⟩
 have hvx : val xs = val us := by rw [hus, val_nd]
 have hvy : val ys = val vs := by rw [hvs, val_nd]
 have hux : us = nd (val us) := by rw [hus, val_nd]
 have huy : vs = nd (val vs) := by rw [hvs, val_nd]
 rw [← hus] at hcx hlx hra
 rw [← hvs] at hcy hly hrb
 obtain ⟨r, hr⟩ : ∃ r, r = cmpN (val xs) (val ys) := ⟨_, rfl⟩
 rw [← hr]
 rw [hvx, hvy] at hr
 have HUX := hid hux
 have HUY := hid huy
 clear hus hvs hvx hvy hux huy ha hb
 by_cases hlen : us.length = vs.length
 ·have hne : ((us.length : Int) != (vs.length : Int)) = false := by simp [hlen]
  have hux := hra.dg
  have huy := hrb.dg
  have HR := hid hr
  have HLEN := hid hlen
  clear hr hlen
  go_enter Tryz.func166, Tryz.ntmps166
  go_wp2_with fail
  refine hcx.mono ?_
  rintro e w' ⟨rfl, rfl⟩
  go_wp2_with fail
  refine hcy.mono ?_
  rintro e w' ⟨rfl, rfl⟩
  go_wp2_with fail
  clear hcx hcy
  go_loopw [5] (fun iv wr => ∃ k q : Nat, k ≤ us.length ∧ iv = .int .i64 ((k : Int) - 1) ∧ Hid (us.drop k = vs.drop k) ∧ wr = w.drewN q) (fun iv _ => (intOf iv + 1).toNat)
  case atStart => exact ⟨us.length, 0, Nat.le_refl _, rfl, by have := HLEN.out; simp [Hid, this], rfl⟩
  case round =>
   obtain ⟨k, q, hk, rfl, HD, rfl⟩ := hrel
   by_cases hk0 : k = 0
   ·subst hk0
    obtain rfl : r = 0 := by
     have h := HD.out
     simp only [List.drop_zero] at h
     rw [HR.out, h]; simp [cmpN]
    go_wp2
    go_ret
    exact RetQ.mk rfl
   ·obtain ⟨m, rfl⟩ : ∃ m, k = m + 1 := ⟨k - 1, by omega⟩
    clear hk0
    rcases hra.lies with h1 | ⟨b1, o1, rfl, hc1⟩
    ·simp [h1] at hk
    rcases hrb.lies with h1 | ⟨b2, o2, rfl, hc2⟩
    ·have := HLEN.out; simp [h1] at this; simp [this] at hk
    have g1 := hc1 m (by omega)
    have g2 := hc2 m (by have := HLEN.out; omega)
    obtain ⟨x, hx⟩ : ∃ x, x = us.getD m 0 := ⟨_, rfl⟩
    obtain ⟨y, hy⟩ : ∃ y, y = vs.getD m 0 := ⟨_, rfl⟩
    rw [← hx] at g1
    rw [← hy] at g2
    have hml : m < vs.length := by have := HLEN.out; omega
    have hl1 : (m : Int) < (us.length : Int) := by omega
    have hl2 : (m : Int) < (vs.length : Int) := by omega
    have hxl : x < 4294967296 := by rw [hx]; exact wf_getD hux m
    have hyl : y < 4294967296 := by rw [hy]; exact wf_getD huy m
    have HXY := hid (And.intro hx hy)
    clear hc1 hc2 hra hrb hx hy
    by_cases hxy : x = y
    ·have hb : ((x : Int) != (y : Int)) = false := by simp [hxy]
     have HE := hid hxy
     clear hxy
     go_wp2_with fail
     go_quiet (fail)
     go_wp2
     refine ⟨⟨m, q + nq, by omega, by simp, ?_, by simp⟩, by simp [intOf]⟩
     show us.drop m = vs.drop m
     have := HLEN.out
     rw [List.drop_eq_getElem_cons (by omega), List.drop_eq_getElem_cons hml, HD.out]
     have e1 : us[m]'(by omega) = x := by rw [HXY.out.1]; simp [List.getD, show m < us.length by omega]
     have e2 : vs[m]'hml = y := by rw [HXY.out.2]; simp [List.getD, hml]
     rw [e1, e2, HE.out]
    ·have hb : ((x : Int) != (y : Int)) = true := by simp; omega
     have hr2 : r = if (x : Int) < (y : Int) then -1 else if (y : Int) < x then 1 else 0 := by
      rw [HR.out, cmpN]
      have hd := HD.out
      have h1 := HXY.out.1
      have h2 := HXY.out.2
      have hll := HLEN.out
      by_cases h3 : x < y
      ·have := val_lt_top (k := m) hux hll (by omega) hd (by omega)
       rw [if_pos this, if_pos (by omega)]
      ·have := val_lt_top (k := m) huy hll.symm (by omega) hd.symm (by omega)
       rw [if_neg (by omega), if_pos this, if_neg (by omega), if_pos (by omega)]
     have hcu := fun w => cmp_u32 x y r w hr2
     clear hr2 hxy
     go_wp2_with fail
     go_quiet (fail)
     go_wp2_with fail
     go_quiet ((go_at_call 212; exact (hcu _).mono (fun _ _ h => ⟨h.1, _, h.2.symm⟩)))
     go_wp2
     go_ret
     exact ⟨rfl, _, drewN3 _ _ _ _⟩
 ·have hne : ((us.length : Int) != (vs.length : Int)) = true := by rw [bne_iff_ne]; omega
  have hrr : r = if (us.length : Int) < vs.length then -1 else if (vs.length : Int) < us.length then 1 else 0 := by
   rw [hr, cmpN]
   by_cases h1 : us.length < vs.length
   ·have := nd_length_mono (u := val vs) (v := val us)
    rw [← HUX.out, ← HUY.out] at this
    rw [if_pos (by omega), if_pos (by omega)]
   ·have := nd_length_mono (u := val us) (v := val vs)
    rw [← HUX.out, ← HUY.out] at this
    rw [if_neg (by omega), if_pos (by omega), if_neg (by omega), if_pos (by omega)]
  have hci := fun w => cmp_int us.length vs.length r w hrr
  clear hr hrr hlen
  go_enter Tryz.func166, Tryz.ntmps166
  go_wp2_with fail
  refine hcx.mono ?_
  rintro e w' ⟨rfl, rfl⟩
  go_wp2_with fail
  refine hcy.mono ?_
  rintro e w' ⟨rfl, rfl⟩
  go_wp2_with fail
  refine (hci _).mono ?_
  rintro e w' ⟨rfl, rfl⟩
  go_wp2
  go_ret
  exact RetQ.mk (q := 0) rfl
end Go.Proofs.YtcankknlbljicaaGreatDoor
