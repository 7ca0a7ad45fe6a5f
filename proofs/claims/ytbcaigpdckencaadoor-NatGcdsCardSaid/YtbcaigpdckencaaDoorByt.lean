/- Rows of bytes that a call owns; slices.Reverse at bytes; strings.TrimLeft at "0". -/
import Derived.Test.YtbcaigpdckencaaDoorCut
import Derived.Test.YtbcaigpdckencaaDoorDec10
import Derived.BigRegion
import Derived.Laws.BytesString
namespace Go.Proofs.YtbcaigpdckencaaDoor
open Go.RowKit Num

def OwnB (B : Nat) (w : World) (ao : Option Addr) (c : Nat) (bs : List Nat) : Prop :=
  w.ownsRow B 5 1 (.slice ao bs.length c) bs.length (bs.map fun d : Nat => Value.int .u8 (d : Int))
theorem OwnB.nil (B : Nat) (w : World) : OwnB B w none 0 [] := World.ownsRow_nil _ _ _ _
theorem OwnB.cases {B : Nat} {w : World} {ao : Option Addr} {c : Nat} {xs : List Nat} (h : OwnB B w ao c xs) :
    (ao = none ∧ c = 0 ∧ xs = []) ∨ ∃ g, ao = some ⟨g, 0, none⟩ ∧ B ≤ g ∧ g < w.heap.size ∧ xs.length ≤ c ∧ c ≤ 9223372036854775807 := by
  rcases h.2 with ⟨h1, h2⟩ | ⟨g, cap, cur, h1, h2, h3, h4, h5, h6, h7⟩
  · left
    simp only [Value.slice.injEq] at h1
    exact ⟨h1.1, h1.2.2, List.eq_nil_of_length_eq_zero h2⟩
  · right
    simp only [Value.slice.injEq] at h1
    obtain ⟨rfl, _, rfl⟩ := h1
    exact ⟨g, rfl, h2, (Array.getElem?_eq_some_iff.1 h3).1, h4, h5⟩
theorem OwnB.cell {B g : Nat} {w : World} {c : Nat} {xs : List Nat} (h : OwnB B w (some ⟨g, 0, none⟩) c xs) (i : Nat) (hi : i < xs.length) : w.cell? ⟨g, i, none⟩ = some (.int .u8 ((xs.getD i 0 : Nat) : Int)) := by
  have h' : w.ownsRow B 5 1 (.slice (some ⟨g, 0, none⟩) xs.length c) xs.length (xs.map fun d : Nat => Value.int .u8 (d : Int)) := h
  rw [h'.cellAt i (by simpa using hi)]; simp [hi]
theorem OwnB.frozen {B g : Nat} {w : World} {c : Nat} {xs : List Nat} (h : OwnB B w (some ⟨g, 0, none⟩) c xs) (i : Nat) : w.frozen? ⟨g, i, none⟩ = false := World.ownsRow.frozenAt h i
theorem OwnB.keep {B : Nat} {w w' : World} {ao : Option Addr} {c : Nat} {xs : List Nat} (h : OwnB B w ao c xs) (hk : ∀ a, ao = some a → w'.heap[a.block]? = w.heap[a.block]?) : OwnB B w' ao c xs := by
  refine ⟨h.1, ?_⟩
  rcases h.2 with h1 | ⟨g, cap, cur, h1, h2, h3, h4⟩
  · exact Or.inl h1
  · have h1' := h1
    simp only [Value.slice.injEq] at h1
    exact Or.inr ⟨g, cap, cur, h1', h2, (hk _ h1.1).trans h3, h4⟩
theorem OwnB.block {B : Nat} {w : World} {a : Addr} {c : Nat} {xs : List Nat} (h : OwnB B w (some a) c xs) : B ≤ a.block ∧ a.block < w.heap.size := by
  have := World.ownsRow.lt h a.block rfl
  exact this
theorem OwnB.below {B : Nat} {w w' : World} {ao : Option Addr} {c : Nat} {xs : List Nat} (h : OwnB B w ao c xs) (hb : Below w.heap.size w w') : OwnB B w' ao c xs :=
  h.keep fun a ha => by subst ha; exact hb.block _ h.block.2
theorem OwnB.set {B g : Nat} {w : World} {c : Nat} {xs : List Nat} (h : OwnB B w (some ⟨g, 0, none⟩) c xs) (i x : Nat) (v : Int) (hv : v = (x : Int)) :
    OwnB B (w.setCell ⟨g, i, none⟩ (.int .u8 v)) (some ⟨g, 0, none⟩) c (xs.set i x) := by
  have h1 := (World.ownsRow.stored h i (.int .u8 v)).1
  unfold OwnB
  rw [List.length_set, List.map_set, ← hv]
  exact h1
theorem infoU8 : (Tryd.prog.info? 5).map (fun i => (i.zero, i.size, i.bytes)) = some (some (.int .u8 0), 1, 1) := by kernel_rfl

/-- append(text, b) -/
theorem wp_appendB {ops : Array Oper} {rest : List Oper} {o : Oper} {a : Act} {Q : Exit → Act → World → Prop} (w : World) (hgd : o.guard = none) (s x : Operand)
    (ho : o.op = .call { callee := .builtin .append, args := #[s, x], argTypes := #[72, 72] })
    (B : Nat) (ao : Option Addr) (ad : Addr) (n c cx : Nat) (xs : List Nat) (d : Nat) (hs : a.eval s = .slice ao n c) (hx : a.eval x = .slice (some ad) 1 cx) (hn : n = xs.length) (hcell : w.cell? ad = some (.int .u8 (d : Int))) (hown : OwnB B w ao c xs)
    (hb : n ≤ 35184372088832) (hB : B ≤ w.heap.size)
    (h : ∀ ao' c' w', OwnB B w' ao' c' (xs ++ [d]) → Below B w w' → wpList Tryd.prog ops Q rest (a.put o.dst (.slice ao' (n + 1) c')) w') : wpList Tryd.prog ops Q (o :: rest) a w := by
  subst hn
  obtain ⟨i0, hi, hz0, hz1, hz2⟩ := info_parts infoU8
  refine wpList_append_own w hgd s x 72 ho B 5 i0 (.int .u8 0) 1 1 Tryd.underlying72 hi hz0 hz1 hz2 rfl (by decide) _ _ _ hs hown ad 1 cx [.int .u8 (d : Int)] hx rfl ?_ ?_ (by simp only [maxLen]; omega) (by omega) hB ?_
  · intro j u hu
    match j, hu with
    | 0, hu => simp at hu; subst hu; simpa [Addr.add] using hcell
  · intro u hu; simp at hu; subst hu; rfl
  · intro v' w' h2 h3 h4
    have hbel : Below B w w' := (Below.refl _ _).grown h3 hB (fun k hk => (World.ownsRow.lt hown k hk).1)
    obtain ⟨ao', c', rfl⟩ : ∃ ao' c', v' = .slice ao' (xs.length + 1) c' := by
      rcases h2.2 with ⟨hv, hn0⟩ | ⟨g, cap, cur, hv, _⟩
      · omega
      · exact ⟨_, _, hv⟩
    refine h ao' c' w' ?_ hbel
    unfold OwnB
    rw [List.length_append, List.map_append, List.length_singleton, List.map_singleton]
    exact h2

/-- what a reversal has come to -/
def revTo (bs l : List Nat) (i : Nat) : Prop := l.length = bs.length ∧ ∀ t, t < bs.length → l.getD t 0 = if t < i ∨ bs.length ≤ t + i then bs.getD (bs.length - 1 - t) 0 else bs.getD t 0
theorem revTo_end {bs l : List Nat} {i : Nat} (h : revTo bs l i) (hi : bs.length ≤ 2 * i + 1) : l = bs.reverse := by
  apply List.ext_getElem
  · rw [h.1, List.length_reverse]
  · intro t h1 h2
    have h3 := h.2 t (by rw [← h.1]; exact h1)
    have hl := h.1
    have h5 : l[t] = l.getD t 0 := by simp [List.getD, h1]
    rw [h5, h3, List.getElem_reverse]
    have ht : t < bs.length := by omega
    by_cases h4 : t < i ∨ bs.length ≤ t + i
    · rw [if_pos h4]; simp [List.getD, show bs.length - 1 - t < bs.length by omega]
    · rw [if_neg h4]
      have : bs.length - 1 - t = t := by omega
      simp [List.getD, ht, this]
theorem revTo_step {bs l : List Nat} {i j x y : Nat} (h : revTo bs l i) (hj : i + j + 1 = bs.length) (hij : i < j) (hx : x = l.getD i 0) (hy : y = l.getD j 0) : revTo bs ((l.set i y).set j x) (i + 1) := by
  have hl := h.1
  have hxi := h.2 i (by omega)
  have hyj := h.2 j (by omega)
  rw [if_neg (by omega)] at hxi hyj
  refine ⟨by simpa using h.1, fun t ht => ?_⟩
  have h3 := h.2 t ht
  by_cases h4 : t = j
  · subst h4
    rw [if_pos (Or.inr (by omega)), hx, hxi, show bs.length - 1 - t = i by omega]
    simp [List.getD, List.getElem?_set, show t < l.length by omega]
  · by_cases h5 : t = i
    · subst h5
      rw [if_pos (Or.inl (by omega)), hy, hyj, show bs.length - 1 - t = j by omega]
      simp [List.getD, List.getElem?_set, show t < l.length by omega, Ne.symm h4]
    · have e : ((l.set i y).set j x).getD t 0 = l.getD t 0 := by simp [List.getD, List.getElem?_set, Ne.symm h4, Ne.symm h5]
      rw [e, h3]
      by_cases h6 : t < i ∨ bs.length ≤ t + i
      · rw [if_pos h6, if_pos (by omega)]
      · rw [if_neg h6, if_neg (by omega)]
end Go.Proofs.YtbcaigpdckencaaDoor
