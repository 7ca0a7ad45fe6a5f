/-  -/
import Derived.Test.YtcankknlbljicaaGreatDoorWb
import Derived.Deep.RegionHeld3
import Derived.Laws.Rows
import Derived.Laws.Tables
import Derived.Deep.MidRow
import Derived.Great.BuildSlice
import Derived.Great.Walk
import Derived.IntWalk
import Derived.LoopN
import Derived.Deep.LoopGhost

set_option linter.unusedVariables false
set_option linter.unusedSimpArgs false
set_option linter.unusedSectionVars false
set_option maxRecDepth 100000
set_option maxHeartbeats 3200000

namespace Go.Proofs.YtcankknlbljicaaGreatDoor
open Go.RowKit Num

def sl (a : Act) (t : Nat) : Value := a.tmps.getD t undef
theorem sl_put {a : Act} {t : Nat} (v : Value) (h : t < a.tmps.size) : sl (a.put (some t) v) t = v := by
 simp [sl, Act.put, Array.getD_eq_getD_getElem?, Array.getElem?_setIfInBounds, h]
theorem sl_other {a : Act} {t u : Nat} (v : Value) (h : t ≠ u) : sl (a.put (some t) v) u = sl a u := by
 simp [sl, Act.put, Array.getD_eq_getD_getElem?, Array.getElem?_setIfInBounds, h]
theorem put_size (a : Act) (d : Option Tmp) (v : Value) : (a.put d v).tmps.size = a.tmps.size := by
 cases d <;> simp [Act.put]
theorem put_defers (a : Act) (d : Option Tmp) (v : Value) : (a.put d v).defers = a.defers := by
 cases d <;> rfl

def Outside (ops : Array Oper) (n t : Nat) : Prop := ∀ i o, ops[i]? = some o → i < n → o.dst ≠ some t

def isAl (o : Oper) : Bool := match o.op with | .alloc _ => true | _ => false
structure MS (W : World) (a0 : Act) (G : Nat → World → Value → Prop) (ops : Array Oper) (n : Nat) (L : Nat → Prop) (a : Act) (w : World) : Prop where
 b : Below W.heap.size W w
 sz : a.tmps.size = a0.tmps.size
 df : a.defers = a0.defers
 fr : ∀ t, Outside ops n t → sl a t = sl a0 t
 g : ∀ i o t, ops[i]? = some o → i < n → L i → o.dst = some t → G i w (sl a t)
 al : ∀ i o t, ops[i]? = some o → i < n → L i → isAl o = true → o.dst = some t → ∃ g, sl a t = .pointer (some ⟨g, 0, none⟩) ∧ g < w.heap.size
 ne : ∀ i o t j p u, ops[i]? = some o → i < n → L i → isAl o = true → o.dst = some t → ops[j]? = some p → j < n → L j → isAl p = true → p.dst = some u → i ≠ j → sl a t ≠ sl a u

def OpOk (P : Program) (Q : Exit → Act → World → Prop) (W : World) (a0 : Act) (G : Nat → World → Value → Prop) (ops : Array Oper) (n i : Nat) (o : Oper) : Prop :=
 ∀ a w, Below W.heap.size W w → a.tmps.size = a0.tmps.size → (∀ t, Outside ops n t → sl a t = sl a0 t) →
  (∀ e ∈ o.after.toList, Region.binds .any e = true → ∀ oe t, ops[e.on]? = some oe → oe.dst = some t → G e.on w (sl a t)) →
  if Region.wanted o (yielded ops a.tmps) = true then o.wp P a w (fun a' w' => ∃ v, a' = a.put o.dst v ∧ Below w.heap.size w w' ∧ (∀ t, o.dst = some t → G i w' v) ∧ (isAl o = true → ∃ g, v = .pointer (some ⟨g, 0, none⟩) ∧ w.heap.size ≤ g ∧ g < w'.heap.size)) Q else G i w undef ∧ isAl o = false

def cnt (L : Array Bool) : Nat → Nat
 | 0 => 0
 | m + 1 => cnt L m + if L.getD m false = true then 0 else 1
theorem getD_set (L : Array Bool) (i j : Nat) (hi : i < L.size) : (L.setIfInBounds i true).getD j false = if i = j then true else L.getD j false := by
 rw [Array.getD_eq_getD_getElem?, Array.getElem?_setIfInBounds, Array.getD_eq_getD_getElem?]
 split
 ·subst_vars; simp [hi]
 ·rfl
theorem cnt_far (L : Array Bool) (i : Nat) (hi : i < L.size) : ∀ m, m ≤ i → cnt (L.setIfInBounds i true) m = cnt L m
 | 0, _ => rfl
 | m + 1, h => by
  simp only [cnt]
  rw [cnt_far L i hi m (by omega), getD_set L i m hi, if_neg (show ¬ i = m by omega)]
theorem cnt_set (L : Array Bool) (i : Nat) (hi : i < L.size) (hf : L.getD i false = false) : ∀ m, i < m → cnt (L.setIfInBounds i true) m + 1 = cnt L m
 | 0, h => by omega
 | m + 1, h => by
  simp only [cnt]
  rw [getD_set L i m hi]
  by_cases he : i = m
  ·subst he
   rw [cnt_far L i hi i (Nat.le_refl _), hf]; simp
  ·have := cnt_set L i hi hf m (by omega)
   rw [if_neg he]; omega
theorem cnt_zero (L : Array Bool) : ∀ m, cnt L m = 0 → ∀ i, i < m → L.getD i false = true
 | 0, _, i, hi => by omega
 | m + 1, h, i, hi => by
  simp only [cnt] at h
  by_cases he : i = m
  ·subst he
   by_cases hc : L.getD i false = true
   ·exact hc
   ·rw [if_neg hc] at h; omega
  ·exact cnt_zero L m (by omega) i (by omega)

theorem or_t {a b : Bool} (h : (a || b) = true) : a = true ∨ b = true := by simpa using h
def backB (ops : Array Oper) : Bool := (List.range ops.size).all fun i => ((ops[i]?).map fun o => o.after.toList.all fun e => !Region.binds .any e || decide (e.on < i)).getD true
def reachB (ops : Array Oper) : Nat → Nat → Nat → Bool
 | 0, _, _ => false
 | f + 1, i, j => ((ops[i]?).map fun o => (o.after.toList.any fun e => Region.binds .any e && e.on == j) || (o.after.toList.any fun e => Region.binds .any e && reachB ops f e.on j)).getD false
def tailB (ops : Array Oper) (n : Nat) (fl : List Nat) : Bool := (List.range ops.size).all fun i => decide (i < n) || (List.range i).all fun j => fl.contains j || reachB ops 6 i j
def flB (ops : Array Oper) (n : Nat) (fl : List Nat) : Bool := fl.all fun i => decide (i < n) && ((ops[i]?).map fun oi => !isAl oi && (List.range ops.size).all fun j => j == i || (oi.after.toList.any fun e => Region.binds .any e && e.on == j) || ((ops[j]?).map fun oj => (oj.after.toList.any fun e => Region.binds .any e && e.on == i) || oi.apart ops oj).getD true).getD false
def dstB (ops : Array Oper) (n sz : Nat) : Bool := (List.range n).all fun i => ((ops[i]?).map fun o => match o.dst with
 | none => true
 | some t => decide (t < sz) && (List.range i).all fun j => ((ops[j]?).map fun o' => o'.dst != some t).getD true).getD true
def regB (ops : Array Oper) (n : Nat) (fl : List Nat) (sz : Nat) : Bool := backB ops && tailB ops n fl && dstB ops n sz && decide (n ≤ ops.size) && flB ops n fl

section
variable {P : Program} {ops : Array Oper} {Q : Exit → Act → World → Prop} {W : World} {a0 : Act} {G : Nat → World → Value → Prop} {n : Nat}

theorem back_of (h : backB ops = true) {i : Nat} {o : Oper} (ho : ops[i]? = some o) {e : Edge} (he : e ∈ o.after.toList) (hbe : Region.binds .any e = true) : e.on < i := by
 have hi : i < ops.size := (Array.getElem?_eq_some_iff.1 ho).1
 have h1 := List.all_eq_true.1 h i (List.mem_range.2 hi)
 rw [ho] at h1
 have h2 := List.all_eq_true.1 h1 e he
 rw [hbe] at h2
 simpa using h2

def DC (ops : Array Oper) (L : Nat → Prop) : Prop := ∀ i o, L i → ops[i]? = some o → ∀ e ∈ o.after.toList, Region.binds .any e = true → L e.on

theorem reach_listed {L : Nat → Prop} (hD : DC ops L) : ∀ f i j o, ops[i]? = some o → (∀ e ∈ o.after.toList, Region.binds .any e = true → L e.on) → reachB ops f i j = true → L j
 | 0, i, j, o, _, _, h => by simp [reachB] at h
 | f + 1, i, j, o, ho, hl, h => by
  rw [reachB, ho] at h
  rcases or_t (show (_ || _) = true from h) with h | h
  ·obtain ⟨e, he, h2⟩ := List.any_eq_true.1 h
   obtain ⟨h3, h5⟩ : Region.binds .any e = true ∧ e.on = j := by simpa using h2
   exact h5 ▸ hl e he h3
  ·obtain ⟨e, he, h2⟩ := List.any_eq_true.1 h
   obtain ⟨h3, h4⟩ : Region.binds .any e = true ∧ reachB ops f e.on j = true := by simpa using h2
   cases hoe : ops[e.on]? with
   | none =>
    cases f with
    | zero => simp [reachB] at h4
    | succ f => rw [reachB, hoe] at h4; simp at h4
   | some oe => exact reach_listed hD f e.on j oe hoe (hD e.on oe (hl e he h3) hoe) h4

theorem mem_ready {L : Array Bool} (hs : L.size = ops.size) {i : Nat} : i ∈ Region.ready .any ops L ↔ ∃ o, ops[i]? = some o ∧ L.getD i false = false ∧ ∀ e ∈ o.after.toList, Region.binds .any e = true → L.getD e.on false = true := by
 unfold Region.ready
 rw [List.mem_filter, List.mem_range]
 constructor
 ·rintro ⟨hi, h⟩
  obtain ⟨o, ho⟩ : ∃ o, ops[i]? = some o := ⟨ops[i], Array.getElem?_eq_getElem hi⟩
  rw [ho] at h
  obtain ⟨h1, h2⟩ : L.getD i true = false ∧ _ := by simpa using h
  refine ⟨o, ho, ?_, fun e he hb => ?_⟩
  ·rw [Array.getD_eq_getD_getElem?, Array.getElem?_eq_getElem (by omega)] at h1 ⊢; exact h1
  ·obtain ⟨k, hk, rfl⟩ := List.getElem_of_mem he
   have := h2 k (by simpa using hk)
   simp only [Array.getElem_toList] at hb ⊢
   rw [hb] at this
   simpa [Array.getD_eq_getD_getElem?] using this
 ·rintro ⟨o, ho, h1, h2⟩
  have hi : i < ops.size := (Array.getElem?_eq_some_iff.1 ho).1
  refine ⟨hi, ?_⟩
  rw [ho]
  have h3 : L.getD i true = false := by
   rw [Array.getD_eq_getD_getElem?, Array.getElem?_eq_getElem (by omega)] at h1 ⊢; exact h1
  rw [h3]
  simp only [Bool.not_false, Option.map_some, Option.getD_some, Bool.true_and, Array.all_eq_true]
  intro k hk
  have h4 := h2 o.after[k] (by simp)
  cases hb : Region.binds .any o.after[k] with
  | false => rfl
  | true => simpa using h4 hb

theorem wpOp_eq {i : Nat} {o : Oper} (ho : ops[i]? = some o) (K : Act → World → Prop) (a : Act) (w : World) : wpOp P ops Q i K a w = if Region.wanted o (yielded ops a.tmps) = true then o.wp P a w K Q ∨ (o.asks P a w ∧ LetsOut Q) else K (a.put o.dst undef) w := by
 unfold wpOp; rw [ho]

theorem tail_any {fl : List Nat} (hfn : ∀ i, i ∈ fl → i < n) (ht : tailB ops n fl = true) (hb : backB ops = true) : ∀ fuel k (L : Array Bool) a w, n ≤ k → L.size = ops.size → cnt L ops.size = fuel → (∀ i, i < k → L.getD i false = true) → (∀ i, k ≤ i → L.getD i false = false) →
  wpList P ops Q (ops.toList.drop k) a w → wpAny P .any ops Q fuel L a w
 | 0, k, L, a, w, hk, hs, hc, h1, h2, h => by
  have hall := cnt_zero L ops.size hc
  have hke : ops.size ≤ k := by
   refine Nat.le_of_not_lt fun hlt => ?_
   have := hall k hlt
   rw [h2 k (Nat.le_refl _)] at this
   cases this
  rw [List.drop_eq_nil_of_le (by simpa using hke)] at h
  refine ⟨?_, h⟩
  refine List.eq_nil_iff_forall_not_mem.2 fun i hi => ?_
  obtain ⟨o, ho, hf, _⟩ := (mem_ready hs).1 hi
  have := hall i (Array.getElem?_eq_some_iff.1 ho).1
  rw [hf] at this; cases this
 | fuel + 1, k, L, a, w, hk, hs, hc, h1, h2, h => by
  by_cases hke : ops.size ≤ k
  ·exfalso
   have : ∀ m, m ≤ ops.size → cnt L m = 0 := by
    intro m
    induction m with
    | zero => intro _; rfl
    | succ m ih => intro hm; simp only [cnt]; rw [ih (by omega), h1 m (by omega)]; simp
   rw [this _ (Nat.le_refl _)] at hc; omega
  ·have hlt : k < ops.size := by omega
   have hok : ops[k]? = some ops[k] := Array.getElem?_eq_getElem hlt
   have hrk : k ∈ Region.ready .any ops L := (mem_ready hs).2 ⟨ops[k], hok, h2 k (Nat.le_refl _), fun e he hbe => h1 _ (back_of hb hok he hbe)⟩
   refine ⟨(fun hn => by rw [hn] at hrk; cases hrk), fun i hi => ?_⟩
   obtain ⟨o, ho, hf, hd⟩ := (mem_ready hs).1 hi
   have hil : i < ops.size := (Array.getElem?_eq_some_iff.1 ho).1
   have hki : k ≤ i := Nat.le_of_not_lt fun hlt => by rw [h1 i hlt] at hf; cases hf
   have hik : i = k := by
    refine Classical.byContradiction fun hne => ?_
    have h3 := List.all_eq_true.1 ht i (List.mem_range.2 hil)
    have h4 : (List.range i).all (fun j => fl.contains j || reachB ops 6 i j) = true := by
     rcases or_t h3 with h5 | h5
     ·have := of_decide_eq_true h5; omega
     ·exact h5
    have h5 : reachB ops 6 i k = true := by
     rcases or_t (List.all_eq_true.1 h4 k (List.mem_range.2 (by omega))) with h6 | h6
     ·have := hfn k (by simpa using h6); omega
     ·exact h6
    have hDC : DC ops (fun i => L.getD i false = true) := by
     intro i' o' hl' ho' e he hbe
     have hi' : i' < k := Nat.lt_of_not_le fun hle => by rw [h2 i' hle] at hl'; cases hl'
     exact h1 _ (Nat.lt_trans (back_of hb ho' he hbe) hi')
    have h6 := reach_listed hDC 6 i k o ho hd h5
    rw [h2 k (Nat.le_refl _)] at h6; cases h6
   subst hik
   rw [ho] at hok
   obtain rfl : o = ops[i] := Option.some.inj hok
   have hdr : ops.toList.drop i = ops[i] :: ops.toList.drop (i + 1) := by
    rw [List.drop_eq_getElem_cons (by simpa using hlt)]; simp
   rw [hdr] at h
   have hnext : ∀ a w, wpList P ops Q (ops.toList.drop (i + 1)) a w → wpAny P .any ops Q fuel (L.setIfInBounds i true) a w := fun a w h' => by
    refine tail_any hfn ht hb fuel (i + 1) (L.setIfInBounds i true) a w (by omega) (by simpa using hs) ?_ ?_ ?_ h'
    ·have := cnt_set L i (by omega) hf ops.size hlt; omega
    ·intro j hj
     rw [getD_set L i j (by omega)]
     split
     ·rfl
     ·exact h1 j (by omega)
    ·intro j hj
     rw [getD_set L i j (by omega), if_neg (by omega)]
     exact h2 j (by omega)
   rw [wpOp_eq ho]
   unfold wpList at h
   split at h
   ·rename_i hw
    rw [if_pos hw]
    exact h.imp (Oper.wp_mono hnext) id
   ·rename_i hw
    rw [if_neg hw]
    exact hnext _ _ h

theorem MS.step (hd : dstB ops n a0.tmps.size = true) (hG : ∀ i w w' v, Below w.heap.size w w' → G i w v → G i w' v) {L : Nat → Prop} {a : Act} {w w' : World} {i : Nat} {o : Oper} {v : Value} (h : MS W a0 G ops n L a w) (hi : i < n) (ho : ops[i]? = some o) (hb : Below w.heap.size w w') (hv : ∀ t, o.dst = some t → G i w' v) (hal : isAl o = true → ∃ g, v = .pointer (some ⟨g, 0, none⟩) ∧ w.heap.size ≤ g ∧ g < w'.heap.size) :
  MS W a0 G ops n (fun j => j = i ∨ L j) (a.put o.dst v) w' := by
 have hdst : ∀ i o t, i < n → ops[i]? = some o → o.dst = some t → t < a0.tmps.size ∧ ∀ j o', j < i → ops[j]? = some o' → o'.dst ≠ some t := by
  intro i o t hi ho ht
  have h1 := List.all_eq_true.1 hd i (List.mem_range.2 hi)
  rw [ho] at h1
  simp only [Option.map_some, Option.getD_some, ht, Bool.and_eq_true, decide_eq_true_eq] at h1
  refine ⟨h1.1, fun j o' hj ho' => ?_⟩
  have h2 := List.all_eq_true.1 h1.2 j (List.mem_range.2 hj)
  rw [ho'] at h2
  simpa using h2
 have hkeep : ∀ j o' t, ops[j]? = some o' → j < n → j ≠ i → o'.dst = some t → sl (a.put o.dst v) t = sl a t := by
  intro j o' t hoj hj hji ht
  have hne : o.dst ≠ some t := by
   intro he
   rcases Nat.lt_or_gt_of_ne hji with hlt | hlt
   ·exact (hdst i o t hi ho he).2 j o' hlt hoj ht
   ·exact (hdst j o' t hj hoj ht).2 i o hlt ho he
  cases hdo : o.dst with
  | none => rfl
  | some d => exact sl_other _ fun e => hne (by rw [hdo, e])
 have hnew : ∀ o' t, ops[i]? = some o' → o'.dst = some t → sl (a.put o.dst v) t = v := by
  intro o' t hoj ht
  rw [ho] at hoj
  obtain rfl := Option.some.inj hoj
  rw [ht, sl_put _ (by rw [h.sz]; exact (hdst i o t hi ho ht).1)]
 refine ⟨h.b.trans (hb.mono h.b.size), by rw [put_size]; exact h.sz, by rw [put_defers]; exact h.df, fun t ht => ?_, fun j o' t hoj hj hl ht => ?_, fun j o' t hoj hj hl hal' ht => ?_, ?_⟩
 ·rw [← h.fr t ht]
  cases hdo : o.dst with
  | none => rfl
  | some d => exact sl_other _ fun e => ht i o ho hi (by rw [hdo, e])
 ·by_cases hji : j = i
  ·subst hji
   rw [ho] at hoj
   obtain rfl := Option.some.inj hoj
   rw [ht, sl_put _ (by rw [h.sz]; exact (hdst j o t hi ho ht).1)]
   exact hv t ht
  ·rw [hkeep j o' t hoj hj hji ht]
   exact hG j w w' _ hb (h.g j o' t hoj hj (hl.resolve_left hji) ht)
 ·by_cases hji : j = i
  ·subst hji
   rw [hnew o' t hoj ht]
   rw [ho] at hoj
   obtain rfl := Option.some.inj hoj
   obtain ⟨g, h1, h2, h3⟩ := hal hal'
   exact ⟨g, h1, h3⟩
  ·rw [hkeep j o' t hoj hj hji ht]
   obtain ⟨g, h1, h2⟩ := h.al j o' t hoj hj (hl.resolve_left hji) hal' ht
   exact ⟨g, h1, Nat.lt_of_lt_of_le h2 hb.size⟩
 ·intro j o1 t k o2 u hj1 hj hlj haj htj hk1 hk hlk hak htk hjk
  by_cases hji : j = i
  ·subst hji
   have hkj : k ≠ j := fun e => hjk e.symm
   rw [hnew o1 t hj1 htj, hkeep k o2 u hk1 hk hkj htk]
   rw [ho] at hj1
   obtain rfl := Option.some.inj hj1
   obtain ⟨g, h1, h2, h3⟩ := hal haj
   obtain ⟨g', k1, k2⟩ := h.al k o2 u hk1 hk (hlk.resolve_left hkj) hak htk
   rw [h1, k1]
   intro e
   simp only [Value.pointer.injEq, Option.some.injEq, Addr.mk.injEq] at e
   omega
  ·by_cases hki : k = i
   ·subst hki
    rw [hnew o2 u hk1 htk, hkeep j o1 t hj1 hj hji htj]
    rw [ho] at hk1
    obtain rfl := Option.some.inj hk1
    obtain ⟨g, h1, h2, h3⟩ := hal hak
    obtain ⟨g', k1, k2⟩ := h.al j o1 t hj1 hj (hlj.resolve_left hji) haj htj
    rw [h1, k1]
    intro e
    simp only [Value.pointer.injEq, Option.some.injEq, Addr.mk.injEq] at e
    omega
   ·rw [hkeep j o1 t hj1 hj hji htj, hkeep k o2 u hk1 hk hki htk]
    exact h.ne j o1 t k o2 u hj1 hj (hlj.resolve_left hji) haj htj hk1 hk (hlk.resolve_left hki) hak htk hjk

theorem MS.sub {L L' : Nat → Prop} {a : Act} {w : World} (h : MS W a0 G ops n L a w) (hl : ∀ i, i < n → L' i → L i) : MS W a0 G ops n L' a w :=
 ⟨h.b, h.sz, h.df, h.fr, fun i o t ho hi hl' ht => h.g i o t ho hi (hl i hi hl') ht, fun i o t ho hi hl' ha ht => h.al i o t ho hi (hl i hi hl') ha ht, fun i o t j p u ho hi hl' ha ht hp hj hlj hb hu hij => h.ne i o t j p u ho hi (hl i hi hl') ha ht hp hj (hl j hj hlj) hb hu hij⟩

theorem regB_of {fl : List Nat} (h : regB ops n fl a0.tmps.size = true) : backB ops = true ∧ tailB ops n fl = true ∧ dstB ops n a0.tmps.size = true ∧ n ≤ ops.size ∧ flB ops n fl = true := by
 unfold regB at h
 simp only [Bool.and_eq_true, decide_eq_true_eq] at h
 exact ⟨h.1.1.1.1, h.1.1.1.2, h.1.1.2, h.1.2, h.2⟩
theorem flB_of {fl : List Nat} (h : flB ops n fl = true) {i : Nat} (hi : i ∈ fl) : i < n ∧ ∃ oi, ops[i]? = some oi ∧ isAl oi = false ∧ ∀ j oj, ops[j]? = some oj → j ≠ i → (∀ e ∈ oi.after.toList, Region.binds .any e = true → e.on ≠ j) → (∀ e ∈ oj.after, Region.binds .any e = true → e.on ≠ i) → oi.apart ops oj = true := by
 have h1 := List.all_eq_true.1 h i hi
 obtain ⟨h2, h3⟩ : decide (i < n) = true ∧ _ := (Bool.and_eq_true _ _).mp h1
 refine ⟨of_decide_eq_true h2, ?_⟩
 cases ho : ops[i]? with
 | none => rw [ho] at h3; simp at h3
 | some oi =>
  rw [ho] at h3
  simp only [Option.map_some, Option.getD_some] at h3
  obtain ⟨h4, h5⟩ : (!isAl oi) = true ∧ _ := (Bool.and_eq_true _ _).mp h3
  refine ⟨oi, rfl, by simpa using h4, fun j oj hj hne hnd hno => ?_⟩
  have h6 := List.all_eq_true.1 h5 j (List.mem_range.2 (Array.getElem?_eq_some_iff.1 hj).1)
  rw [hj] at h6
  simp only [Option.map_some, Option.getD_some] at h6
  rcases or_t h6 with h6 | h7
  ·rcases or_t h6 with h7 | h7
   ·exact absurd (by simpa using h7) hne
   ·obtain ⟨e, he, h9⟩ := List.any_eq_true.1 h7
    obtain ⟨ha, hb⟩ : Region.binds .any e = true ∧ e.on = j := by simpa using h9
    exact absurd hb (hnd e he ha)
  ·rcases or_t h7 with h8 | h8
   ·obtain ⟨e, he, h9⟩ := List.any_eq_true.1 h8
    obtain ⟨ha, hb⟩ : Region.binds .any e = true ∧ e.on = i := by simpa using h9
    exact absurd hb (hno e (by simpa using he) ha)
   ·exact h8
def FlOk (P : Program) (Q : Exit → Act → World → Prop) (W : World) (a0 : Act) (G : Nat → World → Value → Prop) (ops : Array Oper) (n : Nat) (fl : List Nat) : Prop :=
 Region.noSelect ops = true ∧ (∀ c a d v w, Q (.panic c) (a.put d v) w → Q (.panic c) a w) ∧
 ∀ i o, i ∈ fl → ops[i]? = some o → ∀ a w, Below W.heap.size W w → a.tmps.size = a0.tmps.size → (∀ t, Outside ops n t → sl a t = sl a0 t) →
  (∀ e ∈ o.after.toList, Region.binds .any e = true → ∀ oe t, ops[e.on]? = some oe → oe.dst = some t → G e.on w (sl a t)) →
  ∃ v, Yields P ops o v a ∧ ∀ t, o.dst = some t → G i w v

theorem mono_any {fl : List Nat} (hr : regB ops n fl a0.tmps.size = true) (hfl : fl ≠ [] → FlOk P Q W a0 G ops n fl) (hG : ∀ i w w' v, Below w.heap.size w w' → G i w v → G i w' v)
  (hop : ∀ i o, i < n → ops[i]? = some o → OpOk P Q W a0 G ops n i o)
  (htail : ∀ a w, MS W a0 G ops n (fun _ => True) a w → wpList P ops Q (ops.toList.drop n) a w) :
  ∀ fuel (L : Array Bool) a w, L.size = ops.size → cnt L ops.size = fuel → DC ops (fun i => L.getD i false = true) → (∀ i, n ≤ i → L.getD i false = false) → MS W a0 G ops n (fun i => L.getD i false = true) a w → wpAny P .any ops Q fuel L a w := by
 obtain ⟨hb, ht, hd, hn, hfB⟩ := regB_of hr
 have hfn : ∀ i, i ∈ fl → i < n := fun i hi => (flB_of hfB hi).1
 intro fuel
 induction fuel with
 | zero =>
  intro L a w hs hc hD hL h
  have hall := cnt_zero L ops.size hc
  refine tail_any hfn ht hb 0 n L a w (Nat.le_refl _) hs hc (fun i hi => hall i (by omega)) hL ?_
  exact htail a w (h.sub fun i hi _ => hall i (by omega))
 | succ fuel ih =>
  intro L a w hs hc hD hL h
  by_cases hpre : ∀ i, i < n → L.getD i false = true
  ·exact tail_any hfn ht hb (fuel + 1) n L a w (Nat.le_refl _) hs hc hpre hL (htail a w (h.sub fun i hi _ => hpre i hi))
  ·by_cases hF : ∃ i, i ∈ fl ∧ i ∈ Region.ready .any ops L
   ·obtain ⟨i, hif, hi⟩ := hF
    obtain ⟨hin, oi, hoi, hali, hap⟩ := flB_of hfB hif
    obtain ⟨hsel, hQ, hY⟩ := hfl (fun e => by rw [e] at hif; cases hif)
    obtain ⟨o, ho, hf, hdl⟩ := (mem_ready hs).1 hi
    rw [hoi] at ho
    obtain rfl := Option.some.inj ho
    have hil : i < ops.size := (Array.getElem?_eq_some_iff.1 hoi).1
    obtain ⟨v, hy, hv⟩ := hY i oi hif hoi a w h.b h.sz h.fr (fun e he hbe oe t hoe hte => h.g e.on oe t hoe (Nat.lt_trans (back_of hb hoi he hbe) hin) (hdl e he hbe) hte)
    refine wpAny_first hoi (Region.noSelect_spec hsel) (fun c a w hq => hQ c a oi.dst v w hq) fuel L a w (fun j oj hj hne hun hno => hap j oj hj hne (fun e he hbe heq => by
     have h1 := hdl e he hbe
     have hjs : j < L.size := by rw [hs]; exact (Array.getElem?_eq_some_iff.1 hj).1
     rw [heq, Array.getD_eq_getD_getElem?, Array.getElem?_eq_getElem hjs] at h1
     rw [Array.getD_eq_getD_getElem?, Array.getElem?_eq_getElem hjs] at hun
     simp only [Option.getD_some] at h1 hun
     rw [hun] at h1; cases h1) hno) hi hy ?_
    refine ih (L.setIfInBounds i true) _ w (by simpa using hs) ?_ ?_ ?_ ?_
    ·have := cnt_set L i (by omega) hf ops.size hil; omega
    ·intro i' o' hl' ho' e he hbe
     rw [getD_set L i i' (by omega)] at hl'
     rw [getD_set L i e.on (by omega)]
     split
     ·rfl
     ·split at hl'
      ·subst_vars
       rw [hoi] at ho'
       obtain rfl := Option.some.inj ho'
       exact hdl e he hbe
      ·exact hD i' o' hl' ho' e he hbe
    ·intro k hk
     rw [getD_set L i k (by omega), if_neg (by omega)]
     exact hL k hk
    ·refine (h.step hd hG hin hoi (Below.refl _ _) hv (fun h => by rw [hali] at h; cases h)).sub fun k hk hl => ?_
     rw [getD_set L i k (by omega)] at hl
     split at hl
     ·exact Or.inl (by omega)
     ·exact Or.inr hl
   have hex : ∃ j, j < n ∧ L.getD j false = false ∧ ∀ i, i < j → L.getD i false = true := by
    refine Classical.byContradiction fun hno => hpre ?_
    intro i
    induction i using Nat.strongRecOn with
    | _ i ihi =>
     intro hi
     refine Classical.byContradiction fun hf => hno ⟨i, hi, by simpa using hf, fun j hj => ihi j hj (by omega)⟩
   obtain ⟨j, hj, hjf, hjl⟩ := hex
   have hjo : ops[j]? = some ops[j] := Array.getElem?_eq_getElem (by omega)
   have hrj : j ∈ Region.ready .any ops L := (mem_ready hs).2 ⟨_, hjo, hjf, fun e he hbe => hjl _ (back_of hb hjo he hbe)⟩
   refine ⟨(fun hn' => by rw [hn'] at hrj; cases hrj), fun i hi => ?_⟩
   obtain ⟨o, ho, hf, hdl⟩ := (mem_ready hs).1 hi
   have hil : i < ops.size := (Array.getElem?_eq_some_iff.1 ho).1
   have hin : i < n := by
    refine Nat.lt_of_not_le fun hni => ?_
    have h3 := List.all_eq_true.1 ht i (List.mem_range.2 hil)
    have h4 : (List.range i).all (fun j => fl.contains j || reachB ops 6 i j) = true := by
     rcases or_t h3 with h5 | h5
     ·have := of_decide_eq_true h5; omega
     ·exact h5
    have h5 : reachB ops 6 i j = true := by
     rcases or_t (List.all_eq_true.1 h4 j (List.mem_range.2 (by omega))) with h6 | h6
     ·exact absurd ⟨j, by simpa using h6, hrj⟩ hF
     ·exact h6
    have h6 := reach_listed hD 6 i j o ho hdl h5
    rw [hjf] at h6; cases h6
   have hnext : ∀ v w', Below w.heap.size w w' → (∀ t, o.dst = some t → G i w' v) → (isAl o = true → ∃ g, v = .pointer (some ⟨g, 0, none⟩) ∧ w.heap.size ≤ g ∧ g < w'.heap.size) → wpAny P .any ops Q fuel (L.setIfInBounds i true) (a.put o.dst v) w' := fun v w' hbw hv hal => by
    refine ih (L.setIfInBounds i true) _ w' (by simpa using hs) ?_ ?_ ?_ ?_
    ·have := cnt_set L i (by omega) hf ops.size hil; omega
    ·intro i' o' hl' ho' e he hbe
     rw [getD_set L i i' (by omega)] at hl'
     rw [getD_set L i e.on (by omega)]
     split
     ·rfl
     ·split at hl'
      ·subst_vars
       rw [ho] at ho'
       obtain rfl := Option.some.inj ho'
       exact hdl e he hbe
      ·exact hD i' o' hl' ho' e he hbe
    ·intro k hk
     rw [getD_set L i k (by omega), if_neg (by omega)]
     exact hL k hk
    ·refine (h.step hd hG hin ho hbw hv hal).sub fun k hk hl => ?_
     rw [getD_set L i k (by omega)] at hl
     split at hl
     ·exact Or.inl (by omega)
     ·exact Or.inr hl
   have hk := hop i o hin ho a w h.b h.sz h.fr (fun e he hbe oe t hoe hte => h.g e.on oe t hoe (Nat.lt_trans (back_of hb ho he hbe) hin) (hdl e he hbe) hte)
   rw [wpOp_eq ho]
   split at hk
   ·rename_i hw
    rw [if_pos hw]
    refine Or.inl (Oper.wp_mono ?_ hk)
    rintro a' w' ⟨v, rfl, hbw, hv, hal⟩
    exact hnext v w' hbw hv hal
   ·rename_i hw
    rw [if_neg hw]
    exact hnext undef w (Below.refl _ _) (fun _ _ => hk.1) (fun h => by rw [hk.2] at h; cases h)

theorem wp_region_mono {id : Nat} (n : Nat) (fl : List Nat) (G : Nat → World → Value → Prop) (hm : P.follows .mixedOrders = true) (hr : regB ops n fl a0.tmps.size = true) (hfl : fl ≠ [] → FlOk P Q W a0 G ops n fl) (hG : ∀ i w w' v, Below w.heap.size w w' → G i w v → G i w' v)
  (hop : ∀ i o, i < n → ops[i]? = some o → OpOk P Q W a0 G ops n i o)
  (htail : ∀ a w, MS W a0 G ops n (fun _ => True) a w → wpList P ops Q (ops.toList.drop n) a w) : (Code.region id ops true).wp P Q a0 W := by
 have hz : ∀ m i, (Array.replicate m false).getD i false = false := by
  intro m i
  rw [Array.getD_eq_getD_getElem?, Array.getElem?_replicate]
  split <;> rfl
 refine wp_region_any hm ?_
 have hc : ∀ m k, cnt (Array.replicate m false) k = k := by
  intro m k
  induction k with
  | zero => rfl
  | succ k ih => simp only [cnt]; rw [ih, hz]; simp
 refine mono_any hr hfl hG hop htail ops.size _ a0 _ (by simp) (hc _ _) ?_ (fun i _ => hz _ i) ?_
 ·intro i o hl
  rw [hz] at hl; cases hl
 ·refine ⟨Below.drew (Below.refl _ _), rfl, rfl, fun _ _ => rfl, fun i o t _ _ hl => ?_, fun i o t _ _ hl => ?_, fun i o t j p u _ _ hl => ?_⟩
  all_goals (rw [hz] at hl; cases hl)

def regS (ops : Array Oper) (n sz : Nat) : Bool := backB ops && dstB ops n sz && decide (n ≤ ops.size)
theorem regS_of (h : regS ops n a0.tmps.size = true) : backB ops = true ∧ dstB ops n a0.tmps.size = true ∧ n ≤ ops.size := by
 unfold regS at h
 simp only [Bool.and_eq_true, decide_eq_true_eq] at h
 exact ⟨h.1.1, h.1.2, h.2⟩
theorem mono_list (hr : regS ops n a0.tmps.size = true) (hG : ∀ i w w' v, Below w.heap.size w w' → G i w v → G i w' v)
  (hop : ∀ i o, i < n → ops[i]? = some o → OpOk P Q W a0 G ops n i o)
  (htail : ∀ a w, MS W a0 G ops n (fun _ => True) a w → wpList P ops Q (ops.toList.drop n) a w) :
  ∀ m k a w, n - k = m → k ≤ n → MS W a0 G ops n (fun i => i < k) a w → wpList P ops Q (ops.toList.drop k) a w := by
 obtain ⟨hb, hd, hn⟩ := regS_of hr
 intro m
 induction m with
 | zero =>
  intro k a w hm hk h
  obtain rfl : k = n := by omega
  exact htail a w (h.sub fun i hi _ => hi)
 | succ m ih =>
  intro k a w hm hk h
  have hkn : k < n := by omega
  have ho : ops[k]? = some ops[k] := Array.getElem?_eq_getElem (by omega)
  have hdr : ops.toList.drop k = ops[k] :: ops.toList.drop (k + 1) := by
   rw [List.drop_eq_getElem_cons (by simp; omega)]; simp
  rw [hdr]
  have hnext : ∀ v w', Below w.heap.size w w' → (∀ t, ops[k].dst = some t → G k w' v) → (isAl ops[k] = true → ∃ g, v = .pointer (some ⟨g, 0, none⟩) ∧ w.heap.size ≤ g ∧ g < w'.heap.size) → wpList P ops Q (ops.toList.drop (k + 1)) (a.put ops[k].dst v) w' := fun v w' hbw hv hal =>
   ih (k + 1) _ w' (by omega) (by omega) ((h.step hd hG hkn ho hbw hv hal).sub fun i _ hl => by omega)
  have hk' := hop k _ hkn ho a w h.b h.sz h.fr (fun e he hbe oe t hoe hte => h.g e.on oe t hoe (Nat.lt_trans (back_of hb ho he hbe) hkn) (back_of hb ho he hbe) hte)
  unfold wpList
  split at hk'
  ·rename_i hw
   rw [if_pos hw]
   refine Or.inl (Oper.wp_mono ?_ hk')
   rintro a' w' ⟨v, rfl, hbw, hv, hal⟩
   exact hnext v w' hbw hv hal
  ·rename_i hw
   rw [if_neg hw]
   exact hnext undef w (Below.refl _ _) (fun _ _ => hk'.1) (fun h => by rw [hk'.2] at h; cases h)

theorem wp_region_seq {id : Nat} (n : Nat) (G : Nat → World → Value → Prop) (hr : regS ops n a0.tmps.size = true) (hG : ∀ i w w' v, Below w.heap.size w w' → G i w v → G i w' v)
  (hop : ∀ i o, i < n → ops[i]? = some o → OpOk P Q W a0 G ops n i o)
  (htail : ∀ a w, MS W a0 G ops n (fun _ => True) a w → wpList P ops Q (ops.toList.drop n) a w) : (Code.region id ops false).wp P Q a0 W := by
 refine wp_region_list ?_
 have := mono_list hr hG hop htail n 0 a0 W (by omega) (Nat.zero_le _) ⟨Below.refl _ _, rfl, rfl, fun _ _ => rfl, fun i o t _ _ hl => absurd hl (Nat.not_lt_zero _), fun i o t _ _ hl => absurd hl (Nat.not_lt_zero _), fun i o t j p u _ _ hl => absurd hl (Nat.not_lt_zero _)⟩
 simpa using this
end
end Go.Proofs.YtcankknlbljicaaGreatDoor

namespace Go.Proofs.YtcankknlbljicaaGreatDoor
open Go.RowKit Num

def RetS (S : World → Value → Prop) (w : World) (e : Ending) (w' : World) : Prop := ∃ v, e = .returned v ∧ S w' v ∧ Below w.heap.size w w'

def Deps (G : Nat → World → Value → Prop) (ops : Array Oper) (o : Oper) (a : Act) (w : World) : Prop :=
 ∀ e ∈ o.after.toList, Region.binds .any e = true → ∀ oe t, ops[e.on]? = some oe → oe.dst = some t → G e.on w (sl a t)
theorem Deps.at {G : Nat → World → Value → Prop} {ops : Array Oper} {o : Oper} {a : Act} {w : World} (h : Deps G ops o a w) (p : Nat) {e : Edge} {oe : Oper} {t : Tmp} (he : o.after.toList[p]? = some e) (hb : Region.binds .any e = true) (ho : ops[e.on]? = some oe) (ht : oe.dst = some t) : G e.on w (sl a t) :=
 h e (List.mem_of_getElem? he) hb oe t ho ht

theorem ev {a : Act} {t : Tmp} {v : Value} (h : sl a t = v) : a.eval (.tmp t) = v := h
def outB (ops : Array Oper) (n t : Nat) : Bool := (List.range n).all fun i => ((ops[i]?).map fun o => o.dst != some t).getD true
theorem out_of {ops : Array Oper} {n t : Nat} (h : outB ops n t = true) : Outside ops n t := by
 intro i o ho hi he
 have h1 := List.all_eq_true.1 h i (List.mem_range.2 hi)
 rw [ho] at h1
 simp [he] at h1

def AllOk (P : Program) (Q : Exit → Act → World → Prop) (W : World) (a0 : Act) (G : Nat → World → Value → Prop) (ops : Array Oper) (n : Nat) : List Oper → Nat → Prop
 | [], _ => True
 | o :: r, i => OpOk P Q W a0 G ops n i o ∧ AllOk P Q W a0 G ops n r (i + 1)

section
variable {P : Program} {ops : Array Oper} {Q : Exit → Act → World → Prop} {W : World} {a0 : Act} {G : Nat → World → Value → Prop} {n i : Nat} {o : Oper}

theorem allOk_get : ∀ (l : List Oper) (k : Nat), AllOk P Q W a0 G ops n l k → ∀ j o, l[j]? = some o → OpOk P Q W a0 G ops n (k + j) o
 | [], _, _, j, o, h => by simp at h
 | x :: r, k, hall, 0, o, h => by
  have : x = o := by simpa using h
  subst this
  exact hall.1
 | x :: r, k, hall, j + 1, o, h => by
  have := allOk_get r (k + 1) hall.2 j o (by simpa using h)
  rw [show k + (j + 1) = k + 1 + j by omega]
  exact this
theorem ops_ok (h : AllOk P Q W a0 G ops n (ops.toList.take n) 0) : ∀ i o, i < n → ops[i]? = some o → OpOk P Q W a0 G ops n i o := by
 intro i o hi ho
 have := allOk_get _ 0 h i o (by rw [List.getElem?_take_of_lt hi]; simpa using ho)
 rwa [Nat.zero_add] at this

theorem wanted_none (hg : o.guard = none) (f : Nat → Option Bool) : Region.wanted o f = true := by simp [Region.wanted, hg]

theorem opk_pure (hg : o.guard = none) (hA : isAl o = false) (h : ∀ a w, Below W.heap.size W w → (∀ t, Outside ops n t → sl a t = sl a0 t) → Deps G ops o a w → ∃ v, (execOp a.eval o).run P w = .ok (.value v) w ∧ ∀ t, o.dst = some t → G i w v) : OpOk P Q W a0 G ops n i o := by
 intro a w hb hs hf hd
 rw [if_pos (wanted_none hg _)]
 obtain ⟨v, h1, h2⟩ := h a w hb hf hd
 unfold Oper.wp
 rw [h1, Oper.upon_value]
 exact ⟨v, rfl, Below.refl _ _, h2, fun h => by rw [hA] at h; cases h⟩
theorem opk_alloc (hg : o.guard = none) (h : ∀ a w, Below W.heap.size W w → (∀ t, Outside ops n t → sl a t = sl a0 t) → Deps G ops o a w → ∃ v w', (execOp a.eval o).run P w = .ok (.value v) w' ∧ Below w.heap.size w w' ∧ (∀ t, o.dst = some t → G i w' v) ∧ (isAl o = true → ∃ g, v = .pointer (some ⟨g, 0, none⟩) ∧ w.heap.size ≤ g ∧ g < w'.heap.size)) : OpOk P Q W a0 G ops n i o := by
 intro a w hb hs hf hd
 rw [if_pos (wanted_none hg _)]
 obtain ⟨v, w', h1, h2, h3, h4⟩ := h a w hb hf hd
 unfold Oper.wp
 rw [h1, Oper.upon_value]
 exact ⟨v, rfl, h2, h3, h4⟩
theorem opk_call (hg : o.guard = none) (hA : isAl o = false) (h : ∀ a w, Below W.heap.size W w → (∀ t, Outside ops n t → sl a t = sl a0 t) → Deps G ops o a w → ∃ f args, (execOp a.eval o).run P w = .ok (.enter f args) w ∧ Calls P f args w (RetS (fun w' v => ∀ t, o.dst = some t → G i w' v) w)) : OpOk P Q W a0 G ops n i o := by
 intro a w hb hs hf hd
 rw [if_pos (wanted_none hg _)]
 obtain ⟨f, args, h1, h2⟩ := h a w hb hf hd
 unfold Oper.wp
 rw [h1, Oper.upon_enter]
 refine h2.mono ?_
 rintro e w' ⟨v, rfl, h3, h4⟩
 exact ⟨v, rfl, h4, h3, fun h => by rw [hA] at h; cases h⟩

theorem wanted_guard {j : Nat} {want b : Bool} {oj : Oper} {t : Tmp} {a : Act} (hg : o.guard = some (j, want)) (hj : ops[j]? = some oj) (ht : oj.dst = some t) (hs : sl a t = .bool b) (hlt : t < a.tmps.size) : Region.wanted o (yielded ops a.tmps) = (b == want) := by
 have h1 : a.tmps[t]? = some (.bool b) := by
  rw [Array.getElem?_eq_getElem hlt]
  have : sl a t = a.tmps[t] := by simp [sl, Array.getD_eq_getD_getElem?, hlt]
  rw [← this, hs]
 unfold Region.wanted yielded
 rw [hg]
 simp only [hj, ht, Option.bind_some, h1]
 cases b <;> cases want <;> rfl
theorem opk_guard {j : Nat} {want : Bool} {oj : Oper} {t : Tmp} (b : Bool) (hg : o.guard = some (j, want)) (hA : isAl o = false) (hj : ops[j]? = some oj) (ht : oj.dst = some t) (hlt : t < a0.tmps.size)
  (hv : ∀ a w, Below W.heap.size W w → (∀ t, Outside ops n t → sl a t = sl a0 t) → Deps G ops o a w → sl a t = .bool b)
  (hno : b ≠ want → ∀ w, G i w undef)
  (h : b = want → OpOk P Q W a0 G ops n i { o with guard := none }) : OpOk P Q W a0 G ops n i o := by
 intro a w hb hs hf hd
 rw [wanted_guard hg hj ht (hv a w hb hf hd) (by rw [hs]; exact hlt)]
 by_cases hbw : b = want
 ·subst hbw
  rw [if_pos (by simp)]
  have h1 := h rfl a w hb hs hf hd
  rw [if_pos (wanted_none rfl _)] at h1
  exact h1
 ·rw [if_neg (by simpa using hbw)]
  exact ⟨hno hbw w, hA⟩
end

section
variable {P : Program} {w : World} {ρ : Operand → Value} {o : Oper}
theorem run_move {x : Operand} (ho : o.op = .move x) : (execOp ρ o).run P w = .ok (.value (ρ x)) w := by unfold execOp; rw [ho]; rfl
theorem run_assign {x : Operand} (ho : o.op = .assign x) : (execOp ρ o).run P w = .ok (.value (ρ x)) w := by unfold execOp; rw [ho]; rfl
theorem run_pick {c x y : Operand} {b : Bool} (ho : o.op = .pick c x y) (hc : ρ c = .bool b) : (execOp ρ o).run P w = .ok (.value (if b then ρ x else ρ y)) w := by
 unfold execOp; rw [ho]; simp only [hc]; cases b <;> rfl
theorem run_call {f : FuncId} {args : Array Operand} {ts : Array TypeId} (ho : o.op = .call { callee := .value (.func f), args := args, argTypes := ts }) (hf : ρ (.func f) = .func (.func f) #[] #[]) (hc : ∀ vs w, (callFunc f vs).run P w = .ok (.enter f vs) w) {vs : Array Value} (ha : args.map ρ = vs) : (execOp ρ o).run P w = .ok (.enter f vs) w := by
 subst ha
 unfold execOp; rw [ho]; simp [hf, go_sem, hc]
theorem run_load_row (ty : TypeId) (x : Operand) (ho : o.op = .load ty x) {g : Nat} (hx : ρ x = .pointer (some ⟨g, 0, none⟩)) {t : TypeId} {cs : Array Value} {fr : Nat × Nat} {d : TypeDesc} (hg : w.heap[g]? = some (.cells cs t fr))
  (hu : P.underlying ty = some d) (hd : (match d with | .struct _ | .array _ _ => true | _ => false) = true) (hi : (P.info? ty).map (·.size) = some cs.size) : (execOp ρ o).run P w = .ok (.value (.agg cs)) w := by
 unfold execOp
 simp only [ho, hx, Instr.loadAt, Instr.sureAddr, Sem.run_bind, Sem.run_pure, Result.andThen_ok, run_loadVar_row w g t ty cs fr d hg hu hd hi]
theorem run_load_mid (ty : TypeId) (x : Operand) (ho : o.op = .load ty x) {b off : Nat} (hx : ρ x = .pointer (some ⟨b, off, none⟩)) {cs : List Value} {d : TypeDesc} (hc : w.rangeAt b off cs)
  (hu : P.underlying ty = some d) (hd : d.isRow = true) (hi : (P.info? ty).map (·.size) = some cs.length) : (execOp ρ o).run P w = .ok (.value (.agg cs.toArray)) w := by
 unfold execOp
 simp only [ho, hx, Instr.loadAt, Instr.sureAddr, Sem.run_bind, Sem.run_pure, Result.andThen_ok, run_loadVar_mid w b off ty cs d hc hu hd hi]
theorem run_build_op (t : TypeId) (parts : Array (Nat × Operand)) (ho : o.op = .build t parts) {cells : Array Value} (hf : P.built t (parts.map fun (i, x) => (i, ρ x)).toList = some cells) : (execOp ρ o).run P w = .ok (.value (.agg cells)) w := by
 unfold execOp
 simp only [ho, Sem.run_bind, run_build w t _ cells hf, Result.andThen_ok]
 rfl
theorem run_extract_op {x : Operand} {k : Nat} (ho : o.op = .extract x k) {vs : Array Value} {v : Value} (hx : ρ x = .tuple vs) (hv : vs[k]? = some v) : (execOp ρ o).run P w = .ok (.value v) w := by
 unfold execOp
 simp only [ho, hx, Instr.extract, hv, Sem.run_bind, Sem.run_pure, Result.andThen_ok]
theorem run_buildSliceR {t e : TypeId} {len : Nat} {parts : Array (Nat × Operand)} (ho : o.op = .buildSlice t len parts) (hu : P.underlying t = some (.slice e)) {cells : Array Value}
  (hf : P.builtSlice e len (parts.map fun (i, x) => (i, ρ x)).toList = some cells) : (execOp ρ o).run P w = .ok (.value (.slice (some ⟨w.heap.size, 0, none⟩) len len)) (w.alloc (.cells cells e)) := by
 unfold Program.builtSlice at hf
 cases hie : P.info? e with
 | none => simp [hie] at hf
 | some ie =>
  simp only [hie] at hf
  cases hz : ie.zero with
  | none => simp [hz] at hf
  | some z =>
   simp only [hz] at hf
   by_cases hc : len * ie.size > 2 ^ 24 ∨ len * ie.size = 0
   ·simp [hc] at hf
   ·rw [if_neg hc] at hf
    unfold execOp
    simp only [ho, Sem.run_bind, run_buildSlice w t e len _ cells ie z hu hie hz (fun h => hc (Or.inl h)) (fun h => hc (Or.inr h)) hf, Result.andThen_ok]
    rfl
theorem run_fieldAddr {T : TypeId} {x : Operand} {k g off : Nat} (ho : o.op = .fieldAddr T x k) (hx : ρ x = .pointer (some ⟨g, off, none⟩)) {fs : Array Field} {f : Field} (hu : P.underlying T = some (.struct fs)) (hf : fs[k]? = some f) {sz : Nat} (hz : (P.info? f.type).map (·.size) = some (sz + 1)) : (execOp ρ o).run P w = .ok (.value (.pointer (some ⟨g, off + f.offset, none⟩))) w := by
 unfold execOp
 cases hq : P.info? f.type with
 | none => simp [hq] at hz
 | some i =>
  have hs : i.size ≠ 0 := by simp [hq] at hz; omega
  have ha : (⟨g, off, none⟩ : Addr).add f.offset = ⟨g, off + f.offset, none⟩ := Addr.add_mid _ _ _
  simp [ho, hx, Instr.fieldAt, Instr.sureAddr, fieldPlace, Sem.run_bind, run_underlying hu, hf, sizeOf, typeInfo, hq, hs, ha]
theorem run_alloc_op {T : TypeId} (ho : o.op = .alloc T) {z : Value} (hz : ∀ w, (zeroValue T).run P w = .ok z w) : (execOp ρ o).run P w = .ok (.value (.pointer (some ⟨w.heap.size, 0, none⟩))) (w.alloc (.cells z.cells T)) := by
 unfold execOp
 simp [ho, Instr.alloc, Sem.run_bind, hz, go_sem]
theorem run_box_op {T : TypeId} {x : Operand} (ho : o.op = .box T x) {v : Value} (hx : ρ x = v) : (execOp ρ o).run P w = .ok (.value (.pointer (some ⟨w.heap.size, 0, none⟩))) (w.alloc (.cells v.cells T)) := by
 unfold execOp
 simp [ho, hx, Instr.box, Sem.run_bind, go_sem]
end

theorem pick_and {b d : Bool} {x : Value} (h : b = true → x = .bool d) : (if b then x else .bool false) = .bool (b && d) := by
 cases b with
 | false => rfl
 | true => simpa using h rfl
theorem pick_or {b d : Bool} {x : Value} (h : b = false → x = .bool d) : (if b then .bool true else x) = .bool (b || d) := by
 cases b with
 | false => simpa using h rfl
 | true => rfl
section
variable {P : Program} {w : World} {ρ : Operand → Value} {o : Oper}
theorem run_eql_same {x y : Operand} {T T' : TypeId} {k : IntKind} {m : Int} (ho : o.op = .binOp .eql T x y T') (hx : ρ x = .int k m) (hy : ρ y = .int k m) : (execOp ρ o).run P w = .ok (.value (.bool true)) w := by
 unfold execOp; simp [ho, hx, hy, go_sem]
theorem run_not {x : Operand} {T : TypeId} {b : Bool} (ho : o.op = .unOp .not T x) (hx : ρ x = .bool b) : (execOp ρ o).run P w = .ok (.value (.bool (!b))) w := by
 unfold execOp; simp [ho, hx, go_sem]
theorem run_add {x y : Operand} {T T' : TypeId} {m n : Int} (ho : o.op = .binOp .add T x y T') (hx : ρ x = .int .i64 m) (hy : ρ y = .int .i64 n) (h1 : -9223372036854775808 ≤ m + n) (h2 : m + n ≤ 9223372036854775807) : (execOp ρ o).run P w = .ok (.value (.int .i64 (m + n))) w := by
 have e := IntWalk.i64_in (m + n) (by omega)
 unfold execOp; simp [ho, hx, hy, go_sem, e]
theorem run_lss {x y : Operand} {T T' : TypeId} {m n : Int} (ho : o.op = .binOp .lss T x y T') (hx : ρ x = .int .i64 m) (hy : ρ y = .int .i64 n) : (execOp ρ o).run P w = .ok (.value (.bool (decide (m < n)))) w := by
 unfold execOp; simp [ho, hx, hy, go_sem]
theorem run_gtr {x y : Operand} {T T' : TypeId} {m n : Int} (ho : o.op = .binOp .gtr T x y T') (hx : ρ x = .int .i64 m) (hy : ρ y = .int .i64 n) : (execOp ρ o).run P w = .ok (.value (.bool (decide (n < m)))) w := by
 unfold execOp; simp [ho, hx, hy, go_sem]
theorem run_eql {x y : Operand} {T T' : TypeId} {k : IntKind} {m n : Int} (ho : o.op = .binOp .eql T x y T') (hx : ρ x = .int k m) (hy : ρ y = .int k n) : (execOp ρ o).run P w = .ok (.value (.bool (decide (m = n)))) w := by
 unfold execOp; simp [ho, hx, hy, go_sem]; rfl
theorem run_neq {x y : Operand} {T T' : TypeId} {k : IntKind} {m n : Int} (ho : o.op = .binOp .neq T x y T') (hx : ρ x = .int k m) (hy : ρ y = .int k n) : (execOp ρ o).run P w = .ok (.value (.bool (decide (m ≠ n)))) w := by
 unfold execOp; simp [ho, hx, hy, go_sem]; rfl
end


section
variable {P : Program} {ops : Array Oper} {rest : List Oper} {o : Oper} {a : Act} {w : World} {Q : Exit → Act → World → Prop}
theorem tl_value (hg : o.guard = none) {v : Value} {w' : World} (hr : (execOp a.eval o).run P w = .ok (.value v) w') (h : wpList P ops Q rest (a.put o.dst v) w') : wpList P ops Q (o :: rest) a w := by
 refine wpList_plain hg fun K hK => ?_
 unfold Oper.wp
 rw [hr, Oper.upon_value]
 exact hK _ _ h
theorem in_normal {id : Nat} (h : Q .normal a w) : Exit.inBlock id Q .normal a w := h
theorem exit_then {next : Act → World → Prop} {id : Nat} (h : Q (.exit id) a w) : Exit.then next Q (.exit id) a w := h
theorem exit_in {id : Nat} (h : Q .normal a w) : Exit.inBlock id Q (.exit id) a w := by simp only [Exit.inBlock, if_true]; exact h
theorem exit_out {id id' : Nat} (hn : id' ≠ id) (h : Q (.exit id') a w) : Exit.inBlock id Q (.exit id') a w := by simp only [Exit.inBlock, if_neg hn]; exact h
theorem then_normal {next : Act → World → Prop} (h : next a w) : Exit.then next Q .normal a w := h
end
end Go.Proofs.YtcankknlbljicaaGreatDoor
