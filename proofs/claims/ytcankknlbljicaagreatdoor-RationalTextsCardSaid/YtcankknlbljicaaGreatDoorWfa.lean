/-  -/
import Derived.Test.YtcankknlbljicaaGreatDoorWeb
import Derived.Laws.AppendOwn
import Derived.Laws.OwnMore

set_option linter.unusedVariables false
set_option linter.unusedSimpArgs false
set_option linter.unusedSectionVars false
set_option maxRecDepth 100000
set_option maxHeartbeats 3200000

namespace Go.Proofs.YtcankknlbljicaaGreatDoor
open Go.RowKit Num

def zc : Nat → Nat
 | 0 => 1
 | n + 1 => n + 1
theorem zc_pos (es : Nat) : 0 < zc es := by cases es <;> simp [zc]
theorem PV.len {es : Nat} {c : List Value} {S : Value → Prop} (h : PV es c S) : c.length = zc es := by
 cases es with
 | zero => obtain ⟨x, rfl, _⟩ := h; rfl
 | succ n => exact h.1
theorem cell_same {w w' : World} {g : Nat} (h : w'.heap[g]? = w.heap[g]?) (i : Nat) : w'.cell? ⟨g, i, none⟩ = w.cell? ⟨g, i, none⟩ := by simp [World.cell?, h]
theorem range_same {w w' : World} {g o : Nat} {cs : List Value} (h : w'.heap[g]? = w.heap[g]?) (hr : w.rangeAt g o cs) : w'.rangeAt g o cs := fun j v hv => (cell_same h _).trans (hr j v hv)
def El (O : Bs) (w : World) (es g off : Nat) (m : MP) : Prop := ∃ cs, w.rangeAt g off cs ∧ PV es cs (m.S O w)
theorem El.imp {O O' : Bs} {w w' : World} {es g off : Nat} {m m' : MP} (hg : w'.heap[g]? = w.heap[g]?) (hi : ∀ v, m.S O w v → m'.S O' w' v) (h : El O w es g off m) : El O' w' es g off m' := by
 obtain ⟨cs, h1, h2⟩ := h
 exact ⟨cs, range_same hg h1, h2.imp hi⟩
def Els (O : Bs) (w : World) (es g off : Nat) (ms : List MP) : Prop := ∀ i m, ms[i]? = some m → El O w es g (off + zc es * i) m
theorem Els.imp {O O' : Bs} {w w' : World} {es g off : Nat} {ms : List MP} (hg : w'.heap[g]? = w.heap[g]?) (hi : ∀ m ∈ ms, ∀ v, m.S O w v → m.S O' w' v) (h : Els O w es g off ms) : Els O' w' es g off ms :=
 fun i m hm => (h i m hm).imp hg (hi m (List.mem_of_getElem? hm))
def isSl (O : Bs) (w : World) (es : Nat) (ms : List MP) (v : Value) : Prop :=
 ∃ ao c, v = .slice ao ms.length c ∧ ms.length ≤ c ∧ c ≤ maxLen ∧ (c = 0 ∨ ∃ g off, ao = some ⟨g, off, none⟩ ∧ ¬ O g ∧ g < w.heap.size ∧ Els O w es g off ms)
def mSl (es : Nat) (ms : List MP) : MP where
 S O w v := isSl O w es ms v
 fr := false
 mono O w w' v k h := by
  obtain ⟨ao, c, h1, h2, h3, h4⟩ := h
  refine ⟨ao, c, h1, h2, h3, h4.imp id ?_⟩
  rintro ⟨g, off, e, hO, hg, hE⟩
  refine ⟨g, off, e, hO, ?_, hE.imp (k.b g hg hO) fun m _ v => m.mono _ _ _ _ k⟩
  have := k.b g hg hO
  refine Nat.lt_of_not_le fun hle => ?_
  rw [Array.getElem?_eq_none hle, Array.getElem?_eq_getElem hg] at this
  cases this
 more O A w v hA h := by
  obtain ⟨ao, c, h1, h2, h3, h4⟩ := h
  refine ⟨ao, c, h1, h2, h3, h4.imp id ?_⟩
  rintro ⟨g, off, e, hO, hg, hE⟩
  exact ⟨g, off, e, fun ho => ho.elim hO fun ha => by have := hA g ha; omega, hg, hE.imp rfl fun m _ v => m.more _ _ _ _ hA⟩
 less O O' w v hi h := by
  obtain ⟨ao, c, h1, h2, h3, h4⟩ := h
  refine ⟨ao, c, h1, h2, h3, h4.imp id ?_⟩
  rintro ⟨g, off, e, hO, hg, hE⟩
  exact ⟨g, off, e, fun ho => hO (hi g ho), hg, hE.imp rfl fun m _ v => m.less _ _ _ _ hi⟩
 free h := by cases h
def isPt (O : Bs) (w : World) (es : Nat) (m : MP) (v : Value) : Prop := ∃ g off, v = .pointer (some ⟨g, off, none⟩) ∧ ¬ O g ∧ g < w.heap.size ∧ El O w es g off m
def mPt (es : Nat) (m : MP) : MP where
 S O w v := isPt O w es m v
 fr := false
 mono O w w' v k h := by
  obtain ⟨g, off, e, hO, hg, hE⟩ := h
  refine ⟨g, off, e, hO, ?_, hE.imp (k.b g hg hO) fun v => m.mono _ _ _ _ k⟩
  have := k.b g hg hO
  refine Nat.lt_of_not_le fun hle => ?_
  rw [Array.getElem?_eq_none hle, Array.getElem?_eq_getElem hg] at this
  cases this
 more O A w v hA h := by
  obtain ⟨g, off, e, hO, hg, hE⟩ := h
  exact ⟨g, off, e, fun ho => ho.elim hO fun ha => by have := hA g ha; omega, hg, hE.imp rfl fun v => m.more _ _ _ _ hA⟩
 less O O' w v hi h := by
  obtain ⟨g, off, e, hO, hg, hE⟩ := h
  exact ⟨g, off, e, fun ho => hO (hi g ho), hg, hE.imp rfl fun v => m.less _ _ _ _ hi⟩
 free h := by cases h
theorem isSl.imp {O : Bs} {w : World} {es : Nat} {ms ms' : List MP} {v : Value} (hl : ms'.length = ms.length) (hi : ∀ (i : Nat) (m m' : MP), ms[i]? = some m → ms'[i]? = some m' → ∀ v, m.S O w v → m'.S O w v) (h : isSl O w es ms v) : isSl O w es ms' v := by
 obtain ⟨ao, c, h1, h2, h3, h4⟩ := h
 refine ⟨ao, c, by rw [hl]; exact h1, by rw [hl]; exact h2, h3, h4.imp id ?_⟩
 rintro ⟨g, off, e, hO, hg, hE⟩
 refine ⟨g, off, e, hO, hg, fun i m' hm' => ?_⟩
 have hlt : i < ms.length := by rw [← hl]; exact (List.getElem?_eq_some_iff.1 hm').1
 exact (hE i _ (List.getElem?_eq_getElem hlt)).imp rfl (hi i _ m' (List.getElem?_eq_getElem hlt) hm')
theorem isSl.len {O : Bs} {w : World} {es : Nat} {ms : List MP} {v : Value} (h : isSl O w es ms v) : ms.length ≤ 9223372036854775807 := by
 obtain ⟨ao, c, h1, h2, h3, h4⟩ := h
 simp only [maxLen] at h3
 omega
theorem isSl.nil {O : Bs} {w : World} {es : Nat} : isSl O w es [] (.slice none 0 0) := ⟨none, 0, rfl, Nat.le_refl _, by simp [maxLen], Or.inl rfl⟩
section
variable {P : Program} {ρ : Operand → Value} {o : Oper} {w : World} {O : Bs}
theorem ix_addr {x y : Operand} {t e : TypeId} {es i n c g off : Nat} (hu : P.underlying t = some (.slice e)) (hz : (P.info? e).map (·.size) = some (zc es)) (hx : ρ x = .slice (some ⟨g, off, none⟩) n c) (hy : ρ y = .int .i64 (i : Int)) (hi : i < n) (ho : o.op = .indexAddr t x y := by rfl) : (execOp ρ o).run P w = .ok (.value (.pointer (some ⟨g, off + zc es * i, none⟩))) w := by
 cases hq : P.info? e with
 | none => simp [hq] at hz
 | some inf =>
  have hs : inf.size = zc es := by simpa [hq] using hz
  unfold execOp
  simp [ho, hx, hy, Instr.indexAt, asIntOf, run_underlying hu, sizeOf, typeInfo, hq, hs, Addr.add_mid, hi, Nat.mul_comm]
end

def ownR (O : Bs) (w : World) (T : TypeId) (es : Nat) (v : Value) (ms : List MP) : Prop :=
 (v = .slice none 0 0 ∧ ms = []) ∨ ∃ g c cur, v = .slice (some ⟨g, 0, none⟩) ms.length c ∧ ms.length ≤ c ∧ c ≤ maxLen ∧ w.heap[g]? = some (.cells cur T (0, 0)) ∧ cur.size = c * zc es ∧ noU cur ∧ cur.all (·.oneCell') = true ∧ Els O w es g 0 ms
theorem ownR.cg {O O' : Bs} {w w' : World} {T : TypeId} {es : Nat} {v : Value} {ms : List MP} (hg : ∀ g, v.ownBlock = some g → w'.heap[g]? = w.heap[g]?) (hi : ∀ m ∈ ms, ∀ v, m.S O w v → m.S O' w' v) (h : ownR O w T es v ms) : ownR O' w' T es v ms := by
 rcases h with h | ⟨g, c, cur, rfl, h2, h3, h4, h5, h6, h7, h8⟩
 ·exact Or.inl h
 ·have e := hg g rfl
  exact Or.inr ⟨g, c, cur, rfl, h2, h3, e.trans h4, h5, h6, h7, h8.imp e hi⟩
theorem ownR.lt {O : Bs} {w : World} {T : TypeId} {es : Nat} {v : Value} {ms : List MP} {g : Nat} (h : ownR O w T es v ms) (hg : v.ownBlock = some g) : g < w.heap.size := by
 rcases h with ⟨rfl, _⟩ | ⟨g', c, cur, rfl, h2, h3, h4, h5⟩
 ·cases hg
 ·cases hg; exact (Array.getElem?_eq_some_iff.1 h4).1
def RX.own (v : Value) (T : TypeId) (es : Nat) (ms : List MP) : RX :=
 ⟨v.ownBlock, fun O w => ownR O w T es v ms, fun _ _ _ h e => h.lt e, fun _ _ _ k hg h => h.cg hg fun m _ v => m.mono _ _ _ _ k, fun O A w hA h => h.cg (fun _ _ => rfl) fun m _ v => m.more O A w v hA, fun O O' w hO h => h.cg (fun _ _ => rfl) fun m _ v => m.less O O' w v hO⟩
theorem ownR.sl {O O' : Bs} {w : World} {T : TypeId} {es : Nat} {v : Value} {ms : List MP} (h : ownR O w T es v ms) (hO : ∀ g, v.ownBlock = some g → ¬ O' g) (hi : ∀ m ∈ ms, ∀ v, m.S O w v → m.S O' w v) : isSl O' w es ms v := by
 rcases h with ⟨rfl, rfl⟩ | ⟨g, c, cur, rfl, h2, h3, h4, h5, h6, h7, h8⟩
 ·exact isSl.nil
 ·exact ⟨_, c, rfl, h2, h3, Or.inr ⟨g, 0, rfl, hO g rfl, (Array.getElem?_eq_some_iff.1 h4).1, h8.imp rfl hi⟩⟩
section
variable {N : Nat} {O O0 : Bs} {W0 w : World} {a : Act} {L : List (Nat × MP)} {X : List RX}
end
theorem noU_mem {a : Array Value} : noU a ↔ ∀ v ∈ a, ∀ x, v ≠ Value.int .u32 x := by
 constructor
 ·intro h v hv x e
  obtain ⟨i, hi, rfl⟩ := Array.getElem_of_mem hv
  exact h i x (by rw [Array.getElem?_eq_getElem hi, e])
 ·intro h i x e
  exact h _ (Array.mem_of_getElem? e) x rfl
def ec (es : Nat) (x : Value) : Prop := match es with
 | 0 => x.oneCell' = true ∧ ∀ d, x ≠ Value.int .u32 d
 | n + 1 => cv (n + 1) x
theorem ec.pv {es : Nat} {S : Value → Prop} {cs : List Value} (h : PV es cs S) (he : ∀ x, S x → ec es x) : ∀ v ∈ cs, v.oneCell' = true ∧ ∀ d, v ≠ Value.int .u32 d := by
 cases es with
 | zero =>
  obtain ⟨x, rfl, hx⟩ := h
  intro v hv
  rw [List.mem_singleton] at hv
  subst hv
  exact he _ hx
 | succ n =>
  obtain ⟨_, hx⟩ := h
  obtain ⟨c, e, h1, h2, h3⟩ := he _ hx
  obtain rfl := Value.agg.inj e
  intro v hv
  exact ⟨Array.all_eq_true_iff_forall_mem.1 h3 v (by simpa using hv), noU_mem.1 h2 v (by simpa using hv)⟩
def putA : List Value → Nat → Array Value → Array Value
 | [], _, cs => cs
 | v :: r, o, cs => putA r (o + 1) (cs.setIfInBounds o v)
theorem El.cells {O : Bs} {w w' : World} {es g off : Nat} {m : MP} (hi : ∀ v, m.S O w v → m.S O w' v) (h : El O w es g off m) (hc : ∀ j, j < zc es → w'.cell? ⟨g, off + j, none⟩ = w.cell? ⟨g, off + j, none⟩) : El O w' es g off m := by
 obtain ⟨cs, h1, h2⟩ := h
 refine ⟨cs, fun j v hv => ?_, h2.imp hi⟩
 rw [hc j (by rw [← h2.len]; exact (List.getElem?_eq_some_iff.1 hv).1)]
 exact h1 j v hv
def elP (v : Value) (es i : Nat) : Value := match v with
 | .slice (some ⟨g, off, _⟩) _ _ => .pointer (some ⟨g, off + zc es * i, none⟩)
 | _ => .pointer none
section
variable {P : Program} {ops : Array Oper} {rest : List Oper} {o : Oper} {a : Act} {w W0 : World} {Q : Exit → Act → World → Prop} {N : Nat} {O O0 : Bs} {L : List (Nat × MP)} {X : List RX}
end
end Go.Proofs.YtcankknlbljicaaGreatDoor

namespace Go.Proofs.YtcankknlbljicaaGreatDoor
open Go.RowKit Num

def cellsAt (w : World) (g o n : Nat) : List Value := (List.range n).map fun j => (w.cell? ⟨g, o + j, none⟩).getD undef
theorem Els.cell {O : Bs} {w : World} {es g off : Nat} {ms : List MP} (h : Els O w es g off ms) (hec : ∀ m ∈ ms, ∀ x, m.S O w x → ec es x) {j : Nat} (hj : j < ms.length * zc es) : ∃ v, w.cell? ⟨g, off + j, none⟩ = some v ∧ v.oneCell' = true ∧ ∀ d, v ≠ Value.int .u32 d := by
 have hz := zc_pos es
 have hi : j / zc es < ms.length := by rw [Nat.div_lt_iff_lt_mul hz]; exact hj
 obtain ⟨cs, h1, h2⟩ := h _ _ (List.getElem?_eq_getElem hi)
 have hm : j % zc es < cs.length := by rw [h2.len]; exact Nat.mod_lt _ hz
 have h3 := h1 _ _ (List.getElem?_eq_getElem hm)
 rw [Nat.add_assoc, Nat.div_add_mod] at h3
 exact ⟨_, h3, ec.pv h2 (hec _ (List.getElem_mem hi)) _ (List.getElem_mem hm)⟩
section
variable {P : Program} {ops : Array Oper} {rest : List Oper} {o : Oper} {a : Act} {w W0 : World} {Q : Exit → Act → World → Prop} {N : Nat} {O O0 : Bs} {L : List (Nat × MP)} {X : List RX}
end
end Go.Proofs.YtcankknlbljicaaGreatDoor

namespace Go.Proofs.YtcankknlbljicaaGreatDoor
open Go.RowKit Num

section
variable {P : Program} {ops : Array Oper} {a0 : Act} {W W0 : World} {Q : Exit → Act → World → Prop} {N n : Nat} {O O0 : Bs} {L L' : List (Nat × MP)} {X : List RX} {G : List GE} {i : Nat} {o : Oper} {m : MP}
theorem opN (S : Sr N O W0 a0 W L X) (h : ∀ {a w}, Cx L X O W a0 G ops n o a w → ∃ v w', (execOp a.eval o).run P w = .ok (.value v) w' ∧ Below w.heap.size w w' ∧ m.S O w' v) (hg : o.guard = none := by rfl) (hA : isAl o = false := by rfl) (hm : G[i]? = some (.m m) := by rfl) : OpOk P Q W a0 (mM O W.heap.size G) ops n i o :=
 opk_alloc hg fun a w hb hf hd => by
  obtain ⟨v, w', h1, h2, h3⟩ := h (S.cx hb hf hd)
  exact ⟨v, w', h1, h2, fun _ _ => (mM_at hm).2 h3, fun h => by rw [hA] at h; cases h⟩
end
section
variable {P : Program} {ops : Array Oper} {rest : List Oper} {o : Oper} {a : Act} {w W0 : World} {Q : Exit → Act → World → Prop} {N : Nat} {O O0 : Bs} {L : List (Nat × MP)} {X : List RX}
def RetF (T : TypeId) (es : Nat) (ms : List MP) (O : Bs) (w : World) (e : Ending) (w' : World) : Prop := ∃ v, e = .returned v ∧ ownR (fun x => O x ∨ v.ownBlock = some x) w' T es v ms ∧ (∀ g, v.ownBlock = some g → w.heap.size ≤ g) ∧ Below w.heap.size w w'
theorem RetF.l {T : TypeId} {es : Nat} {ms : List MP} {O : Bs} {w : World} {e : Ending} {w' : World} (h : RetF T es ms O w e w') (ho : OB O w) : RetM (mSl es ms) O w e w' := by
 obtain ⟨v, h1, h2, h3, h4⟩ := h
 exact ⟨v, h1, h2.sl (fun g hg hO => by have := h3 g hg; have := ho g hO; omega) (fun m _ v hv => m.less _ _ _ _ (fun g hg => Or.inl hg) hv), h4⟩
theorem RetF.imp {T : TypeId} {es : Nat} {ms ms' : List MP} {O : Bs} {w : World} {e : Ending} {w' : World} (hl : ms'.length = ms.length) (hi : ∀ (i : Nat) (m m' : MP), ms[i]? = some m → ms'[i]? = some m' → ∀ O w v, m.S O w v → m'.S O w v) (h : RetF T es ms O w e w') : RetF T es ms' O w e w' := by
 obtain ⟨v, h1, h2, h3, h4⟩ := h
 refine ⟨v, h1, ?_, h3, h4⟩
 rcases h2 with ⟨e1, e2⟩ | ⟨g, c, cur, e1, k2, k3, k4, k5, k6, k7, k8⟩
 ·left; subst e2; exact ⟨e1, List.eq_nil_of_length_eq_zero hl⟩
 ·right
  refine ⟨g, c, cur, by rw [hl]; exact e1, by rw [hl]; exact k2, k3, k4, k5, k6, k7, fun i m' hm' => ?_⟩
  have hlt : i < ms.length := by rw [← hl]; exact (List.getElem?_eq_some_iff.1 hm').1
  exact (k8 i _ (List.getElem?_eq_getElem hlt)).imp rfl fun v hv => hi i _ m' (List.getElem?_eq_getElem hlt) hm' _ _ v hv
theorem ownR.conv {T : TypeId} {es : Nat} {v : Value} {ms ms' : List MP} (h : ownR O w T es v ms) (hl : ms'.length = ms.length) (hi : ∀ (i : Nat) (m m' : MP), ms[i]? = some m → ms'[i]? = some m' → ∀ v, m.S O w v → m'.S O w v) : ownR O w T es v ms' := by
 rcases h with ⟨e1, e2⟩ | ⟨g, c, cur, e1, k2, k3, k4, k5, k6, k7, k8⟩
 ·left; subst e2; exact ⟨e1, List.eq_nil_of_length_eq_zero hl⟩
 ·right
  refine ⟨g, c, cur, by rw [hl]; exact e1, by rw [hl]; exact k2, k3, k4, k5, k6, k7, fun i m' hm' => ?_⟩
  have hlt : i < ms.length := by rw [← hl]; exact (List.getElem?_eq_some_iff.1 hm').1
  exact (k8 i _ (List.getElem?_eq_getElem hlt)).imp rfl (hi i _ m' (List.getElem?_eq_getElem hlt) hm')
end

def rowI (n i : Nat) (A B : Nat → MP) : List MP := (List.range n).map fun j => if j < i then A j else B j

def lR (qs : List Rat) (k : Nat) : List MP := qs.map fun q => mR q k
def lC (qs : List Rat) (k : Nat) : List MP := qs.map fun q => mC q k
end Go.Proofs.YtcankknlbljicaaGreatDoor
