/-  -/
import Derived.Test.YtbjijmjhlpkomaaGreatDoorZca
import Derived.Test.YtbjijmjhlpkomaaGreatDoorZRp5
import Derived.Test.YtbjijmjhlpkomaaGreatDoorZ3
import Derived.Test.YtbjijmjhlpkomaaGreatDoorZbg
import Derived.Test.YtbjijmjhlpkomaaGreatDoorZu

set_option linter.unusedVariables false
set_option linter.unusedSimpArgs false
set_option linter.unusedSectionVars false
set_option maxRecDepth 100000
set_option maxHeartbeats 3200000

namespace Go.Proofs.YtbjijmjhlpkomaaGreatDoor
open Go.RowKit Num

def Ext (w w' : World) : Prop := ∀ a x, w.cell? a = some (.int .u32 x) → w'.cell? a = some (.int .u32 x)
theorem Ext.trans {a b c : World} (h : Ext a b) (k : Ext b c) : Ext a c := fun p x hx => k p x (h p x hx)
theorem Ext.of {w w' : World} (h : Below w.heap.size w w') : Ext w w' := fun _ _ hx => (h.cell (lt_of_cell hx)).trans hx
def noU (cs : Array Value) : Prop := ∀ (i : Nat) (x : Int), cs[i]? ≠ some (Value.int .u32 x)
theorem Ext.setRow {w : World} {g : Nat} {cs : Array Value} {t : TypeId} {fr : Nat × Nat} (hg : w.heap[g]? = some (.cells cs t fr)) (hn : noU cs) (new : Array Value) : Ext w (w.setRow g new) := by
 intro a x hx
 by_cases hb : a.block = g
 · exfalso
   have hlt : a.block < w.heap.size := lt_of_cell hx
   obtain ⟨b, off, sp⟩ := a
   simp only at hb
   subst hb
   cases sp with
   | none => rw [cell_of_row w b off cs t fr hg] at hx; exact hn off x hx
   | some s => simp [World.cell?, hg] at hx
 · rw [cell_setRow_other w g new a hb]; exact hx
theorem Rd.ext {w w' : World} {ao : Option Addr} {c : Nat} {xs : List Nat} (h : Rd w ao c xs) (he : Ext w w') : Rd w' ao c xs := by
 refine ⟨h.le, h.cm, h.nn, h.dg, ?_⟩
 rcases h.lies with h1 | ⟨b, off, h1, h2⟩
 · exact Or.inl h1
 · exact Or.inr ⟨b, off, h1, fun i hi => he _ _ (h2 i hi)⟩

structure MP where
 S : World → Value → Prop
 mono : ∀ w w' v, Ext w w' → S w v → S w' v
def mTop : MP := ⟨fun _ _ => True, fun _ _ _ _ h => h⟩
def mV (x : Value) : MP := ⟨fun _ v => v = x, fun _ _ _ _ h => h⟩
def mIf (b : Bool) (m : MP) : MP := ⟨fun w v => b = true → m.S w v, fun w w' v he h hb => m.mono w w' v he (h hb)⟩
structure BP where
 S : World → Value → Prop
 mono : ∀ w w' v, Below w.heap.size w w' → S w v → S w' v
def MP.b (m : MP) : BP := ⟨m.S, fun w w' v hb h => m.mono w w' v (Ext.of hb) h⟩
def mG (l : List BP) : Nat → World → Value → Prop := fun i w v => match l[i]? with | some m => m.S w v | none => True
theorem mG_mono (l : List BP) : ∀ i w w' v, Below w.heap.size w w' → mG l i w v → mG l i w' v := by
 intro i w w' v hb h
 unfold mG at h ⊢
 cases hl : l[i]? with
 | none => trivial
 | some m => rw [hl] at h; exact m.mono w w' v hb h

def isR (q : Rat) (k : Nat) (w : World) (v : Value) : Prop := ∃ b ao c xs ad d ds, v = .agg #[.bool b, .slice ao xs.length c, .slice ad ds.length d] ∧ Rq w b ao c xs ad d ds q k
def isC (q : Rat) (k : Nat) (w : World) (v : Value) : Prop := ∃ ao c ad d, v = .agg #[.bool (decide (q.num < 0)), .slice ao (nd q.num.natAbs).length c, .slice ad (nd q.den).length d] ∧ Rd w ao c (nd q.num.natAbs) ∧ Rd w ad d (nd q.den) ∧ Sz q k
def isE (q : Rat) (er : Int) (k : Nat) (w : World) (v : Value) : Prop := ∃ ao c ad d, v = .agg #[.bool (rsg q er), .slice ao (rnm q er).length c, .slice ad (rdn q er).length d] ∧ Rd w ao c (rnm q er) ∧ Rd w ad d (rdn q er) ∧ (er = 0 → Sz q k)
theorem isR.ext {q : Rat} {k : Nat} {w w' : World} {v : Value} (he : Ext w w') (h : isR q k w v) : isR q k w' v := by
 obtain ⟨b, ao, c, xs, ad, d, ds, rfl, h1⟩ := h
 exact ⟨b, ao, c, xs, ad, d, ds, rfl, h1.rn.ext he, h1.rd.ext he, h1.vq, h1.ln, h1.ld⟩
theorem isC.ext {q : Rat} {k : Nat} {w w' : World} {v : Value} (he : Ext w w') (h : isC q k w v) : isC q k w' v := by
 obtain ⟨ao, c, ad, d, rfl, h1, h2, h3⟩ := h
 exact ⟨ao, c, ad, d, rfl, h1.ext he, h2.ext he, h3⟩
theorem isE.ext {q : Rat} {er : Int} {k : Nat} {w w' : World} {v : Value} (he : Ext w w') (h : isE q er k w v) : isE q er k w' v := by
 obtain ⟨ao, c, ad, d, rfl, h1, h2, h3⟩ := h
 exact ⟨ao, c, ad, d, rfl, h1.ext he, h2.ext he, h3⟩
theorem isC.r {q : Rat} {k : Nat} {w : World} {v : Value} (h : isC q k w v) : isR q k w v := by
 obtain ⟨ao, c, ad, d, rfl, h1, h2, h3⟩ := h
 exact ⟨_, ao, c, _, ad, d, _, rfl, h1, h2, by rw [val_nd, val_nd]; unfold rv; rw [iv_self]; exact Rat.mkRat_self q, h3.1, h3.2⟩
theorem isC.mono {q : Rat} {k m : Nat} {w : World} {v : Value} (h : isC q k w v) (hk : k ≤ m) : isC q m w v := by
 obtain ⟨ao, c, ad, d, rfl, h1, h2, h3⟩ := h
 exact ⟨ao, c, ad, d, rfl, h1, h2, h3.mono hk⟩
theorem isC.of {q p : Rat} {k : Nat} {w : World} {v : Value} (h : isC q k w v) (hq : q = p) : isC p k w v := hq ▸ h
theorem isR.mono {q : Rat} {k m : Nat} {w : World} {v : Value} (h : isR q k w v) (hk : k ≤ m) : isR q m w v := by
 obtain ⟨b, ao, c, xs, ad, d, ds, rfl, h1⟩ := h
 exact ⟨b, ao, c, xs, ad, d, ds, rfl, h1.mono hk⟩
theorem isE.ok {q : Rat} {k : Nat} {w : World} {v : Value} (h : isE q 0 k w v) : isC q k w v := by
 obtain ⟨ao, c, ad, d, rfl, h1, h2, h3⟩ := h
 exact ⟨ao, c, ad, d, rfl, h1, h2, h3 rfl⟩
def mR (q : Rat) (k : Nat) : MP := ⟨isR q k, fun _ _ _ he h => h.ext he⟩
def mC (q : Rat) (k : Nat) : MP := ⟨isC q k, fun _ _ _ he h => h.ext he⟩
def mE (q : Rat) (er : Int) (k : Nat) : MP := ⟨isE q er k, fun _ _ _ he h => h.ext he⟩
def mP (m1 m2 : MP) : MP := ⟨fun w v => ∃ x0 x1 x2 y0 y1 y2, v = .agg #[x0, x1, x2, y0, y1, y2] ∧ m1.S w (.agg #[x0, x1, x2]) ∧ m2.S w (.agg #[y0, y1, y2]),
 fun w w' v he ⟨x0, x1, x2, y0, y1, y2, h, h1, h2⟩ => ⟨x0, x1, x2, y0, y1, y2, h, m1.mono w w' _ he h1, m2.mono w w' _ he h2⟩⟩
def mT (m1 m2 : MP) : MP := ⟨fun w v => ∃ x y, v = .tuple #[x, y] ∧ m1.S w x ∧ m2.S w y,
 fun w w' v he ⟨x, y, h, h1, h2⟩ => ⟨x, y, h, m1.mono w w' _ he h1, m2.mono w w' _ he h2⟩⟩
def mAnd (m1 m2 : MP) : MP := ⟨fun w v => m1.S w v ∧ m2.S w v, fun w w' v he h => ⟨m1.mono w w' v he h.1, m2.mono w w' v he h.2⟩⟩

def bx (T : TypeId) (n : Nat) (m : MP) (w : World) (g : Nat) : Prop := ∃ cs, w.heap[g]? = some (.cells cs T (0, 0)) ∧ cs.size = n ∧ noU cs ∧ cs.all (·.oneCell') = true ∧ m.S w (.agg cs)
theorem bx.lt {T : TypeId} {n : Nat} {m : MP} {w : World} {g : Nat} (h : bx T n m w g) : g < w.heap.size := by
 obtain ⟨cs, h1, _⟩ := h; exact (Array.getElem?_eq_some_iff.1 h1).1
theorem bx.below {T : TypeId} {n : Nat} {m : MP} {w w' : World} {g : Nat} (hb : Below w.heap.size w w') (h : bx T n m w g) : bx T n m w' g := by
 have hl := h.lt
 obtain ⟨cs, h1, h2, h3, h4, h5⟩ := h
 exact ⟨cs, (hb.block g hl).trans h1, h2, h3, h4, m.mono w w' _ (Ext.of hb) h5⟩
theorem bx.other {T T' : TypeId} {n n' : Nat} {m m' : MP} {w : World} {g g' : Nat} {new : Array Value} (hn : bx T' n' m' w g') (hne : g ≠ g') (h : bx T n m w g) : bx T n m (w.setRow g' new) g := by
 obtain ⟨cs, h1, h2, h3, h4, h5⟩ := h
 obtain ⟨cs', k1, _, k3, _, _⟩ := hn
 exact ⟨cs, (setRow_other w g' g new hne).trans h1, h2, h3, h4, m.mono _ _ _ (Ext.setRow k1 k3 new) h5⟩
theorem bx.ext {T : TypeId} {n : Nat} {m : MP} {w : World} {g : Nat} (new : Array Value) (h : bx T n m w g) : Ext w (w.setRow g new) := by
 obtain ⟨cs, h1, _, h3, _⟩ := h; exact Ext.setRow h1 h3 new
def isZ (v : Value) : Prop := v = .agg #[.bool false, .slice none 0 0, .slice none 0 0]
def mZ : MP := ⟨fun _ v => isZ v, fun _ _ _ _ h => h⟩
def cv (n : Nat) (v : Value) : Prop := ∃ cs, v = .agg cs ∧ cs.size = n ∧ noU cs ∧ cs.all (·.oneCell') = true
theorem noU3 {b : Bool} {a d : Option Addr} {n c m e : Nat} : noU #[.bool b, .slice a n c, .slice d m e] := by
 intro i x
 match i with
 | 0 => simp
 | 1 => simp
 | 2 => simp
 | i + 3 => simp
theorem isR.cv {q : Rat} {k : Nat} {w : World} {v : Value} (h : isR q k w v) : cv 3 v := by
 obtain ⟨b, ao, c, xs, ad, d, ds, rfl, h1⟩ := h
 exact ⟨_, rfl, rfl, noU3, by simp [Value.oneCell']⟩
theorem isE.cv {q : Rat} {er : Int} {k : Nat} {w : World} {v : Value} (h : isE q er k w v) : cv 3 v := by
 obtain ⟨ao, c, ad, d, rfl, h1, h2, h3⟩ := h
 exact ⟨_, rfl, rfl, noU3, by simp [Value.oneCell']⟩
theorem isZ.cv {v : Value} (h : isZ v) : cv 3 v := ⟨_, h, rfl, noU3, by simp [Value.oneCell']⟩
theorem isC.cv {q : Rat} {k : Nat} {w : World} {v : Value} (h : isC q k w v) : cv 3 v := h.r.cv
theorem noU6 {x0 x1 x2 y0 y1 y2 : Value} (h1 : noU #[x0, x1, x2]) (h2 : noU #[y0, y1, y2]) : noU #[x0, x1, x2, y0, y1, y2] := by
 intro i x
 match i with
 | 0 => exact h1 0 x
 | 1 => exact h1 1 x
 | 2 => exact h1 2 x
 | 3 => exact h2 0 x
 | 4 => exact h2 1 x
 | 5 => exact h2 2 x
 | i + 6 => simp
theorem mP.cv {m1 m2 : MP} {w : World} {v : Value} (h1 : ∀ v, m1.S w v → cv 3 v) (h2 : ∀ v, m2.S w v → cv 3 v) (h : (mP m1 m2).S w v) : cv 6 v := by
 obtain ⟨x0, x1, x2, y0, y1, y2, rfl, k1, k2⟩ := h
 obtain ⟨_, e1, _, n1, o1⟩ := h1 _ k1
 obtain ⟨_, e2, _, n2, o2⟩ := h2 _ k2
 obtain rfl := Value.agg.inj e1
 obtain rfl := Value.agg.inj e2
 refine ⟨_, rfl, rfl, noU6 n1 n2, ?_⟩
 simp at o1 o2 ⊢
 exact ⟨o1.1, o1.2.1, o1.2.2, o2.1, o2.2.1, o2.2.2⟩
theorem bx.lo {T : TypeId} {m1 m2 : MP} {w : World} {g : Nat} (h : bx T 6 (mP m1 m2) w g) : ∃ x0 x1 x2, w.rangeAt g 0 [x0, x1, x2] ∧ m1.S w (.agg #[x0, x1, x2]) := by
 obtain ⟨cs, h1, h2, h3, h4, x0, x1, x2, y0, y1, y2, he, k1, k2⟩ := h
 obtain rfl := Value.agg.inj he
 refine ⟨x0, x1, x2, fun j v hv => ?_, k1⟩
 rw [cell_of_row w g _ _ T (0, 0) h1]
 match j with
 | 0 => simpa using hv
 | 1 => simpa using hv
 | 2 => simpa using hv
 | j + 3 => simp at hv
theorem bx.hi {T : TypeId} {m1 m2 : MP} {w : World} {g : Nat} (h : bx T 6 (mP m1 m2) w g) : ∃ y0 y1 y2, w.rangeAt g 3 [y0, y1, y2] ∧ m2.S w (.agg #[y0, y1, y2]) := by
 obtain ⟨cs, h1, h2, h3, h4, x0, x1, x2, y0, y1, y2, he, k1, k2⟩ := h
 obtain rfl := Value.agg.inj he
 refine ⟨y0, y1, y2, fun j v hv => ?_, k2⟩
 rw [cell_of_row w g _ _ T (0, 0) h1]
 match j with
 | 0 => simpa using hv
 | 1 => simpa using hv
 | 2 => simpa using hv
 | j + 3 => simp at hv

def mNew (B : Nat) (T : TypeId) (n : Nat) : BP := ⟨fun w v => ∃ g, v = .pointer (some ⟨g, 0, none⟩) ∧ B ≤ g ∧ bx T n mTop w g, fun _ _ _ hb ⟨g, h1, h2, h3⟩ => ⟨g, h1, h2, h3.below hb⟩⟩

def mNewS (B : Nat) (T : TypeId) (n len : Nat) (m : MP) : BP := ⟨fun w v => ∃ g, v = .slice (some ⟨g, 0, none⟩) len len ∧ B ≤ g ∧ bx T n m w g, fun _ _ _ hb ⟨g, h1, h2, h3⟩ => ⟨g, h1, h2, h3.below hb⟩⟩
def mRow3 (m0 m1 m2 : MP) : MP := ⟨fun w v => ∃ x0 x1 x2 y0 y1 y2 z0 z1 z2, v = .agg #[x0, x1, x2, y0, y1, y2, z0, z1, z2] ∧ m0.S w (.agg #[x0, x1, x2]) ∧ m1.S w (.agg #[y0, y1, y2]) ∧ m2.S w (.agg #[z0, z1, z2]),
 fun w w' v he ⟨x0, x1, x2, y0, y1, y2, z0, z1, z2, h, h0, h1, h2⟩ => ⟨x0, x1, x2, y0, y1, y2, z0, z1, z2, h, m0.mono _ _ _ he h0, m1.mono _ _ _ he h1, m2.mono _ _ _ he h2⟩⟩

section
variable {P : Program} {ops : Array Oper} {rest : List Oper} {o : Oper} {a : Act} {w : World} {Q : Exit → Act → World → Prop}
theorem tl_set (hg : o.guard = none) {d : Tmp} {v : Value} (hd : o.dst = some d) (hr : (execOp a.eval o).run P w = .ok (.value v) w) (hlt : d < a.tmps.size)
   (h : ∀ a', a'.tmps.size = a.tmps.size → a'.defers = a.defers → sl a' d = v → (∀ t, t ≠ d → sl a' t = sl a t) → wpList P ops Q rest a' w) : wpList P ops Q (o :: rest) a w := by
 refine tl_value hg hr ?_
 rw [hd]
 exact h _ (put_size _ _ _) (put_defers _ _ _) (sl_put _ hlt) fun t ht => sl_other _ fun e => ht e.symm
theorem tl_new (hg : o.guard = none) {d : Tmp} (hd : o.dst = some d) {cs : Array Value} {T : TypeId} (hr : (execOp a.eval o).run P w = .ok (.value (.pointer (some ⟨w.heap.size, 0, none⟩))) (w.alloc (.cells cs T))) (hlt : d < a.tmps.size)
   (h : ∀ a' w' g, a'.tmps.size = a.tmps.size → a'.defers = a.defers → sl a' d = .pointer (some ⟨g, 0, none⟩) → (∀ t, t ≠ d → sl a' t = sl a t) → g = w.heap.size → w'.heap[g]? = some (.cells cs T (0, 0)) → Below w.heap.size w w' → wpList P ops Q rest a' w') : wpList P ops Q (o :: rest) a w := by
 refine tl_value hg hr ?_
 rw [hd]
 exact h _ _ _ (put_size _ _ _) (put_defers _ _ _) (sl_put _ hlt) (fun t ht => sl_other _ fun e => ht e.symm) rfl (heap_alloc_at _ _) (below_alloc _ _)
theorem tl_newS (hg : o.guard = none) {d : Tmp} (hd : o.dst = some d) {cs : Array Value} {T : TypeId} {n : Nat} (hr : (execOp a.eval o).run P w = .ok (.value (.slice (some ⟨w.heap.size, 0, none⟩) n n)) (w.alloc (.cells cs T))) (hlt : d < a.tmps.size)
   (h : ∀ a' w' g, a'.tmps.size = a.tmps.size → a'.defers = a.defers → sl a' d = .slice (some ⟨g, 0, none⟩) n n → (∀ t, t ≠ d → sl a' t = sl a t) → g = w.heap.size → w'.heap[g]? = some (.cells cs T (0, 0)) → Below w.heap.size w w' → wpList P ops Q rest a' w') : wpList P ops Q (o :: rest) a w := by
 refine tl_value hg hr ?_
 rw [hd]
 exact h _ _ _ (put_size _ _ _) (put_defers _ _ _) (sl_put _ hlt) (fun t ht => sl_other _ fun e => ht e.symm) rfl (heap_alloc_at _ _) (below_alloc _ _)
theorem below_row {w0 : World} (h : Below w0.heap.size w0 w) {g : Nat} (hg : w0.heap.size ≤ g) (cs : Array Value) : Below w0.heap.size w0 (w.setRow g cs) := by
 refine ⟨h.os, h.tape, h.output, by rw [setRow_size]; exact h.size, fun k hk => ?_⟩
 rw [setRow_other w g k cs (by omega)]
 exact h.block k hk
theorem tl_put (hg : o.guard = none) (hd : o.dst = none) {T T0 : TypeId} {x y : Operand} (ho : o.op = .store T x y) {g n : Nat} {m m' : MP} (hb : bx T0 n m w g) (hx : a.eval x = .pointer (some ⟨g, 0, none⟩)) (hS : m'.S w (a.eval y)) (hv : cv n (a.eval y)) (hi : (P.info? T).map (·.size) = some n)
   (h : ∀ w', bx T0 n m' w' g → Ext w w' → (∀ {T n m g'}, g' ≠ g → bx T n m w g' → bx T n m w' g') → (∀ w0 : World, w0.heap.size ≤ g → Below w0.heap.size w0 w → Below w0.heap.size w0 w') → wpList P ops Q rest a w') : wpList P ops Q (o :: rest) a w := by
 have he := fun new => bx.ext new hb
 have hb' := hb
 obtain ⟨old, h1, h2, h3, h4, h5⟩ := hb
 obtain ⟨cs, hy, k2, k3, k4⟩ := hv
 refine wpList_store_row hg T x y ho g cs hx hy T0 old h1 (by rw [k2]; exact hi) (by omega) k4 ?_
 rw [hd]
 rw [hy] at hS
 exact h _ ⟨cs, setRow_heap w g old cs T0 (0, 0) h1, k2, k3, k4, m'.mono _ _ _ (he cs) hS⟩ (he cs) (fun hne hb2 => bx.other hb' hne hb2) (fun w0 hw0 hbl => below_row hbl hw0 cs)
end

theorem calls_abs {P : Program} {f : FuncId} {fn : Func} {c : Code} {args : Array Value} {w : World} {R : Ending → World → Prop} (N : Nat) (hf : P.funcs[f]? = some fn) (hb : fn.body = some c) (hn : fn.ntmps = N) (hN : args.size ≤ N)
   (h : ∀ a, a.tmps.size = N → a.defers = [] → (∀ i, i < args.size → sl a i = args.getD i undef) → c.wp P (bodyPost P fn R) a w) : Calls P f args w R := by
 refine calls_of_wp hf hb (h _ ?_ rfl ?_)
 · simp; omega
 · intro i hi
   simp [sl, Array.getD_eq_getD_getElem?, Array.getElem?_append, hi]
theorem end_tmp {P : Program} {fn : Func} {p : Tmp} {S : World → Value → Prop} {w0 w : World} {a : Act} (hf : fn.results = #[.tmp p]) (hd : a.defers = []) (hB : Below w0.heap.size w0 w) (hS : S w (sl a p)) : bodyPost P fn (RetS S w0) .ret a w :=
 ⟨hd, _, results_tmp hf a.tmps P w, _, rfl, hS, hB⟩
theorem RetS.imp {S S' : World → Value → Prop} {w : World} {e : Ending} {w' : World} (hi : ∀ w v, S w v → S' w v) (h : RetS S w e w') : RetS S' w e w' := by
 obtain ⟨v, h1, h2, h3⟩ := h
 exact ⟨v, h1, hi _ _ h2, h3⟩
end Go.Proofs.YtbjijmjhlpkomaaGreatDoor

namespace Go.Proofs.YtbjijmjhlpkomaaGreatDoor
open Go.RowKit Num

def isK (q : Rat) (k : Nat) (cn : Bool) (w : World) (v : Value) : Prop := ∃ b ao c xs ad d ds, v = .agg #[.bool b, .slice ao xs.length c, .slice ad ds.length d] ∧ Rq w b ao c xs ad d ds q k ∧ (cn = true ↔ canon b xs ds)
theorem isK.ext {q : Rat} {k : Nat} {cn : Bool} {w w' : World} {v : Value} (he : Ext w w') (h : isK q k cn w v) : isK q k cn w' v := by
 obtain ⟨b, ao, c, xs, ad, d, ds, rfl, h1, h2⟩ := h
 exact ⟨b, ao, c, xs, ad, d, ds, rfl, ⟨h1.rn.ext he, h1.rd.ext he, h1.vq, h1.ln, h1.ld⟩, h2⟩
def mK (q : Rat) (k : Nat) (cn : Bool) : MP := ⟨isK q k cn, fun _ _ _ he h => h.ext he⟩
theorem isK.r {q : Rat} {k : Nat} {cn : Bool} {w : World} {v : Value} (h : isK q k cn w v) : isR q k w v := by
 obtain ⟨b, ao, c, xs, ad, d, ds, rfl, h1, h2⟩ := h
 exact ⟨b, ao, c, xs, ad, d, ds, rfl, h1⟩
theorem isR.k {q : Rat} {k : Nat} {w : World} {v : Value} (h : isR q k w v) : ∃ cn, isK q k cn w v := by
 obtain ⟨b, ao, c, xs, ad, d, ds, rfl, h1⟩ := h
 exact ⟨@decide (canon b xs ds) (Classical.propDecidable _), b, ao, c, xs, ad, d, ds, rfl, h1, by simp⟩
theorem isC.k {q : Rat} {k : Nat} {w : World} {v : Value} (h : isC q k w v) : isK q k true w v := by
 obtain ⟨b, ao, c, xs, ad, d, ds, he, h1⟩ := h.r
 obtain ⟨ao', c', ad', d', he', h2, h3, h4⟩ := h
 subst he
 have e1 := Value.agg.inj he'
 simp only [Array.mk.injEq, List.cons.injEq, Value.bool.injEq, Value.slice.injEq, and_true] at e1
 obtain ⟨rfl, ⟨rfl, e2, rfl⟩, ⟨rfl, e3, rfl⟩⟩ := e1
 refine ⟨_, ao, c, nd q.num.natAbs, ad, d, nd q.den, by rw [e2, e3], ⟨h2, h3, by rw [val_nd, val_nd]; unfold rv; rw [iv_self]; exact Rat.mkRat_self q, h4.1, h4.2⟩, ?_⟩
 rw [canon_iff h2.dg h3.dg (q := q) (by rw [val_nd, val_nd]; unfold rv; rw [iv_self]; exact Rat.mkRat_self q)]
 simp
theorem isK.cv {q : Rat} {k : Nat} {cn : Bool} {w : World} {v : Value} (h : isK q k cn w v) : cv 3 v := h.r.cv
theorem isE.r {q : Rat} {er : Int} {k : Nat} {w : World} {v : Value} (h : isE q er k w v) : isR (if er = 0 then q else 0) k w v := by
 by_cases he : er = 0
 · subst he; rw [if_pos rfl]; exact h.ok.r
 · obtain ⟨ao, c, ad, d, rfl, h1, h2, h3⟩ := h
   rw [if_neg he]
   refine ⟨_, ao, c, _, ad, d, _, rfl, h1, h2, ?_, ?_, ?_⟩
   · unfold rdn; rw [if_neg he]; exact rv_zero _ _
   · unfold rnm; rw [if_neg he]; exact Nat.zero_le _
   · unfold rdn; rw [if_neg he]; exact Nat.zero_le _
theorem isE.of {q : Rat} {k : Nat} {w : World} {v : Value} (h : isC q k w v) : isE q 0 k w v := by
 obtain ⟨ao, c, ad, d, rfl, h1, h2, h3⟩ := h
 exact ⟨ao, c, ad, d, rfl, h1, h2, fun _ => h3⟩
theorem isE.zero {q : Rat} {er : Int} {k : Nat} {w : World} (he : er ≠ 0) : isE q er k w (.agg #[.bool false, .slice none 0 0, .slice none 0 0]) := by
 have e1 : rnm q er = [] := by unfold rnm; rw [if_neg he]
 have e2 : rdn q er = [] := by unfold rdn; rw [if_neg he]
 have e3 : rsg q er = false := by unfold rsg; simp [he]
 refine ⟨none, 0, none, 0, by rw [e1, e2, e3]; rfl, ?_, ?_, fun h => absurd h he⟩
 · rw [e1]; exact Rd.nil (by omega) (fun _ => rfl)
 · rw [e2]; exact Rd.nil (by omega) (fun _ => rfl)
theorem isZ.r {w : World} {v : Value} (h : isZ v) : isR 0 0 w v :=
 ⟨false, none, 0, [], none, 0, [], h, Rd.nil (by omega) (fun _ => rfl), Rd.nil (by omega) (fun _ => rfl), rv_zero _ _, Nat.le_refl _, Nat.le_refl _⟩
theorem isZ.e {q : Rat} {er : Int} {k : Nat} {w : World} {v : Value} (he : er ≠ 0) (h : isZ v) : isE q er k w v := h ▸ isE.zero he
theorem isC.e {q : Rat} {er : Int} {k : Nat} {w : World} {v : Value} (he : er = 0) (h : isC q k w v) : isE q er k w v := he ▸ isE.of h
theorem isE.mono {q : Rat} {er : Int} {k m : Nat} {w : World} {v : Value} (h : isE q er k w v) (hk : k ≤ m) : isE q er m w v := by
 obtain ⟨ao, c, ad, d, rfl, h1, h2, h3⟩ := h
 exact ⟨ao, c, ad, d, rfl, h1, h2, fun e => (h3 e).mono hk⟩
theorem RetRat.s {q : Rat} {k : Nat} {w : World} {e : Ending} {w' : World} (hs : Sz q k) (h : RetRat q w e w') : RetS (mC q k).S w e w' := by
 obtain ⟨ao, c, ad, d, rfl, h1, h2, h3⟩ := h
 exact ⟨_, rfl, ⟨ao, c, ad, d, rfl, h1.rd, h2.rd, hs⟩, h3⟩
theorem RetRatE.s {q : Rat} {er : Int} {k : Nat} {w : World} {e : Ending} {w' : World} (hs : Sz q k) (h : RetRatE q er w e w') : RetS (mT (mE q er k) (mV (.int .i64 er))).S w e w' := by
 obtain ⟨ao, c, ad, d, rfl, h1, h2, h3⟩ := h
 exact ⟨_, rfl, ⟨_, _, rfl, ⟨ao, c, ad, d, rfl, h1.rd, h2.rd, fun _ => hs⟩, rfl⟩, h3⟩
theorem RetB.s {x : Value} {w : World} {e : Ending} {w' : World} (h : RetB x w e w') : RetS (mV x).S w e w' := by
 obtain ⟨rfl, h⟩ := h
 exact ⟨_, rfl, rfl, h⟩
theorem Sz.zero : Sz 0 1 := ⟨nd_length_le (show (0 : Nat) < 4294967296 ^ 1 by omega), nd_length_le (show (1 : Nat) < 4294967296 ^ 1 by omega)⟩
theorem Sz.int {z : Int} {k : Nat} (h : z.natAbs < 4294967296 ^ k) (hk : 1 ≤ k) : Sz ((z : Int) : Rat) k := by
 refine ⟨nd_length_le h, nd_length_le ?_⟩
 show 1 < 4294967296 ^ k
 exact Nat.one_lt_pow (by omega) (by omega)
theorem isR.sz {q : Rat} {k : Nat} {w : World} {v : Value} (h : isR q k w v) : Sz q (k + 1) := by
 obtain ⟨b, ao, c, xs, ad, d, ds, rfl, h1⟩ := h
 exact h1.sz

theorem c_add {q p : Rat} {k m : Nat} (hk : k ≤ 999999) (hm : m ≤ 999999) {v u : Value} {w : World} (h : isR q k w v) (g : isR p m w u) (hT : Tb w) : Calls Tryz.prog 20 #[v, u] w (RetS (mC (q + p) (k + m + 3)).S w) := by
 obtain ⟨b1, ao1, c1, xs1, ad1, d1, ds1, rfl, h1⟩ := h
 obtain ⟨b2, ao2, c2, xs2, ad2, d2, ds2, rfl, h2⟩ := g
 exact (add3_any h1 h2 (by omega) (by omega) hT).mono fun _ _ r => RetRat.s (h1.sz.add h2.sz |>.mono (by omega)) r
theorem c_cmp {q p : Rat} {k m : Nat} (hk : k ≤ 999999) (hm : m ≤ 999999) {v u : Value} {w : World} (h : isR q k w v) (g : isR p m w u) (hT : Tb w) : Calls Tryz.prog 21 #[v, u] w (RetS (mV (.int .i64 (cmpQ q p))).S w) := by
 obtain ⟨b1, ao1, c1, xs1, ad1, d1, ds1, rfl, h1⟩ := h
 obtain ⟨b2, ao2, c2, xs2, ad2, d2, ds2, rfl, h2⟩ := g
 exact (cmp3_any h1 h2 (by omega) (by omega) hT).mono fun _ _ r => RetB.s r
theorem c_trim {q : Rat} {k : Nat} (hk : k ≤ 999999) {v : Value} {w : World} (h : isR q k w v) (hT : Tb w) : Calls Tryz.prog 22 #[v] w (RetS (mC q (k + 1)).S w) := by
 obtain ⟨b, ao, c, xs, ad, d, ds, rfl, h1⟩ := h
 exact (trim3_any h1 (by omega) hT).mono fun _ _ r => RetRat.s h1.sz r
theorem Sz.frac {n m : Int} (h1 : -9223372036854775808 ≤ n) (h2 : n ≤ 9223372036854775807) (h3 : -9223372036854775808 ≤ m) (h4 : m ≤ 9223372036854775807) : Sz (Rat.divInt n m) 2 := by
 by_cases hm : m = 0
 · subst hm; rw [Rat.divInt_zero]; exact Sz.zero.mono (by omega)
 · rw [divInt_sign hm]
   refine Sz.of (by omega) ?_ (lt_of_nd (nd_int h3 h4))
   have := lt_of_nd (nd_int h1 h2)
   split <;> omega
theorem c_frac (n m : Int) {w : World} (h1 : -9223372036854775808 ≤ n) (h2 : n ≤ 9223372036854775807) (h3 : -9223372036854775808 ≤ m) (h4 : m ≤ 9223372036854775807) (hT : Tb w) : Calls Tryz.prog 19 #[.int .i64 n, .int .i64 m] w (RetS (mC (Rat.divInt n m) 2).S w) :=
 (frac3_any n m w h1 h2 h3 h4 hT).mono fun _ _ r => RetRat.s (Sz.frac h1 h2 h3 h4) r
def bitE (j : Int) : Int := if j < 0 ∨ 256 < j then 1 else 0
def dnE (q : Rat) (j : Int) : Rat := if j < 0 ∨ 256 < j then 0 else dnQ q j.toNat
def upE (q : Rat) (j : Int) : Rat := if j < 0 ∨ 256 < j then 0 else upQ q j.toNat
theorem c_valid {q : Rat} {k : Nat} {cn : Bool} (hk : k ≤ 999999) {v : Value} {w : World} (h : isK q k cn w v) (hT : Tb w) : Calls Tryz.prog 23 #[v] w (RetS (mV (.bool cn)).S w) := by
 obtain ⟨b, ao, c, xs, ad, d, ds, rfl, h1, h2⟩ := h
 have := h1.ln
 have := h1.ld
 exact (valid3_any b ao ad c d xs ds w h1.rn h1.rd (by omega) (by omega) hT cn h2).mono fun _ _ r => RetB.s r
theorem r_same {q p : Rat} {k m : Nat} {cn : Bool} {v u : Value} {w : World} (h : isK q k cn w v) (g : isC p m w u) : Calls Tryz.prog 14 #[v, u] w (RetS (mV (.bool (cn && decide (q = p)))).S w) := by
 obtain ⟨b, ao, c, xs, ad, d, ds, rfl, h1, h2⟩ := h
 obtain ⟨ao', c', ad', d', rfl, g1, g2, _⟩ := g
 refine (same3_any b _ ao ad ao' ad' c d c' d' xs ds _ _ (cn && decide (q = p)) w h1.rn h1.rd g1 g2 ?_).mono fun _ _ r => RetB.s r
 rw [Bool.and_eq_true, decide_eq_true_eq, h2, canon_iff h1.rn.dg h1.rd.dg h1.vq]
 constructor
 · rintro ⟨h3, rfl⟩; exact h3
 · intro h3
   have e : q = p := by
     rw [← h1.vq, h3.1.1, h3.1.2, h3.2, val_nd, val_nd]; unfold rv; rw [iv_self]; exact Rat.mkRat_self p
   subst e
   exact ⟨h3, rfl⟩
theorem r_sameC {q : Rat} {k m : Nat} {v u : Value} {w : World} (h : isC q k w v) (g : isC q m w u) : Calls Tryz.prog 14 #[v, u] w (RetS (mV (.bool true)).S w) :=
 (r_same h.k g).mono fun _ _ r => by simpa using r
def isS (s : Bool) (w : World) (v : Value) : Prop := ∃ b ao c xs ad d ds, v = .agg #[.bool b, .slice ao xs.length c, .slice ad ds.length d] ∧ Rd w ao c xs ∧ Rd w ad d ds ∧ (s = true ↔ xs.length ≤ 4 ∧ ds.length ≤ 4)
theorem isS.ext {s : Bool} {w w' : World} {v : Value} (he : Ext w w') (h : isS s w v) : isS s w' v := by
 obtain ⟨b, ao, c, xs, ad, d, ds, rfl, h1, h2, h3⟩ := h
 exact ⟨b, ao, c, xs, ad, d, ds, rfl, h1.ext he, h2.ext he, h3⟩
def mS (s : Bool) : MP := ⟨isS s, fun _ _ _ he h => h.ext he⟩
theorem isS.cv {s : Bool} {w : World} {v : Value} (h : isS s w v) : cv 3 v := by
 obtain ⟨b, ao, c, xs, ad, d, ds, rfl, h1, h2, h3⟩ := h
 exact ⟨_, rfl, rfl, noU3, by simp [Value.oneCell']⟩
theorem isS.r {w : World} {v : Value} (h : isS true w v) : ∃ q, isR q 4 w v := by
 obtain ⟨b, ao, c, xs, ad, d, ds, rfl, h1, h2, h3⟩ := h
 have h4 := h3.1 rfl
 exact ⟨_, b, ao, c, xs, ad, d, ds, rfl, h1, h2, rfl, h4.1, h4.2⟩
end Go.Proofs.YtbjijmjhlpkomaaGreatDoor

namespace Go.Proofs.YtbjijmjhlpkomaaGreatDoor
open Go.RowKit Num

theorem info_Rat : (Tryz.prog.info? 26).map (·.size) = some 3 := by kernel_rfl
theorem zero_Rat (w : World) : (zeroValue 26).run Tryz.prog w = .ok (.agg #[.bool false, .slice none 0 0, .slice none 0 0]) w := by kernel_rfl
theorem bx_Rat {w : World} {g : Nat} (h : w.heap[g]? = some (.cells (Value.agg #[.bool false, .slice none 0 0, .slice none 0 0]).cells 26 (0, 0))) : bx 26 3 mTop w g := ⟨_, h, rfl, noU3, by simp [Value.cells, Value.oneCell'], trivial⟩
theorem k_mod (n m : Int) {w : World} (hm : 1 ≤ m) (hm2 : m ≤ 1000000) (h1 : -9223372036854775808 ≤ n) (h2 : n ≤ 9223372036854775807) : Calls Tryz.prog 17 #[.int .i64 n, .int .i64 m] w (RetS (mV (.int .i64 (n % m))).S w) :=
 (Mod_all n m w hm hm2 h1 h2).mono fun _ _ r => by obtain ⟨rfl, rfl⟩ := r; exact ⟨_, rfl, rfl, Below.refl _ _⟩
def isA4 (qs : Nat → Rat) (k : Nat) (w : World) (v : Value) : Prop := ∃ x0 x1 x2 x3 x4 x5 x6 x7 x8 x9 xa xb, v = .agg #[x0, x1, x2, x3, x4, x5, x6, x7, x8, x9, xa, xb] ∧ isR (qs 0) k w (.agg #[x0, x1, x2]) ∧ isR (qs 1) k w (.agg #[x3, x4, x5]) ∧ isR (qs 2) k w (.agg #[x6, x7, x8]) ∧ isR (qs 3) k w (.agg #[x9, xa, xb])
def mA4 (qs : Nat → Rat) (k : Nat) : MP := ⟨isA4 qs k, fun _ _ _ he ⟨x0, x1, x2, x3, x4, x5, x6, x7, x8, x9, xa, xb, h, h0, h1, h2, h3⟩ => ⟨x0, x1, x2, x3, x4, x5, x6, x7, x8, x9, xa, xb, h, h0.ext he, h1.ext he, h2.ext he, h3.ext he⟩⟩
theorem noU12 {a b c d e f a' b' c' d' e' f' : Value} (h1 : noU #[a, b, c, d, e, f]) (h2 : noU #[a', b', c', d', e', f']) : noU #[a, b, c, d, e, f, a', b', c', d', e', f'] := by
 intro i x
 match i with
 | 0 => exact h1 0 x
 | 1 => exact h1 1 x
 | 2 => exact h1 2 x
 | 3 => exact h1 3 x
 | 4 => exact h1 4 x
 | 5 => exact h1 5 x
 | 6 => exact h2 0 x
 | 7 => exact h2 1 x
 | 8 => exact h2 2 x
 | 9 => exact h2 3 x
 | 10 => exact h2 4 x
 | 11 => exact h2 5 x
 | i + 12 => simp
theorem isA4.cv {qs : Nat → Rat} {k : Nat} {w : World} {v : Value} (h : isA4 qs k w v) : cv 12 v := by
 obtain ⟨x0, x1, x2, x3, x4, x5, x6, x7, x8, x9, xa, xb, rfl, h0, h1, h2, h3⟩ := h
 obtain ⟨_, e0, _, n0, o0⟩ := h0.cv
 obtain ⟨_, e1, _, n1, o1⟩ := h1.cv
 obtain ⟨_, e2, _, n2, o2⟩ := h2.cv
 obtain ⟨_, e3, _, n3, o3⟩ := h3.cv
 obtain rfl := Value.agg.inj e0
 obtain rfl := Value.agg.inj e1
 obtain rfl := Value.agg.inj e2
 obtain rfl := Value.agg.inj e3
 refine ⟨_, rfl, rfl, noU12 (noU6 n0 n1) (noU6 n2 n3), ?_⟩
 simp at o0 o1 o2 o3 ⊢
 simp [o0, o1, o2, o3]
theorem bx.a4 {T : TypeId} {qs : Nat → Rat} {k : Nat} {w : World} {g : Nat} (h : bx T 12 (mA4 qs k) w g) (i : Nat) (hi : i < 4) : ∃ x0 x1 x2, w.rangeAt g (3 * i) [x0, x1, x2] ∧ isR (qs i) k w (.agg #[x0, x1, x2]) := by
 obtain ⟨cs, e1, e2, e3, e4, x0, x1, x2, x3, x4, x5, x6, x7, x8, x9, xa, xb, he, h0, h1, h2, h3⟩ := h
 obtain rfl := Value.agg.inj he
 have key : ∀ a b c, (∀ j v, [a, b, c][j]? = some v → (#[x0, x1, x2, x3, x4, x5, x6, x7, x8, x9, xa, xb] : Array Value)[3 * i + j]? = some v) → w.rangeAt g (3 * i) [a, b, c] := fun a b c hk j v hv => by
   rw [cell_of_row w g _ _ T (0, 0) e1]; exact hk j v hv
 match i, hi with
 | 0, _ => exact ⟨x0, x1, x2, key _ _ _ (fun j v hv => match j with | 0 => by simpa using hv | 1 => by simpa using hv | 2 => by simpa using hv | j + 3 => by simp at hv), h0⟩
 | 1, _ => exact ⟨x3, x4, x5, key _ _ _ (fun j v hv => match j with | 0 => by simpa using hv | 1 => by simpa using hv | 2 => by simpa using hv | j + 3 => by simp at hv), h1⟩
 | 2, _ => exact ⟨x6, x7, x8, key _ _ _ (fun j v hv => match j with | 0 => by simpa using hv | 1 => by simpa using hv | 2 => by simpa using hv | j + 3 => by simp at hv), h2⟩
 | 3, _ => exact ⟨x9, xa, xb, key _ _ _ (fun j v hv => match j with | 0 => by simpa using hv | 1 => by simpa using hv | 2 => by simpa using hv | j + 3 => by simp at hv), h3⟩
def qs4 (a b c d : Rat) : Nat → Rat | 0 => a | 1 => b | 2 => c | _ => d
def isA4C (qs : Nat → Rat) (k : Nat) (w : World) (v : Value) : Prop := ∃ x0 x1 x2 x3 x4 x5 x6 x7 x8 x9 xa xb, v = .agg #[x0, x1, x2, x3, x4, x5, x6, x7, x8, x9, xa, xb] ∧ isC (qs 0) k w (.agg #[x0, x1, x2]) ∧ isC (qs 1) k w (.agg #[x3, x4, x5]) ∧ isC (qs 2) k w (.agg #[x6, x7, x8]) ∧ isC (qs 3) k w (.agg #[x9, xa, xb])
def mA4C (qs : Nat → Rat) (k : Nat) : MP := ⟨isA4C qs k, fun _ _ _ he ⟨x0, x1, x2, x3, x4, x5, x6, x7, x8, x9, xa, xb, h, h0, h1, h2, h3⟩ => ⟨x0, x1, x2, x3, x4, x5, x6, x7, x8, x9, xa, xb, h, h0.ext he, h1.ext he, h2.ext he, h3.ext he⟩⟩
theorem isA4C.cv {qs : Nat → Rat} {k : Nat} {w : World} {v : Value} (h : isA4C qs k w v) : cv 12 v := by
 obtain ⟨x0, x1, x2, x3, x4, x5, x6, x7, x8, x9, xa, xb, rfl, h0, h1, h2, h3⟩ := h
 obtain ⟨_, e0, _, n0, o0⟩ := h0.cv
 obtain ⟨_, e1, _, n1, o1⟩ := h1.cv
 obtain ⟨_, e2, _, n2, o2⟩ := h2.cv
 obtain ⟨_, e3, _, n3, o3⟩ := h3.cv
 obtain rfl := Value.agg.inj e0
 obtain rfl := Value.agg.inj e1
 obtain rfl := Value.agg.inj e2
 obtain rfl := Value.agg.inj e3
 refine ⟨_, rfl, rfl, noU12 (noU6 n0 n1) (noU6 n2 n3), ?_⟩
 simp at o0 o1 o2 o3 ⊢
 simp [o0, o1, o2, o3]
theorem args_0 {ρ : Operand → Value} : (#[] : Array Operand).map ρ = #[] := by simp
theorem args_1 {ρ : Operand → Value} {x : Operand} {v : Value} (h : ρ x = v) : #[x].map ρ = #[v] := by simp [h]
theorem args_2 {ρ : Operand → Value} {x y : Operand} {v u : Value} (h : ρ x = v) (g : ρ y = u) : #[x, y].map ρ = #[v, u] := by simp [h, g]
end Go.Proofs.YtbjijmjhlpkomaaGreatDoor

namespace Go.Proofs.YtbjijmjhlpkomaaGreatDoor
open Go.ChangeShapes Go.WideShapes Go.ChangeAt Go.RowKit

end Go.Proofs.YtbjijmjhlpkomaaGreatDoor
