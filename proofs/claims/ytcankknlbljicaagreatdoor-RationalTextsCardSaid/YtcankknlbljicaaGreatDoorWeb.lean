/-  -/
import Derived.Test.YtcankknlbljicaaGreatDoorWca
import Derived.Test.YtcankknlbljicaaGreatDoorW1

set_option linter.unusedVariables false
set_option linter.unusedSimpArgs false
set_option linter.unusedSectionVars false
set_option maxRecDepth 100000
set_option maxHeartbeats 3200000

namespace Go.Proofs.YtcankknlbljicaaGreatDoor
open Go.RowKit Num

def Ext (w w' : World) : Prop := ∀ a x, w.cell? a = some (.int .u32 x) → w'.cell? a = some (.int .u32 x)
theorem Ext.trans {a b c : World} (h : Ext a b) (k : Ext b c) : Ext a c := fun p x hx => k p x (h p x hx)
theorem Ext.of {w w' : World} (h : Below w.heap.size w w') : Ext w w' := fun _ _ hx => (h.cell (lt_of_cell hx)).trans hx
def noU (cs : Array Value) : Prop := ∀ (i : Nat) (x : Int), cs[i]? ≠ some (Value.int .u32 x)
theorem Ext.setRow {w : World} {g : Nat} {cs : Array Value} {t : TypeId} {fr : Nat × Nat} (hg : w.heap[g]? = some (.cells cs t fr)) (hn : noU cs) (new : Array Value) : Ext w (w.setRow g new) := by
 intro a x hx
 by_cases hb : a.block = g
 ·exfalso
  have hlt : a.block < w.heap.size := lt_of_cell hx
  obtain ⟨b, off, sp⟩ := a
  simp only at hb
  subst hb
  cases sp with
  | none => rw [cell_of_row w b off cs t fr hg] at hx; exact hn off x hx
  | some s => simp [World.cell?, hg] at hx
 ·rw [cell_setRow_other w g new a hb]; exact hx
theorem Rd.ext {w w' : World} {ao : Option Addr} {c : Nat} {xs : List Nat} (h : Rd w ao c xs) (he : Ext w w') : Rd w' ao c xs := by
 refine ⟨h.le, h.cm, h.nn, h.dg, ?_⟩
 rcases h.lies with h1 | ⟨b, off, h1, h2⟩
 ·exact Or.inl h1
 ·exact Or.inr ⟨b, off, h1, fun i hi => he _ _ (h2 i hi)⟩

abbrev Bs := Nat → Prop
structure Kp (O : Bs) (w w' : World) : Prop where
 e : Ext w w'
 b : ∀ g, g < w.heap.size → ¬ O g → w'.heap[g]? = w.heap[g]?
theorem Kp.of {O : Bs} {w w' : World} (h : Below w.heap.size w w') : Kp O w w' := ⟨Ext.of h, fun g hg _ => h.block g hg⟩
structure MP where
 S : Bs → World → Value → Prop
 fr : Bool
 mono : ∀ O w w' v, Kp O w w' → S O w v → S O w' v
 more : ∀ (O A : Bs) w v, (∀ g, A g → w.heap.size ≤ g) → S O w v → S (fun x => O x ∨ A x) w v
 less : ∀ (O O' : Bs) w v, (∀ g, O' g → O g) → S O w v → S O' w v
 free : fr = true → ∀ O O' w v, S O w v → S O' w v
def MP.of (S : World → Value → Prop) (h : ∀ w w' v, Ext w w' → S w v → S w' v) : MP :=
 ⟨fun _ => S, true, fun _ w w' v k => h w w' v k.e, fun _ _ _ _ _ h => h, fun _ _ _ _ _ h => h, fun _ _ _ _ _ h => h⟩
def mTop : MP := MP.of (fun _ _ => True) fun _ _ _ _ h => h
def mV (x : Value) : MP := MP.of (fun _ v => v = x) fun _ _ _ _ h => h
def mIf (b : Bool) (m : MP) : MP := ⟨fun O w v => b = true → m.S O w v, m.fr, fun O w w' v he h hb => m.mono O w w' v he (h hb), fun O A w v hA h hb => m.more O A w v hA (h hb), fun O O' w v hO h hb => m.less O O' w v hO (h hb), fun hf O O' w v h hb => m.free hf O O' w v (h hb)⟩
structure BP where
 S : World → Value → Prop
 mono : ∀ w w' v, Below w.heap.size w w' → S w v → S w' v
def MP.b (O : Bs) (m : MP) : BP := ⟨m.S O, fun w w' v hb h => m.mono O w w' v (Kp.of hb) h⟩
def mG (l : List BP) : Nat → World → Value → Prop := fun i w v => match l[i]? with | some m => m.S w v | none => True
theorem mG_mono (l : List BP) : ∀ i w w' v, Below w.heap.size w w' → mG l i w v → mG l i w' v := by
 intro i w w' v hb h
 unfold mG at h ⊢
 cases hl : l[i]? with
 | none => trivial
 | some m => rw [hl] at h; exact m.mono w w' v hb h
def isR (q : Rat) (k : Nat) (w : World) (v : Value) : Prop := ∃ b ao c xs ad d ds, v = .agg #[.bool b, .slice ao xs.length c, .slice ad ds.length d] ∧ Rq w b ao c xs ad d ds q k
def isC (q : Rat) (k : Nat) (w : World) (v : Value) : Prop := ∃ ao c ad d, v = .agg #[.bool (decide (q.num < 0)), .slice ao (nd q.num.natAbs).length c, .slice ad (nd q.den).length d] ∧ Rd w ao c (nd q.num.natAbs) ∧ Rd w ad d (nd q.den) ∧ Sz q k
def isE (q : Rat) (er : Int) (k : Nat) (w : World) (v : Value) : Prop := ∃ ao c ad d, v = .agg #[.bool (rsg q er), .slice ao (rnm q er).length c, .slice ad (rdn q er).length d] ∧ Rd w ao c (rnm q er) ∧ Rd w ad d (rdn q er) ∧ (er = 0 → Sz q k)
theorem isR.ext {q : Rat} {k : Nat} {w w' : World} {v : Value} (he : Ext w w') (h : isR q k w v) : isR q k w' v := by
 obtain ⟨b, ao, c, xs, ad, d, ds, rfl, h1⟩ := h
 exact ⟨b, ao, c, xs, ad, d, ds, rfl, h1.rn.ext he, h1.rd.ext he, h1.vq, h1.ln, h1.ld⟩
theorem isC.ext {q : Rat} {k : Nat} {w w' : World} {v : Value} (he : Ext w w') (h : isC q k w v) : isC q k w' v := by
 obtain ⟨ao, c, ad, d, rfl, h1, h2, h3⟩ := h
 exact ⟨ao, c, ad, d, rfl, h1.ext he, h2.ext he, h3⟩
theorem isE.ext {q : Rat} {er : Int} {k : Nat} {w w' : World} {v : Value} (he : Ext w w') (h : isE q er k w v) : isE q er k w' v := by
 obtain ⟨ao, c, ad, d, rfl, h1, h2, h3⟩ := h
 exact ⟨ao, c, ad, d, rfl, h1.ext he, h2.ext he, h3⟩
theorem isC.r {q : Rat} {k : Nat} {w : World} {v : Value} (h : isC q k w v) : isR q k w v := by
 obtain ⟨ao, c, ad, d, rfl, h1, h2, h3⟩ := h
 exact ⟨_, ao, c, _, ad, d, _, rfl, h1, h2, by rw [val_nd, val_nd]; unfold rv; rw [iv_self]; exact Rat.mkRat_self q, h3.1, h3.2⟩
theorem isC.mono {q : Rat} {k m : Nat} {w : World} {v : Value} (h : isC q k w v) (hk : k ≤ m) : isC q m w v := by
 obtain ⟨ao, c, ad, d, rfl, h1, h2, h3⟩ := h
 exact ⟨ao, c, ad, d, rfl, h1, h2, h3.mono hk⟩
theorem isC.of {q p : Rat} {k : Nat} {w : World} {v : Value} (h : isC q k w v) (hq : q = p) : isC p k w v := hq ▸ h
theorem isR.mono {q : Rat} {k m : Nat} {w : World} {v : Value} (h : isR q k w v) (hk : k ≤ m) : isR q m w v := by
 obtain ⟨b, ao, c, xs, ad, d, ds, rfl, h1⟩ := h
 exact ⟨b, ao, c, xs, ad, d, ds, rfl, h1.mono hk⟩
theorem isE.ok {q : Rat} {k : Nat} {w : World} {v : Value} (h : isE q 0 k w v) : isC q k w v := by
 obtain ⟨ao, c, ad, d, rfl, h1, h2, h3⟩ := h
 exact ⟨ao, c, ad, d, rfl, h1, h2, h3 rfl⟩
def mR (q : Rat) (k : Nat) : MP := MP.of (isR q k) fun _ _ _ he h => h.ext he
def mC (q : Rat) (k : Nat) : MP := MP.of (isC q k) fun _ _ _ he h => h.ext he
def mE (q : Rat) (er : Int) (k : Nat) : MP := MP.of (isE q er k) fun _ _ _ he h => h.ext he
def AllM (O : Bs) (w : World) : List MP → List Value → Prop
 | [], vs => vs = []
 | m :: ms, vs => ∃ v us, vs = v :: us ∧ m.S O w v ∧ AllM O w ms us
theorem AllM.imp {O O' : Bs} {w w' : World} : ∀ {ms : List MP} {vs : List Value}, (∀ m ∈ ms, ∀ v, m.S O w v → m.S O' w' v) → AllM O w ms vs → AllM O' w' ms vs
 | [], _, _, h => h
 | m :: ms, _, hi, ⟨v, us, e, h1, h2⟩ => ⟨v, us, e, hi m (List.mem_cons_self ..) v h1, AllM.imp (fun m hm => hi m (List.mem_cons_of_mem _ hm)) h2⟩
def PV (n : Nat) (c : List Value) (S : Value → Prop) : Prop := match n with
 | 0 => ∃ x, c = [x] ∧ S x
 | n + 1 => c.length = n + 1 ∧ S (.agg c.toArray)
theorem PV.imp {n : Nat} {c : List Value} {S S' : Value → Prop} (hi : ∀ v, S v → S' v) (h : PV n c S) : PV n c S' := by
 cases n with
 | zero => obtain ⟨x, e, h⟩ := h; exact ⟨x, e, hi _ h⟩
 | succ n => exact ⟨h.1, hi _ h.2⟩
def PartsM (O : Bs) (w : World) : List (Nat × MP) → List Value → Prop
 | [], cs => cs = []
 | p :: fs, cs => ∃ c d, cs = c ++ d ∧ PV p.1 c (p.2.S O w) ∧ PartsM O w fs d
theorem PartsM.imp {O O' : Bs} {w w' : World} : ∀ {fs : List (Nat × MP)} {cs : List Value}, (∀ p ∈ fs, ∀ v, p.2.S O w v → p.2.S O' w' v) → PartsM O w fs cs → PartsM O' w' fs cs
 | [], _, _, h => h
 | p :: fs, _, hi, ⟨c, d, e, h1, h2⟩ => ⟨c, d, e, h1.imp (hi p (List.mem_cons_self ..)), PartsM.imp (fun m hm => hi m (List.mem_cons_of_mem _ hm)) h2⟩
def MP.all {ι : Type} (ms : ι → Prop) (f : ι → MP) (fr : Bool) (hfr : fr = true → ∀ i, ms i → (f i).fr = true) (S : Bs → World → Value → Prop)
  (hi : ∀ O w O' w' v, (∀ i, ms i → ∀ v, (f i).S O w v → (f i).S O' w' v) → S O w v → S O' w' v) : MP :=
 ⟨S, fr, fun O w w' v k h => hi O w O w' v (fun i _ v h => (f i).mono O w w' v k h) h, fun O A w v hA h => hi O w _ w v (fun i _ v h => (f i).more O A w v hA h) h,
  fun O O' w v hO h => hi O w O' w v (fun i _ v h => (f i).less O O' w v hO h) h, fun hf O O' w v h => hi O w O' w v (fun i hm v h => (f i).free (hfr hf i hm) O O' w v h) h⟩
def mTu (ms : List MP) : MP := MP.all (fun m => m ∈ ms) id (ms.all (·.fr)) (fun h m hm => List.all_eq_true.1 h m hm) (fun O w v => ∃ vs, v = .tuple vs ∧ AllM O w ms vs.toList)
 fun _ _ _ _ _ hi ⟨vs, e, h⟩ => ⟨vs, e, h.imp fun m hm v => hi m hm v⟩
def mAg (fs : List (Nat × MP)) : MP := MP.all (fun p => p ∈ fs) Prod.snd (fs.all (·.2.fr)) (fun h m hm => List.all_eq_true.1 h m hm) (fun O w v => ∃ cs, v = .agg cs ∧ PartsM O w fs cs.toList)
 fun _ _ _ _ _ hi ⟨vs, e, h⟩ => ⟨vs, e, h.imp fun m hm v => hi m hm v⟩
def mP (m1 m2 : MP) : MP := MP.all (fun m => m = m1 ∨ m = m2) id (m1.fr && m2.fr) (fun h m hm => by rcases hm with rfl | rfl <;> simp_all) (fun O w v => ∃ x0 x1 x2 y0 y1 y2, v = .agg #[x0, x1, x2, y0, y1, y2] ∧ m1.S O w (.agg #[x0, x1, x2]) ∧ m2.S O w (.agg #[y0, y1, y2]))
 fun _ _ _ _ _ hi ⟨x0, x1, x2, y0, y1, y2, h, h1, h2⟩ => ⟨x0, x1, x2, y0, y1, y2, h, hi m1 (Or.inl rfl) _ h1, hi m2 (Or.inr rfl) _ h2⟩
def mT (m1 m2 : MP) : MP := MP.all (fun m => m = m1 ∨ m = m2) id (m1.fr && m2.fr) (fun h m hm => by rcases hm with rfl | rfl <;> simp_all) (fun O w v => ∃ x y, v = .tuple #[x, y] ∧ m1.S O w x ∧ m2.S O w y)
 fun _ _ _ _ _ hi ⟨x, y, h, h1, h2⟩ => ⟨x, y, h, hi m1 (Or.inl rfl) _ h1, hi m2 (Or.inr rfl) _ h2⟩

theorem mT_imp {m1 m2 m1' m2' : MP} {O : Bs} {w : World} {v : Value} (h1 : ∀ v, m1.S O w v → m1'.S O w v) (h2 : ∀ v, m2.S O w v → m2'.S O w v) (h : (mT m1 m2).S O w v) : (mT m1' m2').S O w v := by
 obtain ⟨x, y, e, k1, k2⟩ := h
 exact ⟨x, y, e, h1 _ k1, h2 _ k2⟩
def bx (O : Bs) (T : TypeId) (n : Nat) (m : MP) (w : World) (g : Nat) : Prop := ∃ cs, w.heap[g]? = some (.cells cs T (0, 0)) ∧ cs.size = n ∧ noU cs ∧ cs.all (·.oneCell') = true ∧ m.S O w (.agg cs)
theorem bx.lt {O : Bs} {T : TypeId} {n : Nat} {m : MP} {w : World} {g : Nat} (h : bx O T n m w g) : g < w.heap.size := by
 obtain ⟨cs, h1, _⟩ := h; exact (Array.getElem?_eq_some_iff.1 h1).1
theorem bx.below {O : Bs} {T : TypeId} {n : Nat} {m : MP} {w w' : World} {g : Nat} (hb : Below w.heap.size w w') (h : bx O T n m w g) : bx O T n m w' g := by
 have hl := h.lt
 obtain ⟨cs, h1, h2, h3, h4, h5⟩ := h
 exact ⟨cs, (hb.block g hl).trans h1, h2, h3, h4, m.mono _ w w' _ (Kp.of hb) h5⟩
theorem bx.kp {O : Bs} {T : TypeId} {n : Nat} {m : MP} {w : World} {g : Nat} (new : Array Value) (h : bx O T n m w g) (hO : O g) : Kp O w (w.setRow g new) := by
 obtain ⟨cs, h1, _, h3, _⟩ := h
 exact ⟨Ext.setRow h1 h3 new, fun k _ hk => setRow_other w g k new fun e => hk (e ▸ hO)⟩
theorem bx.imp {O : Bs} {T : TypeId} {n : Nat} {m m' : MP} {w : World} {g : Nat} (hi : ∀ v, m.S O w v → m'.S O w v) (h : bx O T n m w g) : bx O T n m' w g := by
 obtain ⟨cs, h1, h2, h3, h4, h5⟩ := h
 exact ⟨cs, h1, h2, h3, h4, hi _ h5⟩
theorem bx.kept {O : Bs} {T : TypeId} {n : Nat} {m : MP} {w w' : World} {g : Nat} (k : Kp O w w') (hg : w'.heap[g]? = w.heap[g]?) (h : bx O T n m w g) : bx O T n m w' g := by
 obtain ⟨cs, h1, h2, h3, h4, h5⟩ := h
 exact ⟨cs, hg.trans h1, h2, h3, h4, m.mono _ _ _ _ k h5⟩

def isZ (v : Value) : Prop := v = .agg #[.bool false, .slice none 0 0, .slice none 0 0]
def mZ : MP := MP.of (fun _ v => isZ v) fun _ _ _ _ h => h
def cv (n : Nat) (v : Value) : Prop := ∃ cs, v = .agg cs ∧ cs.size = n ∧ noU cs ∧ cs.all (·.oneCell') = true
theorem noU3 {b : Bool} {a d : Option Addr} {n c m e : Nat} : noU #[.bool b, .slice a n c, .slice d m e] := by
 intro i x
 match i with
 | 0 => simp
 | 1 => simp
 | 2 => simp
 | i + 3 => simp
theorem isR.cv {q : Rat} {k : Nat} {w : World} {v : Value} (h : isR q k w v) : cv 3 v := by
 obtain ⟨b, ao, c, xs, ad, d, ds, rfl, h1⟩ := h
 exact ⟨_, rfl, rfl, noU3, by simp [Value.oneCell']⟩
theorem isE.cv {q : Rat} {er : Int} {k : Nat} {w : World} {v : Value} (h : isE q er k w v) : cv 3 v := by
 obtain ⟨ao, c, ad, d, rfl, h1, h2, h3⟩ := h
 exact ⟨_, rfl, rfl, noU3, by simp [Value.oneCell']⟩
theorem isZ.cv {v : Value} (h : isZ v) : cv 3 v := ⟨_, h, rfl, noU3, by simp [Value.oneCell']⟩
theorem isC.cv {q : Rat} {k : Nat} {w : World} {v : Value} (h : isC q k w v) : cv 3 v := h.r.cv
theorem noU6 {x0 x1 x2 y0 y1 y2 : Value} (h1 : noU #[x0, x1, x2]) (h2 : noU #[y0, y1, y2]) : noU #[x0, x1, x2, y0, y1, y2] := by
 intro i x
 match i with
 | 0 => exact h1 0 x
 | 1 => exact h1 1 x
 | 2 => exact h1 2 x
 | 3 => exact h2 0 x
 | 4 => exact h2 1 x
 | 5 => exact h2 2 x
 | i + 6 => simp
theorem mP.cv {O : Bs} {m1 m2 : MP} {w : World} {v : Value} (h1 : ∀ v, m1.S O w v → cv 3 v) (h2 : ∀ v, m2.S O w v → cv 3 v) (h : (mP m1 m2).S O w v) : cv 6 v := by
 obtain ⟨x0, x1, x2, y0, y1, y2, rfl, k1, k2⟩ := h
 obtain ⟨_, e1, _, n1, o1⟩ := h1 _ k1
 obtain ⟨_, e2, _, n2, o2⟩ := h2 _ k2
 obtain rfl := Value.agg.inj e1
 obtain rfl := Value.agg.inj e2
 refine ⟨_, rfl, rfl, noU6 n1 n2, ?_⟩
 simp at o1 o2 ⊢
 exact ⟨o1.1, o1.2.1, o1.2.2, o2.1, o2.2.1, o2.2.2⟩
theorem bx.lo {O : Bs} {T : TypeId} {m1 m2 : MP} {w : World} {g : Nat} (h : bx O T 6 (mP m1 m2) w g) : ∃ x0 x1 x2, w.rangeAt g 0 [x0, x1, x2] ∧ m1.S O w (.agg #[x0, x1, x2]) := by
 obtain ⟨cs, h1, h2, h3, h4, x0, x1, x2, y0, y1, y2, he, k1, k2⟩ := h
 obtain rfl := Value.agg.inj he
 refine ⟨x0, x1, x2, fun j v hv => ?_, k1⟩
 rw [cell_of_row w g _ _ T (0, 0) h1]
 match j with
 | 0 => simpa using hv
 | 1 => simpa using hv
 | 2 => simpa using hv
 | j + 3 => simp at hv
theorem bx.hi {O : Bs} {T : TypeId} {m1 m2 : MP} {w : World} {g : Nat} (h : bx O T 6 (mP m1 m2) w g) : ∃ y0 y1 y2, w.rangeAt g 3 [y0, y1, y2] ∧ m2.S O w (.agg #[y0, y1, y2]) := by
 obtain ⟨cs, h1, h2, h3, h4, x0, x1, x2, y0, y1, y2, he, k1, k2⟩ := h
 obtain rfl := Value.agg.inj he
 refine ⟨y0, y1, y2, fun j v hv => ?_, k2⟩
 rw [cell_of_row w g _ _ T (0, 0) h1]
 match j with
 | 0 => simpa using hv
 | 1 => simpa using hv
 | 2 => simpa using hv
 | j + 3 => simp at hv

def mNew (O : Bs) (B : Nat) (T : TypeId) (n : Nat) : BP := ⟨fun w v => ∃ g, v = .pointer (some ⟨g, 0, none⟩) ∧ B ≤ g ∧ bx O T n mTop w g, fun _ _ _ hb ⟨g, h1, h2, h3⟩ => ⟨g, h1, h2, h3.below hb⟩⟩

def mNewS (O : Bs) (B : Nat) (T : TypeId) (n len : Nat) (m : MP) : BP := ⟨fun w v => ∃ g, v = .slice (some ⟨g, 0, none⟩) len len ∧ B ≤ g ∧ bx O T n m w g, fun _ _ _ hb ⟨g, h1, h2, h3⟩ => ⟨g, h1, h2, h3.below hb⟩⟩
def mRow3 (m0 m1 m2 : MP) : MP := MP.all (fun m => m = m0 ∨ m = m1 ∨ m = m2) id (m0.fr && m1.fr && m2.fr) (fun h m hm => by rcases hm with rfl | rfl | rfl <;> simp_all) (fun O w v => ∃ x0 x1 x2 y0 y1 y2 z0 z1 z2, v = .agg #[x0, x1, x2, y0, y1, y2, z0, z1, z2] ∧ m0.S O w (.agg #[x0, x1, x2]) ∧ m1.S O w (.agg #[y0, y1, y2]) ∧ m2.S O w (.agg #[z0, z1, z2]))
 fun _ _ _ _ _ hi ⟨x0, x1, x2, y0, y1, y2, z0, z1, z2, h, h0, h1, h2⟩ => ⟨x0, x1, x2, y0, y1, y2, z0, z1, z2, h, hi m0 (Or.inl rfl) _ h0, hi m1 (Or.inr (Or.inl rfl)) _ h1, hi m2 (Or.inr (Or.inr rfl)) _ h2⟩

section
variable {P : Program} {ops : Array Oper} {rest : List Oper} {o : Oper} {a : Act} {w : World} {Q : Exit → Act → World → Prop}
theorem tl_set (hg : o.guard = none) {d : Tmp} {v : Value} (hd : o.dst = some d) (hr : (execOp a.eval o).run P w = .ok (.value v) w) (hlt : d < a.tmps.size)
  (h : ∀ a', a'.tmps.size = a.tmps.size → a'.defers = a.defers → sl a' d = v → (∀ t, t ≠ d → sl a' t = sl a t) → wpList P ops Q rest a' w) : wpList P ops Q (o :: rest) a w := by
 refine tl_value hg hr ?_
 rw [hd]
 exact h _ (put_size _ _ _) (put_defers _ _ _) (sl_put _ hlt) fun t ht => sl_other _ fun e => ht e.symm
theorem tl_new (hg : o.guard = none) {d : Tmp} (hd : o.dst = some d) {cs : Array Value} {T : TypeId} (hr : (execOp a.eval o).run P w = .ok (.value (.pointer (some ⟨w.heap.size, 0, none⟩))) (w.alloc (.cells cs T))) (hlt : d < a.tmps.size)
  (h : ∀ a' w' g, a'.tmps.size = a.tmps.size → a'.defers = a.defers → sl a' d = .pointer (some ⟨g, 0, none⟩) → (∀ t, t ≠ d → sl a' t = sl a t) → g = w.heap.size → w'.heap[g]? = some (.cells cs T (0, 0)) → Below w.heap.size w w' → wpList P ops Q rest a' w') : wpList P ops Q (o :: rest) a w := by
 refine tl_value hg hr ?_
 rw [hd]
 exact h _ _ _ (put_size _ _ _) (put_defers _ _ _) (sl_put _ hlt) (fun t ht => sl_other _ fun e => ht e.symm) rfl (heap_alloc_at _ _) (below_alloc _ _)
theorem below_row {w0 : World} (h : Below w0.heap.size w0 w) {g : Nat} (hg : w0.heap.size ≤ g) (cs : Array Value) : Below w0.heap.size w0 (w.setRow g cs) := by
 refine ⟨h.os, h.tape, h.output, by rw [setRow_size]; exact h.size, fun k hk => ?_⟩
 rw [setRow_other w g k cs (by omega)]
 exact h.block k hk
theorem tl_put (hg : o.guard = none) (hd : o.dst = none) {O : Bs} {T T0 : TypeId} {x y : Operand} (ho : o.op = .store T x y) {g n : Nat} {m m' : MP} (hO : O g) (hb : bx O T0 n m w g) (hx : a.eval x = .pointer (some ⟨g, 0, none⟩)) (hS : m'.S O w (a.eval y)) (hv : cv n (a.eval y)) (hi : (P.info? T).map (·.size) = some n)
  (h : ∀ cs, Kp O w (w.setRow g cs) → bx O T0 n m' (w.setRow g cs) g → wpList P ops Q rest a (w.setRow g cs)) : wpList P ops Q (o :: rest) a w := by
 have he := fun new => bx.kp new hb hO
 obtain ⟨old, h1, h2, h3, h4, h5⟩ := hb
 obtain ⟨cs, hy, k2, k3, k4⟩ := hv
 refine wpList_store_row hg T x y ho g cs hx hy T0 old h1 (by rw [k2]; exact hi) (by omega) k4 ?_
 rw [hd]
 rw [hy] at hS
 exact h cs (he cs) ⟨cs, setRow_heap w g old cs T0 (0, 0) h1, k2, k3, k4, m'.mono _ _ _ _ (he cs) hS⟩
end

theorem calls_abs {P : Program} {f : FuncId} {fn : Func} {c : Code} {args : Array Value} {w : World} {R : Ending → World → Prop} (N : Nat) (hf : P.funcs[f]? = some fn) (hb : fn.body = some c) (hn : fn.ntmps = N) (hN : args.size ≤ N)
  (h : ∀ a, a.tmps.size = N → a.defers = [] → (∀ i, i < args.size → sl a i = args.getD i undef) → c.wp P (bodyPost P fn R) a w) : Calls P f args w R := by
 refine calls_of_wp hf hb (h _ ?_ rfl ?_)
 ·simp; omega
 ·intro i hi
  simp [sl, Array.getD_eq_getD_getElem?, Array.getElem?_append, hi]
def RetM (m : MP) (O : Bs) (w : World) (e : Ending) (w' : World) : Prop := ∃ v, e = .returned v ∧ m.S O w' v ∧ Below w.heap.size w w'
theorem RetM.imp {m m' : MP} {O : Bs} {w : World} {e : Ending} {w' : World} (hi : ∀ w v, m.S O w v → m'.S O w v) (h : RetM m O w e w') : RetM m' O w e w' := by
 obtain ⟨v, h1, h2, h3⟩ := h
 exact ⟨v, h1, hi _ _ h2, h3⟩
theorem Calls.imp {P : Program} {f : FuncId} {vs : Array Value} {w : World} {m m' : MP} {O : Bs} (h : Calls P f vs w (RetM m O w)) (hi : ∀ w v, m.S O w v → m'.S O w v) : Calls P f vs w (RetM m' O w) := h.mono fun _ _ r => r.imp hi
theorem cond_b {P : Program} {Q : Exit → Act → World → Prop} {a : Act} {w : World} {c : Operand} {x y : Code} (b : Bool) (hc : a.eval c = .bool b) (ht : b = true → x.wp P Q a w) (hf : b = false → y.wp P Q a w) : (Code.cond c x y).wp P Q a w := wp_cond_split hc ht hf
end Go.Proofs.YtcankknlbljicaaGreatDoor

namespace Go.Proofs.YtcankknlbljicaaGreatDoor
open Go.RowKit Num

structure RX where
 b : Option Nat
 F : Bs → World → Prop
 lt : ∀ O w g, F O w → b = some g → g < w.heap.size
 kept : ∀ O w w', Kp O w w' → (∀ g, b = some g → w'.heap[g]? = w.heap[g]?) → F O w → F O w'
 more : ∀ (O A : Bs) w, (∀ g, A g → w.heap.size ≤ g) → F O w → F (fun x => O x ∨ A x) w
 less : ∀ (O O' : Bs) w, (∀ g, O' g → O g) → F O w → F O' w
theorem bx.cg {O O' : Bs} {T : TypeId} {n : Nat} {m : MP} {w : World} {g : Nat} (hi : ∀ v, m.S O w v → m.S O' w v) (h : bx O T n m w g) : bx O' T n m w g := by
 obtain ⟨cs, h1, h2, h3, h4, h5⟩ := h
 exact ⟨cs, h1, h2, h3, h4, hi _ h5⟩
def RX.box (g : Nat) (T : TypeId) (n : Nat) (m : MP) : RX :=
 ⟨some g, fun O w => bx O T n m w g, fun _ _ _ h e => by cases e; exact h.lt, fun _ _ _ k hg h => h.kept k (hg g rfl), fun O A w hA h => h.cg fun v => m.more O A w v hA, fun O O' w hO h => h.cg fun v => m.less O O' w v hO⟩
def OB (O : Bs) (w : World) : Prop := ∀ g, O g → g < w.heap.size
theorem OB.mono {O : Bs} {w w' : World} (h : OB O w) (hs : w.heap.size ≤ w'.heap.size) : OB O w' := fun g hg => Nat.lt_of_lt_of_le (h g hg) hs
def SlOk (O : Bs) (w : World) (a : Act) (L : List (Nat × MP)) : Prop := ∀ p ∈ L, p.2.S O w (sl a p.1)
structure OwnOk (O : Bs) (W0 w : World) (X : List RX) : Prop where
 f : ∀ p ∈ X, p.F O w
 o : ∀ p ∈ X, ∀ g, p.b = some g → O g ∧ W0.heap.size ≤ g
 ap : X.Pairwise fun p q => ∀ g, p.b = some g → q.b ≠ some g
structure St (N : Nat) (O0 O : Bs) (W0 : World) (a : Act) (w : World) (L : List (Nat × MP)) (X : List RX) : Prop where
 z : a.tmps.size = N
 d : a.defers = []
 B : Below W0.heap.size W0 w
 s : SlOk O w a L
 x : OwnOk O W0 w X
 o : ∀ g, O0 g → O g
 ob : OB O w
 b0 : OB O0 W0
section
variable {N : Nat} {O O0 : Bs} {W0 w : World} {a : Act} {L : List (Nat × MP)} {X : List RX}
theorem St.sl (S : St N O0 O W0 a w L X) (k : Nat) {t : Nat} {m : MP} (h : L[k]? = some (t, m)) : m.S O w (Go.Proofs.YtcankknlbljicaaGreatDoor.sl a t) := S.s (t, m) (List.mem_of_getElem? h)
theorem St.e (S : St N O0 O W0 a w L X) (k : Nat) {t : Nat} {v : Value} (h : L[k]? = some (t, mV v)) : a.eval (.tmp t) = v := S.sl k h
theorem St.f (S : St N O0 O W0 a w L X) (k : Nat) {p : RX} (h : X[k]? = some p) : p.F O w := S.x.f p (List.mem_of_getElem? h)
theorem St.bx (S : St N O0 O W0 a w L X) (k : Nat) {g : Nat} {T : TypeId} {n : Nat} {m : MP} (h : X[k]? = some (.box g T n m)) : Go.Proofs.YtcankknlbljicaaGreatDoor.bx O T n m w g := S.f k h
theorem SlOk.kp {w' : World} (h : SlOk O w a L) (k : Kp O w w') : SlOk O w' a L := fun p hp => p.2.mono _ _ _ _ k (h p hp)
theorem OwnOk.below {w' : World} (h : OwnOk O W0 w X) (hb : Below w.heap.size w w') : OwnOk O W0 w' X :=
 ⟨fun p hp => p.kept O w w' (Kp.of hb) (fun g hg => hb.block g (p.lt O w g (h.f p hp) hg)) (h.f p hp), h.o, h.ap⟩
theorem SlOk.more (h : SlOk O w a L) {A : Bs} (hA : ∀ g, A g → w.heap.size ≤ g) : SlOk (fun x => O x ∨ A x) w a L := fun p hp => p.2.more O A w _ hA (h p hp)
theorem OwnOk.more (h : OwnOk O W0 w X) {A : Bs} (hA : ∀ g, A g → w.heap.size ≤ g) : OwnOk (fun x => O x ∨ A x) W0 w X :=
 ⟨fun p hp => p.more O A w hA (h.f p hp), fun p hp g hg => ⟨Or.inl (h.o p hp g hg).1, (h.o p hp g hg).2⟩, h.ap⟩
def setL (d : Nat) (m : MP) (L : List (Nat × MP)) : List (Nat × MP) := (d, m) :: L.filter fun p => p.1 != d
theorem SlOk.set {a' : Act} {d : Nat} {m : MP} (h : SlOk O w a L) (hd : m.S O w (Go.Proofs.YtcankknlbljicaaGreatDoor.sl a' d)) (hf : ∀ t, t ≠ d → Go.Proofs.YtcankknlbljicaaGreatDoor.sl a' t = Go.Proofs.YtcankknlbljicaaGreatDoor.sl a t) : SlOk O w a' (setL d m L) := by
 intro p hp
 rcases List.mem_cons.1 hp with rfl | hp
 ·exact hd
 ·obtain ⟨h1, h2⟩ := List.mem_filter.1 hp
  rw [hf p.1 (by simpa using h2)]
  exact h p h1
def AllSl (O : Bs) (w : World) (a : Act) : List (Nat × MP) → Prop
 | [] => True
 | p :: r => p.2.S O w (sl a p.1) ∧ AllSl O w a r
theorem AllSl.ok : ∀ {L : List (Nat × MP)}, AllSl O w a L → SlOk O w a L
 | [], _, p, hp => by cases hp
 | q :: r, h, p, hp => by
  rcases List.mem_cons.1 hp with rfl | hp
  ·exact h.1
  ·exact AllSl.ok h.2 p hp
def getL (L : List (Nat × MP)) (ks : List Nat) : List (Nat × MP) := ks.filterMap fun k => L[k]?
def getX (X : List RX) (ks : List Nat) : List RX := ks.filterMap fun k => X[k]?
theorem St.pick (S : St N O0 O W0 a w L X) (ks : List Nat) {L' : List (Nat × MP)} (h : L' = getL L ks) : St N O0 O W0 a w L' X := by
 subst h
 refine ⟨S.z, S.d, S.B, fun p hp => ?_, S.x, S.o, S.ob, S.b0⟩
 obtain ⟨k, _, hk⟩ := List.mem_filterMap.1 hp
 exact S.s p (List.mem_of_getElem? hk)
theorem St.to (S : St N O0 O W0 a w L X) {L' : List (Nat × MP)} (h : AllSl O w a L') : St N O0 O W0 a w L' X := ⟨S.z, S.d, S.B, h.ok, S.x, S.o, S.ob, S.b0⟩
def AllX (O : Bs) (w : World) : List RX → Prop
 | [] => True
 | p :: r => p.F O w ∧ AllX O w r
theorem AllX.ok : ∀ {X : List RX}, AllX O w X → ∀ p ∈ X, p.F O w
 | [], _, p, hp => by cases hp
 | q :: r, h, p, hp => by
  rcases List.mem_cons.1 hp with rfl | hp
  ·exact h.1
  ·exact AllX.ok h.2 p hp
theorem St.toX (S : St N O0 O W0 a w L X) {L' : List (Nat × MP)} {X' : List RX} (h : AllSl O w a L') (hx : AllX O w X') (hb : X'.map (·.b) = X.map (·.b) := by rfl) : St N O0 O W0 a w L' X' := by
 refine ⟨S.z, S.d, S.B, h.ok, ⟨hx.ok, fun p hp g e => ?_, ?_⟩, S.o, S.ob, S.b0⟩
 ·have : p.b ∈ X.map (·.b) := hb ▸ List.mem_map_of_mem hp
  obtain ⟨q, hq, hqb⟩ := List.mem_map.1 this
  exact S.x.o q hq g (hqb.trans e)
 ·have h1 : (X.map (·.b)).Pairwise fun p q => ∀ g, p = some g → q ≠ some g := List.pairwise_map.2 S.x.ap
  rw [← hb] at h1
  exact List.pairwise_map.1 h1
theorem St.new (S : St N O0 O W0 a w L X) {t : Nat} {v : Value} (h : Go.Proofs.YtcankknlbljicaaGreatDoor.sl a t = v) : St N O0 O W0 a w ((t, mV v) :: L) X :=
 ⟨S.z, S.d, S.B, fun p hp => by
  rcases List.mem_cons.1 hp with rfl | hp
  ·exact h
  ·exact S.s p hp, S.x, S.o, S.ob, S.b0⟩
theorem St.drop (S : St N O0 O W0 a w L X) {X' : List RX} (h : X'.Sublist X) : St N O0 O W0 a w L X' :=
 ⟨S.z, S.d, S.B, S.s, ⟨fun p hp => S.x.f p (h.subset hp), fun p hp => S.x.o p (h.subset hp), S.x.ap.sublist h⟩, S.o, S.ob, S.b0⟩
theorem St.reX (S : St N O0 O W0 a w L X) (k : Nat) {p q : RX} (hk : X[k]? = some p) (hb : q.b = p.b) (hq : q.F O w) : St N O0 O W0 a w L (X.set k q) := by
 obtain ⟨hlt, he⟩ := List.getElem?_eq_some_iff.1 hk
 have hg : ∀ (l : Nat) (hl : l < X.length), ((X.set k q)[l]'(by rw [List.length_set]; exact hl)).b = X[l].b := by
  intro l hl
  rw [List.getElem_set]
  by_cases hkl : k = l
  ·rw [if_pos hkl]; subst hkl; rw [hb, he]
  ·rw [if_neg hkl]
 refine ⟨S.z, S.d, S.B, S.s, ⟨?_, ?_, ?_⟩, S.o, S.ob, S.b0⟩
 ·intro r hr
  rcases List.mem_or_eq_of_mem_set hr with h | rfl
  ·exact S.x.f r h
  ·exact hq
 ·intro r hr
  rcases List.mem_or_eq_of_mem_set hr with h | rfl
  ·exact S.x.o r h
  ·intro g e; exact S.x.o p (List.mem_of_getElem? hk) g (hb ▸ e)
 ·rw [List.pairwise_iff_getElem]
  intro i j hi hj hij
  rw [List.length_set] at hi hj
  rw [hg i hi, hg j hj]
  exact List.pairwise_iff_getElem.1 S.x.ap i j hi hj hij
theorem St.add (S : St N O0 O W0 a w L X) {q : RX} (h1 : ∀ g, q.b = some g → O g ∧ W0.heap.size ≤ g) (h2 : q.F O w) (h3 : ∀ p ∈ X, ∀ g, q.b = some g → p.b ≠ some g) : St N O0 O W0 a w L (q :: X) :=
 ⟨S.z, S.d, S.B, S.s, ⟨fun p hp => by
  rcases List.mem_cons.1 hp with rfl | hp
  ·exact h2
  ·exact S.x.f p hp, fun p hp => by
  rcases List.mem_cons.1 hp with rfl | hp
  ·exact h1
  ·exact S.x.o p hp, List.pairwise_cons.2 ⟨h3, S.x.ap⟩⟩, S.o, S.ob, S.b0⟩
theorem St.more (S : St N O0 O W0 a w L X) {A : Bs} (hA : ∀ g, A g → w.heap.size ≤ g) {w' : World} {L' : List (Nat × MP)} (hb : Below w.heap.size w w') (hL : SlOk (fun x => O x ∨ A x) w' a L') (hA2 : ∀ g, A g → g < w'.heap.size) : St N O0 (fun x => O x ∨ A x) W0 a w' L' X :=
 ⟨S.z, S.d, S.B.trans (hb.mono S.B.size), hL, (S.x.more hA).below hb, fun g h => Or.inl (S.o g h), fun g h => h.elim (S.ob.mono hb.size g) (hA2 g), S.b0⟩
end
section
variable {P : Program} {ops : Array Oper} {rest : List Oper} {o : Oper} {a : Act} {w W0 : World} {Q : Exit → Act → World → Prop} {N : Nat} {O O0 : Bs} {L : List (Nat × MP)} {X : List RX}
theorem t_set (S : St N O0 O W0 a w L X) (m : MP) {v : Value} {d : Tmp} (hr : (execOp a.eval o).run P w = .ok (.value v) w) (hm : m.S O w v) (h : ∀ a', St N O0 O W0 a' w (setL d m L) X → wpList P ops Q rest a' w) (hg : o.guard = none := by rfl) (hd : o.dst = some d := by rfl) (hlt : d < N := by decide) : wpList P ops Q (o :: rest) a w :=
 tl_set hg hd hr (by rw [S.z]; exact hlt) fun a' z d' hs hf => h a' ⟨z.trans S.z, d'.trans S.d, S.B, S.s.set (by rw [hs]; exact hm) hf, S.x, S.o, S.ob, S.b0⟩
theorem t_ld (S : St N O0 O W0 a w L X) (k : Nat) {g n' : Nat} {T0 T : TypeId} {x : Operand} {td : TypeDesc} {m : MP} {d : Tmp} (hu : P.underlying T = some td) (hi : (P.info? T).map (·.size) = some n')
  (hx : a.eval x = .pointer (some ⟨g, 0, none⟩)) (h : ∀ a', St N O0 O W0 a' w (setL d m L) X → wpList P ops Q rest a' w) (hs : (match td with | .struct _ | .array _ _ => true | _ => false) = true := by rfl) (hk : X[k]? = some (.box g T0 n' m) := by rfl) (ho : o.op = .load T x := by rfl) (hg : o.guard = none := by rfl) (hd : o.dst = some d := by rfl) (hlt : d < N := by decide) : wpList P ops Q (o :: rest) a w := by
 obtain ⟨cs, h1, h2, h3, h4, h5⟩ := S.bx k hk
 exact t_set S m (run_load_row T x ho hx h1 hu hs (by rw [h2]; exact hi)) h5 h hg hd hlt
theorem t_new (S : St N O0 O W0 a w L X) {d : Tmp} {T : TypeId} {n : Nat} (m : MP) {cs : Array Value} (hr : (execOp a.eval o).run P w = .ok (.value (.pointer (some ⟨w.heap.size, 0, none⟩))) (w.alloc (.cells cs T)))
  (hm : ∀ O' w' g, (∀ v, m.S O w v → m.S O' w' v) → w'.heap[g]? = some (.cells cs T (0, 0)) → bx O' T n m w' g)
  (h : ∀ O' a' w' g, St N O0 O' W0 a' w' (setL d (mV (.pointer (some ⟨g, 0, none⟩))) L) (.box g T n m :: X) → wpList P ops Q rest a' w') (hg : o.guard = none) (hd : o.dst = some d) (hlt : d < N) : wpList P ops Q (o :: rest) a w :=
 tl_new hg hd hr (by rw [S.z]; exact hlt) fun a' w' g z d' hs hf hge hc hb => by
  have hA : ∀ x, x = g → w.heap.size ≤ x := fun x e => by rw [e, hge]; exact Nat.le_refl _
  have hlt' : g < w'.heap.size := (Array.getElem?_eq_some_iff.1 hc).1
  have S1 := S.more (A := fun x => x = g) hA hb ((S.s.more hA).kp (Kp.of hb)) (fun x e => e ▸ hlt')
  refine h (fun x => O x ∨ x = g) a' w' g (St.add ⟨z.trans S.z, d'.trans S.d, S1.B, S1.s.set hs hf, S1.x, S1.o, S1.ob, S1.b0⟩ (fun x e => by cases e; exact ⟨Or.inr rfl, by rw [hge]; exact S.B.size⟩) (hm _ w' g (fun v hv => m.mono _ _ _ _ (Kp.of hb) (m.more _ _ _ _ hA hv)) hc) fun p hp x e e2 => ?_)
  cases e
  have := p.lt _ _ _ (S.x.f p hp) e2
  omega
theorem St.put (S : St N O0 O W0 a w L X) (k : Nat) {g : Nat} {p q : RX} (hk : X[k]? = some p) (hpg : p.b = some g) {cs : Array Value} (kp : Kp O w (w.setRow g cs)) (hq : q.F O (w.setRow g cs)) (hb : q.b = some g) : St N O0 O W0 a (w.setRow g cs) L (X.set k q) := by
 obtain ⟨hlt, he⟩ := List.getElem?_eq_some_iff.1 hk
 have hO := S.x.o p (List.mem_of_getElem? hk) g hpg
 have hg : ∀ (l : Nat) (hl : l < X.length), ((X.set k q)[l]'(by rw [List.length_set]; exact hl)).b = X[l].b := by
  intro l hl
  rw [List.getElem_set]
  by_cases hkl : k = l
  ·rw [if_pos hkl]; subst hkl; rw [hb, he, hpg]
  ·rw [if_neg hkl]
 have hpw := List.pairwise_iff_getElem.1 S.x.ap
 refine ⟨S.z, S.d, below_row S.B hO.2 cs, S.s.kp kp, ⟨?_, ?_, ?_⟩, S.o, fun x hx => by rw [setRow_size]; exact S.ob x hx, S.b0⟩
 ·intro r hr
  obtain ⟨i, hi, rfl⟩ := List.getElem_of_mem hr
  rw [List.length_set] at hi
  rw [List.getElem_set]
  by_cases hik : k = i
  ·rw [if_pos hik]; exact hq
  ·rw [if_neg hik]
   refine (X[i]).kept O w _ kp (fun x hx => setRow_other w g x cs ?_) (S.x.f _ (List.getElem_mem hi))
   intro e
   subst e
   rcases Nat.lt_or_gt_of_ne hik with h1 | h1
   ·exact hpw k i hlt hi h1 x (by rw [he]; exact hpg) hx
   ·exact hpw i k hi hlt h1 x hx (by rw [he]; exact hpg)
 ·intro r hr
  obtain ⟨i, hi, rfl⟩ := List.getElem_of_mem hr
  rw [List.length_set] at hi
  rw [hg i hi]
  exact S.x.o _ (List.getElem_mem hi)
 ·rw [List.pairwise_iff_getElem]
  intro i j hi hj hij
  rw [List.length_set] at hi hj
  rw [hg i hi, hg j hj]
  exact hpw i j hi hj hij
theorem t_box (S : St N O0 O W0 a w L X) (k : Nat) {d : Tmp} {T : TypeId} {t : Tmp} {m : MP} {n : Nat} (hk : L[k]? = some (t, m)) (hcv : ∀ {v}, m.S O w v → cv n v)
  (h : ∀ O' a' w' g, St N O0 O' W0 a' w' (setL d (mV (.pointer (some ⟨g, 0, none⟩))) L) (.box g T n m :: X) → wpList P ops Q rest a' w') (ho : o.op = .box T (.tmp t) := by rfl) (hg : o.guard = none := by rfl) (hd : o.dst = some d := by rfl) (hlt : d < N := by decide) : wpList P ops Q (o :: rest) a w := by
 have hs := S.sl k hk
 obtain ⟨cs, he, h1, h2, h3⟩ := hcv hs
 rw [he] at hs
 exact t_new S m (run_box_op ho (ev he)) (fun O' w' g hi hh => ⟨cs, hh, h1, h2, h3, hi _ hs⟩) h hg hd hlt
theorem t_alloc (S : St N O0 O W0 a w L X) {d : Tmp} {T : TypeId} {z : Value} {n : Nat} {m : MP} (hz : ∀ w, (zeroValue T).run P w = .ok z w) (hm : ∀ O' w' g, w'.heap[g]? = some (.cells z.cells T (0, 0)) → bx O' T n m w' g)
  (h : ∀ O' a' w' g, St N O0 O' W0 a' w' (setL d (mV (.pointer (some ⟨g, 0, none⟩))) L) (.box g T n m :: X) → wpList P ops Q rest a' w') (ho : o.op = .alloc T := by rfl) (hg : o.guard = none := by rfl) (hd : o.dst = some d := by rfl) (hlt : d < N := by decide) : wpList P ops Q (o :: rest) a w :=
 t_new S m (run_alloc_op ho hz) (fun O' w' g _ hh => hm O' w' g hh) h hg hd hlt
theorem t_asg (S : St N O0 O W0 a w L X) (k : Nat) {d t : Tmp} {m : MP} (h : ∀ a', St N O0 O W0 a' w (setL d m L) X → wpList P ops Q rest a' w) (ho : o.op = .assign (.tmp t) := by rfl) (hk : L[k]? = some (t, m) := by rfl) (hg : o.guard = none := by rfl) (hd : o.dst = some d := by rfl) (hlt : d < N := by decide) : wpList P ops Q (o :: rest) a w :=
 t_set S m (run_assign ho) (S.sl k hk) h hg hd hlt
theorem t_asgC (S : St N O0 O W0 a w L X) {d : Tmp} {v : Value} (h : ∀ a', St N O0 O W0 a' w (setL d (mV v) L) X → wpList P ops Q rest a' w) (ho : o.op = .assign (.const v) := by rfl) (hg : o.guard = none := by rfl) (hd : o.dst = some d := by rfl) (hlt : d < N := by decide) : wpList P ops Q (o :: rest) a w :=
 t_set S (mV v) (run_assign ho) rfl h hg hd hlt
theorem t_sto (S : St N O0 O W0 a w L X) (i j k : Nat) {T : TypeId} {t u : Tmp} {g n : Nat} {T0 : TypeId} {m m0 : MP} (hj : L[j]? = some (u, m)) (hv : ∀ {v}, m.S O w v → cv n v)
  (h : ∀ w', St N O0 O W0 a w' L (X.set k (.box g T0 n m)) → wpList P ops Q rest a w') (hz : (P.info? T).map (·.size) = some n) (hk : X[k]? = some (.box g T0 n m0) := by rfl) (hi : L[i]? = some (t, mV (.pointer (some ⟨g, 0, none⟩))) := by rfl) (ho : o.op = .store T (.tmp t) (.tmp u) := by rfl) (hg : o.guard = none := by rfl) (hd : o.dst = none := by rfl) : wpList P ops Q (o :: rest) a w :=
 tl_put hg hd ho (S.x.o _ (List.mem_of_getElem? hk) g rfl).1 (S.bx k hk) (S.e i hi) (S.sl j hj) (hv (S.sl j hj)) hz fun cs kp hb => h _ (S.put k hk rfl kp (q := .box g T0 n m) hb rfl)
end

inductive GE where
 | m (x : MP)
 | al (T : TypeId) (n : Nat)
def GE.bp (O : Bs) (B : Nat) : GE → BP
 | .m x => x.b O
 | .al T n => mNew O B T n
def GE.fr : GE → Bool
 | .m x => x.fr
 | .al _ _ => true
def mM (O : Bs) (B : Nat) (G : List GE) : Nat → World → Value → Prop := mG (G.map (GE.bp O B))
theorem mM_at {O : Bs} {B : Nat} {G : List GE} {i : Nat} {m : GE} {w : World} {v : Value} (h : G[i]? = some m) : mM O B G i w v ↔ (m.bp O B).S w v := by
 unfold mM mG
 rw [List.getElem?_map, h]
 exact Iff.rfl
def srcL (ops : Array Oper) (n : Nat) (G : List GE) (L : List (Nat × MP)) (p : Bool × Nat) : Option (Nat × MP) :=
 if p.1 then if p.2 < n then (ops[p.2]?.bind (·.dst)).bind fun t => match G[p.2]? with
  | some (.m x) => some (t, x)
  | _ => none
  else none
 else L[p.2]?.bind fun q => if outB ops n q.1 then some q else none
def mapL (ops : Array Oper) (n : Nat) (G : List GE) (L : List (Nat × MP)) (J : List (Bool × Nat)) : List (Nat × MP) := J.filterMap (srcL ops n G L)
section
variable {P : Program} {ops : Array Oper} {a0 : Act} {W W0 : World} {Q : Exit → Act → World → Prop} {N n : Nat} {O O0 : Bs} {L L' : List (Nat × MP)} {X : List RX}
theorem src_ok {G : List GE} {a : Act} {w : World} {O' : Bs} (ms : MS W a0 (mM O W.heap.size G) ops n (fun _ => True) a w) (hG : ∀ m, GE.m m ∈ G → ∀ v, m.S O w v → m.S O' w v) (hL : SlOk O' w a0 L) (J : List (Bool × Nat)) : SlOk O' w a (mapL ops n G L J) := by
 intro p hp
 obtain ⟨j, _, h⟩ := List.mem_filterMap.1 hp
 obtain ⟨b, i⟩ := j
 unfold srcL at h
 cases b with
 | true =>
  simp only [if_true] at h
  split at h
  ·rename_i hi
   cases ho : ops[i]? with
   | none => rw [ho] at h; simp at h
   | some o =>
    cases hd : o.dst with
    | none => simp [ho, hd] at h
    | some t =>
     simp only [ho, hd, Option.bind_some] at h
     split at h
     ·rename_i x hG2
      obtain rfl := Option.some.inj h
      exact hG x (List.mem_of_getElem? hG2) _ ((mM_at hG2).1 (ms.g i o t ho hi trivial hd))
     ·cases h
  ·cases h
 | false =>
  simp only [Bool.false_eq_true, if_false] at h
  cases hk : L[i]? with
  | none => rw [hk] at h; cases h
  | some q =>
   rw [hk] at h
   simp only [Option.bind_some] at h
   split at h
   ·rename_i h2
    obtain rfl := Option.some.inj h
    rw [ms.fr q.1 (out_of h2)]
    exact hL q (List.mem_of_getElem? hk)
   ·cases h
theorem St.ms {G : List GE} {a : Act} {w : World} (S : St N O0 O W0 a0 W L X) (ms : MS W a0 (mM O W.heap.size G) ops n (fun _ => True) a w) (J : List (Bool × Nat)) : St N O0 O W0 a w (mapL ops n G L J) X :=
 ⟨ms.sz.trans S.z, ms.df.trans S.d, S.B.trans (ms.b.mono S.B.size), src_ok ms (fun _ _ _ h => h) (S.s.kp (Kp.of ms.b)) J, S.x.below ms.b, S.o, S.ob.mono ms.b.size, S.b0⟩
def bigO (O : Bs) (W : World) : Bs := fun x => O x ∨ W.heap.size ≤ x
structure AlF (O : Bs) (W : World) (ops : Array Oper) (n : Nat) (G : List GE) (a : Act) (w : World) : Prop where
 g : ∀ i {t : Nat} {T : TypeId} {k : Nat}, G[i]? = some (.al T k) → (if i < n then ops[i]?.bind (·.dst) else none) = some t → ∃ g, sl a t = .pointer (some ⟨g, 0, none⟩) ∧ W.heap.size ≤ g ∧ g < w.heap.size ∧ bx O T k mTop w g
 ne : ∀ i j {t u : Nat}, ((if i < n then ops[i]?.bind fun o => if isAl o then o.dst else none else none) = some t) → ((if j < n then ops[j]?.bind fun o => if isAl o then o.dst else none else none) = some u) → i ≠ j → sl a t ≠ sl a u
def grow (O : Bs) (W w : World) : Bs := fun x => O x ∨ (W.heap.size ≤ x ∧ x < w.heap.size)
theorem st_seq {id : Nat} (S : St N O0 O W0 a0 W L X) (n : Nat) (G : List GE) (J : List (Bool × Nat)) (hop : AllOk P Q W a0 (mM O W.heap.size G) ops n (ops.toList.take n) 0) (hL : mapL ops n G L J = L') (h : ∀ a w, St N O0 O W0 a w L' X → wpList P ops Q (ops.toList.drop n) a w) (hr : regS ops n N = true := by kernel_rfl) : (Code.region id ops false).wp P Q a0 W :=
 wp_region_seq n (mM O W.heap.size G) (by rw [S.z]; exact hr) (mG_mono _) (ops_ok hop) fun a w ms => h a w (hL ▸ S.ms ms J)
theorem st_mono {id : Nat} (S : St N O0 O W0 a0 W L X) (n : Nat) (G : List GE) (J : List (Bool × Nat)) (hop : AllOk P Q W a0 (mM O W.heap.size G) ops n (ops.toList.take n) 0) (hL : mapL ops n G L J = L') (h : ∀ a w, St N O0 O W0 a w L' X → wpList P ops Q (ops.toList.drop n) a w) (hm : P.follows .mixedOrders = true := by kernel_rfl) (hr : regB ops n [] N = true := by kernel_rfl) : (Code.region id ops true).wp P Q a0 W :=
 wp_region_mono n [] (mM O W.heap.size G) hm (by rw [S.z]; exact hr) (fun h => absurd rfl h) (mG_mono _) (ops_ok hop) fun a w ms => h a w (hL ▸ S.ms ms J)
structure Sr (N : Nat) (O : Bs) (W0 : World) (a : Act) (w : World) (L : List (Nat × MP)) (X : List RX) : Prop where
 z : a.tmps.size = N
 B : Below W0.heap.size W0 w
 s : SlOk O w a L
 f : ∀ p ∈ X, p.F O w
theorem St.r (S : St N O0 O W0 a0 W L X) : Sr N O W0 a0 W L X := ⟨S.z, S.B, S.s, S.x.f⟩
structure Cx (L : List (Nat × MP)) (X : List RX) (O : Bs) (W : World) (a0 : Act) (G : List GE) (ops : Array Oper) (n : Nat) (o : Oper) (a : Act) (w : World) : Prop where
 wb : Below W.heap.size W w
 f : ∀ t, Outside ops n t → sl a t = sl a0 t
 d : Deps (mM O W.heap.size G) ops o a w
 s : SlOk O W a0 L
 x : ∀ p ∈ X, p.F O W
def depF (G : List GE) (ops : Array Oper) (o : Oper) (p : Nat) : Option (Nat × MP) := match o.after.toList[p]? with
 | some e => if Region.binds .any e = true then (ops[e.on]?.bind (·.dst)).bind fun t => match G[e.on]? with
  | some (.m x) => some (t, x)
  | _ => none
  else none
 | none => none
theorem Cx.h {G : List GE} {o : Oper} {a : Act} {w : World} (c : Cx L X O W a0 G ops n o a w) (p : Nat) {t : Nat} {m : MP} (h : depF G ops o p = some (t, m)) : m.S O w (sl a t) := by
 unfold depF at h
 cases he : o.after.toList[p]? with
 | none => rw [he] at h; cases h
 | some e =>
  rw [he] at h
  simp only at h
  split at h
  ·rename_i hb
   cases ho : ops[e.on]? with
   | none => rw [ho] at h; simp at h
   | some oe =>
    cases hd : oe.dst with
    | none => simp [ho, hd] at h
    | some u =>
     simp only [ho, hd, Option.bind_some] at h
     split at h
     ·rename_i x hG
      obtain ⟨rfl, rfl⟩ := Prod.mk.inj (Option.some.inj h)
      exact (mM_at hG).1 (c.d.at p he hb ho hd)
     ·cases h
  ·cases h
def outF (L : List (Nat × MP)) (ops : Array Oper) (n k : Nat) : Option (Nat × MP) := L[k]?.bind fun p => if outB ops n p.1 = true then some p else none
theorem Cx.o {G : List GE} {o : Oper} {a : Act} {w : World} (c : Cx L X O W a0 G ops n o a w) (k : Nat) {t : Nat} {m : MP} (h : outF L ops n k = some (t, m)) : m.S O w (sl a t) := by
 unfold outF at h
 cases hk : L[k]? with
 | none => rw [hk] at h; cases h
 | some p =>
  rw [hk] at h
  simp only [Option.bind_some] at h
  split at h
  ·rename_i ho
   obtain rfl := Option.some.inj h
   rw [c.f t (out_of ho)]
   exact m.mono _ _ _ _ (Kp.of c.wb) (c.s _ (List.mem_of_getElem? hk))
  ·cases h
theorem Cx.e {G : List GE} {o : Oper} {a : Act} {w : World} (c : Cx L X O W a0 G ops n o a w) (p : Nat) {t : Nat} {v : Value} (h : depF G ops o p = some (t, mV v)) : a.eval (.tmp t) = v := c.h p h
theorem Cx.q {G : List GE} {o : Oper} {a : Act} {w : World} (c : Cx L X O W a0 G ops n o a w) (k : Nat) {t : Nat} {v : Value} (h : outF L ops n k = some (t, mV v)) : a.eval (.tmp t) = v := c.o k h
theorem Cx.own {G : List GE} {o : Oper} {a : Act} {w : World} (c : Cx L X O W a0 G ops n o a w) (k : Nat) {p : RX} (h : X[k]? = some p) : p.F O w :=
 have hF := c.x p (List.mem_of_getElem? h)
 p.kept O W w (Kp.of c.wb) (fun g hg => c.wb.block g (p.lt O W g hF hg)) hF
theorem Cx.bx {G : List GE} {o : Oper} {a : Act} {w : World} (c : Cx L X O W a0 G ops n o a w) (k : Nat) {g : Nat} {T : TypeId} {n' : Nat} {m : MP} (h : X[k]? = some (.box g T n' m)) : Go.Proofs.YtcankknlbljicaaGreatDoor.bx O T n' m w g := c.own k h
theorem Sr.cx (S : Sr N O W0 a0 W L X) {G : List GE} {o : Oper} {a : Act} {w : World} (hb : Below W.heap.size W w) (hf : ∀ t, Outside ops n t → Go.Proofs.YtcankknlbljicaaGreatDoor.sl a t = Go.Proofs.YtcankknlbljicaaGreatDoor.sl a0 t) (hd : Deps (mM O W.heap.size G) ops o a w) : Cx L X O W a0 G ops n o a w := ⟨hb, hf, hd, S.s, S.f⟩
theorem St.obc (S : St N O0 O W0 a0 W L X) {w : World} (hb : Below W.heap.size W w) : OB O w := S.ob.mono hb.size
section
variable {G : List GE} {i : Nat} {o : Oper} {m : MP}
theorem opP (S : Sr N O W0 a0 W L X) (h : ∀ {a w}, Cx L X O W a0 G ops n o a w → ∃ v, (execOp a.eval o).run P w = .ok (.value v) w ∧ m.S O w v) (hg : o.guard = none := by rfl) (hA : isAl o = false := by rfl) (hm : G[i]? = some (.m m) := by rfl) : OpOk P Q W a0 (mM O W.heap.size G) ops n i o :=
 opk_pure hg hA fun a w hb hf hd => by
  obtain ⟨v, h1, h2⟩ := h (S.cx hb hf hd)
  exact ⟨v, h1, fun _ _ => (mM_at hm).2 h2⟩
theorem opV (S : Sr N O W0 a0 W L X) {v : Value} (h : ∀ {a w}, Cx L X O W a0 G ops n o a w → (execOp a.eval o).run P w = .ok (.value v) w) (hg : o.guard = none := by rfl) (hA : isAl o = false := by rfl) (hm : G[i]? = some (.m (mV v)) := by rfl) : OpOk P Q W a0 (mM O W.heap.size G) ops n i o :=
 opP S (fun c => ⟨v, h c, rfl⟩) hg hA hm
theorem opE (S : Sr N O W0 a0 W L X) {v : Value} (h : ∀ {a w}, Cx L X O W a0 G ops n o a w → ∃ u, (execOp a.eval o).run P w = .ok (.value u) w ∧ u = v) (hg : o.guard = none := by rfl) (hA : isAl o = false := by rfl) (hm : G[i]? = some (.m (mV v)) := by rfl) : OpOk P Q W a0 (mM O W.heap.size G) ops n i o :=
 opP S (fun c => h c) hg hA hm
theorem opC (S : Sr N O W0 a0 W L X) {f : FuncId} {xs : Array Operand} {ts : Array TypeId} (ho : o.op = .call { callee := .value (.func f), args := xs, argTypes := ts })
  (h : ∀ {a w}, Cx L X O W a0 G ops n o a w → Below W0.heap.size W0 w → ∃ vs, xs.map a.eval = vs ∧ Calls P f vs w (RetM m O w)) (hg : o.guard = none := by rfl) (hA : isAl o = false := by rfl) (hm : G[i]? = some (.m m) := by rfl) (hc : ∀ vs w, (callFunc f vs).run P w = .ok (.enter f vs) w := by intro _ _; kernel_rfl) : OpOk P Q W a0 (mM O W.heap.size G) ops n i o :=
 opk_call hg hA fun a w hb hf hd => by
  obtain ⟨vs, h1, h2⟩ := h (S.cx hb hf hd) (S.B.trans (hb.mono S.B.size))
  refine ⟨f, vs, run_call ho rfl hc h1, h2.mono fun _ w' r => ?_⟩
  obtain ⟨v, r1, r2, r3⟩ := r
  exact ⟨v, r1, fun _ _ => (mM_at hm).2 r2, r3⟩
theorem opL (S : Sr N O W0 a0 W L X) (k : Nat) {g n' : Nat} {T0 T : TypeId} {x : Operand} {d : TypeDesc} (hu : P.underlying T = some d) (hi : (P.info? T).map (·.size) = some n')
  (hx : ∀ {a w}, Cx L X O W a0 G ops n o a w → a.eval x = .pointer (some ⟨g, 0, none⟩)) (hd : (match d with | .struct _ | .array _ _ => true | _ => false) = true := by rfl) (hk : X[k]? = some (.box g T0 n' m) := by rfl) (hm : G[i]? = some (.m m) := by rfl) (ho : o.op = .load T x := by rfl) (hg : o.guard = none := by rfl) (hA : isAl o = false := by rfl) : OpOk P Q W a0 (mM O W.heap.size G) ops n i o :=
 opP S (fun {a w} c => by
  obtain ⟨cs, h1, h2, h3, h4, h5⟩ := c.bx k hk
  exact ⟨_, run_load_row T x ho (hx c) h1 hu hd (by rw [h2]; exact hi), h5⟩) hg hA hm
theorem opG (S : Sr N O W0 a0 W L X) {b want γ : Bool} {j t : Nat} (p : Nat) (h : γ = true → OpOk P Q W a0 (mM O W.heap.size (G.set i (.m m))) ops n i { o with guard := none }) (hγ : γ = (b == want)) (hg : o.guard = some (j, want) := by rfl) (hA : isAl o = false := by rfl) (hm : G[i]? = some (.m (mIf γ m)) := by rfl) (hd : depF G ops o p = some (t, mV (.bool b)) := by rfl) (hj : (ops[j]?.bind (·.dst)) = some t := by rfl) (hlt : t < N := by decide) : OpOk P Q W a0 (mM O W.heap.size G) ops n i o := by
 cases hoj : ops[j]? with
 | none => rw [hoj] at hj; cases hj
 | some oj =>
  rw [hoj] at hj
  refine opk_guard b hg hA hoj hj (by rw [S.z]; exact hlt) (fun a w hb hf hdp => (S.cx hb hf hdp).h p hd) (fun hne w => (mM_at hm).2 fun h1 => absurd (by rw [hγ] at h1; simpa using h1) hne) fun hbw => ?_
  have hγt : γ = true := by rw [hγ, hbw]; simp
  have hi : i < G.length := (List.getElem?_eq_some_iff.1 hm).1
  have e0 : (G.set i (.m m))[i]? = some (.m m) := by rw [List.getElem?_set_self hi]
  have e1 : ∀ {k w v}, mM O W.heap.size G k w v → mM O W.heap.size (G.set i (.m m)) k w v := by
   intro k w v hk
   by_cases e : i = k
   ·subst e
    exact (mM_at e0).2 ((mM_at hm).1 hk hγt)
   ·unfold mM mG at hk ⊢; rw [List.getElem?_map, List.getElem?_set_ne e, ← List.getElem?_map]; exact hk
  have e2 : ∀ {w v}, mM O W.heap.size (G.set i (.m m)) i w v → mM O W.heap.size G i w v := fun hk => (mM_at hm).2 fun _ => (mM_at e0).1 hk
  intro a w hb hs hf hd2
  have h2 := h hγt a w hb hs hf (fun e he hbe oe t hoe hte => e1 (hd2 e he hbe oe t hoe hte))
  split at h2
  ·rename_i hw
   rw [if_pos hw]
   refine Oper.wp_mono ?_ h2
   rintro a' w' ⟨v, h3, h4, h5, h6⟩
   exact ⟨v, h3, h4, fun t ht => e2 (h5 t ht), h6⟩
  ·rename_i hw
   rw [if_neg hw]
   exact ⟨e2 h2.1, h2.2⟩
theorem gT {b : Bool} : b = (b == true) := by cases b <;> rfl
theorem gF {b : Bool} : (!b) = (b == false) := by cases b <;> rfl
theorem opT (S : Sr N O W0 a0 W L X) {b want : Bool} {j t : Nat} (p : Nat) (h : OpOk P Q W a0 (mM O W.heap.size G) ops n i { o with guard := none }) (hg : o.guard = some (j, want) := by rfl) (hA : isAl o = false := by rfl) (hd : depF G ops o p = some (t, mV (.bool b)) := by rfl) (hj : (ops[j]?.bind (·.dst)) = some t := by rfl) (hlt : t < N := by decide) (hb : b = want := by rfl) : OpOk P Q W a0 (mM O W.heap.size G) ops n i o := by
 cases hoj : ops[j]? with
 | none => rw [hoj] at hj; cases hj
 | some oj =>
  rw [hoj] at hj
  exact opk_guard b hg hA hoj hj (by rw [S.z]; exact hlt) (fun a w hb hf hdp => (S.cx hb hf hdp).h p hd) (fun hne => absurd hb hne) fun _ => h
end
end

def AllA (O : Bs) (w : World) : List MP → List Value → Prop
 | [], _ => True
 | _ :: _, [] => False
 | m :: ms, v :: vs => m.S O w v ∧ AllA O w ms vs
def numL : Nat → List MP → List (Nat × MP)
 | _, [] => []
 | i, m :: ms => (i, m) :: numL (i + 1) ms
theorem numL_ok {O : Bs} {w : World} {a : Act} : ∀ (ms : List MP) (vs : List Value) (i : Nat), AllA O w ms vs → (∀ j, j < vs.length → sl a (i + j) = vs.getD j undef) → SlOk O w a (numL i ms)
 | [], _, _, _, _ => fun p hp => by cases hp
 | m :: ms, [], _, h, _ => h.elim
 | m :: ms, v :: vs, i, h, hs => fun p hp => by
  rcases List.mem_cons.1 hp with rfl | hp
  ·have := hs 0 (by simp)
   rw [show i + 0 = i from rfl] at this
   show m.S O w (sl a i)
   rw [this]
   exact h.1
  ·refine numL_ok ms vs (i + 1) h.2 (fun j hj => ?_) p hp
   have := hs (j + 1) (by simpa using hj)
   rw [show i + (j + 1) = i + 1 + j by omega] at this
   simpa using this
theorem st_start {P : Program} {f : FuncId} {fn : Func} {c : Code} {args : Array Value} {w : World} {R : Ending → World → Prop} {O : Bs} (N : Nat) (hf : P.funcs[f]? = some fn) (ms : List MP) (hm : AllA O w ms args.toList) (ho : OB O w)
  (h : ∀ a, St N O O w a w (numL 0 ms) [] → c.wp P (bodyPost P fn R) a w) (hb : fn.body = some c := by rfl) (hn : fn.ntmps = N := by rfl) (hN : args.size ≤ N := by simp) : Calls P f args w R :=
 calls_abs N hf hb hn hN fun a z d ha => h a ⟨z, d, Below.refl _ _, numL_ok ms _ 0 hm fun j hj => by
  have := ha j (by simpa using hj)
  rw [Nat.zero_add, this]
  simp [Array.getD_eq_getD_getElem?, List.getD_eq_getElem?_getD], ⟨fun p hp => by (cases hp), fun p hp => by (cases hp), List.Pairwise.nil⟩, fun _ h => h, ho, ho⟩
theorem st_loop {P : Program} {c : Code} {Q : Exit → Act → World → Prop} {a : Act} {w W0 : World} {N : Nat} {O O0 : Bs} {τ : Type} (Lf : τ → List (Nat × MP)) (Xf : τ → List RX) (pure : τ → Prop) (meas : τ → Nat) (x0 : τ) (h0 : pure x0) (S : St N O0 O W0 a w (Lf x0) (Xf x0))
  (h : ∀ x O a w, pure x → St N O0 O W0 a w (Lf x) (Xf x) → c.wp P (Exit.then (fun a' w' => ∃ x', meas x' < meas x ∧ pure x' ∧ ∃ O', St N O0 O' W0 a' w' (Lf x') (Xf x')) Q) a w) : (Code.loop c).wp P Q a w :=
 wp_loop_ghost (fun n a w => ∃ x, n = meas x ∧ pure x ∧ ∃ O, St N O0 O W0 a w (Lf x) (Xf x)) _ ⟨x0, rfl, h0, O, S⟩ fun n a w ⟨x, hn, hp, O, S⟩ => by
  subst hn
  refine wp_mono (h x O a w hp S) fun e a' w' hq => ?_
  cases e with
  | normal =>
   obtain ⟨x', h1, h2, h3⟩ := hq
   exact ⟨_, h1, x', rfl, h2, h3⟩
  | exit id => exact hq
  | goto l => exact hq
  | ret => exact hq
  | panic ch => exact hq
  | outgrown => exact hq
theorem run_v {P : Program} {ρ : Operand → Value} {o : Oper} {w : World} {v u : Value} (h : (execOp ρ o).run P w = .ok (.value v) w) (e : v = u) : (execOp ρ o).run P w = .ok (.value u) w := e ▸ h
theorem run_b {P : Program} {ρ : Operand → Value} {o : Oper} {w : World} {x y : Bool} (h : (execOp ρ o).run P w = .ok (.value (.bool x)) w) (e : x = y) : (execOp ρ o).run P w = .ok (.value (.bool y)) w := e ▸ h
theorem run_be {P : Program} {ρ : Operand → Value} {o : Oper} {w : World} {x y : Bool} (h : ∃ u, (execOp ρ o).run P w = .ok (.value u) w ∧ u = .bool x) (e : x = y) : ∃ u, (execOp ρ o).run P w = .ok (.value u) w ∧ u = .bool y := e ▸ h
theorem ext_0 {P : Program} {a : Act} {o : Oper} {w w' : World} {t : Tmp} {m1 m2 : MP} {O : Bs} (ho : o.op = .extract (.tmp t) 0) (h : (mT m1 m2).S O w' (sl a t)) : ∃ v, (execOp a.eval o).run P w = .ok (.value v) w ∧ m1.S O w' v := by
 obtain ⟨x, y, h1, h2, h3⟩ := h
 exact ⟨_, run_extract_op ho (ev h1) rfl, h2⟩
theorem ext_1 {P : Program} {a : Act} {o : Oper} {w w' : World} {t : Tmp} {m1 m2 : MP} {O : Bs} (ho : o.op = .extract (.tmp t) 1) (h : (mT m1 m2).S O w' (sl a t)) : ∃ v, (execOp a.eval o).run P w = .ok (.value v) w ∧ m2.S O w' v := by
 obtain ⟨x, y, h1, h2, h3⟩ := h
 exact ⟨_, run_extract_op ho (ev h1) rfl, h3⟩
section
variable {P : Program} {a : Act} {w W0 : World} {N : Nat} {O O0 : Bs} {L : List (Nat × MP)} {X : List RX} {fn : Func}
theorem st_endT {p : Tmp} {m m' : MP} (S : St N O0 O W0 a w L X) (i : Nat) (hi : L[i]? = some (p, m)) (hR : ∀ v, m.S O0 w v → m'.S O0 w v) (hf : fn.results = #[.tmp p] := by rfl) : bodyPost P fn (RetM m' O0 W0) .ret a w :=
 ⟨S.d, _, results_tmp hf a.tmps P w, _, rfl, hR _ (m.less _ _ _ _ S.o (S.sl i hi)), S.B⟩
theorem st_end2 {p t : Tmp} {T T0 : TypeId} {d : TypeDesc} {g n : Nat} {m m1 m' : MP} (S : St N O0 O W0 a w L X) (i k j : Nat) (hk : X[k]? = some (.box g T0 n m)) (hj : L[j]? = some (t, m1)) (hu : P.underlying T = some d) (hz : (P.info? T).map (·.size) = some n) (hR : ∀ v u, m.S O0 w v → m1.S O0 w u → m'.S O0 w (.tuple #[v, u])) (hf : fn.results = #[.cell p T, .tmp t] := by rfl) (hs : (match d with | .struct _ | .array _ _ => true | _ => false) = true := by rfl) (hi : L[i]? = some (p, mV (.pointer (some ⟨g, 0, none⟩))) := by rfl) : bodyPost P fn (RetM m' O0 W0) .ret a w := by
 obtain ⟨cs, h1, h2, h3, h4, h5⟩ := S.bx k hk
 refine ⟨S.d, .tuple #[.agg cs, sl a t], ?_, _, rfl, hR _ _ (m.less _ _ _ _ S.o h5) (m1.less _ _ _ _ S.o (S.sl j hj)), S.B⟩
 have hp' : a.tmps[p]?.getD undef = .pointer (some ⟨g, 0, none⟩) := by simpa [Go.Proofs.YtcankknlbljicaaGreatDoor.sl, Act.eval] using S.e i hi
 simp [results, hf, hp', asAddr, run_loadVar_row w g T0 T cs (0, 0) d h1 hu hs (by rw [h2]; exact hz), Go.Proofs.YtcankknlbljicaaGreatDoor.sl]
end
end Go.Proofs.YtcankknlbljicaaGreatDoor
