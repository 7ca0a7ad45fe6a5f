/-  -/
import Derived.Test.YtcankknlbljicaaGreatDoorWeb
import Derived.Test.YtcankknlbljicaaGreatDoorWdb
import Derived.Test.YtcankknlbljicaaGreatDoorW3
import Derived.Test.YtcankknlbljicaaGreatDoorWbf

set_option linter.unusedVariables false
set_option linter.unusedSimpArgs false
set_option linter.unusedSectionVars false
set_option maxRecDepth 100000
set_option maxHeartbeats 3200000

namespace Go.Proofs.YtcankknlbljicaaGreatDoor
open Go.RowKit Num
variable {O : Bs}

def isK (q : Rat) (k : Nat) (cn : Bool) (w : World) (v : Value) : Prop := ∃ b ao c xs ad d ds, v = .agg #[.bool b, .slice ao xs.length c, .slice ad ds.length d] ∧ Rq w b ao c xs ad d ds q k ∧ (cn = true ↔ canon b xs ds)
theorem isK.ext {q : Rat} {k : Nat} {cn : Bool} {w w' : World} {v : Value} (he : Ext w w') (h : isK q k cn w v) : isK q k cn w' v := by
 obtain ⟨b, ao, c, xs, ad, d, ds, rfl, h1, h2⟩ := h
 exact ⟨b, ao, c, xs, ad, d, ds, rfl, ⟨h1.rn.ext he, h1.rd.ext he, h1.vq, h1.ln, h1.ld⟩, h2⟩
def mK (q : Rat) (k : Nat) (cn : Bool) : MP := MP.of (isK q k cn) fun _ _ _ he h => h.ext he
theorem isK.r {q : Rat} {k : Nat} {cn : Bool} {w : World} {v : Value} (h : isK q k cn w v) : isR q k w v := by
 obtain ⟨b, ao, c, xs, ad, d, ds, rfl, h1, h2⟩ := h
 exact ⟨b, ao, c, xs, ad, d, ds, rfl, h1⟩
theorem isR.k {q : Rat} {k : Nat} {w : World} {v : Value} (h : isR q k w v) : ∃ cn, isK q k cn w v := by
 obtain ⟨b, ao, c, xs, ad, d, ds, rfl, h1⟩ := h
 exact ⟨@decide (canon b xs ds) (Classical.propDecidable _), b, ao, c, xs, ad, d, ds, rfl, h1, by simp⟩
theorem isC.k {q : Rat} {k : Nat} {w : World} {v : Value} (h : isC q k w v) : isK q k true w v := by
 obtain ⟨b, ao, c, xs, ad, d, ds, he, h1⟩ := h.r
 obtain ⟨ao', c', ad', d', he', h2, h3, h4⟩ := h
 subst he
 have e1 := Value.agg.inj he'
 simp only [Array.mk.injEq, List.cons.injEq, Value.bool.injEq, Value.slice.injEq, and_true] at e1
 obtain ⟨rfl, ⟨rfl, e2, rfl⟩, ⟨rfl, e3, rfl⟩⟩ := e1
 refine ⟨_, ao, c, nd q.num.natAbs, ad, d, nd q.den, by rw [e2, e3], ⟨h2, h3, by rw [val_nd, val_nd]; unfold rv; rw [iv_self]; exact Rat.mkRat_self q, h4.1, h4.2⟩, ?_⟩
 rw [canon_iff h2.dg h3.dg (q := q) (by rw [val_nd, val_nd]; unfold rv; rw [iv_self]; exact Rat.mkRat_self q)]
 simp
theorem isK.cv {q : Rat} {k : Nat} {cn : Bool} {w : World} {v : Value} (h : isK q k cn w v) : cv 3 v := h.r.cv
theorem isE.r {q : Rat} {er : Int} {k : Nat} {w : World} {v : Value} (h : isE q er k w v) : isR (if er = 0 then q else 0) k w v := by
 by_cases he : er = 0
 ·subst he; rw [if_pos rfl]; exact h.ok.r
 ·obtain ⟨ao, c, ad, d, rfl, h1, h2, h3⟩ := h
  rw [if_neg he]
  refine ⟨_, ao, c, _, ad, d, _, rfl, h1, h2, ?_, ?_, ?_⟩
  ·unfold rdn; rw [if_neg he]; exact rv_zero _ _
  ·unfold rnm; rw [if_neg he]; exact Nat.zero_le _
  ·unfold rdn; rw [if_neg he]; exact Nat.zero_le _
theorem isE.of {q : Rat} {k : Nat} {w : World} {v : Value} (h : isC q k w v) : isE q 0 k w v := by
 obtain ⟨ao, c, ad, d, rfl, h1, h2, h3⟩ := h
 exact ⟨ao, c, ad, d, rfl, h1, h2, fun _ => h3⟩
theorem isE.zero {q : Rat} {er : Int} {k : Nat} {w : World} (he : er ≠ 0) : isE q er k w (.agg #[.bool false, .slice none 0 0, .slice none 0 0]) := by
 have e1 : rnm q er = [] := by unfold rnm; rw [if_neg he]
 have e2 : rdn q er = [] := by unfold rdn; rw [if_neg he]
 have e3 : rsg q er = false := by unfold rsg; simp [he]
 refine ⟨none, 0, none, 0, by rw [e1, e2, e3]; rfl, ?_, ?_, fun h => absurd h he⟩
 ·rw [e1]; exact Rd.nil (by omega) (fun _ => rfl)
 ·rw [e2]; exact Rd.nil (by omega) (fun _ => rfl)
theorem isZ.r {w : World} {v : Value} (h : isZ v) : isR 0 0 w v :=
 ⟨false, none, 0, [], none, 0, [], h, Rd.nil (by omega) (fun _ => rfl), Rd.nil (by omega) (fun _ => rfl), rv_zero _ _, Nat.le_refl _, Nat.le_refl _⟩
theorem isZ.e {q : Rat} {er : Int} {k : Nat} {w : World} {v : Value} (he : er ≠ 0) (h : isZ v) : isE q er k w v := h ▸ isE.zero he
theorem isC.e {q : Rat} {er : Int} {k : Nat} {w : World} {v : Value} (he : er = 0) (h : isC q k w v) : isE q er k w v := he ▸ isE.of h
theorem isE.mono {q : Rat} {er : Int} {k m : Nat} {w : World} {v : Value} (h : isE q er k w v) (hk : k ≤ m) : isE q er m w v := by
 obtain ⟨ao, c, ad, d, rfl, h1, h2, h3⟩ := h
 exact ⟨ao, c, ad, d, rfl, h1, h2, fun e => (h3 e).mono hk⟩
theorem RetRat.s {q : Rat} {k : Nat} {w : World} {e : Ending} {w' : World} (hs : Sz q k) (h : RetRat q w e w') : RetM (mC q k) O w e w' := by
 obtain ⟨ao, c, ad, d, rfl, h1, h2, h3⟩ := h
 exact ⟨_, rfl, ⟨ao, c, ad, d, rfl, h1.rd, h2.rd, hs⟩, h3⟩
theorem RetRatE.s {q : Rat} {er : Int} {k : Nat} {w : World} {e : Ending} {w' : World} (hs : Sz q k) (h : RetRatE q er w e w') : RetM (mT (mE q er k) (mV (.int .i64 er))) O w e w' := by
 obtain ⟨ao, c, ad, d, rfl, h1, h2, h3⟩ := h
 exact ⟨_, rfl, ⟨_, _, rfl, ⟨ao, c, ad, d, rfl, h1.rd, h2.rd, fun _ => hs⟩, rfl⟩, h3⟩
theorem RetB.s {x : Value} {w : World} {e : Ending} {w' : World} (h : RetB x w e w') : RetM (mV x) O w e w' := by
 obtain ⟨rfl, h⟩ := h
 exact ⟨_, rfl, rfl, h⟩
theorem Sz.zero : Sz 0 1 := ⟨nd_length_le (show (0 : Nat) < 4294967296 ^ 1 by omega), nd_length_le (show (1 : Nat) < 4294967296 ^ 1 by omega)⟩
theorem Sz.int {z : Int} {k : Nat} (h : z.natAbs < 4294967296 ^ k) (hk : 1 ≤ k) : Sz ((z : Int) : Rat) k := by
 refine ⟨nd_length_le h, nd_length_le ?_⟩
 show 1 < 4294967296 ^ k
 exact Nat.one_lt_pow (by omega) (by omega)
theorem isR.sz {q : Rat} {k : Nat} {w : World} {v : Value} (h : isR q k w v) : Sz q (k + 1) := by
 obtain ⟨b, ao, c, xs, ad, d, ds, rfl, h1⟩ := h
 exact h1.sz

theorem r_trim {q : Rat} {k : Nat} (hk : k ≤ 9999999999) {v : Value} {w : World} (h : isR q k w v) : Calls Tryz.prog 19 #[v] w (RetM (mC q (k + 1)) O w) := by
 obtain ⟨b, ao, c, xs, ad, d, ds, rfl, h1⟩ := h
 exact (rtrim3_any h1 (by omega)).mono fun _ _ r => RetRat.s h1.sz r
def bitE (j : Int) : Int := if j < 0 ∨ 256 < j then 1 else 0
def dnE (q : Rat) (j : Int) : Rat := if j < 0 ∨ 256 < j then 0 else dnQ q j.toNat
def upE (q : Rat) (j : Int) : Rat := if j < 0 ∨ 256 < j then 0 else upQ q j.toNat
theorem r_same {q p : Rat} {k m : Nat} {cn : Bool} {v u : Value} {w : World} (h : isK q k cn w v) (g : isC p m w u) : Calls Tryz.prog 17 #[v, u] w (RetM (mV (.bool (cn && decide (q = p)))) O w) := by
 obtain ⟨b, ao, c, xs, ad, d, ds, rfl, h1, h2⟩ := h
 obtain ⟨ao', c', ad', d', rfl, g1, g2, _⟩ := g
 refine (same3_any b _ ao ad ao' ad' c d c' d' xs ds _ _ (cn && decide (q = p)) w h1.rn h1.rd g1 g2 ?_).mono fun _ _ r => RetB.s r
 rw [Bool.and_eq_true, decide_eq_true_eq, h2, canon_iff h1.rn.dg h1.rd.dg h1.vq]
 constructor
 ·rintro ⟨h3, rfl⟩; exact h3
 ·intro h3
  have e : q = p := by
   rw [← h1.vq, h3.1.1, h3.1.2, h3.2, val_nd, val_nd]; unfold rv; rw [iv_self]; exact Rat.mkRat_self p
  subst e
  exact ⟨h3, rfl⟩
theorem r_sameC {q : Rat} {k m : Nat} {v u : Value} {w : World} (h : isC q k w v) (g : isC q m w u) : Calls Tryz.prog 17 #[v, u] w (RetM (mV (.bool true)) O w) :=
 (r_same h.k g).mono fun _ _ r => by simpa using r
theorem r_sameE {q : Rat} {er : Int} {k m : Nat} {v u : Value} {w : World} (h : isE q er k w v) (g : isE q er m w u) : Calls Tryz.prog 17 #[v, u] w (RetM (mV (.bool true)) O w) := by
 obtain ⟨ao, c, ad, d, rfl, h1, h2, _⟩ := h
 obtain ⟨ao', c', ad', d', rfl, g1, g2, _⟩ := g
 exact (same3_any _ _ ao ad ao' ad' c d c' d' _ _ _ _ true w h1 h2 g1 g2 (by simp)).mono fun _ _ r => RetB.s r
def isS (s : Bool) (w : World) (v : Value) : Prop := ∃ b ao c xs ad d ds, v = .agg #[.bool b, .slice ao xs.length c, .slice ad ds.length d] ∧ Rd w ao c xs ∧ Rd w ad d ds ∧ (s = true ↔ xs.length ≤ 4 ∧ ds.length ≤ 4)
theorem isS.ext {s : Bool} {w w' : World} {v : Value} (he : Ext w w') (h : isS s w v) : isS s w' v := by
 obtain ⟨b, ao, c, xs, ad, d, ds, rfl, h1, h2, h3⟩ := h
 exact ⟨b, ao, c, xs, ad, d, ds, rfl, h1.ext he, h2.ext he, h3⟩
def mS (s : Bool) : MP := MP.of (isS s) fun _ _ _ he h => h.ext he
theorem isS.cv {s : Bool} {w : World} {v : Value} (h : isS s w v) : cv 3 v := by
 obtain ⟨b, ao, c, xs, ad, d, ds, rfl, h1, h2, h3⟩ := h
 exact ⟨_, rfl, rfl, noU3, by simp [Value.oneCell']⟩
theorem isS.r {w : World} {v : Value} (h : isS true w v) : ∃ q, isR q 4 w v := by
 obtain ⟨b, ao, c, xs, ad, d, ds, rfl, h1, h2, h3⟩ := h
 have h4 := h3.1 rfl
 exact ⟨_, b, ao, c, xs, ad, d, ds, rfl, h1, h2, rfl, h4.1, h4.2⟩
theorem k_small {s : Bool} {v : Value} {w : World} (h : isS s w v) : Calls Tryz.prog 12 #[v] w (RetM (mV (.bool s)) O w) := by
 obtain ⟨b, ao, c, xs, ad, d, ds, rfl, h1, h2, h3⟩ := h
 have e1 := h1.le
 have e2 := h1.cm
 have e3 := h2.le
 have e4 := h2.cm
 exact (smallrat_any b ao ad xs.length c ds.length d s w (by omega) (by omega) h3).mono fun _ _ r => RetB.s r
end Go.Proofs.YtcankknlbljicaaGreatDoor

namespace Go.Proofs.YtcankknlbljicaaGreatDoor
open Go.RowKit Num

def mnQ (p q : Rat) : Rat := if q < p then q else p
def mxQ (p q : Rat) : Rat := if p < q then q else p
def sgI (p q : Rat) : Int := if sgnQ p = sgnQ q then sgnQ p else 0
def sqL (p q : Rat) : Rat := if sgI p q = 0 then 0 else mnQ (p * p) (q * q)
def sgE (p q : Rat) : Int := if sgI p q = 0 then 3 else 0
def meE (a b : Rat) : Int := if b < a then 1 else 0
def mn4 (a b c d : Rat) : Rat := mnQ (mnQ a b) (mnQ c d)
def mx4 (a b c d : Rat) : Rat := mxQ (mxQ a b) (mxQ c d)
def btw (p q : Rat) (n : Int) : Rat := mnQ p q + (mxQ p q - mnQ p q) * Rat.divInt (n % 9) 8
end Go.Proofs.YtcankknlbljicaaGreatDoor

namespace Go.Proofs.YtcankknlbljicaaGreatDoor
open Go.RowKit Num
variable {O : Bs}

theorem info_Rat : (Tryz.prog.info? 26).map (·.size) = some 3 := by kernel_rfl
theorem zero_Rat (w : World) : (zeroValue 26).run Tryz.prog w = .ok (.agg #[.bool false, .slice none 0 0, .slice none 0 0]) w := by kernel_rfl
theorem bx_Rat {w : World} {g : Nat} (h : w.heap[g]? = some (.cells (Value.agg #[.bool false, .slice none 0 0, .slice none 0 0]).cells 26 (0, 0))) : bx O 26 3 mTop w g := ⟨_, h, rfl, noU3, by simp [Value.cells, Value.oneCell'], trivial⟩
theorem built_zero3 {ρ : Operand → Value} : Tryz.prog.built 26 ((#[] : Array (Nat × Operand)).map fun (i, x) => (i, ρ x)).toList = some #[.bool false, .slice none 0 0, .slice none 0 0] := by kernel_rfl
def isA4 (qs : Nat → Rat) (k : Nat) (w : World) (v : Value) : Prop := ∃ x0 x1 x2 x3 x4 x5 x6 x7 x8 x9 xa xb, v = .agg #[x0, x1, x2, x3, x4, x5, x6, x7, x8, x9, xa, xb] ∧ isR (qs 0) k w (.agg #[x0, x1, x2]) ∧ isR (qs 1) k w (.agg #[x3, x4, x5]) ∧ isR (qs 2) k w (.agg #[x6, x7, x8]) ∧ isR (qs 3) k w (.agg #[x9, xa, xb])
def mA4 (qs : Nat → Rat) (k : Nat) : MP := MP.of (isA4 qs k) fun _ _ _ he ⟨x0, x1, x2, x3, x4, x5, x6, x7, x8, x9, xa, xb, h, h0, h1, h2, h3⟩ => ⟨x0, x1, x2, x3, x4, x5, x6, x7, x8, x9, xa, xb, h, h0.ext he, h1.ext he, h2.ext he, h3.ext he⟩
theorem noU12 {a b c d e f a' b' c' d' e' f' : Value} (h1 : noU #[a, b, c, d, e, f]) (h2 : noU #[a', b', c', d', e', f']) : noU #[a, b, c, d, e, f, a', b', c', d', e', f'] := by
 intro i x
 match i with
 | 0 => exact h1 0 x
 | 1 => exact h1 1 x
 | 2 => exact h1 2 x
 | 3 => exact h1 3 x
 | 4 => exact h1 4 x
 | 5 => exact h1 5 x
 | 6 => exact h2 0 x
 | 7 => exact h2 1 x
 | 8 => exact h2 2 x
 | 9 => exact h2 3 x
 | 10 => exact h2 4 x
 | 11 => exact h2 5 x
 | i + 12 => simp
theorem isA4.cv {qs : Nat → Rat} {k : Nat} {w : World} {v : Value} (h : isA4 qs k w v) : cv 12 v := by
 obtain ⟨x0, x1, x2, x3, x4, x5, x6, x7, x8, x9, xa, xb, rfl, h0, h1, h2, h3⟩ := h
 obtain ⟨_, e0, _, n0, o0⟩ := h0.cv
 obtain ⟨_, e1, _, n1, o1⟩ := h1.cv
 obtain ⟨_, e2, _, n2, o2⟩ := h2.cv
 obtain ⟨_, e3, _, n3, o3⟩ := h3.cv
 obtain rfl := Value.agg.inj e0
 obtain rfl := Value.agg.inj e1
 obtain rfl := Value.agg.inj e2
 obtain rfl := Value.agg.inj e3
 refine ⟨_, rfl, rfl, noU12 (noU6 n0 n1) (noU6 n2 n3), ?_⟩
 simp at o0 o1 o2 o3 ⊢
 simp [o0, o1, o2, o3]
theorem bx.a4 {T : TypeId} {qs : Nat → Rat} {k : Nat} {w : World} {g : Nat} (h : bx O T 12 (mA4 qs k) w g) (i : Nat) (hi : i < 4) : ∃ x0 x1 x2, w.rangeAt g (3 * i) [x0, x1, x2] ∧ isR (qs i) k w (.agg #[x0, x1, x2]) := by
 obtain ⟨cs, e1, e2, e3, e4, x0, x1, x2, x3, x4, x5, x6, x7, x8, x9, xa, xb, he, h0, h1, h2, h3⟩ := h
 obtain rfl := Value.agg.inj he
 have key : ∀ a b c, (∀ j v, [a, b, c][j]? = some v → (#[x0, x1, x2, x3, x4, x5, x6, x7, x8, x9, xa, xb] : Array Value)[3 * i + j]? = some v) → w.rangeAt g (3 * i) [a, b, c] := fun a b c hk j v hv => by
  rw [cell_of_row w g _ _ T (0, 0) e1]; exact hk j v hv
 match i, hi with
 | 0, _ => exact ⟨x0, x1, x2, key _ _ _ (fun j v hv => match j with | 0 => by simpa using hv | 1 => by simpa using hv | 2 => by simpa using hv | j + 3 => by simp at hv), h0⟩
 | 1, _ => exact ⟨x3, x4, x5, key _ _ _ (fun j v hv => match j with | 0 => by simpa using hv | 1 => by simpa using hv | 2 => by simpa using hv | j + 3 => by simp at hv), h1⟩
 | 2, _ => exact ⟨x6, x7, x8, key _ _ _ (fun j v hv => match j with | 0 => by simpa using hv | 1 => by simpa using hv | 2 => by simpa using hv | j + 3 => by simp at hv), h2⟩
 | 3, _ => exact ⟨x9, xa, xb, key _ _ _ (fun j v hv => match j with | 0 => by simpa using hv | 1 => by simpa using hv | 2 => by simpa using hv | j + 3 => by simp at hv), h3⟩
def qs4 (a b c d : Rat) : Nat → Rat | 0 => a | 1 => b | 2 => c | _ => d
def isA4C (qs : Nat → Rat) (k : Nat) (w : World) (v : Value) : Prop := ∃ x0 x1 x2 x3 x4 x5 x6 x7 x8 x9 xa xb, v = .agg #[x0, x1, x2, x3, x4, x5, x6, x7, x8, x9, xa, xb] ∧ isC (qs 0) k w (.agg #[x0, x1, x2]) ∧ isC (qs 1) k w (.agg #[x3, x4, x5]) ∧ isC (qs 2) k w (.agg #[x6, x7, x8]) ∧ isC (qs 3) k w (.agg #[x9, xa, xb])
def mA4C (qs : Nat → Rat) (k : Nat) : MP := MP.of (isA4C qs k) fun _ _ _ he ⟨x0, x1, x2, x3, x4, x5, x6, x7, x8, x9, xa, xb, h, h0, h1, h2, h3⟩ => ⟨x0, x1, x2, x3, x4, x5, x6, x7, x8, x9, xa, xb, h, h0.ext he, h1.ext he, h2.ext he, h3.ext he⟩
theorem isA4C.cv {qs : Nat → Rat} {k : Nat} {w : World} {v : Value} (h : isA4C qs k w v) : cv 12 v := by
 obtain ⟨x0, x1, x2, x3, x4, x5, x6, x7, x8, x9, xa, xb, rfl, h0, h1, h2, h3⟩ := h
 obtain ⟨_, e0, _, n0, o0⟩ := h0.cv
 obtain ⟨_, e1, _, n1, o1⟩ := h1.cv
 obtain ⟨_, e2, _, n2, o2⟩ := h2.cv
 obtain ⟨_, e3, _, n3, o3⟩ := h3.cv
 obtain rfl := Value.agg.inj e0
 obtain rfl := Value.agg.inj e1
 obtain rfl := Value.agg.inj e2
 obtain rfl := Value.agg.inj e3
 refine ⟨_, rfl, rfl, noU12 (noU6 n0 n1) (noU6 n2 n3), ?_⟩
 simp at o0 o1 o2 o3 ⊢
 simp [o0, o1, o2, o3]
theorem args_0 {ρ : Operand → Value} : (#[] : Array Operand).map ρ = #[] := by simp
theorem args_1 {ρ : Operand → Value} {x : Operand} {v : Value} (h : ρ x = v) : #[x].map ρ = #[v] := by simp [h]
theorem args_2 {ρ : Operand → Value} {x y : Operand} {v u : Value} (h : ρ x = v) (g : ρ y = u) : #[x, y].map ρ = #[v, u] := by simp [h, g]
theorem bld_z3 {a : Act} {w : World} {o : Oper} (ho : o.op = .build 26 #[]) : ∃ v, (execOp a.eval o).run Tryz.prog w = .ok (.value v) w ∧ mZ.S O w v := ⟨_, run_build_op _ _ ho built_zero3, rfl⟩
end Go.Proofs.YtcankknlbljicaaGreatDoor

namespace Go.Proofs.YtcankknlbljicaaGreatDoor
open Go.ChangeShapes Go.WideShapes Go.ChangeAt Go.RowKit
variable {O : Bs}

theorem rat_of_trod {H : Type} {enc : TypeId × Value → H} {W : World} {base fuel : Nat} {v0 v1 v2 : Value} {y : _}
  (hf : DataW.trod enc Tryz.prog W base (fun _ => true) true fuel 26 [v0, v1, v2] = some y) : ∃ x, (mS x).S O W (.agg #[v0, v1, v2]) := by
 obtain ⟨y0, y1, n, hx, _, h0, h1⟩ := trod_struct2 Tryz.underlying26 hf
 have c24 : Tryz.prog.cellsOf 24 = 2 := by kernel_rfl
 have c22 : Tryz.prog.cellsOf 22 = 1 := by kernel_rfl
 simp only [c24, c22] at h0 h1
 have h0' : DataW.trod enc Tryz.prog W base (fun _ => true) true n 24 [v0, v1] = some y0 := by simpa using h0
 have h1' : DataW.trod enc Tryz.prog W base (fun _ => true) true n 22 [v2] = some y1 := by simpa using h1
 obtain ⟨z0, z1, m, hx2, _, g0, g1⟩ := trod_struct2 Tryz.underlying24 h0'
 have c4 : Tryz.prog.cellsOf 4 = 1 := by kernel_rfl
 simp only [c4, c22] at g0 g1
 have g0' : DataW.trod enc Tryz.prog W base (fun _ => true) true m 4 [v0] = some z0 := by simpa using g0
 have g1' : DataW.trod enc Tryz.prog W base (fun _ => true) true m 22 [v1] = some z1 := by simpa using g1
 obtain ⟨b, hb, _⟩ := DataW.trod_bool Tryz.underlying4 g0'
 simp only [List.cons.injEq, and_true] at hb
 subst hb
 have key : ∀ (m : Nat) (v : Value) y, DataW.trod enc Tryz.prog W base (fun _ => true) true m 22 [v] = some y → ∃ ao cap, ∃ xs : List Nat, v = .slice ao xs.length cap ∧ Rd W ao cap xs := by
  intro m v y h
  rcases open_ints Tryz.underlying22 Tryz.underlying88 (by kernel_rfl) h with ⟨hcs, _⟩ | ⟨x, l, c, zs, hcs, _, hl, hm, hz, _, hcell, hwz⟩
  ·simp only [List.cons.injEq, and_true] at hcs
   subst hcs
   exact ⟨none, 0, [], rfl, Rd.nil (by omega) (fun _ => rfl)⟩
  ·simp only [List.cons.injEq, and_true] at hcs
   subst hcs
   obtain ⟨xs, hl', hr⟩ := IsRow.rd (w := W) (a := some x) (len := l) (cap := c) (zs := zs) (.inr ⟨x, rfl, hl, hm, by simpa using hz, hcell, hwz⟩)
   subst hl'
   exact ⟨some x, c, xs, rfl, hr⟩
 obtain ⟨a1, c1, xs, rfl, r1⟩ := key m v1 _ g1'
 obtain ⟨a2, c2, ds, rfl, r2⟩ := key n v2 _ h1'
 exact ⟨decide (xs.length ≤ 4 ∧ ds.length ≤ 4), b, a1, c1, xs, a2, c2, ds, rfl, r1, r2, by simp⟩

theorem open_ratS {H : Type} {enc : TypeId × Value → H} {W : World} {r : Reach} {b0 base : Nat} {v : Value} {d : DataW H} {p : List MemPlace}
  (hv : Value.okWide Tryz.prog W r b0 26 v) (h : DataW.Trod enc Tryz.prog W base (fun _ => true) true 26 v d p) : ∃ x, (mS x).S O W v := by
 obtain ⟨cs, rfl, hsz⟩ := okWide_struct Tryz.underlying26 hv
 obtain ⟨v0, v1, v2, rfl⟩ := Go.Joins.array3 (hsz.trans (show Tryz.prog.cellsOf 26 = 3 by kernel_rfl))
 obtain ⟨fuel, hf⟩ := h
 exact rat_of_trod (by simpa [Value.cells] using hf)

end Go.Proofs.YtcankknlbljicaaGreatDoor
