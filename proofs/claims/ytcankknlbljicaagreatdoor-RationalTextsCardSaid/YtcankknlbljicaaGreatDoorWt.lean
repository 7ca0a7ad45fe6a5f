/-  -/
import Derived.Test.YtcankknlbljicaaGreatDoorWs
import Derived.Test.YtcankknlbljicaaGreatDoorWl
import Derived.Deep.RegionLaw

set_option linter.unusedVariables false
set_option linter.unusedSimpArgs false
set_option linter.unusedSectionVars false
set_option maxRecDepth 100000
set_option maxHeartbeats 3200000

namespace Go.Proofs.YtcankknlbljicaaGreatDoor
open Go.RowKit Num

theorem wp_append0 {ops : Array Oper} {rest : List Oper} {o : Oper} {a : Act} {Q : Exit → Act → World → Prop} (w : World) (hgd : o.guard = none) (s x : Operand)
  (ho : o.op = .call { callee := .builtin .append, args := #[s, x], argTypes := #[22, 22] })
  (B g m c cx : Nat) (ax : Option Addr) (ys : List Nat) (hs : a.eval s = .slice (some ⟨g, 0, none⟩) 0 c) (hx : a.eval x = .slice ax m cx) (hm : m = ys.length) (hown : Own B w (some ⟨g, 0, none⟩) c []) (hr : Rd w ax cx ys)
  (hb : m ≤ 35184372088832)
  (h : ∀ g' c' w', Own B w' (some ⟨g', 0, none⟩) c' ys → (∀ k, k < w.heap.size → k ≠ g → w'.heap[k]? = w.heap[k]?) → Below B w w' → (g' = g ∨ w.heap.size ≤ g') → wpList Tryz.prog ops Q rest (a.put o.dst (.slice (some ⟨g', 0, none⟩) m c')) w') :
  wpList Tryz.prog ops Q (o :: rest) a w := by
 cases ax with
 | none =>
  obtain ⟨i0, hi, hz0, hz1, hz2⟩ := info_parts infoU32
  have hc := hr.nn rfl
  have hy : ys = [] := List.eq_nil_of_length_eq_zero (by have := hr.le; omega)
  subst hc hy hm
  refine wpList_append_own_none hgd s x 22 ho B 88 i0 1 Tryz.underlying22 hi _ _ _ hs hown.1 hx ?_
  exact h g c w hown (fun _ _ _ => rfl) (Below.refl _ _) (Or.inl rfl)
 | some ad =>
  refine wp_append_o w hgd s x ho B g 0 m c cx ad [] ys hs hx rfl hm hown hr (by omega) ?_
  intro g' c' w' h1 h2 h3 h4
  rw [Nat.zero_add]
  exact h g' c' w' (by simpa using h1) h2 h3 h4
theorem step_append0 {ops : Array Oper} {o : Oper} {a : Act} {w : World} {K : Act → World → Prop} {Q : Exit → Act → World → Prop} {E : Prop} (hgd : o.guard = none) (s x : Operand)
  (ho : o.op = .call { callee := .builtin .append, args := #[s, x], argTypes := #[22, 22] })
  (B g m c cx : Nat) (ad : Addr) (ys : List Nat) (hs : a.eval s = .slice (some ⟨g, 0, none⟩) 0 c) (hx : a.eval x = .slice (some ad) m cx) (hm : m = ys.length) (hown : Own B w (some ⟨g, 0, none⟩) c []) (hr : Rd w (some ad) cx ys)
  (hb : m ≤ 35184372088832)
  (h : ∀ g' c' w', Own B w' (some ⟨g', 0, none⟩) c' ys → (∀ k, k < w.heap.size → k ≠ g → w'.heap[k]? = w.heap[k]?) → Below B w w' → (g' = g ∨ w.heap.size ≤ g') → K (a.put o.dst (.slice (some ⟨g', 0, none⟩) m c')) w') :
  if Region.wanted o (yielded ops a.tmps) = true then Oper.wp Tryz.prog o a w K Q else E := by
 have hw : Region.wanted o (yielded ops a.tmps) = true := by simp [Region.wanted, hgd]
 rw [if_pos hw]
 obtain ⟨g', c', w', h1, h2, h3, h4⟩ := run_append_o w o.type B g 0 c m cx ad [] ys rfl hm hown hr (by omega)
 have hBg := hown.block.1
 have hgs := hown.block.2
 have hown' : Own B w' (some ⟨g', 0, none⟩) c' ys := by
  rw [Nat.zero_add, List.nil_append, hm] at h2
  have h5 : Own g w' (some ⟨g', 0, none⟩) c' ys := ⟨h2, hr.dg⟩
  exact h5.mono hBg
 have hbel : Below B w w' := (Below.refl _ _).grown h3 (Nat.le_of_lt (Nat.lt_of_le_of_lt hBg hgs)) (fun k hk => by simp only [Option.some.injEq] at hk; subst hk; exact hBg)
 unfold Oper.wp execOp
 simp only [ho, resolve, invoke, builtin, Sem.run_bind, Sem.run_pure, Result.andThen_ok, List.map_toArray, List.map_cons, List.map_nil, hs, hx, h1]
 rw [Nat.zero_add]
 exact h g' c' w' hown' (fun k hk hne => h3.block k hk (fun e => hne (by simpa using e))) hbel h4
theorem two_ne {g g' gA n : Nat} (hne : gA ≠ g) (hg : g' = g ∨ n ≤ g') (hl : gA < n) : gA ≠ g' := by
 rcases hg with h | h
 ·rw [h]; exact hne
 ·omega
theorem below_drew' (B : Nat) (w : World) : Below B w w.drew := ⟨rfl, rfl, rfl, Nat.le_refl _, fun _ _ => rfl⟩
theorem apart_of {g' gx n g : Nat} (h : g' = gx ∨ n ≤ g') (h1 : gx ≠ g) (h2 : g < n) : g' ≠ g := by omega
theorem ne_a {gA g s1 s2 : Nat} (h : gA = g ∨ s2 ≤ gA) (h1 : g < s1) (h2 : s1 < s2) : gA ≠ s1 := by omega
theorem ne_b {gA g s1 s2 : Nat} (h : gA = s1 ∨ s2 ≤ gA) (h1 : g < s1) (h2 : s1 < s2) : gA ≠ g := by omega
theorem run_make0 (n : Nat) (hb : n ≤ 35184372088832) : ∃ mk : World → World, (∀ w, Sem.run Tryz.prog (Instr.makeSlice 22 (.int .i64 0) (.int .i64 (n : Int))) w = .ok (.slice (some ⟨w.heap.size, 0, none⟩) 0 n) (mk w)) ∧
  ∀ w, Own w.heap.size (mk w) (some ⟨w.heap.size, 0, none⟩) n [] ∧ Below w.heap.size w (mk w) ∧ w.heap.size < (mk w).heap.size := by
 obtain ⟨i0, hi, hz0, hz1, hz2⟩ := info_parts infoU32
 have h := fun w => run_make_own (P := Tryz.prog) w w.heap.size 22 88 i0 (.int .u32 0) 1 Tryz.underlying22 hi hz0 hz1 .i64 .i64 n (by rw [hz2]; omega) (by simp only [maxLen]; omega) (Nat.le_refl _)
 refine ⟨fun w => Classical.choose (h w), fun w => (Classical.choose_spec (h w)).1, fun w => ?_⟩
 obtain ⟨_, r1, r2⟩ := Classical.choose_spec (h w)
 have hown : Own w.heap.size (Classical.choose (h w)) (some ⟨w.heap.size, 0, none⟩) n [] := ⟨by simpa using r1, wf_nil⟩
 exact ⟨hown, (Below.refl _ _).grown r2 (Nat.le_refl _) (fun k hk => by cases hk), hown.block.2⟩
theorem run_maken (n : Nat) (hb : n ≤ 35184372088832) : ∃ mk : World → World, (∀ w, Sem.run Tryz.prog (Instr.makeSlice 22 (.int .i64 (n : Int)) (.int .i64 (n : Int))) w = .ok (.slice (some ⟨w.heap.size, 0, none⟩) n n) (mk w)) ∧
  ∀ w, Own w.heap.size (mk w) (some ⟨w.heap.size, 0, none⟩) n (List.replicate n 0) ∧ Below w.heap.size w (mk w) ∧ w.heap.size < (mk w).heap.size := by
 obtain ⟨i0, hi, hz0, hz1, hz2⟩ := info_parts infoU32
 have h := fun w => run_make_full (P := Tryz.prog) w w.heap.size 22 88 i0 (.int .u32 0) 1 Tryz.underlying22 hi hz0 hz1 .i64 .i64 n (by rw [hz2]; omega) (by simp only [maxLen]; omega) (Nat.le_refl _)
 refine ⟨fun w => Classical.choose (h w), fun w => (Classical.choose_spec (h w)).1, fun w => ?_⟩
 have key : ∀ W : World, W.ownsRow w.heap.size 88 1 (.slice (some ⟨w.heap.size, 0, none⟩) n n) n (madeCells (Value.int .u32 0).cells (n * 1)).toList → w.grownBy W none →
   Own w.heap.size W (some ⟨w.heap.size, 0, none⟩) n (List.replicate n 0) ∧ Below w.heap.size w W ∧ w.heap.size < W.heap.size := by
  intro W r1 r2
  have e : (madeCells (Value.int .u32 0).cells (n * 1)).toList = (List.replicate n 0).map fun d : Nat => Value.int .u32 (d : Int) := by
   rw [show (Value.int .u32 0).cells = #[Value.int .u32 0] from rfl, toList_madeCells_one, List.map_replicate, Nat.mul_one]; rfl
  rw [e] at r1
  have hown : Own w.heap.size W (some ⟨w.heap.size, 0, none⟩) n (List.replicate n 0) := ⟨by simpa using r1, wf_replicate n⟩
  exact ⟨hown, (Below.refl _ _).grown r2 (Nat.le_refl _) (fun k hk => by cases hk), hown.block.2⟩
 exact key _ (Classical.choose_spec (h w)).2.1 (Classical.choose_spec (h w)).2.2
theorem Own.other {B g : Nat} {w w' : World} {gx c : Nat} {xs : List Nat} (h : Own B w (some ⟨gx, 0, none⟩) c xs) (hne : gx ≠ g) (hk : ∀ k, k < w.heap.size → k ≠ g → w'.heap[k]? = w.heap[k]?) : Own B w' (some ⟨gx, 0, none⟩) c xs :=
 h.keep fun a ha => by cases ha; exact hk gx h.block.2 hne

def Two (w wx : World) (gx gy cx cy : Nat) (xs ys : List Nat) : Prop :=
 Own w.heap.size wx (some ⟨gx, 0, none⟩) cx xs ∧ Own w.heap.size wx (some ⟨gy, 0, none⟩) cy ys ∧ gx ≠ gy ∧ Below w.heap.size w wx

def ShI (w wr : World) (G X Y gx gy gn gm cx cy cn cm : Nat) (xf yf nf mf : List Nat) : Prop :=
 Nat.gcd X Y = G ∧ Y ≤ X ∧ val xf = X ∧ val yf = Y ∧ (nd X).length ≤ nf.length ∧ (nd X).length ≤ mf.length ∧
 Own w.heap.size wr (some ⟨gx, 0, none⟩) cx xf ∧ Own w.heap.size wr (some ⟨gy, 0, none⟩) cy yf ∧ Own w.heap.size wr (some ⟨gn, 0, none⟩) cn nf ∧ Own w.heap.size wr (some ⟨gm, 0, none⟩) cm mf ∧
 (gx ≠ gy ∧ gx ≠ gn ∧ gx ≠ gm ∧ gy ≠ gn ∧ gy ≠ gm ∧ gn ≠ gm) ∧ Below w.heap.size w wr

theorem ShI.swap {w wr : World} {G X Y gx gy gn gm cx cy cn cm : Nat} {xf yf nf mf : List Nat} (h : ShI w wr G X Y gx gy gn gm cx cy cn cm xf yf nf mf) : ShI w wr G X Y gx gy gm gn cx cy cm cn xf yf mf nf := by
 obtain ⟨h1, h2, h3, h4, h5, h6, h7, h8, h9, h10, ⟨n1, n2, n3, n4, n5, n6⟩, h11⟩ := h
 exact ⟨h1, h2, h3, h4, h6, h5, h7, h8, h10, h9, ⟨n1, n3, n2, n5, n4, Ne.symm n6⟩, h11⟩

set_option maxHeartbeats 6400000 in
theorem shorten_any (aa ab : Option Addr) (ca cb : Nat) (xs ys : List Nat) (w : World) (ha : Rd w aa ca xs) (hb : Rd w ab cb ys) (hnx : nrm xs) (hny : nrm ys) (hle : val ys ≤ val xs) (hl1 : xs.length ≤ 4398046511104) (hl2 : ys.length ≤ xs.length) (hy2 : 2 < ys.length) :
  Calls Tryz.prog 197 #[.slice aa xs.length ca, .slice ab ys.length cb] w fun e w' => ∃ X Y a1 a2 c1 c2, e = .returned (.tuple #[.slice a1 (nd X).length c1, .slice a2 (nd Y).length c2]) ∧
   Nat.gcd X Y = Nat.gcd (val xs) (val ys) ∧ Y ≤ X ∧ X ≤ val xs ∧ (nd Y).length ≤ 2 ∧ Own w.heap.size w' a1 c1 (nd X) ∧ Own w.heap.size w' a2 c2 (nd Y) ∧ Below w.heap.size w w' := by
 have hax := ha.le
 have hax2 := ha.cm
 have hby := hb.le
 have hby2 := hb.cm
 obtain ⟨G, hG⟩ : ∃ G, G = Nat.gcd (val xs) (val ys) := ⟨_, rfl⟩
 rw [← hG]
 have hxs : nd (val xs) = xs := nd_val ha.dg hnx
 have hys : nd (val ys) = ys := nd_val hb.dg hny
 have HG := hid (And.intro hG (And.intro hle (And.intro hxs hys)))
 have HA := hid (And.intro ha hb)
 have HNI := hid (rfl : ((xs.length : Nat) : Int) = (xs.length : Int))
 have hb0 : Below w.heap.size w w.drew := ⟨rfl, rfl, rfl, Nat.le_refl _, fun _ _ => rfl⟩
 have hla : xs.length ≤ 35184372088832 := by omega
 have hlb : ys.length ≤ 35184372088832 := by omega
 obtain ⟨ada, rfl⟩ : ∃ ad, aa = some ad := by
  rcases ha.lies with h | ⟨b, o, h, _⟩
  ·rw [h] at hl2; simp only [List.length_nil] at hl2; omega
  ·exact ⟨_, h⟩
 obtain ⟨adb, rfl⟩ : ∃ ad, ab = some ad := by
  rcases hb.lies with h | ⟨b, o, h, _⟩
  ·rw [h] at hy2; simp at hy2
  ·exact ⟨_, h⟩
 obtain ⟨mk, hmk, hmk2⟩ := run_make0 xs.length hla
 have HM := hid hmk2
 clear ha hb hnx hny hle hG hxs hys hmk2
 go_enter Tryz.func197, Tryz.ntmps197
 go_upto_region 2 with fail
 go_cut [7, 8] from 17 to 24 (fun xv yv wx => ∃ gx gy cx cy, xv = .slice (some ⟨gx, 0, none⟩) xs.length cx ∧ yv = .slice (some ⟨gy, 0, none⟩) ys.length cy ∧ Hid (Two w wx gx gy cx cy xs ys))
 case first =>
  go_region_law (first
   | (have hz := tP3b; refine step_append0 rfl _ _ rfl w.heap.size _ _ _ _ _ _ rfl rfl rfl (((HM.out w.drew).1.below (HM.out (mk w.drew)).2.1).other (fun h => absurd h (Nat.ne_of_lt (HM.out w.drew).2.2)) hkA) ((HA.out.1.below hb0).below (((HM.out w.drew).2.1.trans ((HM.out (mk w.drew)).2.1.mono (Nat.le_of_lt (HM.out w.drew).2.2))).trans hbA)) hla ?_; intro gB cB wB hB hkB hbB' hgB; have hne := (ne_b hgA (HM.out w.drew).2.2 (HM.out (mk w.drew)).2.2); have hbB := hb0.trans ((((HM.out w.drew).2.1.trans ((HM.out (mk w.drew)).2.1.mono (Nat.le_of_lt (HM.out w.drew).2.2))).trans hbA).trans hbB'); have hT := hid (show Two w wB _ _ _ _ xs ys from ⟨hB, hA.other hne hkB, fun h => two_ne hne hgB hA.block.2 h.symm, hbB⟩))
   | (have hz := tP3a; refine step_append0 rfl _ _ rfl w.heap.size _ _ _ _ _ _ rfl rfl rfl (((HM.out w.drew).1.below (HM.out (mk w.drew)).2.1).other (fun h => absurd h (Nat.ne_of_lt (HM.out w.drew).2.2)) hkA) ((HA.out.2.below hb0).below (((HM.out w.drew).2.1.trans ((HM.out (mk w.drew)).2.1.mono (Nat.le_of_lt (HM.out w.drew).2.2))).trans hbA)) hlb ?_; intro gB cB wB hB hkB hbB' hgB; have hne := (ne_b hgA (HM.out w.drew).2.2 (HM.out (mk w.drew)).2.2); have hbB := hb0.trans ((((HM.out w.drew).2.1.trans ((HM.out (mk w.drew)).2.1.mono (Nat.le_of_lt (HM.out w.drew).2.2))).trans hbA).trans hbB'); have hT := hid (show Two w wB _ _ _ _ xs ys from ⟨hA.other hne hkB, hB, two_ne hne hgB hA.block.2, hbB⟩))
   | (have hz := tP2b; refine step_append0 rfl _ _ rfl w.heap.size _ _ _ _ _ _ rfl rfl rfl (((HM.out (mk w.drew)).1.mono (Nat.le_of_lt (HM.out w.drew).2.2)).other (fun h => absurd h.symm (Nat.ne_of_lt (HM.out w.drew).2.2)) hkA) ((HA.out.1.below hb0).below (((HM.out w.drew).2.1.trans ((HM.out (mk w.drew)).2.1.mono (Nat.le_of_lt (HM.out w.drew).2.2))).trans hbA)) hla ?_; intro gB cB wB hB hkB hbB' hgB; have hne := (ne_a hgA (HM.out w.drew).2.2 (HM.out (mk w.drew)).2.2); have hbB := hb0.trans ((((HM.out w.drew).2.1.trans ((HM.out (mk w.drew)).2.1.mono (Nat.le_of_lt (HM.out w.drew).2.2))).trans hbA).trans hbB'); have hT := hid (show Two w wB _ _ _ _ xs ys from ⟨hB, hA.other hne hkB, fun h => two_ne hne hgB hA.block.2 h.symm, hbB⟩))
   | (have hz := tP2a; refine step_append0 rfl _ _ rfl w.heap.size _ _ _ _ _ _ rfl rfl rfl (((HM.out (mk w.drew)).1.mono (Nat.le_of_lt (HM.out w.drew).2.2)).other (fun h => absurd h.symm (Nat.ne_of_lt (HM.out w.drew).2.2)) hkA) ((HA.out.2.below hb0).below (((HM.out w.drew).2.1.trans ((HM.out (mk w.drew)).2.1.mono (Nat.le_of_lt (HM.out w.drew).2.2))).trans hbA)) hlb ?_; intro gB cB wB hB hkB hbB' hgB; have hne := (ne_a hgA (HM.out w.drew).2.2 (HM.out (mk w.drew)).2.2); have hbB := hb0.trans ((((HM.out w.drew).2.1.trans ((HM.out (mk w.drew)).2.1.mono (Nat.le_of_lt (HM.out w.drew).2.2))).trans hbA).trans hbB'); have hT := hid (show Two w wB _ _ _ _ xs ys from ⟨hA.other hne hkB, hB, two_ne hne hgB hA.block.2, hbB⟩))
   | (have hz := tP1b; refine step_append0 rfl _ _ rfl w.heap.size _ _ _ _ _ _ rfl rfl rfl ((HM.out wA).1.mono ((HM.out w.drew).2.1.trans hbA).size) ((HA.out.1.below hb0).below (((HM.out w.drew).2.1.trans hbA).trans ((HM.out wA).2.1.mono ((HM.out w.drew).2.1.trans hbA).size))) hla ?_; intro gB cB wB hB hkB hbB' hgB; have hne := (Nat.ne_of_lt hA.block.2); have hbB := hb0.trans ((((HM.out w.drew).2.1.trans hbA).trans ((HM.out wA).2.1.mono ((HM.out w.drew).2.1.trans hbA).size)).trans hbB'); have hT := hid (show Two w wB _ _ _ _ xs ys from ⟨hB, (hA.below (HM.out wA).2.1).other hne hkB, fun h => two_ne hne hgB (hA.below (HM.out wA).2.1).block.2 h.symm, hbB⟩))
   | (have hz := tP1a; refine step_append0 rfl _ _ rfl w.heap.size _ _ _ _ _ _ rfl rfl rfl ((HM.out wA).1.mono ((HM.out w.drew).2.1.trans hbA).size) ((HA.out.2.below hb0).below (((HM.out w.drew).2.1.trans hbA).trans ((HM.out wA).2.1.mono ((HM.out w.drew).2.1.trans hbA).size))) hlb ?_; intro gB cB wB hB hkB hbB' hgB; have hne := (Nat.ne_of_lt hA.block.2); have hbB := hb0.trans ((((HM.out w.drew).2.1.trans hbA).trans ((HM.out wA).2.1.mono ((HM.out w.drew).2.1.trans hbA).size)).trans hbB'); have hT := hid (show Two w wB _ _ _ _ xs ys from ⟨(hA.below (HM.out wA).2.1).other hne hkB, hB, two_ne hne hgB (hA.below (HM.out wA).2.1).block.2, hbB⟩))
   | (refine step_append0 rfl _ _ rfl w.heap.size _ _ _ _ _ _ rfl rfl rfl ((HM.out (mk w.drew)).1.mono (Nat.le_of_lt (HM.out w.drew).2.2)) ((HA.out.2.below hb0).below ((HM.out w.drew).2.1.trans ((HM.out (mk w.drew)).2.1.mono (Nat.le_of_lt (HM.out w.drew).2.2)))) hlb ?_; intro gA cA wA hA hkA hbA hgA; have tP3b := hid (True.intro))
   | (refine step_append0 rfl _ _ rfl w.heap.size _ _ _ _ _ _ rfl rfl rfl ((HM.out (mk w.drew)).1.mono (Nat.le_of_lt (HM.out w.drew).2.2)) ((HA.out.1.below hb0).below ((HM.out w.drew).2.1.trans ((HM.out (mk w.drew)).2.1.mono (Nat.le_of_lt (HM.out w.drew).2.2)))) hla ?_; intro gA cA wA hA hkA hbA hgA; have tP3a := hid (True.intro))
   | (refine step_append0 rfl _ _ rfl w.heap.size _ _ _ _ _ _ rfl rfl rfl ((HM.out w.drew).1.below (HM.out (mk w.drew)).2.1) ((HA.out.2.below hb0).below ((HM.out w.drew).2.1.trans ((HM.out (mk w.drew)).2.1.mono (Nat.le_of_lt (HM.out w.drew).2.2)))) hlb ?_; intro gA cA wA hA hkA hbA hgA; have tP2b := hid (True.intro))
   | (refine step_append0 rfl _ _ rfl w.heap.size _ _ _ _ _ _ rfl rfl rfl ((HM.out w.drew).1.below (HM.out (mk w.drew)).2.1) ((HA.out.1.below hb0).below ((HM.out w.drew).2.1.trans ((HM.out (mk w.drew)).2.1.mono (Nat.le_of_lt (HM.out w.drew).2.2)))) hla ?_; intro gA cA wA hA hkA hbA hgA; have tP2a := hid (True.intro))
   | (refine step_append0 rfl _ _ rfl w.heap.size _ _ _ _ _ _ rfl rfl rfl ((HM.out w.drew).1) ((HA.out.2.below hb0).below (HM.out w.drew).2.1) hlb ?_; intro gA cA wA hA hkA hbA hgA; have tP1b := hid (True.intro))
   | (refine step_append0 rfl _ _ rfl w.heap.size _ _ _ _ _ _ rfl rfl rfl ((HM.out w.drew).1) ((HA.out.1.below hb0).below (HM.out w.drew).2.1) hla ?_; intro gA cA wA hA hkA hbA hgA; have tP1a := hid (True.intro)))
  all_goals
   go_wp2_with fail
   go_meet
   exact ⟨_, _, _, _, rfl, rfl, hT⟩
 case rest =>
  obtain ⟨gx, gy, cx, cy, rfl, rfl, HT⟩ := hcut
  clear hmk HM
  obtain ⟨mk2, hmk, hmk2⟩ := run_maken xs.length hla
  have HM := hid hmk2
  have hw0 : Below w.heap.size w wc := HT.out.2.2.2
  have HW := hid (show ∀ W, W = mk2 (mk2 wc.drew) → ∃ gn gm, gn = wc.heap.size ∧ gm = (mk2 wc.drew).heap.size ∧ ShI w W G (val xs) (val ys) gx gy gn gm cx cy xs.length xs.length xs ys (List.replicate xs.length 0) (List.replicate xs.length 0) from by
   rintro W rfl
   have a1 := HM.out wc.drew
   have a2 := HM.out (mk2 wc.drew)
   have o1 := HT.out
   have hs1 : w.heap.size ≤ wc.heap.size := hw0.size
   have hs2 : wc.heap.size < (mk2 wc.drew).heap.size := a1.2.2
   have b1 : Below wc.heap.size wc (mk2 (mk2 wc.drew)) := Below.trans ⟨a1.2.1.os, a1.2.1.tape, a1.2.1.output, a1.2.1.size, a1.2.1.block⟩ (a2.2.1.mono (Nat.le_of_lt hs2))
   have hgx : gx < wc.heap.size := o1.1.block.2
   have hgy : gy < wc.heap.size := o1.2.1.block.2
   refine ⟨wc.heap.size, _, rfl, rfl, HG.out.1.symm, HG.out.2.1, rfl, rfl, ?_, ?_, o1.1.below b1, o1.2.1.below b1, (a1.1.below a2.2.1).mono hs1, a2.1.mono (Nat.le_of_lt (Nat.lt_of_le_of_lt hs1 hs2)), ⟨o1.2.2.1, by omega, by omega, by omega, by omega, by omega⟩, hw0.trans (b1.mono hs1)⟩
   ·rw [HG.out.2.2.1, List.length_replicate]; exact Nat.le_refl _
   ·rw [HG.out.2.2.1, List.length_replicate]; exact Nat.le_refl _)
  go_wp2_with fail
  go_upto_region 3 with fail
  go_cut [9, 10] from 25 to 28 (fun nv mv wx => ∃ gn gm, nv = .slice (some ⟨gn, 0, none⟩) xs.length xs.length ∧ mv = .slice (some ⟨gm, 0, none⟩) xs.length xs.length ∧ Hid (ShI w wx G (val xs) (val ys) gx gy gn gm cx cy xs.length xs.length xs ys (List.replicate xs.length 0) (List.replicate xs.length 0)))
  case first =>
   go_region
   ·go_wp2
    go_meet
    obtain ⟨gn, gm, rfl, rfl, h⟩ := HW.out _ rfl
    exact ⟨_, _, rfl, rfl, h⟩
   ·go_wp2
    go_meet
    obtain ⟨gn, gm, rfl, rfl, h⟩ := HW.out _ rfl
    exact ⟨_, _, rfl, rfl, h.swap⟩
  case rest =>
   obtain ⟨gn, gm, rfl, rfl, HS⟩ := hcut
   clear hmk HM HW HT hw0
   go_wp2_with fail
   go_loopw [7, 8, 9, 10] (fun xv yv nv mv wr => ∃ (X Y gx gy gn gm cx cy cn cm m1 m2 : Nat) (xf yf nf mf : List Nat), xv = .slice (some ⟨gx, 0, none⟩) (nd X).length cx ∧ yv = .slice (some ⟨gy, 0, none⟩) (nd Y).length cy ∧
     nv = .slice (some ⟨gn, 0, none⟩) m1 cn ∧ mv = .slice (some ⟨gm, 0, none⟩) m2 cm ∧ m1 ≤ cn ∧ m2 ≤ cm ∧ (nd X).length ≤ 4398046511104 ∧ Hid (X ≤ val xs ∧ ShI w wr G X Y gx gy gn gm cx cy cn cm xf yf nf mf)) (fun _ yv _ _ wr => valOf yv wr)
   case atStart =>
    refine ⟨val xs, val ys, gx, gy, gn, gm, cx, cy, xs.length, xs.length, xs.length, xs.length, xs, ys, _, _, ?_, ?_, rfl, rfl, Nat.le_refl _, Nat.le_refl _, ?_, ⟨Nat.le_refl _, HS.out⟩⟩
    ·rw [HG.out.2.2.1]
    ·rw [HG.out.2.2.2]
    ·rw [HG.out.2.2.1]; exact hl1
   case round =>
    obtain ⟨X, Y, gx, gy, gn, gm, cx, cy, cn, cm, m1, m2, xf, yf, nf, mf, rfl, rfl, rfl, rfl, hm1, hm2, hXl, HI⟩ := hrel
    clear HS
    obtain ⟨hXle, hG2, hYX, hxv, hyv, hnl, hml, ox, oy, on, om, hne, hbel⟩ := HI.out
    have ox2 := ox.cutND
    have oy2 := oy.cutND
    rw [hxv] at ox2
    rw [hyv] at oy2
    have hYl : (nd Y).length ≤ (nd X).length := nd_length_mono hYX
    by_cases hlen : 2 < (nd Y).length
    ·obtain ⟨n, hn⟩ : ∃ n, (nd X).length = n + 3 := ⟨(nd X).length - 3, by omega⟩
     obtain ⟨d, hd⟩ : ∃ d, d = (nd X).getD (n + 2) 0 := ⟨_, rfl⟩
     have hd0 : d ≠ 0 := by
      rcases nrm_nd X with h | h
      ·rw [h] at hn; simp at hn
      ·rw [hd]; rw [hn] at h; simpa using h
     have hgs := guessSteps_any (some ⟨gx, 0, none⟩) (some ⟨gy, 0, none⟩) cx cy n d (nd X) (nd Y) wr ox2.rd oy2.rd hn hYl (by rw [val_nd, val_nd]; exact hYX) hd hd0
     rw [val_nd, val_nd] at hgs
     have hlen' : (2 : Int) < ((nd Y).length : Int) := by omega
     obtain ⟨E, hE⟩ : ∃ E, E = 2 ^ blen d * 4294967296 ^ n := ⟨_, rfl⟩
     have hE0 : 0 < E := by rw [hE]; exact Nat.mul_pos (Nat.pow_pos (by omega)) (pow_pos n)
     rw [← hE] at hgs
     have hva := oy2.rd.valOf
     rw [val_nd] at hva
     have HVA := hid hva
     have HN := hid (And.intro hn hE0)
     clear hd hd0 hE hXle hG2 hYX hxv hyv hnl hml ox oy on om hne ox2 oy2 hva hn hE0
     go_wp2_with fail
     refine hgs.mono ?_
     rintro e w1 ⟨x0, y0, x1, y1, ev, rfl, hok, hb1⟩
     unfold gsv
     have hx1 := heap_alloc_at w1 (.cells #[.int .u64 (x0 : Int), .int .u64 (y0 : Int), .int .u64 (x1 : Int), .int .u64 (y1 : Int), .bool ev] 173)
     have hb2 := hbel.trans ((hb1.trans ((below_alloc w1 (.cells #[.int .u64 (x0 : Int), .int .u64 (y0 : Int), .int .u64 (x1 : Int), .int .u64 (y1 : Int), .bool ev] 173)).mono hb1.size)).mono hbel.size)
     have hb3 := hb1.trans ((below_alloc w1 (.cells #[.int .u64 (x0 : Int), .int .u64 (y0 : Int), .int .u64 (x1 : Int), .int .u64 (y1 : Int), .bool ev] 173)).mono hb1.size)
     have HOK := hid hok
     have hgl := hb1.size
     go_upto_region 6 with fail
     generalize w1.alloc (.cells #[.int .u64 (x0 : Int), .int .u64 (y0 : Int), .int .u64 (x1 : Int), .int .u64 (y1 : Int), .bool ev] 173) = w2 at hx1 hb2 hb3 ⊢
     obtain ⟨c0, c1, c2, c3, c4, _, _, _, _, _⟩ := steps_cells hx1
     have HX1 := hid hx1
     have HB := hid (And.intro hb2 hb3)
     have hgl2 : w1.heap.size < w2.heap.size := (Array.getElem?_eq_some_iff.1 hx1).1
     clear hgs hok hb1 hb2 hb3 hbel hx1
     by_cases h0 : y0 = 0
     ·subst h0
      obtain ⟨hXle, hG2, hYX, hxv, hyv, hnl, hml, ox, oy, on, om, hne, _⟩ := HI.out
      have ox2 := ox.cutND
      have oy2 := oy.cutND
      rw [hxv] at ox2
      rw [hyv] at oy2
      have hY0 : Y ≠ 0 := by intro h; rw [h, nd_zero] at hlen; simp at hlen
      have hdm := divmod_any (some ⟨gx, 0, none⟩) (some ⟨gy, 0, none⟩) cx cy (nd X) (nd Y) w2 (ox2.below HB.out.2).rd (oy2.below HB.out.2).rd (by rw [val_nd]; exact hY0) hXl
      rw [val_nd, val_nd] at hdm
      have HDM := hid hdm
      obtain ⟨q, hq⟩ : ∃ q, q = X / Y := ⟨_, rfl⟩
      obtain ⟨r, hr⟩ : ∃ r, r = X % Y := ⟨_, rfl⟩
      rw [← hq, ← hr] at HDM
      have HR := hid hr
      clear hXle hG2 hYX hxv hyv hnl hml ox oy on om hne ox2 oy2 hdm hq hr hY0
      go_wp2_with fail
      refine HDM.out.mono ?_
      rintro e w3 ⟨aq, cq, ar, cr, rfl, oq, or3, hb3⟩
      obtain ⟨hXle, hG2, hYX, hxv, hyv, hnl, hml, ox, oy, on, om, ⟨hnegxgy, hnegxgn, hnegxgm, hnegygn, hnegygm, hnegngm⟩, _⟩ := HI.out
      have hY0 : Y ≠ 0 := by intro h; rw [h, nd_zero] at hlen; simp at hlen
      have hrY : r < Y := by rw [HR.out]; exact Nat.mod_lt _ (Nat.pos_of_ne_zero hY0)
      have hb03 := HB.out.1.trans (hb3.mono HB.out.1.size)
      have ox3 := (ox.below HB.out.2).below hb3
      have oy3 := (oy.below HB.out.2).below hb3
      have on3 := (on.below HB.out.2).below hb3
      have om3 := (om.below HB.out.2).below hb3
      have ox0 := ox3.take 0
      rw [List.take_zero] at ox0
      have hrl : (nd r).length ≤ 35184372088832 := Nat.le_trans (nd_length_mono (Nat.le_of_lt hrY)) (by omega)
      have hYcy : (nd Y).length ≤ cy := by have := oy.cutND.rd.le; rw [hyv] at this; exact this
      have HFIN := hid (show ∀ g' c' w4, Own w.heap.size w4 (some ⟨g', 0, none⟩) c' (nd r) → (∀ k, k < w3.heap.size → k ≠ gx → w4.heap[k]? = w3.heap[k]?) → Below w.heap.size w3 w4 → (g' = gx ∨ w3.heap.size ≤ g') →
        (Y ≤ val xs ∧ ShI w w4 G Y r gy g' gn gm cy c' cn cm yf (nd r) nf mf) ∧ valOf (.slice (some ⟨g', 0, none⟩) (nd r).length c') w4 < valOf (.slice (some ⟨gy, 0, none⟩) (nd Y).length cy) wr from by
       intro g' c' w4 h1 h2 h3 h4
       have n1 := oy3.block.2
       have n2 := on3.block.2
       have n3 := om3.block.2
       refine ⟨⟨Nat.le_trans hYX hXle, ?_, Nat.le_of_lt hrY, hyv, val_nd r, Nat.le_trans hYl hnl, Nat.le_trans hYl hml, oy3.other (Ne.symm hnegxgy) h2, h1, on3.other (Ne.symm hnegxgn) h2, om3.other (Ne.symm hnegxgm) h2, ⟨?_, hnegygn, hnegygm, ?_, ?_, hnegngm⟩, hb03.trans h3⟩, ?_⟩
       ·rw [← hG2, HR.out, Nat.gcd_comm Y, ← Nat.gcd_rec, Nat.gcd_comm]
       ·exact Ne.symm (apart_of h4 hnegxgy n1)
       ·exact apart_of h4 hnegxgn n2
       ·exact apart_of h4 hnegxgm n3
       ·rw [h1.rd.valOf, val_nd, HVA.out]; exact hrY)
      have HX0 := hid ox0
      have HRD := hid or3.rd
      have hYl' := Nat.le_trans hYl hXl
      clear hXle hG2 hYX hxv hyv hnl hml ox oy on om hnegxgy hnegxgn hnegxgm hnegygn hnegygm hnegngm ox3 oy3 on3 om3 ox0 oq or3 hb3 hb03 hY0 hrY HDM
      go_wp2_with (at_builtin; refine wp_append0 _ rfl _ _ rfl w.heap.size gx (nd r).length cx cr ar (nd r) rfl rfl rfl HX0.out HRD.out hrl ?_; intro g' c' w4 h1 h2 h3 h4)
      have hf := HFIN.out g' c' w4 h1 h2 h3 h4
      exact ⟨⟨Y, r, gy, g', gn, gm, cy, c', cn, cm, m1, m2, yf, nd r, nf, mf, rfl, rfl, rfl, rfl, hm1, hm2, hYl', hf.1⟩, hf.2⟩
     ·have h0i : ((y0 : Int) == 0) = false := by simp [h0]
      obtain ⟨hXle, hG2, hYX, hxv, hyv, hnl, hml, ox, oy, on, om, ⟨hnegxgy, hnegxgn, hnegxgm, hnegygn, hnegygm, hnegngm⟩, _⟩ := HI.out
      obtain ⟨hx0, hy0, hx1, hy1, u, v, hvu, huX, huY, hgc, hu⟩ := HOK.out.use h0 (x := X) (y := Y) (xr := X % E) (yr := Y % E) (by rw [Nat.mul_comm]; exact (Nat.div_add_mod X E).symm) (by rw [Nat.mul_comm]; exact (Nat.div_add_mod Y E).symm) (Nat.mod_lt _ HN.out.2) (Nat.mod_lt _ HN.out.2)
      have ox2 := ox.below HB.out.2
      have oy2 := oy.below HB.out.2
      have on2 := on.below HB.out.2
      have om2 := om.below HB.out.2
      have huk : u < 4294967296 ^ (nd X).length := Nat.lt_of_le_of_lt huX (lt_pow_nd X)
      have hvk : v < 4294967296 ^ (nd X).length := Nat.lt_trans hvu huk
      have hz1 : (nf.take (nd X).length).length = (nd X).length := by rw [List.length_take]; omega
      have hz2 : (mf.take (nd X).length).length = (nd X).length := by rw [List.length_take]; omega
      have hXcn : (nd X).length ≤ cn := Nat.le_trans hnl on.rd.le
      have hXcm : (nd X).length ≤ cm := Nat.le_trans hml om.rd.le
      have hcnm : cn ≤ 9223372036854775807 := on.rd.cm
      have hcmm : cm ≤ 9223372036854775807 := om.rd.cm
      have hXcx : (nd X).length ≤ cx := by have := ox.cutND.rd.le; rw [hxv] at this; exact this
      have hYcy : (nd Y).length ≤ cy := by have := oy.cutND.rd.le; rw [hyv] at this; exact this
      have hXk : (nd X).length ≤ (nd X).length := Nat.le_refl _
      have hYk : (nd Y).length ≤ (nd X).length := hYl
      have hgn : ¬ gn = w1.heap.size := by have h : gn < wr.heap.size := on.block.2; omega
      have hgm : ¬ gm = w1.heap.size := by have h : gm < wr.heap.size := om.block.2; omega
      clear ox oy on om
      cases ev
      ·skip
       obtain ⟨hu1, hu2⟩ := hu.2 rfl
       have ond := (on2.take (nd X).length).keep (w' := w2.drew) (fun _ _ => rfl)
       have oxd := ox2.keep (w' := w2.drew) (fun _ _ => rfl)
       have oyd := oy2.keep (w' := w2.drew) (fun _ _ => rfl)
       have ox2d := oxd.cutND
       have oy2d := oyd.cutND
       rw [hxv] at ox2d
       rw [hyv] at oy2d
       have hd1 := difference_any (some ⟨gy, 0, none⟩) (some ⟨gx, 0, none⟩) gn 0 cn cy cx y0 x0 u (nf.take (nd X).length) (nd Y) (nd X) w2.drew ond.wr (by rw [hz1]; omega) hcnm (oy2d.rd) (ox2d.rd) (Or.inr (fun a h => by cases h; exact hnegygn)) (Or.inr (fun a h => by cases h; exact hnegxgn)) (by rw [hz1]; exact hYk) (by rw [hz1]; exact hXk) hy0 hx0 (by rw [val_nd, val_nd]; exact hu1) (by rw [hz1]; exact huk)
       rw [hz1] at hd1
       obtain ⟨w5, hw5⟩ : ∃ W, W = wput w2.drew gn 0 (dig (nd X).length u) := ⟨_, rfl⟩
       have hx5 : w5.heap[w1.heap.size]? = some (.cells #[.int .u64 (x0 : Int), .int .u64 (y0 : Int), .int .u64 (x1 : Int), .int .u64 (y1 : Int), .bool false] 173 (0, 0)) := by rw [hw5, wput_heap, if_neg hgn]; exact HX1.out
       have on5 : Own w.heap.size w5 (some ⟨gn, 0, none⟩) cn (dig (nd X).length u) := by rw [hw5]; exact ond.put (by rw [hz1, length_dig]) (wf_dig _ _)
       have ox5 : Own w.heap.size w5 (some ⟨gx, 0, none⟩) cx xf := by rw [hw5]; exact oxd.keep_put (fun a h => by cases h; exact hnegxgn) _ _
       have oy5 : Own w.heap.size w5 (some ⟨gy, 0, none⟩) cy yf := by rw [hw5]; exact oyd.keep_put (fun a h => by cases h; exact hnegygn) _ _
       have om5 : Own w.heap.size w5 (some ⟨gm, 0, none⟩) cm mf := by rw [hw5]; exact (om2.keep (w' := w2.drew) (fun _ _ => rfl)).keep_put (fun a h => by cases h; exact Ne.symm hnegngm) _ _
       have hb5 : Below w.heap.size w w5 := by rw [hw5]; exact below_put (g := gn) (Below.trans HB.out.1 (below_drew' _ w2)) on2.block.1 _ _
       have omd := (om5.take (nd X).length).keep (w' := w5.drew) (fun _ _ => rfl)
       have oxe := ox5.keep (w' := w5.drew) (fun _ _ => rfl)
       have oye := oy5.keep (w' := w5.drew) (fun _ _ => rfl)
       have ox2e := oxe.cutND
       have oy2e := oye.cutND
       rw [hxv] at ox2e
       rw [hyv] at oy2e
       have hd2 := difference_any (some ⟨gx, 0, none⟩) (some ⟨gy, 0, none⟩) gm 0 cm cx cy x1 y1 v (mf.take (nd X).length) (nd X) (nd Y) w5.drew omd.wr (by rw [hz2]; omega) hcmm (ox2e.rd) (oy2e.rd) (Or.inr (fun a h => by cases h; exact hnegxgm)) (Or.inr (fun a h => by cases h; exact hnegygm)) (by rw [hz2]; exact hXk) (by rw [hz2]; exact hYk) hx1 hy1 (by rw [val_nd, val_nd]; exact hu2) (by rw [hz2]; exact hvk)
       rw [hz2] at hd2
       have HFIN := hid (show ∀ w6, w6 = wput w5.drew gm 0 (dig (nd X).length v) → (u ≤ val xs ∧ ShI w w6 G u v gn gm gx gy cn cm cx cy (dig (nd X).length u) (dig (nd X).length v) xf yf) ∧ valOf (.slice (some ⟨gm, 0, none⟩) (nd v).length cm) w6 < valOf (.slice (some ⟨gy, 0, none⟩) (nd Y).length cy) wr from by
        rintro w6 rfl
        have om6 : Own w.heap.size (wput w5.drew gm 0 (dig (nd X).length v)) (some ⟨gm, 0, none⟩) cm (dig (nd X).length v) := omd.put (by rw [hz2, length_dig]) (wf_dig _ _)
        have vu : val (dig (nd X).length u) = u := by rw [val_dig, Nat.mod_eq_of_lt huk]
        have vv : val (dig (nd X).length v) = v := by rw [val_dig, Nat.mod_eq_of_lt hvk]
        refine ⟨⟨Nat.le_trans huX hXle, hgc.trans hG2, Nat.le_of_lt hvu, vu, vv, ?_, ?_, (on5.keep (w' := w5.drew) (fun _ _ => rfl)).keep_put (fun a h => by cases h; exact hnegngm) _ _, om6, oxe.keep_put (fun a h => by cases h; exact hnegxgm) _ _, oye.keep_put (fun a h => by cases h; exact hnegygm) _ _, ⟨hnegngm, Ne.symm hnegxgn, Ne.symm hnegygn, Ne.symm hnegxgm, Ne.symm hnegygm, hnegxgy⟩, below_put (g := gm) (Below.trans hb5 (below_drew' _ w5)) om2.block.1 _ _⟩, ?_⟩
        ·exact Nat.le_trans (nd_length_mono huX) (by rw [← hxv]; exact nd_length_le_of ox2.2)
        ·exact Nat.le_trans (nd_length_mono huY) (by rw [← hyv]; exact nd_length_le_of oy2.2)
        ·have h := om6.cutND
         rw [vv] at h
         rw [h.rd.valOf, val_nd, HVA.out]; omega)
       have HD1 := hid hd1
       have HD2 := hid hd2
       have HC5 := hid (steps_cells hx5)
       have HC6 := hid (fun (w6 : World) (h : w6 = wput w5.drew gm 0 (dig (nd X).length v)) => steps_cells (show w6.heap[w1.heap.size]? = some (.cells #[.int .u64 (x0 : Int), .int .u64 (y0 : Int), .int .u64 (x1 : Int), .int .u64 (y1 : Int), .bool false] 173 (0, 0)) from by rw [h, wput_heap, if_neg hgm]; exact hx5))
       have HW5 := hid hw5
       have huX' : (nd u).length ≤ 4398046511104 := Nat.le_trans (nd_length_mono huX) hXl
       have hun : (nd u).length ≤ cn := Nat.le_trans (nd_length_mono huX) hXcn
       have hvm : (nd v).length ≤ cm := Nat.le_trans (nd_length_mono (Nat.le_trans (Nat.le_of_lt hvu) huX)) hXcm
       clear hd1 hd2 hx5 hw5 on5 ox5 oy5 om5 hb5 omd oxe oye ox2e oy2e ond oxd oyd ox2d oy2d on2 om2 ox2 oy2 hxv hyv hu1 hu2 hu hgc hvu huX huY huk hvk hz1 hz2 hXle hG2 hYX hnl hml hXk hYk hgn hgm hnegxgy hnegxgn hnegxgm hnegygn hnegygm hnegngm hx0 hy0 hx1 hy1
       go_wp2_with fail
       go_region_held3 (fun w' => w'.cell? ⟨w1.heap.size, 0, none⟩ = some (.int .u64 (x0 : Int)) ∧ w'.cell? ⟨w1.heap.size, 1, none⟩ = some (.int .u64 (y0 : Int))) (go_keep) (first
        | (go_at_call 226; (with_reducible refine HD1.out.mono ?_); rintro e w5' ⟨rfl, hw5'⟩; obtain rfl : w5' = w5 := hw5'.trans HW5.out.symm; clear hw5'; obtain ⟨e0, e1, e2, e3, e4, _, _, _, _, _⟩ := HC5.out))
       all_goals
        go_wp2_with fail
        go_region_held3 (fun w' => w'.cell? ⟨w1.heap.size, 2, none⟩ = some (.int .u64 (x1 : Int)) ∧ w'.cell? ⟨w1.heap.size, 3, none⟩ = some (.int .u64 (y1 : Int))) (go_keep) (first
         | (go_at_call 226; (with_reducible refine HD2.out.mono ?_); rintro e w6 ⟨rfl, hw6⟩; have HW6 := hid hw6; clear hw6; obtain ⟨r0, r1, r2, r3, r4, _, _, _, _, _⟩ := HC6.out w6 HW6.out))
        all_goals
         go_wp2
         trace_state
         exact ⟨⟨u, v, gn, gm, gx, gy, cn, cm, cx, cy, (nd X).length, (nd Y).length, _, _, xf, yf, rfl, rfl, rfl, rfl, hXcx, hYcy, huX', (HFIN.out w6 HW6.out).1⟩, (HFIN.out w6 HW6.out).2⟩
      ·skip
       obtain ⟨hu1, hu2⟩ := hu.1 rfl
       have ond := (on2.take (nd X).length).keep (w' := w2.drew) (fun _ _ => rfl)
       have oxd := ox2.keep (w' := w2.drew) (fun _ _ => rfl)
       have oyd := oy2.keep (w' := w2.drew) (fun _ _ => rfl)
       have ox2d := oxd.cutND
       have oy2d := oyd.cutND
       rw [hxv] at ox2d
       rw [hyv] at oy2d
       have hd1 := difference_any (some ⟨gx, 0, none⟩) (some ⟨gy, 0, none⟩) gn 0 cn cx cy x0 y0 u (nf.take (nd X).length) (nd X) (nd Y) w2.drew ond.wr (by rw [hz1]; omega) hcnm (ox2d.rd) (oy2d.rd) (Or.inr (fun a h => by cases h; exact hnegxgn)) (Or.inr (fun a h => by cases h; exact hnegygn)) (by rw [hz1]; exact hXk) (by rw [hz1]; exact hYk) hx0 hy0 (by rw [val_nd, val_nd]; exact hu1) (by rw [hz1]; exact huk)
       rw [hz1] at hd1
       obtain ⟨w5, hw5⟩ : ∃ W, W = wput w2.drew gn 0 (dig (nd X).length u) := ⟨_, rfl⟩
       have hx5 : w5.heap[w1.heap.size]? = some (.cells #[.int .u64 (x0 : Int), .int .u64 (y0 : Int), .int .u64 (x1 : Int), .int .u64 (y1 : Int), .bool true] 173 (0, 0)) := by rw [hw5, wput_heap, if_neg hgn]; exact HX1.out
       have on5 : Own w.heap.size w5 (some ⟨gn, 0, none⟩) cn (dig (nd X).length u) := by rw [hw5]; exact ond.put (by rw [hz1, length_dig]) (wf_dig _ _)
       have ox5 : Own w.heap.size w5 (some ⟨gx, 0, none⟩) cx xf := by rw [hw5]; exact oxd.keep_put (fun a h => by cases h; exact hnegxgn) _ _
       have oy5 : Own w.heap.size w5 (some ⟨gy, 0, none⟩) cy yf := by rw [hw5]; exact oyd.keep_put (fun a h => by cases h; exact hnegygn) _ _
       have om5 : Own w.heap.size w5 (some ⟨gm, 0, none⟩) cm mf := by rw [hw5]; exact (om2.keep (w' := w2.drew) (fun _ _ => rfl)).keep_put (fun a h => by cases h; exact Ne.symm hnegngm) _ _
       have hb5 : Below w.heap.size w w5 := by rw [hw5]; exact below_put (g := gn) (Below.trans HB.out.1 (below_drew' _ w2)) on2.block.1 _ _
       have omd := (om5.take (nd X).length).keep (w' := w5.drew) (fun _ _ => rfl)
       have oxe := ox5.keep (w' := w5.drew) (fun _ _ => rfl)
       have oye := oy5.keep (w' := w5.drew) (fun _ _ => rfl)
       have ox2e := oxe.cutND
       have oy2e := oye.cutND
       rw [hxv] at ox2e
       rw [hyv] at oy2e
       have hd2 := difference_any (some ⟨gy, 0, none⟩) (some ⟨gx, 0, none⟩) gm 0 cm cy cx y1 x1 v (mf.take (nd X).length) (nd Y) (nd X) w5.drew omd.wr (by rw [hz2]; omega) hcmm (oy2e.rd) (ox2e.rd) (Or.inr (fun a h => by cases h; exact hnegygm)) (Or.inr (fun a h => by cases h; exact hnegxgm)) (by rw [hz2]; exact hYk) (by rw [hz2]; exact hXk) hy1 hx1 (by rw [val_nd, val_nd]; exact hu2) (by rw [hz2]; exact hvk)
       rw [hz2] at hd2
       have HFIN := hid (show ∀ w6, w6 = wput w5.drew gm 0 (dig (nd X).length v) → (u ≤ val xs ∧ ShI w w6 G u v gn gm gx gy cn cm cx cy (dig (nd X).length u) (dig (nd X).length v) xf yf) ∧ valOf (.slice (some ⟨gm, 0, none⟩) (nd v).length cm) w6 < valOf (.slice (some ⟨gy, 0, none⟩) (nd Y).length cy) wr from by
        rintro w6 rfl
        have om6 : Own w.heap.size (wput w5.drew gm 0 (dig (nd X).length v)) (some ⟨gm, 0, none⟩) cm (dig (nd X).length v) := omd.put (by rw [hz2, length_dig]) (wf_dig _ _)
        have vu : val (dig (nd X).length u) = u := by rw [val_dig, Nat.mod_eq_of_lt huk]
        have vv : val (dig (nd X).length v) = v := by rw [val_dig, Nat.mod_eq_of_lt hvk]
        refine ⟨⟨Nat.le_trans huX hXle, hgc.trans hG2, Nat.le_of_lt hvu, vu, vv, ?_, ?_, (on5.keep (w' := w5.drew) (fun _ _ => rfl)).keep_put (fun a h => by cases h; exact hnegngm) _ _, om6, oxe.keep_put (fun a h => by cases h; exact hnegxgm) _ _, oye.keep_put (fun a h => by cases h; exact hnegygm) _ _, ⟨hnegngm, Ne.symm hnegxgn, Ne.symm hnegygn, Ne.symm hnegxgm, Ne.symm hnegygm, hnegxgy⟩, below_put (g := gm) (Below.trans hb5 (below_drew' _ w5)) om2.block.1 _ _⟩, ?_⟩
        ·exact Nat.le_trans (nd_length_mono huX) (by rw [← hxv]; exact nd_length_le_of ox2.2)
        ·exact Nat.le_trans (nd_length_mono huY) (by rw [← hyv]; exact nd_length_le_of oy2.2)
        ·have h := om6.cutND
         rw [vv] at h
         rw [h.rd.valOf, val_nd, HVA.out]; omega)
       have HD1 := hid hd1
       have HD2 := hid hd2
       have HC5 := hid (steps_cells hx5)
       have HC6 := hid (fun (w6 : World) (h : w6 = wput w5.drew gm 0 (dig (nd X).length v)) => steps_cells (show w6.heap[w1.heap.size]? = some (.cells #[.int .u64 (x0 : Int), .int .u64 (y0 : Int), .int .u64 (x1 : Int), .int .u64 (y1 : Int), .bool true] 173 (0, 0)) from by rw [h, wput_heap, if_neg hgm]; exact hx5))
       have HW5 := hid hw5
       have huX' : (nd u).length ≤ 4398046511104 := Nat.le_trans (nd_length_mono huX) hXl
       have hun : (nd u).length ≤ cn := Nat.le_trans (nd_length_mono huX) hXcn
       have hvm : (nd v).length ≤ cm := Nat.le_trans (nd_length_mono (Nat.le_trans (Nat.le_of_lt hvu) huX)) hXcm
       clear hd1 hd2 hx5 hw5 on5 ox5 oy5 om5 hb5 omd oxe oye ox2e oy2e ond oxd oyd ox2d oy2d on2 om2 ox2 oy2 hxv hyv hu1 hu2 hu hgc hvu huX huY huk hvk hz1 hz2 hXle hG2 hYX hnl hml hXk hYk hgn hgm hnegxgy hnegxgn hnegxgm hnegygn hnegygm hnegngm hx0 hy0 hx1 hy1
       go_wp2_with fail
       go_region_held3 (fun w' => w'.cell? ⟨w1.heap.size, 0, none⟩ = some (.int .u64 (x0 : Int)) ∧ w'.cell? ⟨w1.heap.size, 1, none⟩ = some (.int .u64 (y0 : Int))) (go_keep) (first
        | (go_at_call 226; (with_reducible refine HD1.out.mono ?_); rintro e w5' ⟨rfl, hw5'⟩; obtain rfl : w5' = w5 := hw5'.trans HW5.out.symm; clear hw5'; obtain ⟨e0, e1, e2, e3, e4, _, _, _, _, _⟩ := HC5.out))
       all_goals
        go_wp2_with fail
        go_region_held3 (fun w' => w'.cell? ⟨w1.heap.size, 2, none⟩ = some (.int .u64 (x1 : Int)) ∧ w'.cell? ⟨w1.heap.size, 3, none⟩ = some (.int .u64 (y1 : Int))) (go_keep) (first
         | (go_at_call 226; (with_reducible refine HD2.out.mono ?_); rintro e w6 ⟨rfl, hw6⟩; have HW6 := hid hw6; clear hw6; obtain ⟨r0, r1, r2, r3, r4, _, _, _, _, _⟩ := HC6.out w6 HW6.out))
        all_goals
         go_wp2
         trace_state
         exact ⟨⟨u, v, gn, gm, gx, gy, cn, cm, cx, cy, (nd X).length, (nd Y).length, _, _, xf, yf, rfl, rfl, rfl, rfl, hXcx, hYcy, huX', (HFIN.out w6 HW6.out).1⟩, (HFIN.out w6 HW6.out).2⟩
    ·have hlen' : ¬ ((2 : Int) < ((nd Y).length : Int)) := by omega
     have HF := hid (show Nat.gcd X Y = G ∧ Y ≤ X ∧ X ≤ val xs ∧ (nd Y).length ≤ 2 ∧ Own w.heap.size wr (some ⟨gx, 0, none⟩) cx (nd X) ∧ Own w.heap.size wr (some ⟨gy, 0, none⟩) cy (nd Y) ∧ Below w.heap.size w wr from ⟨hG2, hYX, hXle, by omega, ox2, oy2, hbel⟩)
     clear hXle hG2 hYX hxv hyv hnl hml ox oy on om hne ox2 oy2 hbel HI
     go_wp2
     go_ret2
     exact ⟨X, Y, _, _, _, _, rfl, HF.out⟩
end Go.Proofs.YtcankknlbljicaaGreatDoor

namespace Go.Proofs.YtcankknlbljicaaGreatDoor
open Go.RowKit Num

theorem two_digits {Y : Nat} (h : (nd Y).length ≤ 2) : Y < 18446744073709551616 := by
 have h1 := lt_pow_nd Y
 have h2 : 4294967296 ^ (nd Y).length ≤ 4294967296 ^ 2 := Nat.pow_le_pow_right (by omega) h
 have h3 : (4294967296 : Nat) ^ 2 = 18446744073709551616 := by decide
 omega
theorem gcd_mod' (X Y : Nat) : Nat.gcd Y (X % Y) = Nat.gcd X Y := by rw [Nat.gcd_comm Y, ← Nat.gcd_rec, Nat.gcd_comm]

theorem gcd_any (aa ab : Option Addr) (ca cb : Nat) (xs ys : List Nat) (w : World) (ha : Rd w aa ca xs) (hb : Rd w ab cb ys) (hl1 : xs.length ≤ 4398046511104) (hl2 : ys.length ≤ 4398046511104) (hT : Tb w) :
  Calls Tryz.prog 150 #[.slice aa xs.length ca, .slice ab ys.length cb] w (RetOwn w.heap.size (nd (Nat.gcd (val xs) (val ys))) w) := by
 have hcx := cut_any aa ca xs w ha
 have hcy := cut_any ab cb ys w hb
 have hx := ha.cutND
 have hy := hb.cutND
 have hlx := Nat.le_trans (nd_length_le_of ha.dg) hl1
 have hly := Nat.le_trans (nd_length_le_of hb.dg) hl2
 obtain ⟨u, hu⟩ : ∃ u, u = val xs := ⟨_, rfl⟩
 obtain ⟨v, hv⟩ : ∃ v, v = val ys := ⟨_, rfl⟩
 rw [← hu] at hcx hx hlx ⊢
 rw [← hv] at hcy hy hly ⊢
 have hcm := compare_any aa ab ca cb (nd u) (nd v) w hx hy
 rw [val_nd, val_nd] at hcm
 obtain ⟨c, hc⟩ : ∃ c, c = cmpN u v := ⟨_, rfl⟩
 rw [← hc] at hcm
 have hcn : c < 0 ↔ u < v := by rw [hc]; exact cmpN_neg
 obtain ⟨G, hG⟩ : ∃ G, G = Nat.gcd u v := ⟨_, rfl⟩
 rw [← hG]
 have HX := hid (And.intro hx (And.intro hy hT))
 have HCM := hid hcm
 have HCX := hid hcx
 have HCY := hid hcy
 clear hu hv hc ha hb hx hy hcm hcx hcy hT hl1 hl2
 by_cases hlt : u < v
 ·have hc1 : c < 0 := hcn.2 hlt
  have hle : u ≤ v := by omega
  have HG := hid (show Nat.gcd v u = G by rw [hG, Nat.gcd_comm])
  clear hcn hG hlt
  go_enter Tryz.func150, Tryz.ntmps150
  go_wp2_with fail
  refine HCX.out.mono ?_
  rintro e w' ⟨rfl, rfl⟩
  go_wp2_with fail
  refine HCY.out.mono ?_
  rintro e w' ⟨rfl, rfl⟩
  go_wp2_with fail
  refine HCM.out.mono ?_
  rintro e w' ⟨rfl, qq, rfl⟩
  have hx1 := HX.out.2.1.drewN qq
  have hy1 := HX.out.1.drewN qq
  have hb1 := below_drewN w qq
  have hT1 : Tb (w.drewN qq) := HX.out.2.2.below hb1
  clear HCX HCY HCM HX
  generalize w.drewN qq = w1 at hx1 hy1 hb1 hT1 ⊢
  by_cases hY2 : (nd u).length ≤ 2
  ·have hn2 : ¬ ((2 : Int) < ((nd u).length : Int)) := by omega
   have HW := hid (And.intro hb1 (And.intro hx1 (And.intro hy1 hT1)))
   clear hb1 hx1 hy1 hT1
   by_cases hY0 : u = 0
   ·have hG1 : G = v := by rw [← HG.out, hY0, Nat.gcd_zero_right]
    have h0 : (nd u).length = 0 := by rw [hY0, nd_zero]; rfl
    have h0i : (((nd u).length : Int) == 0) = true := by rw [h0]; rfl
    have hcl := clone_any ab cb (nd v) w1 HW.out.2.1 (by omega)
    have HCL := hid hcl
    have HB := hid (And.intro hG1 HW.out.1)
    clear hcl hG1 hY0 h0
    go_wp2_with fail
    refine HCL.out.mono ?_
    rintro e wf ⟨af, cf, rfl, of, bf⟩
    go_wp2
    go_ret
    rw [HB.out.1]
    exact ⟨af, cf, rfl, of.mono HB.out.2.size, HB.out.2.trans (bf.mono HB.out.2.size)⟩
   ·have h0 : 0 < (nd u).length := Nat.pos_of_ne_zero fun h => hY0 (nd_eq_nil.1 (List.eq_nil_of_length_eq_zero h))
    have h0i : (((nd u).length : Int) == 0) = false := by rw [beq_eq_false_iff_ne]; omega
    have hdm := divmod_any ab aa cb ca (nd v) (nd u) w1 HW.out.2.1 HW.out.2.2.1 (by rw [val_nd]; exact hY0) (by omega)
    rw [val_nd, val_nd] at hdm
    have hYs := two_digits hY2
    have hRl : v % u < u := Nat.mod_lt _ (Nat.pos_of_ne_zero hY0)
    have hR2 : (nd (v % u)).length ≤ 2 := Nat.le_trans (nd_length_mono (Nat.le_of_lt hRl)) hY2
    have hGm : Nat.gcd u (v % u) = G := (gcd_mod' v u).trans HG.out
    have hGs : G < 18446744073709551616 := Nat.lt_of_le_of_lt (by rw [← hGm]; exact Nat.gcd_le_left _ (Nat.pos_of_ne_zero hY0)) hYs
    obtain ⟨q, hq⟩ : ∃ q, q = v / u := ⟨_, rfl⟩
    obtain ⟨r, hr⟩ : ∃ r, r = v % u := ⟨_, rfl⟩
    rw [← hq, ← hr] at hdm
    rw [← hr] at hRl hR2 hGm
    have HDM := hid hdm
    have HB := hid (And.intro HW.out.1 (And.intro HW.out.2.2.1 HW.out.2.2.2))
    have HGM := hid hGm
    have HY := hid hY0
    clear hdm hq hr hGm hY0 h0
    go_wp2_with fail
    refine HDM.out.mono ?_
    rintro e w4 ⟨aq, cq, ar, cr, rfl, oq, or4, b4⟩
    have hb4 := HB.out.1.trans (b4.mono HB.out.1.size)
    have t1 := toUint64_any aa ca (nd u) w4 (HB.out.2.1.below b4) hY2
    have t2 := toUint64_any ar cr (nd r) w4 or4.rd hR2
    rw [val_nd] at t1 t2
    have t3 := smallGcd_any u r w4 HY.out hYs (by omega) (HB.out.2.2.below b4)
    rw [HGM.out] at t3
    have t4 := ofUint64_any G w4 hGs
    have T := hid (And.intro t1 (And.intro t2 (And.intro t3 t4)))
    have HB4 := hid hb4
    clear t1 t2 t3 t4 oq or4 b4 hb4 HDM
    go_wp2_with fail
    (with_reducible refine T.out.1.mono ?_)
    rintro e w' ⟨rfl, rfl⟩
    go_wp2_with fail
    (with_reducible refine T.out.2.1.mono ?_)
    rintro e w' ⟨rfl, rfl⟩
    go_wp2_with fail
    (with_reducible refine T.out.2.2.1.mono ?_)
    rintro e w' ⟨rfl, rfl⟩
    go_wp2_with fail
    (with_reducible refine T.out.2.2.2.mono ?_)
    rintro e wf ⟨af, cf, rfl, of, bf⟩
    go_wp2
    go_ret
    exact ⟨af, cf, rfl, of.mono HB4.out.size, HB4.out.trans (bf.mono HB4.out.size)⟩
  ·have hn2 : (2 : Int) < ((nd u).length : Int) := by omega
   have hsh := shorten_any ab aa cb ca (nd v) (nd u) w1 hx1 hy1 (nrm_nd _) (nrm_nd _) (by rw [val_nd, val_nd]; exact hle) (by omega) (nd_length_mono hle) (by omega)
   rw [val_nd, val_nd] at hsh
   have HW := hid (And.intro hb1 hT1)
   clear hb1 hx1 hy1 hT1 hY2
   go_wp2_with fail
   refine hsh.mono ?_
   rintro e w2 ⟨X, Y, a1, a2, c1, c2, rfl, hg2, hYX, hXA, hY2, o1, o2, b2⟩
   have hXl : (nd X).length ≤ 4398046511104 := Nat.le_trans (nd_length_mono hXA) (by omega)
   have HG2 := hid (hg2.trans HG.out)
   have HW2 := hid (And.intro (HW.out.1.trans (b2.mono HW.out.1.size)) (And.intro o1.rd (And.intro o2.rd (HW.out.2.below b2))))
   clear hsh hg2 hYX hXA o1 o2 b2
   by_cases hY0 : Y = 0
   ·have hG1 : G = X := by rw [← HG2.out, hY0, Nat.gcd_zero_right]
    have h0 : (nd Y).length = 0 := by rw [hY0, nd_zero]; rfl
    have h0i : (((nd Y).length : Int) == 0) = true := by rw [h0]; rfl
    have hcl := clone_any a1 c1 (nd X) w2 HW2.out.2.1 (by omega)
    have HCL := hid hcl
    have HB := hid (And.intro hG1 HW2.out.1)
    clear hcl hG1 hY0 h0
    go_wp2_with fail
    refine HCL.out.mono ?_
    rintro e wf ⟨af, cf, rfl, of, bf⟩
    go_wp2
    go_ret
    rw [HB.out.1]
    exact ⟨af, cf, rfl, of.mono HB.out.2.size, HB.out.2.trans (bf.mono HB.out.2.size)⟩
   ·have h0 : 0 < (nd Y).length := Nat.pos_of_ne_zero fun h => hY0 (nd_eq_nil.1 (List.eq_nil_of_length_eq_zero h))
    have h0i : (((nd Y).length : Int) == 0) = false := by rw [beq_eq_false_iff_ne]; omega
    have hdm := divmod_any a1 a2 c1 c2 (nd X) (nd Y) w2 HW2.out.2.1 HW2.out.2.2.1 (by rw [val_nd]; exact hY0) (by omega)
    rw [val_nd, val_nd] at hdm
    have hYs := two_digits hY2
    have hRl : X % Y < Y := Nat.mod_lt _ (Nat.pos_of_ne_zero hY0)
    have hR2 : (nd (X % Y)).length ≤ 2 := Nat.le_trans (nd_length_mono (Nat.le_of_lt hRl)) hY2
    have hGm : Nat.gcd Y (X % Y) = G := (gcd_mod' X Y).trans HG2.out
    have hGs : G < 18446744073709551616 := Nat.lt_of_le_of_lt (by rw [← hGm]; exact Nat.gcd_le_left _ (Nat.pos_of_ne_zero hY0)) hYs
    obtain ⟨q, hq⟩ : ∃ q, q = X / Y := ⟨_, rfl⟩
    obtain ⟨r, hr⟩ : ∃ r, r = X % Y := ⟨_, rfl⟩
    rw [← hq, ← hr] at hdm
    rw [← hr] at hRl hR2 hGm
    have HDM := hid hdm
    have HB := hid (And.intro HW2.out.1 (And.intro HW2.out.2.2.1 HW2.out.2.2.2))
    have HGM := hid hGm
    have HY := hid hY0
    clear hdm hq hr hGm hY0 h0
    go_wp2_with fail
    refine HDM.out.mono ?_
    rintro e w4 ⟨aq, cq, ar, cr, rfl, oq, or4, b4⟩
    have hb4 := HB.out.1.trans (b4.mono HB.out.1.size)
    have t1 := toUint64_any a2 c2 (nd Y) w4 (HB.out.2.1.below b4) hY2
    have t2 := toUint64_any ar cr (nd r) w4 or4.rd hR2
    rw [val_nd] at t1 t2
    have t3 := smallGcd_any Y r w4 HY.out hYs (by omega) (HB.out.2.2.below b4)
    rw [HGM.out] at t3
    have t4 := ofUint64_any G w4 hGs
    have T := hid (And.intro t1 (And.intro t2 (And.intro t3 t4)))
    have HB4 := hid hb4
    clear t1 t2 t3 t4 oq or4 b4 hb4 HDM
    go_wp2_with fail
    (with_reducible refine T.out.1.mono ?_)
    rintro e w' ⟨rfl, rfl⟩
    go_wp2_with fail
    (with_reducible refine T.out.2.1.mono ?_)
    rintro e w' ⟨rfl, rfl⟩
    go_wp2_with fail
    (with_reducible refine T.out.2.2.1.mono ?_)
    rintro e w' ⟨rfl, rfl⟩
    go_wp2_with fail
    (with_reducible refine T.out.2.2.2.mono ?_)
    rintro e wf ⟨af, cf, rfl, of, bf⟩
    go_wp2
    go_ret
    exact ⟨af, cf, rfl, of.mono HB4.out.size, HB4.out.trans (bf.mono HB4.out.size)⟩
 ·have hc1 : ¬ c < 0 := fun h => hlt (hcn.1 h)
  have hle : v ≤ u := by omega
  have HG := hid (show Nat.gcd u v = G by rw [hG])
  clear hcn hG hlt
  go_enter Tryz.func150, Tryz.ntmps150
  go_wp2_with fail
  refine HCX.out.mono ?_
  rintro e w' ⟨rfl, rfl⟩
  go_wp2_with fail
  refine HCY.out.mono ?_
  rintro e w' ⟨rfl, rfl⟩
  go_wp2_with fail
  refine HCM.out.mono ?_
  rintro e w' ⟨rfl, qq, rfl⟩
  have hx1 := HX.out.1.drewN qq
  have hy1 := HX.out.2.1.drewN qq
  have hb1 := below_drewN w qq
  have hT1 : Tb (w.drewN qq) := HX.out.2.2.below hb1
  clear HCX HCY HCM HX
  generalize w.drewN qq = w1 at hx1 hy1 hb1 hT1 ⊢
  by_cases hY2 : (nd v).length ≤ 2
  ·have hn2 : ¬ ((2 : Int) < ((nd v).length : Int)) := by omega
   have HW := hid (And.intro hb1 (And.intro hx1 (And.intro hy1 hT1)))
   clear hb1 hx1 hy1 hT1
   by_cases hY0 : v = 0
   ·have hG1 : G = u := by rw [← HG.out, hY0, Nat.gcd_zero_right]
    have h0 : (nd v).length = 0 := by rw [hY0, nd_zero]; rfl
    have h0i : (((nd v).length : Int) == 0) = true := by rw [h0]; rfl
    have hcl := clone_any aa ca (nd u) w1 HW.out.2.1 (by omega)
    have HCL := hid hcl
    have HB := hid (And.intro hG1 HW.out.1)
    clear hcl hG1 hY0 h0
    go_wp2_with fail
    refine HCL.out.mono ?_
    rintro e wf ⟨af, cf, rfl, of, bf⟩
    go_wp2
    go_ret
    rw [HB.out.1]
    exact ⟨af, cf, rfl, of.mono HB.out.2.size, HB.out.2.trans (bf.mono HB.out.2.size)⟩
   ·have h0 : 0 < (nd v).length := Nat.pos_of_ne_zero fun h => hY0 (nd_eq_nil.1 (List.eq_nil_of_length_eq_zero h))
    have h0i : (((nd v).length : Int) == 0) = false := by rw [beq_eq_false_iff_ne]; omega
    have hdm := divmod_any aa ab ca cb (nd u) (nd v) w1 HW.out.2.1 HW.out.2.2.1 (by rw [val_nd]; exact hY0) (by omega)
    rw [val_nd, val_nd] at hdm
    have hYs := two_digits hY2
    have hRl : u % v < v := Nat.mod_lt _ (Nat.pos_of_ne_zero hY0)
    have hR2 : (nd (u % v)).length ≤ 2 := Nat.le_trans (nd_length_mono (Nat.le_of_lt hRl)) hY2
    have hGm : Nat.gcd v (u % v) = G := (gcd_mod' u v).trans HG.out
    have hGs : G < 18446744073709551616 := Nat.lt_of_le_of_lt (by rw [← hGm]; exact Nat.gcd_le_left _ (Nat.pos_of_ne_zero hY0)) hYs
    obtain ⟨q, hq⟩ : ∃ q, q = u / v := ⟨_, rfl⟩
    obtain ⟨r, hr⟩ : ∃ r, r = u % v := ⟨_, rfl⟩
    rw [← hq, ← hr] at hdm
    rw [← hr] at hRl hR2 hGm
    have HDM := hid hdm
    have HB := hid (And.intro HW.out.1 (And.intro HW.out.2.2.1 HW.out.2.2.2))
    have HGM := hid hGm
    have HY := hid hY0
    clear hdm hq hr hGm hY0 h0
    go_wp2_with fail
    refine HDM.out.mono ?_
    rintro e w4 ⟨aq, cq, ar, cr, rfl, oq, or4, b4⟩
    have hb4 := HB.out.1.trans (b4.mono HB.out.1.size)
    have t1 := toUint64_any ab cb (nd v) w4 (HB.out.2.1.below b4) hY2
    have t2 := toUint64_any ar cr (nd r) w4 or4.rd hR2
    rw [val_nd] at t1 t2
    have t3 := smallGcd_any v r w4 HY.out hYs (by omega) (HB.out.2.2.below b4)
    rw [HGM.out] at t3
    have t4 := ofUint64_any G w4 hGs
    have T := hid (And.intro t1 (And.intro t2 (And.intro t3 t4)))
    have HB4 := hid hb4
    clear t1 t2 t3 t4 oq or4 b4 hb4 HDM
    go_wp2_with fail
    (with_reducible refine T.out.1.mono ?_)
    rintro e w' ⟨rfl, rfl⟩
    go_wp2_with fail
    (with_reducible refine T.out.2.1.mono ?_)
    rintro e w' ⟨rfl, rfl⟩
    go_wp2_with fail
    (with_reducible refine T.out.2.2.1.mono ?_)
    rintro e w' ⟨rfl, rfl⟩
    go_wp2_with fail
    (with_reducible refine T.out.2.2.2.mono ?_)
    rintro e wf ⟨af, cf, rfl, of, bf⟩
    go_wp2
    go_ret
    exact ⟨af, cf, rfl, of.mono HB4.out.size, HB4.out.trans (bf.mono HB4.out.size)⟩
  ·have hn2 : (2 : Int) < ((nd v).length : Int) := by omega
   have hsh := shorten_any aa ab ca cb (nd u) (nd v) w1 hx1 hy1 (nrm_nd _) (nrm_nd _) (by rw [val_nd, val_nd]; exact hle) (by omega) (nd_length_mono hle) (by omega)
   rw [val_nd, val_nd] at hsh
   have HW := hid (And.intro hb1 hT1)
   clear hb1 hx1 hy1 hT1 hY2
   go_wp2_with fail
   refine hsh.mono ?_
   rintro e w2 ⟨X, Y, a1, a2, c1, c2, rfl, hg2, hYX, hXA, hY2, o1, o2, b2⟩
   have hXl : (nd X).length ≤ 4398046511104 := Nat.le_trans (nd_length_mono hXA) (by omega)
   have HG2 := hid (hg2.trans HG.out)
   have HW2 := hid (And.intro (HW.out.1.trans (b2.mono HW.out.1.size)) (And.intro o1.rd (And.intro o2.rd (HW.out.2.below b2))))
   clear hsh hg2 hYX hXA o1 o2 b2
   by_cases hY0 : Y = 0
   ·have hG1 : G = X := by rw [← HG2.out, hY0, Nat.gcd_zero_right]
    have h0 : (nd Y).length = 0 := by rw [hY0, nd_zero]; rfl
    have h0i : (((nd Y).length : Int) == 0) = true := by rw [h0]; rfl
    have hcl := clone_any a1 c1 (nd X) w2 HW2.out.2.1 (by omega)
    have HCL := hid hcl
    have HB := hid (And.intro hG1 HW2.out.1)
    clear hcl hG1 hY0 h0
    go_wp2_with fail
    refine HCL.out.mono ?_
    rintro e wf ⟨af, cf, rfl, of, bf⟩
    go_wp2
    go_ret
    rw [HB.out.1]
    exact ⟨af, cf, rfl, of.mono HB.out.2.size, HB.out.2.trans (bf.mono HB.out.2.size)⟩
   ·have h0 : 0 < (nd Y).length := Nat.pos_of_ne_zero fun h => hY0 (nd_eq_nil.1 (List.eq_nil_of_length_eq_zero h))
    have h0i : (((nd Y).length : Int) == 0) = false := by rw [beq_eq_false_iff_ne]; omega
    have hdm := divmod_any a1 a2 c1 c2 (nd X) (nd Y) w2 HW2.out.2.1 HW2.out.2.2.1 (by rw [val_nd]; exact hY0) (by omega)
    rw [val_nd, val_nd] at hdm
    have hYs := two_digits hY2
    have hRl : X % Y < Y := Nat.mod_lt _ (Nat.pos_of_ne_zero hY0)
    have hR2 : (nd (X % Y)).length ≤ 2 := Nat.le_trans (nd_length_mono (Nat.le_of_lt hRl)) hY2
    have hGm : Nat.gcd Y (X % Y) = G := (gcd_mod' X Y).trans HG2.out
    have hGs : G < 18446744073709551616 := Nat.lt_of_le_of_lt (by rw [← hGm]; exact Nat.gcd_le_left _ (Nat.pos_of_ne_zero hY0)) hYs
    obtain ⟨q, hq⟩ : ∃ q, q = X / Y := ⟨_, rfl⟩
    obtain ⟨r, hr⟩ : ∃ r, r = X % Y := ⟨_, rfl⟩
    rw [← hq, ← hr] at hdm
    rw [← hr] at hRl hR2 hGm
    have HDM := hid hdm
    have HB := hid (And.intro HW2.out.1 (And.intro HW2.out.2.2.1 HW2.out.2.2.2))
    have HGM := hid hGm
    have HY := hid hY0
    clear hdm hq hr hGm hY0 h0
    go_wp2_with fail
    refine HDM.out.mono ?_
    rintro e w4 ⟨aq, cq, ar, cr, rfl, oq, or4, b4⟩
    have hb4 := HB.out.1.trans (b4.mono HB.out.1.size)
    have t1 := toUint64_any a2 c2 (nd Y) w4 (HB.out.2.1.below b4) hY2
    have t2 := toUint64_any ar cr (nd r) w4 or4.rd hR2
    rw [val_nd] at t1 t2
    have t3 := smallGcd_any Y r w4 HY.out hYs (by omega) (HB.out.2.2.below b4)
    rw [HGM.out] at t3
    have t4 := ofUint64_any G w4 hGs
    have T := hid (And.intro t1 (And.intro t2 (And.intro t3 t4)))
    have HB4 := hid hb4
    clear t1 t2 t3 t4 oq or4 b4 hb4 HDM
    go_wp2_with fail
    (with_reducible refine T.out.1.mono ?_)
    rintro e w' ⟨rfl, rfl⟩
    go_wp2_with fail
    (with_reducible refine T.out.2.1.mono ?_)
    rintro e w' ⟨rfl, rfl⟩
    go_wp2_with fail
    (with_reducible refine T.out.2.2.1.mono ?_)
    rintro e w' ⟨rfl, rfl⟩
    go_wp2_with fail
    (with_reducible refine T.out.2.2.2.mono ?_)
    rintro e wf ⟨af, cf, rfl, of, bf⟩
    go_wp2
    go_ret
    exact ⟨af, cf, rfl, of.mono HB4.out.size, HB4.out.trans (bf.mono HB4.out.size)⟩
end Go.Proofs.YtcankknlbljicaaGreatDoor
