/- Integers: Add, Mul. -/
import Derived.Test.YtbcaigpdckencaaDoorIn2
import Derived.Deep.RegionHeld3
namespace Go.Proofs.YtbcaigpdckencaaDoor
open Go.RowKit Num

/-- the boxes of two arguments and of the result -/
def W3 (w : World) (b1 b2 : Bool) (aa ab : Option Addr) (n1 n2 ca cb : Nat) : World :=
  (((w.alloc (.cells #[.bool b1, .slice aa n1 ca] 43)).alloc (.cells #[.bool b2, .slice ab n2 cb] 43)).alloc (.cells #[.bool false, .slice none 0 0] 43)).drew
theorem W3_below (w : World) (b1 b2 : Bool) (aa ab : Option Addr) (n1 n2 ca cb : Nat) : Below w.heap.size w (W3 w b1 b2 aa ab n1 n2 ca cb) := by
  have h1 := below_alloc w (.cells #[.bool b1, .slice aa n1 ca] 43)
  have h2 := h1.trans ((below_alloc _ (.cells #[.bool b2, .slice ab n2 cb] 43)).mono h1.size)
  have h3 := h2.trans ((below_alloc _ (.cells #[.bool false, .slice none 0 0] 43)).mono h2.size)
  exact h3.drew
theorem W3_size (w : World) (b1 b2 : Bool) (aa ab : Option Addr) (n1 n2 ca cb : Nat) : (W3 w b1 b2 aa ab n1 n2 ca cb).heap.size = w.heap.size + 3 := by simp [W3, World.drew]
theorem W3_pair (w : World) (b1 b2 : Bool) (aa ab : Option Addr) (n1 n2 ca cb : Nat) : (W3 w b1 b2 aa ab n1 n2 ca cb).heap[w.heap.size + 2]? = some (.cells #[.bool false, .slice none 0 0] 43 (0, 0)) := by
  have := heap_alloc_at ((w.alloc (.cells #[.bool b1, .slice aa n1 ca] 43)).alloc (.cells #[.bool b2, .slice ab n2 cb] 43)) (.cells #[.bool false, .slice none 0 0] 43)
  rw [show ((w.alloc (.cells #[.bool b1, .slice aa n1 ca] 43)).alloc (.cells #[.bool b2, .slice ab n2 cb] 43)).heap.size = w.heap.size + 2 by simp] at this
  exact this

/-- the boxes, later -/
theorem W3_cells {w w' : World} {b1 b2 : Bool} {aa ab : Option Addr} {n1 n2 ca cb : Nat} (hb : Below (W3 w b1 b2 aa ab n1 n2 ca cb).heap.size (W3 w b1 b2 aa ab n1 n2 ca cb) w') :
    (w'.cell? ⟨w.heap.size, 0, none⟩ = some (.bool b1) ∧ w'.cell? ⟨w.heap.size, 1, none⟩ = some (.slice aa n1 ca) ∧ w'.cell? ⟨w.heap.size + 1, 0, none⟩ = some (.bool b2) ∧ w'.cell? ⟨w.heap.size + 1, 1, none⟩ = some (.slice ab n2 cb)) ∧
    (w'.cell? ⟨w.heap.size + 2, 0, none⟩ = some (.bool false) ∧ w'.cell? ⟨w.heap.size + 2, 1, none⟩ = some (.slice none 0 0) ∧ w'.frozen? ⟨w.heap.size + 2, 0, none⟩ = false ∧ w'.frozen? ⟨w.heap.size + 2, 1, none⟩ = false) := by
  have hs := W3_size w b1 b2 aa ab n1 n2 ca cb
  have x1 := heap_alloc_at w (.cells #[.bool b1, .slice aa n1 ca] 43)
  have z1 : (w.alloc (.cells #[.bool b1, .slice aa n1 ca] 43)).heap.size = w.heap.size + 1 := by simp
  have x2 := heap_alloc_at (w.alloc (.cells #[.bool b1, .slice aa n1 ca] 43)) (.cells #[.bool b2, .slice ab n2 cb] 43)
  rw [z1] at x2
  have y2 := (below_alloc (w.alloc (.cells #[.bool b1, .slice aa n1 ca] 43)) (.cells #[.bool b2, .slice ab n2 cb] 43)).block w.heap.size (by omega)
  have z2 : ((w.alloc (.cells #[.bool b1, .slice aa n1 ca] 43)).alloc (.cells #[.bool b2, .slice ab n2 cb] 43)).heap.size = w.heap.size + 2 := by simp
  have b3 := below_alloc ((w.alloc (.cells #[.bool b1, .slice aa n1 ca] 43)).alloc (.cells #[.bool b2, .slice ab n2 cb] 43)) (.cells #[.bool false, .slice none 0 0] 43)
  have e0 : (W3 w b1 b2 aa ab n1 n2 ca cb).heap[w.heap.size]? = some (.cells #[.bool b1, .slice aa n1 ca] 43 (0, 0)) := (b3.block w.heap.size (by omega)).trans (y2.trans x1)
  have e1 : (W3 w b1 b2 aa ab n1 n2 ca cb).heap[w.heap.size + 1]? = some (.cells #[.bool b2, .slice ab n2 cb] 43 (0, 0)) := (b3.block (w.heap.size + 1) (by omega)).trans x2
  obtain ⟨c0, c1, _, _⟩ := pair_cells e0 hb
  obtain ⟨c2, c3, _, _⟩ := pair_cells e1 hb
  exact ⟨⟨c0, c1, c2, c3⟩, pair_cells (W3_pair w b1 b2 aa ab n1 n2 ca cb) hb⟩

set_option maxRecDepth 100000 in
set_option maxHeartbeats 3200000 in
theorem imul_any (b1 b2 : Bool) (aa ab : Option Addr) (ca cb : Nat) (xs ys : List Nat) (w : World) (ha : Rd w aa ca xs) (hb : Rd w ab cb ys) (hl1 : xs.length ≤ 4398046511104) (hl2 : ys.length ≤ 4398046511104) :
    Calls Tryd.prog 40 #[.agg #[.bool b1, .slice aa xs.length ca], .agg #[.bool b2, .slice ab ys.length cb]] w (RetInt w.heap.size (iv b1 (val xs) * iv b2 (val ys)) w) := by
  have hle1 := ha.le
  have hcm1 := ha.cm
  have hle2 := hb.le
  have hcm2 := hb.cm
  have HV := hid (show iv (!(b1 == b2)) (val xs * val ys) = iv b1 (val xs) * iv b2 (val ys) by
    cases b1 <;> cases b2 <;> simp [iv, Int.neg_mul, Int.mul_neg])
  have hB := W3_below w b1 b2 aa ab xs.length ys.length ca cb
  have HM := hid (mul_any aa ab ca cb xs ys _ (ha.below hB) (hb.below hB) hl1 hl2)
  have HC := hid (fun w' => W3_cells (w' := w') (w := w) (b1 := b1) (b2 := b2) (aa := aa) (ab := ab) (n1 := xs.length) (n2 := ys.length) (ca := ca) (cb := cb))
  have HB := hid hB
  have HSZ := hid (W3_size w b1 b2 aa ab xs.length ys.length ca cb)
  unfold W3 at HM HC HB HSZ
  have hn0 : ¬ (w.heap.size + 1 + 1 = w.heap.size) := by omega
  have hn1 : ¬ (w.heap.size = w.heap.size + 1 + 1) := by omega
  clear ha hb hB
  go_enter Tryd.func40, Tryd.ntmps40
  go_wp2_with fail
  go_region_held3 (fun w' => w'.cell? ⟨w.heap.size, 0, none⟩ = some (.bool b1) ∧ w'.cell? ⟨w.heap.size, 1, none⟩ = some (.slice aa xs.length ca) ∧ w'.cell? ⟨w.heap.size + 1, 0, none⟩ = some (.bool b2) ∧ w'.cell? ⟨w.heap.size + 1, 1, none⟩ = some (.slice ab ys.length cb)) (go_keep) (first
    | (go_at_call 30; (with_reducible refine HM.out.mono ?_); rintro e w3 ⟨a3, c3, rfl, ho3, hb3⟩; obtain ⟨⟨s0, s1, s2, s3⟩, t0, t1, t2, t3⟩ := HC.out w3 hb3)
    | (go_at_call 77; (with_reducible refine (signed_any _ (!(b1 == b2)) a3 c3 (val xs * val ys) w3 ho3).mono ?_); rintro e w4 ⟨a4, c4, rfl, ho4, hb4⟩; obtain ⟨⟨s4, s5, s6, s7⟩, k0, k1, k2, k3⟩ := HC.out w4 (hb3.trans (hb4.mono hb3.size))))
  all_goals
    go_wp2
    have hsz := HSZ.out
    refine bodyPost_ret (v := .agg #[.bool (decide (iv (!(b1 == b2)) (val xs * val ys) < 0)), .slice a4 (nd (iv (!(b1 == b2)) (val xs * val ys)).natAbs).length c4]) (by simp [results, Tryd.results40, go_sem, k0, k1]) rfl ?_
    rw [← HV.out]
    exact RetInt.fin ho4 (by omega) (HB.out.trans ((hb3.trans (hb4.mono hb3.size)).mono (by omega))) (by omega) _ _
end Go.Proofs.YtbcaigpdckencaaDoor
