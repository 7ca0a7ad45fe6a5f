/-  -/
import Derived.Test.YtcankknlbljicaaGreatDoorWo

set_option linter.unusedVariables false
set_option linter.unusedSimpArgs false
set_option linter.unusedSectionVars false
set_option maxRecDepth 100000
set_option maxHeartbeats 3200000

namespace Go.Proofs.YtcankknlbljicaaGreatDoor
open Go.RowKit Num

end Go.Proofs.YtcankknlbljicaaGreatDoor

namespace Go.Proofs.YtcankknlbljicaaGreatDoor
open Go.RowKit Num

theorem RetInt.fin2 {B g c4 v : Nat} {z : Int} {r : Bool} {w w4 : World} {a4 : Option Addr} (hr : r = decide (z < 0)) (hz : z.natAbs = v) (ho : Own B w4 a4 c4 (nd v)) (hg : g < B) (hb : Below w.heap.size w w4) (hgw : w.heap.size ≤ g) (v0 v1 : Value) :
  RetInt w.heap.size z w (.returned (.agg #[.bool r, .slice a4 (nd v).length c4])) ((w4.setCell ⟨g, 0, none⟩ v0).setCell ⟨g, 1, none⟩ v1) := by
 subst hr hz
 exact RetInt.fin ho hg hb hgw v0 v1
def W2 (w : World) (b : Bool) (ao : Option Addr) (n c : Nat) : World :=
 (w.alloc (.cells #[.bool b, .slice ao n c] 24)).alloc (.cells #[.bool false, .slice none 0 0] 24)
theorem W2_size (w : World) (b : Bool) (ao : Option Addr) (n c : Nat) : (W2 w b ao n c).heap.size = w.heap.size + 2 := by simp [W2]
theorem W2_below (w : World) (b : Bool) (ao : Option Addr) (n c : Nat) : Below w.heap.size w (W2 w b ao n c) := by
 have h1 := below_alloc w (.cells #[.bool b, .slice ao n c] 24)
 exact h1.trans ((below_alloc _ (.cells #[.bool false, .slice none 0 0] 24)).mono h1.size)
theorem W2_cells {w w' : World} {b : Bool} {ao : Option Addr} {n c : Nat} (hb : Below (W2 w b ao n c).heap.size (W2 w b ao n c) w') :
  (w'.cell? ⟨w.heap.size, 0, none⟩ = some (.bool b) ∧ w'.cell? ⟨w.heap.size, 1, none⟩ = some (.slice ao n c)) ∧
  (w'.cell? ⟨w.heap.size + 1, 0, none⟩ = some (.bool false) ∧ w'.cell? ⟨w.heap.size + 1, 1, none⟩ = some (.slice none 0 0) ∧ w'.frozen? ⟨w.heap.size + 1, 0, none⟩ = false ∧ w'.frozen? ⟨w.heap.size + 1, 1, none⟩ = false) := by
 have x1 := heap_alloc_at w (.cells #[.bool b, .slice ao n c] 24)
 have z1 : (w.alloc (.cells #[.bool b, .slice ao n c] 24)).heap.size = w.heap.size + 1 := by simp
 have x2 := heap_alloc_at (w.alloc (.cells #[.bool b, .slice ao n c] 24)) (.cells #[.bool false, .slice none 0 0] 24)
 rw [z1] at x2
 have y2 := (below_alloc (w.alloc (.cells #[.bool b, .slice ao n c] 24)) (.cells #[.bool false, .slice none 0 0] 24)).block w.heap.size (by omega)
 have e0 : (W2 w b ao n c).heap[w.heap.size]? = some (.cells #[.bool b, .slice ao n c] 24 (0, 0)) := y2.trans x1
 have e1 : (W2 w b ao n c).heap[w.heap.size + 1]? = some (.cells #[.bool false, .slice none 0 0] 24 (0, 0)) := x2
 obtain ⟨c0, c1, _, _⟩ := pair_cells e0 hb
 exact ⟨⟨c0, c1⟩, pair_cells e1 hb⟩

theorem rtrim2_any (b : Bool) (ao : Option Addr) (c : Nat) (xs : List Nat) (w : World) (h : Rd w ao c xs) (hl : xs.length ≤ 17592186044416) :
  Calls Tryz.prog 142 #[.agg #[.bool b, .slice ao xs.length c]] w (RetInt w.heap.size (iv b (val xs)) w) := by
 have hB := W2_below w b ao xs.length c
 have HC := hid (fun w' => W2_cells (w' := w') (w := w) (b := b) (ao := ao) (n := xs.length) (c := c))
 have HT := hid (rtrim_any ao c xs _ (h.below hB) hl)
 have HSZ := hid (W2_size w b ao xs.length c)
 have HB := hid hB
 unfold W2 at HC HT HSZ HB
 have HA := hid (iv_abs b (val xs))
 have HN := hid (iv_neg b (val xs))
 obtain ⟨v, hv⟩ : ∃ v, v = val xs := ⟨_, rfl⟩
 have hlv : (nd v).length ≤ 17592186044416 := by rw [hv]; exact Nat.le_trans (nd_length_le_of h.dg) hl
 rw [← hv] at HT HA HN ⊢
 clear h hB hv
 cases b with
 | false =>
  go_enter Tryz.func142, Tryz.ntmps142
  go_wp2_with fail
  refine HT.out.mono ?_
  rintro e w3 ⟨a3, c3, rfl, ho3, hb3⟩
  obtain ⟨⟨s0, s1⟩, k0, k1, k2, k3⟩ := HC.out w3 hb3
  have H3 := hid (And.intro ho3 (HB.out.trans (hb3.mono HB.out.size)))
  clear ho3 hb3
  go_wp2
  have hsz := HSZ.out
  refine bodyPost_ret (v := .agg #[.bool false, .slice a3 (nd v).length c3]) (by simp [results, Tryz.results142, go_sem, k0, k1]) rfl ?_
  exact RetInt.fin2 (by rw [HN.out]; rfl) HA.out H3.out.1 (by omega) H3.out.2 (by omega) _ _
 | true =>
  by_cases h0 : v = 0
  ·subst h0
   have hg : decide (((nd 0).length : Int) > 0) = false := by rw [nd_zero]; simp
   have hn0 := nd_zero
   have hg2 : ¬ (0 < ((nd 0).length : Int)) := by rw [nd_zero]; simp
   go_enter Tryz.func142, Tryz.ntmps142
   go_wp2_with fail
   refine HT.out.mono ?_
   rintro e w3 ⟨a3, c3, rfl, ho3, hb3⟩
   obtain ⟨⟨s0, s1⟩, k0, k1, k2, k3⟩ := HC.out w3 hb3
   have H3 := hid (And.intro ho3 (HB.out.trans (hb3.mono HB.out.size)))
   clear ho3 hb3
   go_wp2
   have hsz := HSZ.out
   refine bodyPost_ret (v := .agg #[.bool false, .slice a3 (nd 0).length c3]) (by simp [results, Tryz.results142, go_sem, k0, k1, nd_zero]) rfl ?_
   exact RetInt.fin2 (by rw [HN.out]; rfl) HA.out H3.out.1 (by omega) H3.out.2 (by omega) _ _
  ·have hp : 0 < (nd v).length := by
    apply Nat.pos_of_ne_zero
    intro h; exact h0 (nd_eq_nil.1 (List.eq_nil_of_length_eq_zero h))
   have hg : decide (((nd v).length : Int) > 0) = true := decide_eq_true (by omega)
   have hv0 : decide (0 < v) = true := decide_eq_true (by omega)
   have HV0 := hid hv0
   clear hv0 h0
   go_enter Tryz.func142, Tryz.ntmps142
   go_wp2_with fail
   refine HT.out.mono ?_
   rintro e w3 ⟨a3, c3, rfl, ho3, hb3⟩
   obtain ⟨⟨s0, s1⟩, k0, k1, k2, k3⟩ := HC.out w3 hb3
   have H3 := hid (And.intro ho3 (HB.out.trans (hb3.mono HB.out.size)))
   clear ho3 hb3
   go_wp2
   have hsz := HSZ.out
   refine bodyPost_ret (v := .agg #[.bool true, .slice a3 (nd v).length c3]) (by simp [results, Tryz.results142, go_sem, k0, k1]) rfl ?_
   exact RetInt.fin2 (by rw [HN.out, HV0.out]; rfl) HA.out H3.out.1 (by omega) H3.out.2 (by omega) _ _

theorem val_word (x : Nat) : val [x % 4294967296, x / 4294967296] = x := by simp [val]; omega
theorem wf_word {x : Nat} (h : x < 18446744073709551616) : wf [x % 4294967296, x / 4294967296] := wf_cons.2 ⟨by omega, wf_cons.2 ⟨by omega, wf_nil⟩⟩

theorem Own.word (w : World) (B x : Nat) (u v : Int) (hu : u = ((x % 4294967296 : Nat) : Int)) (hv : v = ((x / 4294967296 : Nat) : Int)) (hx : x < 18446744073709551616) (hB : B ≤ w.heap.size) :
  Own B (w.alloc (.cells #[.int .u32 u, .int .u32 v] 88)) (some ⟨w.heap.size, 0, none⟩) 2 [x % 4294967296, x / 4294967296] := by
 subst hu hv
 exact Own.mk_some (cur := #[.int .u32 ((x % 4294967296 : Nat) : Int), .int .u32 ((x / 4294967296 : Nat) : Int)]) hB (heap_alloc_at w _) (by simp) (by omega) rfl rfl (wf_word hx)

theorem rof_nn (n : Int) (w : World) (h0 : 0 ≤ n) (h1 : n ≤ 9223372036854775807) :
  Calls Tryz.prog 78 #[.int .i64 n] w (RetInt w.heap.size n w) := by
 have hneg : ¬ n < 0 := by omega
 have hb1 := below_alloc w (.cells #[.bool false, .slice none 0 0] 24)
 have hz1 : (w.alloc (.cells #[.bool false, .slice none 0 0] 24)).heap.size = w.heap.size + 1 := by simp
 have hP := heap_alloc_at w (.cells #[.bool false, .slice none 0 0] 24)
 generalize hw1 : w.alloc (.cells #[.bool false, .slice none 0 0] 24) = w1 at hb1 hz1 hP
 have hu : n % 4294967296 = ((n.natAbs % 4294967296 : Nat) : Int) := by omega
 have hv : n / 4294967296 = ((n.natAbs / 4294967296 : Nat) : Int) := by omega
 have hown := Own.word w1 w1.heap.size n.natAbs _ _ hu hv (by omega) (Nat.le_refl _)
 have hb2 := below_alloc w1 (.cells #[.int .u32 (n % 4294967296), .int .u32 (n / 4294967296)] 88)
 have hvn : iv false n.natAbs = n := by unfold iv; rw [if_neg (by simp)]; omega
 have ht := rtrim2_any false _ 2 _ _ hown.rd (by simp)
 rw [val_word, hvn, hz1] at ht
 have hz2 : (w1.alloc (.cells #[.int .u32 (n % 4294967296), .int .u32 (n / 4294967296)] 88)).heap.size = w.heap.size + 2 := by simp [hz1]
 have HT := hid ht
 have HB := hid (And.intro (hb1.trans (hb2.mono hb1.size)) hb2)
 have HP := hid hP
 have HZ := hid (And.intro hz1 hz2)
 have HV := hid hvn
 clear hu hv hown hb1 hb2 ht hP hz1 hz2 hvn
 subst hw1
 go_enter Tryz.func78, Tryz.ntmps78
 go_wp2_with fail
 refine HT.out.mono ?_
 rintro e w4 ⟨a4, c4, rfl, ho4, hb4⟩
 obtain ⟨k0, k1, k2, k3⟩ := pair_cells HP.out (HB.out.2.trans (hb4.mono HB.out.2.size))
 have hb04 := HB.out.1.trans (hb4.mono HB.out.1.size)
 have H4 := hid (And.intro ho4 hb04)
 clear ho4 hb04 hb4
 go_wp2
 have hz := HZ.out
 refine bodyPost_ret (v := .agg #[.bool (decide (n < 0)), .slice a4 (nd n.natAbs).length c4]) (by simp [h0, results, Tryz.results78, go_sem, k0, k1]) rfl ?_
 exact RetInt.fin H4.out.1 (by omega) H4.out.2 (Nat.le_refl _) _ _
theorem rof_neg (n : Int) (w : World) (h0 : n < 0) (h1 : -9223372036854775808 ≤ n) :
  Calls Tryz.prog 78 #[.int .i64 n] w (RetInt w.heap.size n w) := by
 have hb1 := below_alloc w (.cells #[.bool false, .slice none 0 0] 24)
 have hz1 : (w.alloc (.cells #[.bool false, .slice none 0 0] 24)).heap.size = w.heap.size + 1 := by simp
 have hP := heap_alloc_at w (.cells #[.bool false, .slice none 0 0] 24)
 generalize hw1 : w.alloc (.cells #[.bool false, .slice none 0 0] 24) = w1 at hb1 hz1 hP
 have hu : (-(n + 1) + 1) % 4294967296 = ((n.natAbs % 4294967296 : Nat) : Int) := by omega
 have hv : (-(n + 1) + 1) / 4294967296 = ((n.natAbs / 4294967296 : Nat) : Int) := by omega
 have hown := Own.word w1 w1.heap.size n.natAbs _ _ hu hv (by omega) (Nat.le_refl _)
 have hb2 := below_alloc w1 (.cells #[.int .u32 ((-(n + 1) + 1) % 4294967296), .int .u32 ((-(n + 1) + 1) / 4294967296)] 88)
 have hvn : iv true n.natAbs = n := by unfold iv; rw [if_pos rfl]; omega
 have ht := rtrim2_any true _ 2 _ _ hown.rd (by simp)
 rw [val_word, hvn, hz1] at ht
 have hz2 : (w1.alloc (.cells #[.int .u32 ((-(n + 1) + 1) % 4294967296), .int .u32 ((-(n + 1) + 1) / 4294967296)] 88)).heap.size = w.heap.size + 2 := by simp [hz1]
 have HT := hid ht
 have HB := hid (And.intro (hb1.trans (hb2.mono hb1.size)) hb2)
 have HP := hid hP
 have HZ := hid (And.intro hz1 hz2)
 have HV := hid hvn
 clear hu hv hown hb1 hb2 ht hP hz1 hz2 hvn
 subst hw1
 go_enter Tryz.func78, Tryz.ntmps78
 go_wp2_with fail
 refine HT.out.mono ?_
 rintro e w4 ⟨a4, c4, rfl, ho4, hb4⟩
 obtain ⟨k0, k1, k2, k3⟩ := pair_cells HP.out (HB.out.2.trans (hb4.mono HB.out.2.size))
 have hb04 := HB.out.1.trans (hb4.mono HB.out.1.size)
 have H4 := hid (And.intro ho4 hb04)
 clear ho4 hb04 hb4
 go_wp2
 have hz := HZ.out
 refine bodyPost_ret (v := .agg #[.bool (decide (n < 0)), .slice a4 (nd n.natAbs).length c4]) (by simp [h0, results, Tryz.results78, go_sem, k0, k1]) rfl ?_
 exact RetInt.fin H4.out.1 (by omega) H4.out.2 (Nat.le_refl _) _ _
theorem of_nn (n : Int) (w : World) (h0 : 0 ≤ n) (h1 : n ≤ 9223372036854775807) :
  Calls Tryz.prog 137 #[.int .i64 n] w (RetInt w.heap.size n w) := by
 have hneg : ¬ n < 0 := by omega
 have hb1 := below_alloc w (.cells #[.bool false, .slice none 0 0] 24)
 have hz1 : (w.alloc (.cells #[.bool false, .slice none 0 0] 24)).heap.size = w.heap.size + 1 := by simp
 have hP := heap_alloc_at w (.cells #[.bool false, .slice none 0 0] 24)
 generalize hw1 : w.alloc (.cells #[.bool false, .slice none 0 0] 24) = w1 at hb1 hz1 hP
 have hu : n % 4294967296 = ((n.natAbs % 4294967296 : Nat) : Int) := by omega
 have hv : n / 4294967296 = ((n.natAbs / 4294967296 : Nat) : Int) := by omega
 have hown := Own.word w1 w1.heap.size n.natAbs _ _ hu hv (by omega) (Nat.le_refl _)
 have hb2 := below_alloc w1 (.cells #[.int .u32 (n % 4294967296), .int .u32 (n / 4294967296)] 88)
 have hvn : iv false n.natAbs = n := by unfold iv; rw [if_neg (by simp)]; omega
 have ht := trim_any _ 2 _ _ hown.rd (by simp)
 rw [val_word, hz1] at ht
 have hz2 : (w1.alloc (.cells #[.int .u32 (n % 4294967296), .int .u32 (n / 4294967296)] 88)).heap.size = w.heap.size + 2 := by simp [hz1]
 have HT := hid ht
 have HB := hid (And.intro (hb1.trans (hb2.mono hb1.size)) hb2)
 have HP := hid hP
 have HZ := hid (And.intro hz1 hz2)
 have HV := hid hvn
 clear hu hv hown hb1 hb2 ht hP hz1 hz2 hvn
 subst hw1
 go_enter Tryz.func137, Tryz.ntmps137
 go_wp2_with fail
 refine HT.out.mono ?_
 rintro e w3 ⟨a3, c3, rfl, ho3, hb3⟩
 have hs := signed_any _ false a3 c3 n.natAbs w3 ho3
 rw [HV.out] at hs
 go_wp2_with fail
 refine hs.mono ?_
 rintro e w4 ⟨a4, c4, rfl, ho4, hb4⟩
 have hb34 := hb3.trans (hb4.mono hb3.size)
 obtain ⟨k0, k1, k2, k3⟩ := pair_cells HP.out (HB.out.2.trans (hb34.mono HB.out.2.size))
 have hb04 := HB.out.1.trans (hb34.mono HB.out.1.size)
 have H4 := hid (And.intro ho4 hb04)
 clear ho4 hb04 hb4 hb3 hb34 ho3 hs
 go_wp2
 have hz := HZ.out
 refine bodyPost_ret (v := .agg #[.bool (decide (n < 0)), .slice a4 (nd n.natAbs).length c4]) (by simp [h0, results, Tryz.results137, go_sem, k0, k1]) rfl ?_
 exact RetInt.fin H4.out.1 (by omega) H4.out.2 (Nat.le_refl _) _ _
theorem of_neg (n : Int) (w : World) (h0 : n < 0) (h1 : -9223372036854775808 ≤ n) :
  Calls Tryz.prog 137 #[.int .i64 n] w (RetInt w.heap.size n w) := by
 have hb1 := below_alloc w (.cells #[.bool false, .slice none 0 0] 24)
 have hz1 : (w.alloc (.cells #[.bool false, .slice none 0 0] 24)).heap.size = w.heap.size + 1 := by simp
 have hP := heap_alloc_at w (.cells #[.bool false, .slice none 0 0] 24)
 generalize hw1 : w.alloc (.cells #[.bool false, .slice none 0 0] 24) = w1 at hb1 hz1 hP
 have hwr : IntKind.u64.wrap (-IntKind.u64.wrap n) = ((n.natAbs : Nat) : Int) := by
  simp [IntKind.wrap, IntKind.bits, IntKind.signed]; omega
 have hu : IntKind.u64.wrap (-IntKind.u64.wrap n) % 4294967296 = ((n.natAbs % 4294967296 : Nat) : Int) := by rw [hwr]; omega
 have hv : IntKind.u64.wrap (-IntKind.u64.wrap n) / 4294967296 % 4294967296 = ((n.natAbs / 4294967296 : Nat) : Int) := by rw [hwr]; omega
 clear hwr
 have hown := Own.word w1 w1.heap.size n.natAbs _ _ hu hv (by omega) (Nat.le_refl _)
 have hb2 := below_alloc w1 (.cells #[.int .u32 (IntKind.u64.wrap (-IntKind.u64.wrap n) % 4294967296), .int .u32 (IntKind.u64.wrap (-IntKind.u64.wrap n) / 4294967296 % 4294967296)] 88)
 have hvn : iv true n.natAbs = n := by unfold iv; rw [if_pos rfl]; omega
 have ht := trim_any _ 2 _ _ hown.rd (by simp)
 rw [val_word, hz1] at ht
 have hz2 : (w1.alloc (.cells #[.int .u32 (IntKind.u64.wrap (-IntKind.u64.wrap n) % 4294967296), .int .u32 (IntKind.u64.wrap (-IntKind.u64.wrap n) / 4294967296 % 4294967296)] 88)).heap.size = w.heap.size + 2 := by simp [hz1]
 have HT := hid ht
 have HB := hid (And.intro (hb1.trans (hb2.mono hb1.size)) hb2)
 have HP := hid hP
 have HZ := hid (And.intro hz1 hz2)
 have HV := hid hvn
 clear hu hv hown hb1 hb2 ht hP hz1 hz2 hvn
 subst hw1
 go_enter Tryz.func137, Tryz.ntmps137
 go_wp2_with fail
 refine HT.out.mono ?_
 rintro e w3 ⟨a3, c3, rfl, ho3, hb3⟩
 have hs := signed_any _ true a3 c3 n.natAbs w3 ho3
 rw [HV.out] at hs
 go_wp2_with fail
 refine hs.mono ?_
 rintro e w4 ⟨a4, c4, rfl, ho4, hb4⟩
 have hb34 := hb3.trans (hb4.mono hb3.size)
 obtain ⟨k0, k1, k2, k3⟩ := pair_cells HP.out (HB.out.2.trans (hb34.mono HB.out.2.size))
 have hb04 := HB.out.1.trans (hb34.mono HB.out.1.size)
 have H4 := hid (And.intro ho4 hb04)
 clear ho4 hb04 hb4 hb3 hb34 ho3 hs
 go_wp2
 have hz := HZ.out
 refine bodyPost_ret (v := .agg #[.bool (decide (n < 0)), .slice a4 (nd n.natAbs).length c4]) (by simp [h0, results, Tryz.results137, go_sem, k0, k1]) rfl ?_
 exact RetInt.fin H4.out.1 (by omega) H4.out.2 (Nat.le_refl _) _ _
end Go.Proofs.YtcankknlbljicaaGreatDoor

namespace Go.Proofs.YtcankknlbljicaaGreatDoor
open Go.RowKit Num

def RetIDiv (B : Nat) (z1 z2 er : Int) (w : World) (e : Ending) (w' : World) : Prop :=
 ∃ a1 c1 a2 c2, e = .returned (.tuple #[.agg #[.bool (decide (z1 < 0)), .slice a1 (nd z1.natAbs).length c1], .agg #[.bool (decide (z2 < 0)), .slice a2 (nd z2.natAbs).length c2], .int .i64 er]) ∧
  Own B w' a1 c1 (nd z1.natAbs) ∧ Own B w' a2 c2 (nd z2.natAbs) ∧ Below w.heap.size w w'

theorem ediv_unique {a b q r : Int} (hb : b ≠ 0) (h : a = b * q + r) (h0 : 0 ≤ r) (h1 : r < b.natAbs) : a / b = q ∧ a % b = r := by
 have hm : a % b = r := by
  rw [h, Int.mul_add_emod_self_left]
  by_cases hp : 0 < b
  ·exact Int.emod_eq_of_lt h0 (by omega)
  ·rw [← Int.emod_neg]
   exact Int.emod_eq_of_lt h0 (by omega)
 refine ⟨?_, hm⟩
 have h2 := Int.mul_ediv_add_emod a b
 rw [hm] at h2
 have h3 : b * (a / b) = b * q := by omega
 exact Int.eq_of_mul_eq_mul_left hb h3
theorem idiv_plain {b1 b2 : Bool} {x y : Nat} (hy : y ≠ 0) (h : b1 = false ∨ x % y = 0) : iv b1 x / iv b2 y = iv (!(b1 == b2)) (x / y) ∧ iv b1 x % iv b2 y = iv false (x % y) := by
 have h1 : (x : Int) = (y : Int) * ((x / y : Nat) : Int) + ((x % y : Nat) : Int) := by
  have := Nat.div_add_mod x y
  rw [← Int.natCast_mul, ← Int.natCast_add, this]
 have h2 := Nat.mod_lt x (Nat.pos_of_ne_zero hy)
 refine ediv_unique (by cases b2 <;> simp [iv] <;> omega) ?_ (by simp [iv]; omega) (by rw [iv_abs]; simp [iv]; omega)
 rcases h with rfl | h
 ·cases b2
  ·exact h1
  ·show (x : Int) = -(y : Int) * -((x / y : Nat) : Int) + ((x % y : Nat) : Int)
   rw [Int.neg_mul_neg]; exact h1
 ·cases b1 <;> cases b2
  ·exact h1
  ·show (x : Int) = -(y : Int) * -((x / y : Nat) : Int) + ((x % y : Nat) : Int)
   rw [Int.neg_mul_neg]; exact h1
  ·show -(x : Int) = (y : Int) * -((x / y : Nat) : Int) + ((x % y : Nat) : Int)
   rw [Int.mul_neg, h]; rw [h] at h1; omega
  ·show -(x : Int) = -(y : Int) * ((x / y : Nat) : Int) + ((x % y : Nat) : Int)
   rw [Int.neg_mul, h]; rw [h] at h1; omega
theorem idiv_up {b2 : Bool} {x y : Nat} (hy : y ≠ 0) (h : x % y ≠ 0) : iv true x / iv b2 y = iv (!(true == b2)) (x / y + 1) ∧ iv true x % iv b2 y = iv false (y - x % y) := by
 have h1 : (x : Int) = (y : Int) * ((x / y : Nat) : Int) + ((x % y : Nat) : Int) := by
  have := Nat.div_add_mod x y
  rw [← Int.natCast_mul, ← Int.natCast_add, this]
 have h2 := Nat.mod_lt x (Nat.pos_of_ne_zero hy)
 have hq : (y : Int) * ((x / y + 1 : Nat) : Int) = (y : Int) * ((x / y : Nat) : Int) + (y : Int) := by
  rw [Int.natCast_add, Int.mul_add]; simp
 refine ediv_unique (by cases b2 <;> simp [iv] <;> omega) ?_ (by simp [iv]) (by rw [iv_abs]; simp [iv]; omega)
 cases b2
 ·show -(x : Int) = (y : Int) * -((x / y + 1 : Nat) : Int) + ((y - x % y : Nat) : Int)
  rw [Int.mul_neg, hq]; omega
 ·show -(x : Int) = -(y : Int) * ((x / y + 1 : Nat) : Int) + ((y - x % y : Nat) : Int)
  rw [Int.neg_mul, hq]; omega
end Go.Proofs.YtcankknlbljicaaGreatDoor
