/- Walks: the reference's Add. -/
import Derived.Test.YtbcaigpdckencaaDoorRf2
namespace Go.Proofs.YtbcaigpdckencaaDoor
open Go.RowKit Num

theorem val_take_getD (xs : List Nat) (k : Nat) : val (xs.take (k + 1)) = val (xs.take k) + 4294967296 ^ k * xs.getD k 0 := by
  by_cases h : k < xs.length
  · exact val_take_succ h
  · rw [List.take_of_length_le (by omega), List.take_of_length_le (by omega), List.getD_eq_getElem?_getD, List.getElem?_eq_none (by omega)]
    simp
theorem add_step {T cy k x z : Nat} (h : T / 4294967296 ^ k = cy) (hz : z = cy + x) :
    dig (k + 1) (T + 4294967296 ^ k * x) = dig k T ++ [z % 4294967296] ∧ (T + 4294967296 ^ k * x) / 4294967296 ^ (k + 1) = z / 4294967296 := by
  have e1 : (T + 4294967296 ^ k * x) / 4294967296 ^ k = z := by rw [Nat.add_mul_div_left _ _ (pow_pos k), h, hz]
  constructor
  · rw [dig_succ, e1, ← dig_mod k (T + _), Nat.add_mul_mod_self_left, dig_mod]
  · rw [Nat.pow_succ, ← Nat.div_div_eq_div_mul, e1]

set_option maxRecDepth 100000 in
set_option maxHeartbeats 1600000 in
theorem radd_any (aa ab : Option Addr) (ca cb : Nat) (xs ys : List Nat) (w : World) (ha : Rd w aa ca xs) (hb : Rd w ab cb ys) (hl1 : xs.length ≤ 17592186044414) (hl2 : ys.length ≤ 17592186044414) :
    Calls Tryd.prog 57 #[.slice aa xs.length ca, .slice ab ys.length cb] w (RetOwn w.heap.size (nd (val xs + val ys)) w) := by
  have hax := ha.le
  have hax2 := ha.cm
  have hay := hb.le
  have hay2 := hb.cm
  have hxw := ha.dg
  have hyw := hb.dg
  go_enter Tryd.func57, Tryd.ntmps57
  go_wp2
  go_loopw [5, 6, 7] (fun sv cv iv wr => ∃ (k cy : Nat) (ao : Option Addr) (c : Nat), (k ≤ xs.length ∨ k ≤ ys.length) ∧ sv = .slice ao k c ∧ cv = .int .u64 (cy : Int) ∧ iv = .int .i64 (k : Int) ∧ cy ≤ 1 ∧
      Own w.heap.size wr ao c (dig k (val (xs.take k) + val (ys.take k))) ∧ Below w.heap.size w wr ∧ Hid ((val (xs.take k) + val (ys.take k)) / 4294967296 ^ k = cy)) (fun _ _ iv _ => xs.length + ys.length - (intOf iv).toNat)
  case atStart => exact ⟨0, 0, none, 0, Or.inl (Nat.zero_le _), rfl, rfl, rfl, by omega, Own.nil _ _, Below.refl _ _, by simp [Hid, val]⟩
  case round =>
    obtain ⟨k, cy, ao, c, hk, rfl, rfl, rfl, hcy, hown, hbel, HC⟩ := hrel
    by_cases hend : k < xs.length ∨ k < ys.length
    · obtain ⟨x, hx⟩ : ∃ x, x = xs.getD k 0 := ⟨_, rfl⟩
      obtain ⟨y, hy⟩ : ∃ y, y = ys.getD k 0 := ⟨_, rfl⟩
      have hxl : x < 4294967296 := by rw [hx]; exact wf_getD hxw k
      have hyl : y < 4294967296 := by rw [hy]; exact wf_getD hyw k
      obtain ⟨s, hs⟩ : ∃ s, s = cy + (x + y) := ⟨_, rfl⟩
      obtain ⟨d, hd⟩ : ∃ d, d = s % 4294967296 := ⟨_, rfl⟩
      have hdl : d < 4294967296 := by omega
      have hst := add_step (x := x + y) HC.out hs
      have e1 : val (xs.take (k + 1)) + val (ys.take (k + 1)) = val (xs.take k) + val (ys.take k) + 4294967296 ^ k * (x + y) := by
        rw [val_take_getD, val_take_getD, ← hx, ← hy, Nat.mul_add]; omega
      rw [← e1, ← hd] at hst
      have HST := hid hst
      clear hst e1
      have hra := ha.below hbel
      have hrb := hb.below hbel
      have hdi : (s : Int) % 4294967296 = (d : Int) := by omega
      have hone := Own.one wr wr.heap.size d (Nat.le_refl _) hdl
      have HON := hid hone
      have hk35 : k + 1 ≤ 35184372088832 := by omega
      by_cases h1 : k < xs.length
      · rcases hra.lies with h9 | ⟨b1, o1, rfl, hc1⟩
        · simp [h9] at h1
        have g1 := hc1 k h1
        rw [← hx] at g1
        have hl1 : (k : Int) < (xs.length : Int) := by omega
        by_cases h2 : k < ys.length
        · rcases hrb.lies with h9 | ⟨b2, o2, rfl, hc2⟩
          · simp [h9] at h2
          have g2 := hc2 k h2
          rw [← hy] at g2
          have hl2 : (k : Int) < (ys.length : Int) := by omega
          have hsi : (cy : Int) + (x : Int) + (y : Int) = (s : Int) := by omega
          have HOWN := hid hown
          have HBEL := hid hbel
          clear hx hy hs hd hc1 hc2 hra hrb hown hbel hone
          go_wp2_with (at_builtin; refine wp_append _ rfl _ _ rfl w.heap.size ao (some ⟨wr.heap.size, 0, none⟩) k 1 c 1 (dig k (val (xs.take k) + val (ys.take k))) [d] rfl ?c0a (length_dig _ _).symm rfl (HOWN.out.below (below_alloc _ _)) ?c1a hk35 ?c2a ?c3a)
          case c0a => go_simp
          case c1a => exact HON.out.rd
          case c2a => exact Nat.le_trans HBEL.out.size (below_alloc _ _).size
          intro a3 c3 w9 ho3 hb3
          have hb9 := (HBEL.out.trans ((below_alloc wr (.cells #[.int .u32 (d : Int)] 61)).mono HBEL.out.size)).trans hb3
          rw [← HST.out.1] at ho3
          have H3 := hid (And.intro ho3 (And.intro hb9 HST.out.2))
          clear ho3 hb3 hb9
          go_wp2
          refine ⟨⟨k + 1, s / 4294967296, a3, c3, by omega, by simp, int_eq (by omega), int_eq (by omega), by omega, H3.out⟩, by simp [intOf]; omega⟩
        · have hl2 : ¬ (k : Int) < (ys.length : Int) := by omega
          have hy0 : y = 0 := by rw [hy, List.getD_eq_getElem?_getD, List.getElem?_eq_none (by omega)]; rfl
          have hsi : (cy : Int) + (x : Int) = (s : Int) := by omega
          clear hy0
          have HOWN := hid hown
          have HBEL := hid hbel
          clear hx hy hs hd hc1 hra hrb hown hbel hone
          go_wp2_with (at_builtin; refine wp_append _ rfl _ _ rfl w.heap.size ao (some ⟨wr.heap.size, 0, none⟩) k 1 c 1 (dig k (val (xs.take k) + val (ys.take k))) [d] rfl ?c0b (length_dig _ _).symm rfl (HOWN.out.below (below_alloc _ _)) ?c1b hk35 ?c2b ?c3b)
          case c1b => exact HON.out.rd
          case c2b => exact Nat.le_succ_of_le HBEL.out.size
          intro a3 c3 w9 ho3 hb3
          have hb9 := (HBEL.out.trans ((below_alloc wr (.cells #[.int .u32 (d : Int)] 61)).mono HBEL.out.size)).trans hb3
          rw [← HST.out.1] at ho3
          have H3 := hid (And.intro ho3 (And.intro hb9 HST.out.2))
          clear ho3 hb3 hb9
          go_wp2
          refine ⟨⟨k + 1, s / 4294967296, a3, c3, by omega, by simp, int_eq (by omega), int_eq (by omega), by omega, H3.out⟩, by simp [intOf]; omega⟩
      · have h2 : k < ys.length := by omega
        have hl1 : ¬ (k : Int) < (xs.length : Int) := by omega
        have hl2 : (k : Int) < (ys.length : Int) := by omega
        have hx0 : x = 0 := by rw [hx, List.getD_eq_getElem?_getD, List.getElem?_eq_none (by omega)]; rfl
        rcases hrb.lies with h9 | ⟨b2, o2, rfl, hc2⟩
        · simp [h9] at h2
        · have g2 := hc2 k h2
          rw [← hy] at g2
          have hsi : (cy : Int) + (y : Int) = (s : Int) := by omega
          clear hx0
          have HOWN := hid hown
          have HBEL := hid hbel
          clear hx hy hs hd hc2 hra hrb hown hbel hone
          go_wp2_with (at_builtin; refine wp_append _ rfl _ _ rfl w.heap.size ao (some ⟨wr.heap.size, 0, none⟩) k 1 c 1 (dig k (val (xs.take k) + val (ys.take k))) [d] rfl ?c0c (length_dig _ _).symm rfl (HOWN.out.below (below_alloc _ _)) ?c1c hk35 ?c2c ?c3c)
          case c1c => exact HON.out.rd
          case c2c => exact Nat.le_succ_of_le HBEL.out.size
          intro a3 c3 w9 ho3 hb3
          have hb9 := (HBEL.out.trans ((below_alloc wr (.cells #[.int .u32 (d : Int)] 61)).mono HBEL.out.size)).trans hb3
          rw [← HST.out.1] at ho3
          have H3 := hid (And.intro ho3 (And.intro hb9 HST.out.2))
          clear ho3 hb3 hb9
          go_wp2
          refine ⟨⟨k + 1, s / 4294967296, a3, c3, by omega, by simp, int_eq (by omega), int_eq (by omega), by omega, H3.out⟩, by simp [intOf]; omega⟩
    · have hl1 : ¬ (k : Int) < (xs.length : Int) := by omega
      have hl2 : ¬ (k : Int) < (ys.length : Int) := by omega
      have hT : val (xs.take k) + val (ys.take k) = val xs + val ys := by rw [val_take_of_ge (by omega), val_take_of_ge (by omega)]
      obtain ⟨T, hTT⟩ : ∃ T, T = val xs + val ys := ⟨_, rfl⟩
      have hdig : val (dig k T ++ [cy]) = T := by
        have h := HC.out
        rw [hT, ← hTT] at h
        rw [val_snoc, val_dig, length_dig, ← h]; exact Nat.mod_add_div _ _
      rw [hT, ← hTT] at hown
      have HTT := hid hTT
      have hk35 : k + 1 ≤ 35184372088832 := by omega
      have hci : (cy : Int) % 4294967296 = (cy : Int) := by omega
      have HON := hid (Own.one wr wr.heap.size cy (Nat.le_refl _) (by omega))
      have HOWN := hid hown
      have HBEL := hid hbel
      have HD := hid hdig
      clear hown hbel hdig hT hTT
      go_wp2_with (at_builtin; refine wp_append _ rfl _ _ rfl w.heap.size ao (some ⟨wr.heap.size, 0, none⟩) k 1 c 1 (dig k T) [cy] rfl ?c0d (length_dig _ _).symm rfl (HOWN.out.below (below_alloc _ _)) ?c1d hk35 ?c2d ?c3d)
      case c1d => exact HON.out.rd
      case c2d => exact Nat.le_succ_of_le HBEL.out.size
      intro a3 c3 w9 ho3 hb3
      have hb9 := (HBEL.out.trans ((below_alloc wr (.cells #[.int .u32 (cy : Int)] 61)).mono HBEL.out.size)).trans hb3
      have hll : (dig k T ++ [cy]).length = k + 1 := by rw [List.length_append, length_dig]; rfl
      have ht := rtrim_any a3 c3 (dig k T ++ [cy]) w9 ho3.rd (by rw [hll]; omega)
      rw [HD.out, hll, HTT.out] at ht
      clear ho3 hb3 hll
      go_wp2_with fail
      refine ht.mono ?_
      rintro e w10 ⟨a4, c4, rfl, ho4, hb4⟩
      go_wp2
      go_ret
      exact ⟨a4, c4, rfl, ho4.mono hb9.size, hb9.trans (hb4.mono hb9.size)⟩
end Go.Proofs.YtbcaigpdckencaaDoor
