/- Walks: awake, the examples of the chapter. · Lengths of sums and products; comparisons; roots. · Walks: the reference's Pow, Root. · Walks: the reference's Root. -/
import Derived.Test.YtbcaigpdckencaaDoorQi
import Derived.Test.YtbcaigpdckencaaDoorQj

namespace Go.Proofs.YtbcaigpdckencaaDoor
open Go.RowKit Num

theorem nd_lit {xs : List Nat} {v : Nat} (hw : wf xs) (hn : nrm xs) (hv : val xs = v) : nd v = xs := by rw [← hv]; exact nd_val hw hn
theorem wf_one {x : Nat} (h : x < 4294967296) : wf [x] := wf_cons.2 ⟨h, wf_nil⟩
theorem wf_two {x y : Nat} (h : x < 4294967296) (k : y < 4294967296) : wf [x, y] := wf_cons.2 ⟨h, wf_one k⟩
theorem Own.lit (w : World) (B : Nat) (xs : List Nat) (hB : B ≤ w.heap.size) (hx : wf xs) (hl : xs.length ≤ 9223372036854775807) :
    Own B (w.alloc (.cells (xs.map fun d : Nat => Value.int .u32 (d : Int)).toArray 61)) (some ⟨w.heap.size, 0, none⟩) xs.length xs :=
  Own.mk_some hB (heap_alloc_at w _) (Nat.le_refl _) hl (by simp) (by rw [List.take_of_length_le (by simp)]) hx
theorem dec_example : decT 4294967296 = [52, 50, 57, 52, 57, 54, 55, 50, 57, 54] := by simp [decT, decR]
theorem root_example {r : Nat} (h : isRoot 2 8 r) : r = 2 := isRoot_unique h ⟨by decide, by decide⟩

/-- the lists of the examples -/
def L01 : List Nat := [0, 1]
def L3 : List Nat := [3]
def Lq : List Nat := [1431655765]
def L1 : List Nat := [1]
def L8 : List Nat := [8]
def L2 : List Nat := [2]
def Lm : List Nat := [4294967295]

set_option maxRecDepth 100000 in
set_option maxHeartbeats 1600000 in
theorem awake_any (w : World) : Calls Tryd.prog 11 #[] w (RetB (.bool true) w) := by
  have w01 : wf L01 := wf_two (by omega) (by omega)
  have w3 : wf L3 := wf_one (by omega)
  have wq : wf Lq := wf_one (by omega)
  have w1 : wf L1 := wf_one (by omega)
  have w8 : wf L8 := wf_one (by omega)
  have w2 : wf L2 := wf_one (by omega)
  have wm : wf Lm := wf_one (by omega)
  have v01 : val L01 = 4294967296 := by simp [L01, val]
  have v3 : val L3 = 3 := by simp [L3, val]
  have v8 : val L8 = 8 := by simp [L8, val]
  have vm : val Lm = 4294967295 := by simp [Lm, val]
  have v1 : val L1 = 1 := by simp [L1, val]
  have nq : nd 1431655765 = Lq := nd_lit wq (Or.inr (by simp [Lq])) (by simp [Lq, val])
  have n1 : nd 1 = L1 := nd_lit w1 (Or.inr (by simp [L1])) (by simp [L1, val])
  have n2 : nd 2 = L2 := nd_lit w2 (Or.inr (by simp [L2])) (by simp [L2, val])
  have n01 : nd 4294967296 = L01 := nd_lit w01 (Or.inr (by simp [L01])) (by simp [L01, val])
  go_enter Tryd.func11, Tryd.ntmps11
  go_wp2_with fail
  have o01 : Own 0 ((w.alloc (.cells #[.int .u32 0, .int .u32 1] 61)).alloc (.cells #[.int .u32 3] 61)) (some ⟨w.heap.size, 0, none⟩) 2 L01 :=
    (Own.lit w 0 L01 (Nat.zero_le _) w01 (by simp [L01])).below (below_alloc _ _)
  have o3 : Own 0 ((w.alloc (.cells #[.int .u32 0, .int .u32 1] 61)).alloc (.cells #[.int .u32 3] 61)) (some ⟨w.heap.size + 1, 0, none⟩) 1 L3 := by
    have := Own.lit (w.alloc (.cells #[.int .u32 0, .int .u32 1] 61)) 0 L3 (Nat.zero_le _) w3 (by simp [L3])
    rw [show (w.alloc (.cells #[.int .u32 0, .int .u32 1] 61)).heap.size = w.heap.size + 1 by simp] at this
    exact this
  have hb1 : Below w.heap.size w ((w.alloc (.cells #[.int .u32 0, .int .u32 1] 61)).alloc (.cells #[.int .u32 3] 61)) :=
    (below_alloc _ _).trans ((below_alloc _ _).mono (by simp))
  generalize ((w.alloc (.cells #[.int .u32 0, .int .u32 1] 61)).alloc (.cells #[.int .u32 3] 61)) = W1 at o01 o3 hb1 ⊢
  have cdiv := divmod_any _ _ _ _ L01 L3 W1 o01.rd o3.rd (by rw [v3]; omega) (by simp [L01])
  rw [v01, v3, nq, n1] at cdiv
  have H := hid (And.intro nq (And.intro n1 (And.intro n2 n01)))
  have HV := hid (And.intro v01 (And.intro v8 (And.intro vm v1)))
  have HW := hid (And.intro w01 (And.intro wq (And.intro w1 (And.intro w8 (And.intro w2 wm)))))
  clear nq n1 n2 n01 v01 v3 v8 vm v1 w01 w3 wq w1 w8 w2 wm o01 o3
  refine cdiv.mono ?_
  rintro e W2 ⟨aq, cq, ar, cr, rfl, hq2, hr2, hb2⟩
  have hb02 : Below w.heap.size w W2 := hb1.trans (hb2.mono hb1.size)
  clear cdiv hb2
  go_wp2_with fail
  have o8 : Own 0 (W2.alloc (.cells #[.int .u32 8] 61)) (some ⟨W2.heap.size, 0, none⟩) 1 L8 := Own.lit W2 0 L8 (Nat.zero_le _) HW.out.2.2.2.1 (by simp [L8])
  have hb3 : Below w.heap.size w (W2.alloc (.cells #[.int .u32 8] 61)) := hb02.trans ((below_alloc _ _).mono hb02.size)
  have hq3 := hq2.below (below_alloc W2 (.cells #[.int .u32 8] 61))
  have hr3 := hr2.below (below_alloc W2 (.cells #[.int .u32 8] 61))
  generalize (W2.alloc (.cells #[.int .u32 8] 61)) = W3 at o8 hb3 hq3 hr3 ⊢
  have croot := Root_any _ _ 2 L8 W3 o8.rd (by simp [L8]) (by omega) (by omega)
  rw [HV.out.2.1] at croot
  refine croot.mono ?_
  rintro e W4 ⟨r, ax, cx, hr, rfl, hx4, hb4⟩
  have hr' := root_example hr
  subst hr'
  rw [H.out.2.2.1] at hx4 ⊢
  have hb04 : Below w.heap.size w W4 := hb3.trans (hb4.mono hb3.size)
  have hq4 := hq3.below hb4
  have hr4 := hr3.below hb4
  clear croot hr o8 hb3 hq3 hr3 hb4 hq2 hr2
  go_wp2_with fail
  -- the quotient
  have o5 : Own 0 (W4.alloc (.cells #[.int .u32 1431655765] 61)) (some ⟨W4.heap.size, 0, none⟩) 1 Lq := Own.lit W4 0 Lq (Nat.zero_le _) HW.out.2.1 (by simp [Lq])
  have hb5 : Below w.heap.size w (W4.alloc (.cells #[.int .u32 1431655765] 61)) := hb04.trans ((below_alloc _ _).mono hb04.size)
  have hq5 := hq4.below (below_alloc W4 (.cells #[.int .u32 1431655765] 61))
  have hr5 := hr4.below (below_alloc W4 (.cells #[.int .u32 1431655765] 61))
  have hx5 := hx4.below (below_alloc W4 (.cells #[.int .u32 1431655765] 61))
  generalize (W4.alloc (.cells #[.int .u32 1431655765] 61)) = W5 at o5 hb5 hq5 hr5 hx5 ⊢
  refine (same_any _ _ _ _ Lq Lq true W5 hq5.rd o5.rd (by simp)).mono ?_
  rintro e w' ⟨rfl, q5, rfl⟩
  go_wp2_with fail
  -- the remainder
  have o6 : Own 0 ((W5.drewN q5).alloc (.cells #[.int .u32 1] 61)) (some ⟨W5.heap.size, 0, none⟩) 1 L1 := Own.lit (W5.drewN q5) 0 L1 (Nat.zero_le _) HW.out.2.2.1 (by simp [L1])
  have hb5' : Below w.heap.size w (W5.drewN q5) := hb5.trans ((below_drewN W5 q5).mono hb5.size)
  have hb6 : Below w.heap.size w ((W5.drewN q5).alloc (.cells #[.int .u32 1] 61)) := hb5'.trans ((below_alloc _ _).mono hb5'.size)
  have hr6 := (hr5.drewN q5).below (below_alloc (W5.drewN q5) (.cells #[.int .u32 1] 61))
  have hx6 := (hx5.drewN q5).below (below_alloc (W5.drewN q5) (.cells #[.int .u32 1] 61))
  generalize ((W5.drewN q5).alloc (.cells #[.int .u32 1] 61)) = W6 at o6 hb6 hr6 hx6 ⊢
  refine (same_any _ _ _ _ L1 L1 true W6 hr6.rd o6.rd (by simp)).mono ?_
  rintro e w' ⟨rfl, q6, rfl⟩
  clear hb5 hq5 hr5 hx5 o5 hb5' o6
  go_wp2_with fail
  -- the root
  have o7 : Own 0 ((W6.drewN q6).alloc (.cells #[.int .u32 2] 61)) (some ⟨W6.heap.size, 0, none⟩) 1 L2 := Own.lit (W6.drewN q6) 0 L2 (Nat.zero_le _) HW.out.2.2.2.2.1 (by simp [L2])
  have hb6' : Below w.heap.size w (W6.drewN q6) := hb6.trans ((below_drewN W6 q6).mono hb6.size)
  have hb7 : Below w.heap.size w ((W6.drewN q6).alloc (.cells #[.int .u32 2] 61)) := hb6'.trans ((below_alloc _ _).mono hb6'.size)
  have hx7 := (hx6.drewN q6).below (below_alloc (W6.drewN q6) (.cells #[.int .u32 2] 61))
  generalize ((W6.drewN q6).alloc (.cells #[.int .u32 2] 61)) = W7 at o7 hb7 hx7 ⊢
  refine (same_any _ _ _ _ L2 L2 true W7 hx7.rd o7.rd (by simp)).mono ?_
  rintro e w' ⟨rfl, q7, rfl⟩
  clear hb6 hr6 hx6 hb6'
  go_wp2_with fail
  -- the text
  have o8 : Own 0 ((W7.drewN q7).alloc (.cells #[.int .u32 0, .int .u32 1] 61)) (some ⟨W7.heap.size, 0, none⟩) 2 L01 := Own.lit (W7.drewN q7) 0 L01 (Nat.zero_le _) HW.out.1 (by simp [L01])
  have hb7' : Below w.heap.size w (W7.drewN q7) := hb7.trans ((below_drewN W7 q7).mono hb7.size)
  have hb8 : Below w.heap.size w ((W7.drewN q7).alloc (.cells #[.int .u32 0, .int .u32 1] 61)) := hb7'.trans ((below_alloc _ _).mono hb7'.size)
  generalize ((W7.drewN q7).alloc (.cells #[.int .u32 0, .int .u32 1] 61)) = W8 at o8 hb8 ⊢
  have hf := format_any _ _ L01 W8 o8.rd (by simp [L01])
  rw [HV.out.1] at hf
  refine hf.mono ?_
  rintro e W9 ⟨rfl, hb9⟩
  rw [fmtS, dec_example, show bstr [52, 50, 57, 52, 57, 54, 55, 50, 57, 54] = (⟨#[52, 50, 57, 52, 57, 54, 55, 50, 57, 54]⟩ : ByteArray) from rfl]
  have hb09 : Below w.heap.size w W9 := hb8.trans (hb9.mono hb8.size)
  clear hf hb7 hx7 hb7' o7 o8 hb8 hb9
  go_wp2_with fail
  -- the sum
  have om : Own W9.heap.size ((W9.alloc (.cells #[.int .u32 4294967295] 61)).alloc (.cells #[.int .u32 1] 61)) (some ⟨W9.heap.size, 0, none⟩) 1 Lm :=
    (Own.lit W9 W9.heap.size Lm (Nat.le_refl _) HW.out.2.2.2.2.2 (by simp [Lm])).below (below_alloc _ _)
  have o1 : Own W9.heap.size ((W9.alloc (.cells #[.int .u32 4294967295] 61)).alloc (.cells #[.int .u32 1] 61)) (some ⟨W9.heap.size + 1, 0, none⟩) 1 L1 := by
    have := Own.lit (W9.alloc (.cells #[.int .u32 4294967295] 61)) W9.heap.size L1 (by simp) HW.out.2.2.1 (by simp [L1])
    rw [show (W9.alloc (.cells #[.int .u32 4294967295] 61)).heap.size = W9.heap.size + 1 by simp] at this
    exact this
  have hb10 : Below w.heap.size w ((W9.alloc (.cells #[.int .u32 4294967295] 61)).alloc (.cells #[.int .u32 1] 61)) :=
    (hb09.trans ((below_alloc _ _).mono hb09.size)).trans ((below_alloc _ _).mono (by have := hb09.size; simp; omega))
  generalize ((W9.alloc (.cells #[.int .u32 4294967295] 61)).alloc (.cells #[.int .u32 1] 61)) = W10 at om o1 hb10 ⊢
  have hadd := add_any _ _ _ _ Lm L1 W10 om.rd o1.rd (by simp [Lm]) (by simp [L1])
  rw [HV.out.2.2.1, HV.out.2.2.2, show 4294967295 + 1 = 4294967296 from rfl, H.out.2.2.2] at hadd
  refine hadd.mono ?_
  rintro e W11 ⟨as_, cs, rfl, hs11, hb11⟩
  have hb011 : Below w.heap.size w W11 := hb10.trans (hb11.mono hb10.size)
  clear hadd om o1 hb10 hb11
  go_wp2_with fail
  have o12 : Own 0 (W11.alloc (.cells #[.int .u32 0, .int .u32 1] 61)) (some ⟨W11.heap.size, 0, none⟩) 2 L01 := Own.lit W11 0 L01 (Nat.zero_le _) HW.out.1 (by simp [L01])
  have hs12 := hs11.below (below_alloc W11 (.cells #[.int .u32 0, .int .u32 1] 61))
  have hb12 : Below w.heap.size w (W11.alloc (.cells #[.int .u32 0, .int .u32 1] 61)) := hb011.trans ((below_alloc _ _).mono hb011.size)
  generalize (W11.alloc (.cells #[.int .u32 0, .int .u32 1] 61)) = W12 at o12 hs12 hb12 ⊢
  refine (same_any _ _ _ _ L01 L01 true W12 hs12.rd o12.rd (by simp)).mono ?_
  rintro e w' ⟨rfl, q12, rfl⟩
  have hbf : Below w.heap.size w (W12.drewN q12) := hb12.trans ((below_drewN W12 q12).mono hb12.size)
  clear hs12 hb12 hs11 hb011
  go_wp2
  go_ret
  exact ⟨rfl, hbf⟩
end Go.Proofs.YtbcaigpdckencaaDoor

namespace Go.Proofs.YtbcaigpdckencaaDoor
open Go.RowKit Num

theorem len_add {u v j k : Nat} (h : (nd u).length ≤ j) (h2 : (nd v).length ≤ k) : (nd (u + v)).length ≤ j + k + 1 := by
  have e1 : u < 4294967296 ^ (j + k) := Nat.lt_of_lt_of_le (val_nd u ▸ val_lt_of (wf_nd u) h) (Nat.pow_le_pow_right (by omega) (by omega))
  have e2 : v < 4294967296 ^ (j + k) := Nat.lt_of_lt_of_le (val_nd v ▸ val_lt_of (wf_nd v) h2) (Nat.pow_le_pow_right (by omega) (by omega))
  exact nd_length_add e1 e2
theorem len_mul {u v j k : Nat} (h : (nd u).length ≤ j) (h2 : (nd v).length ≤ k) : (nd (u * v)).length ≤ j + k :=
  nd_length_mul (val_nd u ▸ val_lt_of (wf_nd u) h) (val_nd v ▸ val_lt_of (wf_nd v) h2)
theorem cmp_le {a b : Nat} (h : a ≤ b) : cmpN a b ≤ 0 := by unfold cmpN; split <;> (try split) <;> omega
theorem root_le {n a r : Nat} (h : isRoot n a r) (hn : 1 ≤ n) : r ≤ a := Nat.le_trans (by
  cases r with
  | zero => exact Nat.zero_le _
  | succ r => exact Nat.le_trans (by simp) (Nat.pow_le_pow_right (by omega) hn : (r + 1) ^ 1 ≤ (r + 1) ^ n)) h.1
end Go.Proofs.YtbcaigpdckencaaDoor

namespace Go.Proofs.YtbcaigpdckencaaDoor
open Go.RowKit Num

theorem nd_one1 : nd 1 = [1] := nd_lit (wf_one (by omega)) (Or.inr (by simp)) (by simp [val])

/-- a list and no error -/
def RetNum (v : Nat) (w : World) (e : Ending) (w' : World) : Prop :=
  ∃ ao c, e = .returned (.tuple #[.slice ao (nd v).length c, .int .i64 0]) ∧ Own w.heap.size w' ao c (nd v) ∧ Below w.heap.size w w'

set_option maxRecDepth 100000 in
set_option maxHeartbeats 800000 in
theorem rpow_any (ao : Option Addr) (c n : Nat) (xs : List Nat) (w : World) (h : Rd w ao c xs) (hl : xs.length ≤ 34359738368) (hn : n ≤ 64) :
    Calls Tryd.prog 14 #[.slice ao xs.length c, .int .i64 (n : Int)] w (RetNum (val xs ^ n) w) := by
  have hax := h.le
  have hax2 := h.cm
  have hlenp : ∀ e, e ≤ 64 → (nd (val xs ^ e)).length ≤ 2199023255553 := by
    intro e he
    obtain ⟨E, hE⟩ : ∃ E : Nat, E = 2199023255553 := ⟨_, rfl⟩
    rw [← hE]
    refine nd_length_le ?_
    have h1 := Nat.pow_le_pow_left (Nat.le_of_lt (val_lt h.dg)) e
    rw [← Nat.pow_mul] at h1
    refine Nat.lt_of_le_of_lt h1 (Nat.pow_lt_pow_right (by omega) ?_)
    have := Nat.mul_le_mul hl he
    omega
  have HLEN := hid hlenp
  have h1 := hid nd_one1
  obtain ⟨v, hv⟩ : ∃ v, v = val xs := ⟨_, rfl⟩
  rw [← hv]
  have HV := hid hv
  clear hlenp hv
  go_enter Tryd.func14, Tryd.ntmps14
  go_wp2
  have hone := Own.one w w.heap.size 1 (Nat.le_refl _) (by omega)
  have hba := below_alloc w (.cells #[.int .u32 ((1 : Nat) : Int)] 61)
  go_loopw [1, 6] (fun nv ov wr => ∃ (i : Nat) (a3 : Option Addr) (c3 : Nat), i ≤ n ∧ nv = .int .i64 ((n : Int) - (i : Int)) ∧ ov = .slice a3 (nd (v ^ i)).length c3 ∧ Own w.heap.size wr a3 c3 (nd (v ^ i)) ∧ Below w.heap.size w wr) (fun nv _ _ => (intOf nv).toNat)
  case atStart =>
    refine ⟨0, some ⟨w.heap.size, 0, none⟩, 1, Nat.zero_le _, int_eq (by omega), ?_, ?_, hba⟩
    · rw [Nat.pow_zero, h1.out]; rfl
    · rw [Nat.pow_zero, h1.out]; exact hone
  case round =>
    obtain ⟨i, a3, c3, hi, rfl, rfl, hown, hbel⟩ := hrel
    by_cases hlt : i < n
    · have hmul := rmul_any a3 ao c3 c (nd (v ^ i)) xs wr hown.rd (h.below hbel) (by have := HLEN.out i (by omega); rw [← HV.out] at this; omega) (by omega)
      rw [val_nd, ← HV.out, ← Nat.pow_succ] at hmul
      have hpos : (n : Int) - (i : Int) > 0 := by omega
      clear hown hone hba
      go_wp2_with fail
      refine hmul.mono ?_
      rintro e w3 ⟨a4, c4, rfl, ho4, hb4⟩
      have hb5 := hbel.trans (hb4.mono hbel.size)
      have ho5 := ho4.mono hbel.size
      have H5 := hid (And.intro ho5 hb5)
      clear ho4 hb4 hbel hmul ho5 hb5
      go_wp2
      refine ⟨⟨i + 1, a4, c4, by omega, int_eq (by omega), rfl, H5.out⟩, by simp [intOf]; omega⟩
    · obtain rfl : i = n := by omega
      clear hone hba
      go_wp2
      go_ret2
      exact ⟨a3, c3, rfl, hown, hbel⟩
theorem rpow_err (v : Value) (n : Int) (w : World) (hn : n < 0 ∨ 64 < n) :
    Calls Tryd.prog 14 #[v, .int .i64 n] w (Ret (.tuple #[.slice none 0 0, .int .i64 1]) w) := by
  rcases hn with h | h
  · go_enter Tryd.func14, Tryd.ntmps14
    go_wp2
    go_ret2
    exact ⟨rfl, rfl⟩
  · go_enter Tryd.func14, Tryd.ntmps14
    go_wp2
    go_ret2
    exact ⟨rfl, rfl⟩
end Go.Proofs.YtbcaigpdckencaaDoor

namespace Go.Proofs.YtbcaigpdckencaaDoor
open Go.RowKit Num

theorem two_len (i : Nat) : (nd (2 ^ i)).length ≤ i / 32 + 1 := by
  refine nd_length_le ?_
  rw [show (4294967296 : Nat) = 2 ^ 32 from rfl, ← Nat.pow_mul]
  exact Nat.pow_lt_pow_right (by omega) (by omega)
theorem root_start {a n : Nat} (hn : 1 ≤ n) : 0 ^ n ≤ a ∧ a < (0 + 2 ^ (blen a / n + 1)) ^ n := by
  refine ⟨by rw [Nat.zero_pow (by omega)]; exact Nat.zero_le _, ?_⟩
  rw [Nat.zero_add, ← Nat.pow_mul]
  refine Nat.lt_of_lt_of_le (blen_le_iff.1 (Nat.le_refl (blen a))) (Nat.pow_le_pow_right (by omega) ?_)
  have h1 := Nat.div_add_mod (blen a) n
  have h2 := Nat.mod_lt (blen a) (show n > 0 by omega)
  rw [Nat.mul_comm, Nat.mul_add, Nat.mul_one]
  omega
theorem pow_len {v j n : Nat} (hn : 1 ≤ n) (h : (nd v).length ≤ j) : (nd (v ^ n)).length ≤ j * n := by
  refine nd_length_le ?_
  rw [Nat.pow_mul]
  exact Nat.pow_lt_pow_left (val_nd v ▸ val_lt_of (wf_nd v) h) (by omega)
theorem cmp_gt {a b : Nat} (h : b < a) : 0 < cmpN a b := by unfold cmpN; split <;> (try split) <;> omega

/-- a root and no error -/
def RetRootR (n a : Nat) (w : World) (e : Ending) (w' : World) : Prop :=
  ∃ r ao c, isRoot n a r ∧ e = .returned (.tuple #[.slice ao (nd r).length c, .int .i64 0]) ∧ Own w.heap.size w' ao c (nd r) ∧ Below w.heap.size w w'

set_option maxRecDepth 100000 in
set_option maxHeartbeats 1600000 in
theorem rroot_any (ao : Option Addr) (c n : Nat) (xs : List Nat) (w : World) (h : Rd w ao c xs) (hl : xs.length ≤ 2048) (hn : 1 ≤ n) (hn2 : n ≤ 64) :
    Calls Tryd.prog 16 #[.slice ao xs.length c, .int .i64 (n : Int)] w (RetRootR n (val xs) w) := by
  have hax := h.le
  have hax2 := h.cm
  have hbl := rbitlen_any ao c xs w h (by omega)
  have hb65 : blen (val xs) ≤ 65536 := by
    refine blen_le_iff.2 ?_
    obtain ⟨E, hE⟩ : ∃ E : Nat, E = 65536 := ⟨_, rfl⟩
    rw [← hE]
    have h1 := val_lt h.dg
    rw [show (4294967296 : Nat) = 2 ^ 32 from rfl, ← Nat.pow_mul] at h1
    exact Nat.lt_of_lt_of_le h1 (Nat.pow_le_pow_right (by omega) (by omega))
  have hst := root_start (a := val xs) hn
  obtain ⟨b, hb⟩ : ∃ b, b = blen (val xs) := ⟨_, rfl⟩
  rw [← hb] at hbl hb65 hst
  obtain ⟨K, hK⟩ : ∃ K, K = b / n := ⟨_, rfl⟩
  rw [← hK] at hst
  have hK65 : K ≤ 65536 := by rw [hK]; exact Nat.le_trans (Nat.div_le_self _ _) hb65
  have hKi : (b : Int) / (n : Int) = (K : Int) := by rw [hK]; simp
  have HST := hid hst
  have hlx := nd_length_le_of h.dg
  clear hb hK hst
  go_enter Tryd.func16, Tryd.ntmps16
  go_wp2_with fail
  refine hbl.mono ?_
  rintro e w1 ⟨rfl, hb1⟩
  clear hbl
  go_wp2_with fail
  go_loopw [6, 7] (fun ov iv wr => ∃ (k r : Nat) (a3 : Option Addr) (c3 : Nat), k ≤ K + 1 ∧ ov = .slice a3 (nd r).length c3 ∧ iv = .int .i64 ((k : Int) - 1) ∧ Hid (r ^ n ≤ val xs ∧ val xs < (r + 2 ^ k) ^ n) ∧ Own w.heap.size wr a3 c3 (nd r) ∧ Below w.heap.size w wr) (fun _ iv _ => (intOf iv + 1).toNat)
  case atStart => exact ⟨K + 1, 0, none, 0, Nat.le_refl _, by rw [nd_zero]; rfl, int_eq (by omega), HST.out, by rw [nd_zero]; exact Own.nil _ _, hb1⟩
  case round =>
    obtain ⟨k, r, a3, c3, hk, rfl, rfl, HR, hown, hbel⟩ := hrel
    by_cases hk0 : k = 0
    · subst hk0
      go_wp2
      go_ret2
      have hr := HR.out
      rw [Nat.pow_zero] at hr
      exact ⟨r, a3, c3, hr, rfl, hown, hbel⟩
    · obtain ⟨i, rfl⟩ : ∃ i, k = i + 1 := ⟨k - 1, by omega⟩
      have hrl : r ≤ val xs := Nat.le_trans (by
        cases r with
        | zero => exact Nat.zero_le _
        | succ r => exact Nat.le_trans (by simp) (Nat.pow_le_pow_right (by omega) hn : (r + 1) ^ 1 ≤ (r + 1) ^ n)) HR.out.1
      have lr : (nd r).length ≤ 2048 := Nat.le_trans (nd_length_mono hrl) (by omega)
      have li := two_len i
      have lt := len_add lr li
      have hone : Own wr.heap.size (wr.alloc (.cells #[.int .u32 1] 61)) (some ⟨wr.heap.size, 0, none⟩) 1 [1] := Own.one wr wr.heap.size 1 (Nat.le_refl _) (by omega)
      have hba := below_alloc wr (.cells #[.int .u32 1] 61)
      have hsh := rshift_any (some ⟨wr.heap.size, 0, none⟩) 1 (i : Int) [1] _ hone.rd (by simp) (by omega) (by omega)
      rw [show shiftN (val [1]) (i : Int) = 2 ^ i by rw [shiftN, if_neg (by omega), if_pos (by omega)]; simp [val]] at hsh
      have hown1 := hown.below hba
      have hbel1 := hbel.trans (hba.mono hbel.size)
      clear hone hba hown hbel hrl
      go_wp2_with fail
      refine hsh.mono ?_
      rintro e w2 ⟨a4, c4, rfl, hs2, hb2⟩
      have hown2 := hown1.below hb2
      have hbel2 := hbel1.trans (hb2.mono hbel1.size)
      have hadd := radd_any a3 a4 c3 c4 (nd r) (nd (2 ^ i)) w2 hown2.rd hs2.rd (by omega) (by omega)
      rw [val_nd, val_nd] at hadd
      clear hsh hown1 hbel1 hb2
      go_wp2_with fail
      refine hadd.mono ?_
      rintro e w3 ⟨a5, c5, rfl, ht3, hb3⟩
      have hown3 := hown2.below hb3
      have hbel3 := hbel2.trans (hb3.mono hbel2.size)
      have ht3' := ht3.mono hbel2.size
      obtain ⟨s, hs⟩ : ∃ s, s = r + 2 ^ i := ⟨_, rfl⟩
      rw [← hs] at ht3' ht3 lt ⊢
      have hpow := rpow_any a5 c5 n (nd s) w3 ht3.rd (by omega) hn2
      rw [val_nd] at hpow
      have hpl := pow_len hn lt
      have hpl2 := Nat.mul_le_mul (show 2048 + (i / 32 + 1) + 1 ≤ 5000 by omega) hn2
      have HS := hid hs
      clear hadd hown2 hbel2 hb3 hs2 ht3 hs
      go_wp2_with fail
      refine hpow.mono ?_
      rintro e w4 ⟨a6, c6, rfl, hp4, hb4⟩
      have hown4 := hown3.below hb4
      have ht4 := ht3'.below hb4
      have hbel4 := hbel3.trans (hb4.mono hbel3.size)
      have hcmp := rcompare_any a6 ao c6 c (nd (s ^ n)) xs w4 hp4.rd (h.below hbel4) (by omega) (by omega)
      rw [val_nd] at hcmp
      obtain ⟨v, hv⟩ : ∃ v, v = cmpN (s ^ n) (val xs) := ⟨_, rfl⟩
      rw [← hv] at hcmp
      by_cases hle : s ^ n ≤ val xs
      · have hv0 : v ≤ 0 := by rw [hv]; exact cmp_le hle
        have HLE := hid hle
        clear hpow hown3 hbel3 hb4 ht3' hv hle
        go_wp2_with fail
        refine hcmp.mono ?_
        rintro e w5 ⟨rfl, hb5⟩
        have H5 := hid (And.intro (ht4.below hb5) (hbel4.trans (hb5.mono hbel4.size)))
        clear hown4 ht4 hbel4 hb5 hcmp
        go_wp2
        refine ⟨⟨i, s, a5, c5, by omega, rfl, int_eq (by omega), ⟨HLE.out, ?_⟩, H5.out⟩, by simp [intOf]⟩
        have := HR.out.2
        rw [Nat.pow_succ, Nat.mul_two, ← Nat.add_assoc, ← HS.out] at this
        exact this
      · have hv0 : ¬ v ≤ 0 := by have := cmp_gt (show val xs < s ^ n by omega); omega
        have HLE := hid (show val xs < s ^ n by omega)
        clear hpow hown3 hbel3 hb4 ht3' hv hle
        go_wp2_with fail
        refine hcmp.mono ?_
        rintro e w5 ⟨rfl, hb5⟩
        have H5 := hid (And.intro (hown4.below hb5) (hbel4.trans (hb5.mono hbel4.size)))
        clear hown4 ht4 hbel4 hb5 hcmp
        go_wp2
        refine ⟨⟨i, r, a3, c3, by omega, rfl, int_eq (by omega), ⟨HR.out.1, ?_⟩, H5.out⟩, by simp [intOf]⟩
        rw [← HS.out]; exact HLE.out
theorem rroot_err (v : Value) (n : Int) (w : World) (hn : n < 1 ∨ 64 < n) :
    Calls Tryd.prog 16 #[v, .int .i64 n] w (Ret (.tuple #[.slice none 0 0, .int .i64 1]) w) := by
  rcases hn with h | h
  · go_enter Tryd.func16, Tryd.ntmps16
    go_wp2
    go_ret2
    exact ⟨rfl, rfl⟩
  · have h' : ¬ n < 1 := by omega
    go_enter Tryd.func16, Tryd.ntmps16
    go_wp2
    go_ret2
    exact ⟨rfl, rfl⟩
end Go.Proofs.YtbcaigpdckencaaDoor
