/- Walks: awake, the examples of the chapter. · Lengths of sums and products; comparisons; roots. -/
import Derived.Test.YtbcaigpdckencaaDoorQi

namespace Go.Proofs.YtbcaigpdckencaaDoor
open Go.RowKit Num

theorem nd_lit {xs : List Nat} {v : Nat} (hw : wf xs) (hn : nrm xs) (hv : val xs = v) : nd v = xs := by rw [← hv]; exact nd_val hw hn
theorem wf_one {x : Nat} (h : x < 4294967296) : wf [x] := wf_cons.2 ⟨h, wf_nil⟩
theorem wf_two {x y : Nat} (h : x < 4294967296) (k : y < 4294967296) : wf [x, y] := wf_cons.2 ⟨h, wf_one k⟩
theorem Own.lit (w : World) (B : Nat) (xs : List Nat) (hB : B ≤ w.heap.size) (hx : wf xs) (hl : xs.length ≤ 9223372036854775807) :
    Own B (w.alloc (.cells (xs.map fun d : Nat => Value.int .u32 (d : Int)).toArray 61)) (some ⟨w.heap.size, 0, none⟩) xs.length xs :=
  Own.mk_some hB (heap_alloc_at w _) (Nat.le_refl _) hl (by simp) (by rw [List.take_of_length_le (by simp)]) hx
theorem dec_example : decT 4294967296 = [52, 50, 57, 52, 57, 54, 55, 50, 57, 54] := by simp [decT, decR]
theorem root_example {r : Nat} (h : isRoot 2 8 r) : r = 2 := isRoot_unique h ⟨by decide, by decide⟩

/-- the lists of the examples -/
def L01 : List Nat := [0, 1]
def L3 : List Nat := [3]
def Lq : List Nat := [1431655765]
def L1 : List Nat := [1]
def L8 : List Nat := [8]
def L2 : List Nat := [2]
def Lm : List Nat := [4294967295]

set_option maxRecDepth 100000 in
set_option maxHeartbeats 1600000 in
theorem awake_any (w : World) : Calls Tryd.prog 11 #[] w (RetB (.bool true) w) := by
  have w01 : wf L01 := wf_two (by omega) (by omega)
  have w3 : wf L3 := wf_one (by omega)
  have wq : wf Lq := wf_one (by omega)
  have w1 : wf L1 := wf_one (by omega)
  have w8 : wf L8 := wf_one (by omega)
  have w2 : wf L2 := wf_one (by omega)
  have wm : wf Lm := wf_one (by omega)
  have v01 : val L01 = 4294967296 := by simp [L01, val]
  have v3 : val L3 = 3 := by simp [L3, val]
  have v8 : val L8 = 8 := by simp [L8, val]
  have vm : val Lm = 4294967295 := by simp [Lm, val]
  have v1 : val L1 = 1 := by simp [L1, val]
  have nq : nd 1431655765 = Lq := nd_lit wq (Or.inr (by simp [Lq])) (by simp [Lq, val])
  have n1 : nd 1 = L1 := nd_lit w1 (Or.inr (by simp [L1])) (by simp [L1, val])
  have n2 : nd 2 = L2 := nd_lit w2 (Or.inr (by simp [L2])) (by simp [L2, val])
  have n01 : nd 4294967296 = L01 := nd_lit w01 (Or.inr (by simp [L01])) (by simp [L01, val])
  go_enter Tryd.func11, Tryd.ntmps11
  go_wp2_with fail
  have o01 : Own 0 ((w.alloc (.cells #[.int .u32 0, .int .u32 1] 61)).alloc (.cells #[.int .u32 3] 61)) (some ⟨w.heap.size, 0, none⟩) 2 L01 :=
    (Own.lit w 0 L01 (Nat.zero_le _) w01 (by simp [L01])).below (below_alloc _ _)
  have o3 : Own 0 ((w.alloc (.cells #[.int .u32 0, .int .u32 1] 61)).alloc (.cells #[.int .u32 3] 61)) (some ⟨w.heap.size + 1, 0, none⟩) 1 L3 := by
    have := Own.lit (w.alloc (.cells #[.int .u32 0, .int .u32 1] 61)) 0 L3 (Nat.zero_le _) w3 (by simp [L3])
    rw [show (w.alloc (.cells #[.int .u32 0, .int .u32 1] 61)).heap.size = w.heap.size + 1 by simp] at this
    exact this
  have hb1 : Below w.heap.size w ((w.alloc (.cells #[.int .u32 0, .int .u32 1] 61)).alloc (.cells #[.int .u32 3] 61)) :=
    (below_alloc _ _).trans ((below_alloc _ _).mono (by simp))
  generalize ((w.alloc (.cells #[.int .u32 0, .int .u32 1] 61)).alloc (.cells #[.int .u32 3] 61)) = W1 at o01 o3 hb1 ⊢
  have cdiv := divmod_any _ _ _ _ L01 L3 W1 o01.rd o3.rd (by rw [v3]; omega) (by simp [L01])
  rw [v01, v3, nq, n1] at cdiv
  have H := hid (And.intro nq (And.intro n1 (And.intro n2 n01)))
  have HV := hid (And.intro v01 (And.intro v8 (And.intro vm v1)))
  have HW := hid (And.intro w01 (And.intro wq (And.intro w1 (And.intro w8 (And.intro w2 wm)))))
  clear nq n1 n2 n01 v01 v3 v8 vm v1 w01 w3 wq w1 w8 w2 wm o01 o3
  refine cdiv.mono ?_
  rintro e W2 ⟨aq, cq, ar, cr, rfl, hq2, hr2, hb2⟩
  have hb02 : Below w.heap.size w W2 := hb1.trans (hb2.mono hb1.size)
  clear cdiv hb2
  go_wp2_with fail
  have o8 : Own 0 (W2.alloc (.cells #[.int .u32 8] 61)) (some ⟨W2.heap.size, 0, none⟩) 1 L8 := Own.lit W2 0 L8 (Nat.zero_le _) HW.out.2.2.2.1 (by simp [L8])
  have hb3 : Below w.heap.size w (W2.alloc (.cells #[.int .u32 8] 61)) := hb02.trans ((below_alloc _ _).mono hb02.size)
  have hq3 := hq2.below (below_alloc W2 (.cells #[.int .u32 8] 61))
  have hr3 := hr2.below (below_alloc W2 (.cells #[.int .u32 8] 61))
  generalize (W2.alloc (.cells #[.int .u32 8] 61)) = W3 at o8 hb3 hq3 hr3 ⊢
  have croot := Root_any _ _ 2 L8 W3 o8.rd (by simp [L8]) (by omega) (by omega)
  rw [HV.out.2.1] at croot
  refine croot.mono ?_
  rintro e W4 ⟨r, ax, cx, hr, rfl, hx4, hb4⟩
  have hr' := root_example hr
  subst hr'
  rw [H.out.2.2.1] at hx4 ⊢
  have hb04 : Below w.heap.size w W4 := hb3.trans (hb4.mono hb3.size)
  have hq4 := hq3.below hb4
  have hr4 := hr3.below hb4
  clear croot hr o8 hb3 hq3 hr3 hb4 hq2 hr2
  go_wp2_with fail
  -- the quotient
  have o5 : Own 0 (W4.alloc (.cells #[.int .u32 1431655765] 61)) (some ⟨W4.heap.size, 0, none⟩) 1 Lq := Own.lit W4 0 Lq (Nat.zero_le _) HW.out.2.1 (by simp [Lq])
  have hb5 : Below w.heap.size w (W4.alloc (.cells #[.int .u32 1431655765] 61)) := hb04.trans ((below_alloc _ _).mono hb04.size)
  have hq5 := hq4.below (below_alloc W4 (.cells #[.int .u32 1431655765] 61))
  have hr5 := hr4.below (below_alloc W4 (.cells #[.int .u32 1431655765] 61))
  have hx5 := hx4.below (below_alloc W4 (.cells #[.int .u32 1431655765] 61))
  generalize (W4.alloc (.cells #[.int .u32 1431655765] 61)) = W5 at o5 hb5 hq5 hr5 hx5 ⊢
  refine (same_any _ _ _ _ Lq Lq true W5 hq5.rd o5.rd (by simp)).mono ?_
  rintro e w' ⟨rfl, q5, rfl⟩
  go_wp2_with fail
  -- the remainder
  have o6 : Own 0 ((W5.drewN q5).alloc (.cells #[.int .u32 1] 61)) (some ⟨W5.heap.size, 0, none⟩) 1 L1 := Own.lit (W5.drewN q5) 0 L1 (Nat.zero_le _) HW.out.2.2.1 (by simp [L1])
  have hb5' : Below w.heap.size w (W5.drewN q5) := hb5.trans ((below_drewN W5 q5).mono hb5.size)
  have hb6 : Below w.heap.size w ((W5.drewN q5).alloc (.cells #[.int .u32 1] 61)) := hb5'.trans ((below_alloc _ _).mono hb5'.size)
  have hr6 := (hr5.drewN q5).below (below_alloc (W5.drewN q5) (.cells #[.int .u32 1] 61))
  have hx6 := (hx5.drewN q5).below (below_alloc (W5.drewN q5) (.cells #[.int .u32 1] 61))
  generalize ((W5.drewN q5).alloc (.cells #[.int .u32 1] 61)) = W6 at o6 hb6 hr6 hx6 ⊢
  refine (same_any _ _ _ _ L1 L1 true W6 hr6.rd o6.rd (by simp)).mono ?_
  rintro e w' ⟨rfl, q6, rfl⟩
  clear hb5 hq5 hr5 hx5 o5 hb5' o6
  go_wp2_with fail
  -- the root
  have o7 : Own 0 ((W6.drewN q6).alloc (.cells #[.int .u32 2] 61)) (some ⟨W6.heap.size, 0, none⟩) 1 L2 := Own.lit (W6.drewN q6) 0 L2 (Nat.zero_le _) HW.out.2.2.2.2.1 (by simp [L2])
  have hb6' : Below w.heap.size w (W6.drewN q6) := hb6.trans ((below_drewN W6 q6).mono hb6.size)
  have hb7 : Below w.heap.size w ((W6.drewN q6).alloc (.cells #[.int .u32 2] 61)) := hb6'.trans ((below_alloc _ _).mono hb6'.size)
  have hx7 := (hx6.drewN q6).below (below_alloc (W6.drewN q6) (.cells #[.int .u32 2] 61))
  generalize ((W6.drewN q6).alloc (.cells #[.int .u32 2] 61)) = W7 at o7 hb7 hx7 ⊢
  refine (same_any _ _ _ _ L2 L2 true W7 hx7.rd o7.rd (by simp)).mono ?_
  rintro e w' ⟨rfl, q7, rfl⟩
  clear hb6 hr6 hx6 hb6'
  go_wp2_with fail
  -- the text
  have o8 : Own 0 ((W7.drewN q7).alloc (.cells #[.int .u32 0, .int .u32 1] 61)) (some ⟨W7.heap.size, 0, none⟩) 2 L01 := Own.lit (W7.drewN q7) 0 L01 (Nat.zero_le _) HW.out.1 (by simp [L01])
  have hb7' : Below w.heap.size w (W7.drewN q7) := hb7.trans ((below_drewN W7 q7).mono hb7.size)
  have hb8 : Below w.heap.size w ((W7.drewN q7).alloc (.cells #[.int .u32 0, .int .u32 1] 61)) := hb7'.trans ((below_alloc _ _).mono hb7'.size)
  generalize ((W7.drewN q7).alloc (.cells #[.int .u32 0, .int .u32 1] 61)) = W8 at o8 hb8 ⊢
  have hf := format_any _ _ L01 W8 o8.rd (by simp [L01])
  rw [HV.out.1] at hf
  refine hf.mono ?_
  rintro e W9 ⟨rfl, hb9⟩
  rw [fmtS, dec_example, show bstr [52, 50, 57, 52, 57, 54, 55, 50, 57, 54] = (⟨#[52, 50, 57, 52, 57, 54, 55, 50, 57, 54]⟩ : ByteArray) from rfl]
  have hb09 : Below w.heap.size w W9 := hb8.trans (hb9.mono hb8.size)
  clear hf hb7 hx7 hb7' o7 o8 hb8 hb9
  go_wp2_with fail
  -- the sum
  have om : Own W9.heap.size ((W9.alloc (.cells #[.int .u32 4294967295] 61)).alloc (.cells #[.int .u32 1] 61)) (some ⟨W9.heap.size, 0, none⟩) 1 Lm :=
    (Own.lit W9 W9.heap.size Lm (Nat.le_refl _) HW.out.2.2.2.2.2 (by simp [Lm])).below (below_alloc _ _)
  have o1 : Own W9.heap.size ((W9.alloc (.cells #[.int .u32 4294967295] 61)).alloc (.cells #[.int .u32 1] 61)) (some ⟨W9.heap.size + 1, 0, none⟩) 1 L1 := by
    have := Own.lit (W9.alloc (.cells #[.int .u32 4294967295] 61)) W9.heap.size L1 (by simp) HW.out.2.2.1 (by simp [L1])
    rw [show (W9.alloc (.cells #[.int .u32 4294967295] 61)).heap.size = W9.heap.size + 1 by simp] at this
    exact this
  have hb10 : Below w.heap.size w ((W9.alloc (.cells #[.int .u32 4294967295] 61)).alloc (.cells #[.int .u32 1] 61)) :=
    (hb09.trans ((below_alloc _ _).mono hb09.size)).trans ((below_alloc _ _).mono (by have := hb09.size; simp; omega))
  generalize ((W9.alloc (.cells #[.int .u32 4294967295] 61)).alloc (.cells #[.int .u32 1] 61)) = W10 at om o1 hb10 ⊢
  have hadd := add_any _ _ _ _ Lm L1 W10 om.rd o1.rd (by simp [Lm]) (by simp [L1])
  rw [HV.out.2.2.1, HV.out.2.2.2, show 4294967295 + 1 = 4294967296 from rfl, H.out.2.2.2] at hadd
  refine hadd.mono ?_
  rintro e W11 ⟨as_, cs, rfl, hs11, hb11⟩
  have hb011 : Below w.heap.size w W11 := hb10.trans (hb11.mono hb10.size)
  clear hadd om o1 hb10 hb11
  go_wp2_with fail
  have o12 : Own 0 (W11.alloc (.cells #[.int .u32 0, .int .u32 1] 61)) (some ⟨W11.heap.size, 0, none⟩) 2 L01 := Own.lit W11 0 L01 (Nat.zero_le _) HW.out.1 (by simp [L01])
  have hs12 := hs11.below (below_alloc W11 (.cells #[.int .u32 0, .int .u32 1] 61))
  have hb12 : Below w.heap.size w (W11.alloc (.cells #[.int .u32 0, .int .u32 1] 61)) := hb011.trans ((below_alloc _ _).mono hb011.size)
  generalize (W11.alloc (.cells #[.int .u32 0, .int .u32 1] 61)) = W12 at o12 hs12 hb12 ⊢
  refine (same_any _ _ _ _ L01 L01 true W12 hs12.rd o12.rd (by simp)).mono ?_
  rintro e w' ⟨rfl, q12, rfl⟩
  have hbf : Below w.heap.size w (W12.drewN q12) := hb12.trans ((below_drewN W12 q12).mono hb12.size)
  clear hs12 hb12 hs11 hb011
  go_wp2
  go_ret
  exact ⟨rfl, hbf⟩
end Go.Proofs.YtbcaigpdckencaaDoor

namespace Go.Proofs.YtbcaigpdckencaaDoor
open Go.RowKit Num

theorem len_add {u v j k : Nat} (h : (nd u).length ≤ j) (h2 : (nd v).length ≤ k) : (nd (u + v)).length ≤ j + k + 1 := by
  have e1 : u < 4294967296 ^ (j + k) := Nat.lt_of_lt_of_le (val_nd u ▸ val_lt_of (wf_nd u) h) (Nat.pow_le_pow_right (by omega) (by omega))
  have e2 : v < 4294967296 ^ (j + k) := Nat.lt_of_lt_of_le (val_nd v ▸ val_lt_of (wf_nd v) h2) (Nat.pow_le_pow_right (by omega) (by omega))
  exact nd_length_add e1 e2
theorem len_mul {u v j k : Nat} (h : (nd u).length ≤ j) (h2 : (nd v).length ≤ k) : (nd (u * v)).length ≤ j + k :=
  nd_length_mul (val_nd u ▸ val_lt_of (wf_nd u) h) (val_nd v ▸ val_lt_of (wf_nd v) h2)
theorem cmp_le {a b : Nat} (h : a ≤ b) : cmpN a b ≤ 0 := by unfold cmpN; split <;> (try split) <;> omega
theorem root_le {n a r : Nat} (h : isRoot n a r) (hn : 1 ≤ n) : r ≤ a := Nat.le_trans (by
  cases r with
  | zero => exact Nat.zero_le _
  | succ r => exact Nat.le_trans (by simp) (Nat.pow_le_pow_right (by omega) hn : (r + 1) ^ 1 ≤ (r + 1) ^ n)) h.1
end Go.Proofs.YtbcaigpdckencaaDoor
