/- Integers: isNegative, Sign, Neg, Add, Mul; the reference's Same; Small. -/
import Derived.Test.YtbcaigpdckencaaDoorIn0
namespace Go.Proofs.YtbcaigpdckencaaDoor
open Go.RowKit Num

/-- -1, 0 or 1 -/
def sgn (z : Int) : Int := if z < 0 then -1 else if z = 0 then 0 else 1

set_option maxRecDepth 100000 in
theorem isNegative_any (b : Bool) (ao : Option Addr) (c : Nat) (xs : List Nat) (w : World) (h : Rd w ao c xs) (hl : xs.length ≤ 17592186044416) (r : Bool) (hr : r = true ↔ iv b (val xs) < 0) :
    Calls Tryd.prog 80 #[.agg #[.bool b, .slice ao xs.length c]] w (RetB (.bool r) w) := by
  have hba := below_alloc w (.cells #[.bool b, .slice ao xs.length c] 43)
  cases b with
  | false =>
    obtain rfl : r = false := by
      cases r with
      | false => rfl
      | true => have := hr.1 rfl; simp [iv] at this; omega
    have H := hid hba
    clear hba h hr
    go_enter Tryd.func80, Tryd.ntmps80
    go_wp2
    go_ret
    exact ⟨rfl, H.out⟩
  | true =>
    have hz := isZero_any true ao c xs _ (h.below hba) hl (!r) (by
      rw [Bool.not_eq_true', ← Bool.not_eq_true, hr, iv, if_pos rfl]; omega)
    have H := hid hba
    clear hba h hr
    go_enter Tryd.func80, Tryd.ntmps80
    go_wp2_with fail
    refine hz.mono ?_
    rintro e w' ⟨rfl, hb⟩
    have hb2 := H.out.trans (hb.mono H.out.size)
    clear hz hb
    have HB := hid hb2
    clear hb2
    go_wp2
    go_ret
    exact ⟨by simp, HB.out⟩

set_option maxRecDepth 100000 in
theorem Sign_any (b : Bool) (ao : Option Addr) (c : Nat) (xs : List Nat) (w : World) (h : Rd w ao c xs) (hl : xs.length ≤ 17592186044416) :
    Calls Tryd.prog 36 #[.agg #[.bool b, .slice ao xs.length c]] w (RetB (.int .i64 (sgn (iv b (val xs)))) w) := by
  have hba := below_alloc w (.cells #[.bool b, .slice ao xs.length c] 43)
  have H := hid hba
  have hsz : w.heap.size < (w.alloc (.cells #[.bool b, .slice ao xs.length c] 43)).heap.size := by simp
  by_cases h0 : val xs = 0
  · have hz := isZero_any b ao c xs _ (h.below hba) hl true (by simp [h0])
    have HS := hid (show sgn (iv b (val xs)) = 0 by rw [h0]; cases b <;> rfl)
    clear hba h h0
    go_enter Tryd.func36, Tryd.ntmps36
    go_wp2_with fail
    refine hz.mono ?_
    rintro e w' ⟨rfl, hb⟩
    have HB := hid (H.out.trans (hb.mono H.out.size))
    clear hz hb
    go_wp2
    go_ret
    exact ⟨by rw [HS.out]; rfl, HB.out⟩
  · have hz := isZero_any b ao c xs _ (h.below hba) hl false (by simp [h0])
    have HS := hid (show sgn (iv b (val xs)) = if b = true then -1 else 1 by
      unfold sgn iv; cases b
      · simp only [Bool.false_eq_true, if_false]; rw [if_neg (by omega), if_neg (by omega)]
      · simp only [if_true]; rw [if_pos (by omega)])
    clear hba h h0
    go_enter Tryd.func36, Tryd.ntmps36
    go_wp2_with fail
    refine hz.mono ?_
    rintro e w' ⟨rfl, hb⟩
    have HB := hid (H.out.trans (hb.mono H.out.size))
    obtain ⟨hc, hf⟩ := bcell hb
    clear hz hb hf
    cases b <;> (go_wp2; go_ret; exact ⟨by rw [HS.out]; rfl, HB.out⟩)

set_option maxRecDepth 100000 in
theorem same2_any (b1 b2 : Bool) (aa ab : Option Addr) (ca cb : Nat) (xs ys : List Nat) (r : Bool) (w : World) (ha : Rd w aa ca xs) (hb : Rd w ab cb ys) (hr : r = true ↔ b1 = b2 ∧ xs = ys) :
    Calls Tryd.prog 35 #[.agg #[.bool b1, .slice aa xs.length ca], .agg #[.bool b2, .slice ab ys.length cb]] w (RetB (.bool r) w) := by
  have hb1 := below_alloc w (.cells #[.bool b1, .slice aa xs.length ca] 43)
  have hb2 := below_alloc (w.alloc (.cells #[.bool b1, .slice aa xs.length ca] 43)) (.cells #[.bool b2, .slice ab ys.length cb] 43)
  have hb12 := hb1.trans (hb2.mono hb1.size)
  have H := hid hb12
  by_cases hbb : b1 = b2
  · subst hbb
    have hs := same_any aa ab ca cb xs ys r _ (ha.below hb12) (hb.below hb12) (by rw [hr]; simp)
    have hee : (b1 == b1) = true := by simp
    clear hb1 hb2 hb12 ha hb hr
    go_enter Tryd.func35, Tryd.ntmps35
    go_wp2_with fail
    refine hs.mono ?_
    rintro e w' ⟨rfl, q, rfl⟩
    have HB := hid (H.out.trans ((below_drewN _ q).mono H.out.size))
    clear hs
    go_wp2
    go_ret
    exact ⟨rfl, HB.out⟩
  · obtain rfl : r = false := by
      cases r with
      | false => rfl
      | true => exact absurd (hr.1 rfl).1 hbb
    have hee : (b1 == b2) = false := by simpa using hbb
    clear hb1 hb2 hb12 ha hb hr hbb
    go_enter Tryd.func35, Tryd.ntmps35
    go_wp2
    go_ret
    exact ⟨rfl, H.out⟩

set_option maxRecDepth 100000 in
theorem small2_any (b : Bool) (ao : Option Addr) (n c : Nat) (r : Bool) (w : World) (hn : n ≤ 9223372036854775807) (hr : r = decide (n ≤ 10)) :
    Calls Tryd.prog 31 #[.agg #[.bool b, .slice ao n c]] w (RetB (.bool r) w) := by
  have hd := digits_any ao n c r (w.alloc (.cells #[.bool b, .slice ao n c] 43)) hn hr
  have H := hid (below_alloc w (.cells #[.bool b, .slice ao n c] 43))
  clear hr
  go_enter Tryd.func31, Tryd.ntmps31
  go_wp2_with fail
  refine hd.mono ?_
  rintro e w' ⟨rfl, rfl⟩
  go_wp2
  go_ret
  exact ⟨rfl, H.out⟩
end Go.Proofs.YtbcaigpdckencaaDoor
