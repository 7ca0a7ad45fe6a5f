/- Walks: increaseBy, shortProduct, shiftDigits, scaleAndAdd. -/
import Derived.Test.YtbcaigpdckencaaDoorDec
import Derived.Test.YtbcaigpdckencaaDoorBit
namespace Go.Proofs.YtbcaigpdckencaaDoor
open Go.RowKit Num

theorem mul_u32 {x y : Nat} (hx : x < 4294967296) (hy : y < 4294967296) : x * y ≤ 18446744065119617025 := by
  have := Nat.mul_le_mul (show x ≤ 4294967295 by omega) (show y ≤ 4294967295 by omega)
  omega

set_option maxRecDepth 100000 in
set_option maxHeartbeats 400000 in
theorem increaseBy_any (zo ao : Option Addr) (g o cz c D : Nat) (zs xs : List Nat) (w : World) (hz : zs ≠ [] → zo = some ⟨g, o, none⟩) (hwr : Wr w g o zs) (hzw : wf zs) (hr : Rd w ao c xs) (ho : Off g ao xs)
    (hl : xs.length = zs.length) (hm : xs.length ≤ 9223372036854775807) (hD : D < 4294967296) :
    Calls Tryd.prog 113 #[.slice zo zs.length cz, .slice ao xs.length c, .int .u32 (D : Int)] w (Ret (.int .u32 (((val zs + D * val xs) / 4294967296 ^ zs.length : Nat) : Int)) (wput w g o (dig zs.length (val zs + D * val xs)))) := by
  have HL := hid hl
  have hm2 : zs.length ≤ 9223372036854775807 := by omega
  have hl1 : xs.length ≤ zs.length := by omega
  have hl2 : zs.length ≤ xs.length := by omega
  clear hl
  go_enter Tryd.func113, Tryd.ntmps113
  go_wp2
  go_loopw [7, 12] (fun cv iv wr => ∃ k cy : Nat, k ≤ xs.length ∧ iv = .int .i64 k ∧ cv = .int .u64 cy ∧ cy < 4294967296 ∧ Hid (cy = (val (zs.take k) + D * val (xs.take k)) / 4294967296 ^ k) ∧ Hid (wr = wput w g o (dig k (val (zs.take k) + D * val (xs.take k)) ++ zs.drop k)))
    (fun _ iv _ => xs.length - (intOf iv).toNat)
  case atStart => exact ⟨0, 0, Nat.zero_le _, rfl, rfl, by omega, by simp [Hid, val], by simp [Hid, dig]; exact (wput_self hwr).symm⟩
  case round =>
    obtain ⟨k, cy, hk, rfl, rfl, hcl, HC, HW⟩ := hrel
    by_cases hlt : k < xs.length
    · obtain rfl := hz (by intro h; rw [h] at hl1; simp at hl1; simp [hl1] at hlt)
      obtain ⟨s, hs⟩ : ∃ s, s = val (zs.take k) + D * val (xs.take k) := ⟨_, rfl⟩
      have hLl := length_dig k s
      have hc := HC.out
      have hW := HW.out
      rw [← hs] at hc hW
      obtain ⟨hzc, hzf⟩ := snoc_cell hwr hLl (by omega) hW
      obtain ⟨b2, o2, rfl, hxc⟩ := rd_cell hr ho hlt hW
      obtain ⟨x, hx⟩ : ∃ x, x = zs.getD k 0 := ⟨_, rfl⟩
      obtain ⟨y, hy⟩ : ∃ y, y = xs.getD k 0 := ⟨_, rfl⟩
      have hxl : x < 4294967296 := by rw [hx]; exact wf_getD hzw k
      have hyl : y < 4294967296 := by rw [hy]; exact wf_getD hr.dg k
      rw [← hx] at hzc
      rw [← hy] at hxc
      obtain ⟨p, hp⟩ : ∃ p, p = D * y := ⟨_, rfl⟩
      have hpl : p ≤ 18446744065119617025 := by rw [hp]; exact mul_u32 hD hyl
      have hpi : (D : Int) * (y : Int) = (p : Int) := by rw [hp]; simp
      have hs' : val (zs.take (k + 1)) + D * val (xs.take (k + 1)) = s + 4294967296 ^ k * (x + p) := by
        rw [val_take_succ (xs := zs) (by omega), val_take_succ (xs := xs) hlt, ← hx, ← hy, hs, hp]; grind
      have hxs : val (xs.take (k + 1)) < 4294967296 ^ (k + 1) := val_take_lt hr.dg _
      have hzs : val (zs.take (k + 1)) < 4294967296 ^ (k + 1) := val_take_lt hzw _
      have hbound : (cy + (x + p)) / 4294967296 < 4294967296 := by omega
      have HS' := hid hs'
      have HC' := hid hc
      have HW' := hid hW
      have HH := hid (And.intro ho hr)
      clear hs hx hy hp hs' hc hW hz HC HW ho hr hxs hzs hLl
      go_wp2
      refine ⟨⟨k + 1, (cy + (x + p)) / 4294967296, by omega, by simp, int_eq (by omega), hbound, ?_, ?_⟩, by simp [intOf]; omega⟩
      · show _ = _
        rw [HS'.out, step_div_succ, ← HC'.out]
      · show World.setCell _ _ _ = _
        rw [HS'.out, step_dig_succ, ← HC'.out]
        exact snoc_put (length_dig k s) (by omega) HW'.out (by omega)
    · obtain rfl : k = xs.length := by omega
      go_wp2
      go_ret
      have hc := HC.out
      have hW := HW.out
      rw [List.take_length, HL.out, List.take_length] at hc hW
      refine ⟨?_, ?_⟩
      · rw [← hc]; congr 1
      · rw [hW, List.drop_length, List.append_nil]

set_option maxRecDepth 100000 in
set_option maxHeartbeats 400000 in
theorem shortProduct_any (aa ab : Option Addr) (ca cb : Nat) (xs ys : List Nat) (w : World) (ha : Rd w aa ca xs) (hb : Rd w ab cb ys) (hl1 : xs.length ≤ 8796093022208) (hl2 : ys.length ≤ 8796093022208) :
    Calls Tryd.prog 100 #[.slice aa xs.length ca, .slice ab ys.length cb] w (RetOwn w.heap.size (nd (val xs * val ys)) w) := by
  have hax := ha.le
  have hax2 := ha.cm
  have hay := hb.le
  have hay2 := hb.cm
  have hoa : Off w.heap.size aa xs := ha.lt_size (Nat.le_refl _)
  have hob : Off w.heap.size ab ys := hb.lt_size (Nat.le_refl _)
  have hxw := ha.dg
  have hyw := hb.dg
  go_enter Tryd.func100, Tryd.ntmps100
  go_wp2_with (at_make; refine wp_make _ rfl _ rfl w.heap.size (xs.length + ys.length) _ rfl (by omega) (by omega) (Nat.le_refl _) ?_; intro w1 hown1 hbel1 hsz1)
  go_loopw [16] (fun iv wr => ∃ k : Nat, k ≤ ys.length ∧ iv = .int .i64 k ∧ Own w.heap.size wr (some ⟨w.heap.size, 0, none⟩) (xs.length + ys.length) (dig (xs.length + ys.length) (val xs * val (ys.take k))) ∧ Below w.heap.size w wr)
    (fun iv _ => ys.length - (intOf iv).toNat)
  case atStart => exact ⟨0, Nat.zero_le _, rfl, by simpa [val, dig_zero] using hown1, hbel1⟩
  case round =>
    obtain ⟨k, hk, rfl, hown, hbel⟩ := hrel
    by_cases hlt : k < ys.length
    · have hra := ha.below hbel
      have hrb := hb.below hbel
      obtain ⟨v, hv⟩ : ∃ v, v = val xs * val (ys.take k) := ⟨_, rfl⟩
      rw [← hv] at hown
      obtain ⟨N, hN⟩ : ∃ N, N = xs.length + ys.length := ⟨_, rfl⟩
      have hvl : v < 4294967296 ^ (k + xs.length) := by
        have h1 := val_lt hxw
        have h2 := val_take_lt hyw k
        have h3 := Nat.mul_lt_mul_of_lt_of_le h1 (Nat.le_of_lt h2) (pow_pos k)
        rw [hv, Nat.pow_add, Nat.mul_comm (4294967296 ^ k)]; exact h3
      obtain ⟨y, hy⟩ : ∃ y, y = ys.getD k 0 := ⟨_, rfl⟩
      have hyl : y < 4294967296 := by rw [hy]; exact wf_getD hyw k
      have hv' : val xs * val (ys.take (k + 1)) = v + 4294967296 ^ k * (y * val xs) := by
        rw [val_take_succ hlt, ← hy, hv]; grind
      have ht : v / 4294967296 ^ k + y * val xs < 4294967296 ^ (xs.length + 1) := by
        have h1 : v / 4294967296 ^ k < 4294967296 ^ xs.length := Nat.div_lt_of_lt_mul (by rw [← Nat.pow_add]; exact hvl)
        have h2 := Nat.mul_le_mul (show y ≤ 4294967295 by omega) (Nat.le_sub_one_of_lt (val_lt hxw))
        rw [Nat.pow_succ]
        have := pow_pos xs.length
        omega
      rcases hrb.lies with h1 | ⟨b2, o2, rfl, hyc⟩
      · simp [h1] at hlt
      have hyc1 := hyc k hlt
      rw [← hy] at hyc1
      -- the window
      have hwin := (hown.wr.take (k + xs.length)).drop k
      have hwl : (((dig (xs.length + ys.length) v).take (k + xs.length)).drop k) = dig xs.length (v / 4294967296 ^ k) := by
        rw [take_dig (by omega), drop_dig (by omega), Nat.add_sub_cancel_left]
      rw [hwl, Nat.zero_add] at hwin
      have hvd : val (dig xs.length (v / 4294967296 ^ k)) = v / 4294967296 ^ k := by
        rw [val_dig, Nat.mod_eq_of_lt (Nat.div_lt_of_lt_mul (by rw [← Nat.pow_add]; exact hvl))]
      have hinc := increaseBy_any (some ⟨w.heap.size, k, none⟩) aa w.heap.size k (xs.length + ys.length - k) ca y (dig xs.length (v / 4294967296 ^ k)) xs wr (fun _ => rfl) hwin (wf_dig _ _) hra hoa (length_dig _ _).symm (by omega) hyl
      rw [length_dig, hvd] at hinc
      have hown2 := hown.put_at k (dig xs.length (v / 4294967296 ^ k + y * val xs)) (by rw [length_dig, length_dig]; omega) (wf_dig _ _)
      rw [length_dig] at hown2
      have hb2 := below_put hbel (Nat.le_refl w.heap.size) k (dig xs.length (v / 4294967296 ^ k + y * val xs))
      have hql : (v / 4294967296 ^ k + y * val xs) / 4294967296 ^ xs.length < 4294967296 := Nat.div_lt_of_lt_mul (by rw [Nat.pow_succ] at ht; exact ht)
      have hlen2 : ((dig (xs.length + ys.length) v).take k ++ dig xs.length (v / 4294967296 ^ k + y * val xs) ++ (dig (xs.length + ys.length) v).drop (k + xs.length)).length = xs.length + ys.length := by
        simp [length_dig]; omega
      have hcell := hown2.cell (k + xs.length) (by omega)
      have hfroz := hown2.frozen (k + xs.length)
      have hown3 := fun q hq => hown2.set (k + xs.length) _ q hq hql (by omega)
      have hmr := (mul_round (N := xs.length + ys.length) (n := xs.length) (k := k) (v := v) (t := y * val xs) (by omega) ht).resolve_right (by omega)
      rw [hmr, ← hv'] at hown3
      have hb3 : ∀ q, Below w.heap.size w ((wput wr w.heap.size k (dig xs.length (v / 4294967296 ^ k + y * val xs))).setCell ⟨w.heap.size, k + xs.length, none⟩ q) := fun q => hb2.setCell (Nat.le_refl _) q
      obtain ⟨d0, hd0⟩ : ∃ d0, d0 = ((dig (xs.length + ys.length) v).take k ++ dig xs.length (v / 4294967296 ^ k + y * val xs) ++ (dig (xs.length + ys.length) v).drop (k + xs.length)).getD (k + xs.length) 0 := ⟨_, rfl⟩
      rw [← hd0] at hcell
      generalize (v / 4294967296 ^ k + y * val xs) / 4294967296 ^ xs.length = q at hinc hown3 hql
      generalize wput wr w.heap.size k (dig xs.length (v / 4294967296 ^ k + y * val xs)) = w2 at hinc hown2 hcell hfroz hown3 hb3
      have HOWN := hid hown3
      have HBEL := hid hb3
      have hnk : ¬ (xs.length + ys.length = k) := by omega
      clear hown hown2 hown3 hb2 hb3 hwin hwl hvd hyc hv hv' hvl ht hmr hd0 hlen2 hN N hy hra hrb hob hoa
      go_wp2_with fail
      refine hinc.mono ?_
      rintro e w' ⟨rfl, rfl⟩
      go_wp2
      refine ⟨⟨k + 1, by omega, by simp, HOWN.out _ rfl, HBEL.out _⟩, by simp [intOf]; omega⟩
    · obtain rfl : k = ys.length := by omega
      rw [List.take_length] at hown
      have hv : val (dig (xs.length + ys.length) (val xs * val ys)) = val xs * val ys := by
        rw [val_dig, Nat.mod_eq_of_lt]
        have h1 := val_lt hxw
        have h2 := val_lt hyw
        have h3 := Nat.mul_lt_mul_of_lt_of_le h1 (Nat.le_of_lt h2) (pow_pos _)
        rw [Nat.pow_add]; exact h3
      have hcut := cut_any _ _ _ _ hown.rd
      rw [length_dig, hv] at hcut
      have hown4 := hown.cutND
      rw [hv] at hown4
      clear hown hlt hk
      go_wp2_with (go_at_call 53; refine hcut.mono ?_; rintro e w' ⟨rfl, rfl⟩)
      go_ret
      exact ⟨_, _, rfl, hown4, hbel⟩

/-- the two parts of a list: the lowest n digits, cut, and those above them -/
def RetSplit (ao : Option Addr) (c n : Nat) (xs : List Nat) (w : World) (e : Ending) (w' : World) : Prop :=
  ∃ ah ch lo, e = .returned (.tuple #[.slice ao lo.length c, .slice ah (xs.drop n).length ch]) ∧ Rd w' ao c lo ∧ val lo = val (xs.take n) ∧ lo.length ≤ n ∧ lo.length ≤ xs.length ∧ Rd w' ah ch (xs.drop n) ∧ Below w.heap.size w w'
theorem split_any (ao : Option Addr) (c n : Nat) (xs : List Nat) (w : World) (h : Rd w ao c xs) (hn : n ≤ 9223372036854775807) :
    Calls Tryd.prog 101 #[.slice ao xs.length c, .int .i64 (n : Int)] w (RetSplit ao c n xs w) := by
  have hle := h.le
  have hcm := h.cm
  by_cases hc : xs.length ≤ n
  · have hd : xs.drop n = [] := List.drop_eq_nil_of_le hc
    have ht : xs.take n = xs := List.take_of_length_le hc
    have HD := hid hd
    have HT := hid ht
    have HR := hid h
    clear h hd ht
    go_enter Tryd.func101, Tryd.ntmps101
    go_wp2
    go_ret2
    exact ⟨none, 0, xs, by rw [HD.out]; rfl, HR.out, by rw [HT.out], hc, Nat.le_refl _, by rw [HD.out]; exact Rd.nil (by omega) (fun _ => rfl), Below.refl _ _⟩
  · have hcut := fun q => cut_any ao c (xs.take n) (w.drewN q) ((h.drewN q).take n)
    have htl : (xs.take n).length = n := by simp; omega
    simp only [htl] at hcut
    have hd := h.drop n (by omega)
    have hlo := (h.take n).cutND
    have hl1 := nd_length_le_of (h.take n).dg
    rw [htl] at hl1
    obtain ⟨lo, hlo1⟩ : ∃ lo, lo = nd (val (xs.take n)) := ⟨_, rfl⟩
    rw [← hlo1] at hlo hl1
    simp only [← hlo1] at hcut
    have hv : val lo = val (xs.take n) := by rw [hlo1, val_nd]
    have hdl : (xs.drop n).length = xs.length - n := by simp
    have hnc : ¬ (c = n) := by omega
    rw [if_neg hnc] at hd
    have HD := hid hd
    have HV := hid (And.intro hlo (And.intro hv hdl))
    clear hlo1 h hdl htl hd hv hlo
    go_enter Tryd.func101, Tryd.ntmps101
    go_wp2_with fail
    go_quiet ((go_at_call 53; exact (hcut _).mono (fun _ _ h => ⟨h.1, _, h.2.symm⟩)))
    go_wp2
    go_ret2
    exact ⟨_, _, lo, by rw [HV.out.2.2]; rfl, HV.out.1.drewN nq, HV.out.2.1, hl1, by omega, HD.out.drewN nq, below_drewN _ _⟩

/-- a part of an owned row is raised -/
def PutOwn (B g c : Nat) (zs : List Nat) (w : World) (e : Ending) (w' : World) : Prop := e = .returned (.tuple #[]) ∧ Own B w' (some ⟨g, 0, none⟩) c zs ∧ ∃ o ys, Hid (w' = wput w g o ys)
theorem increase_own (B g c off n cz cb : Nat) (ab : Option Addr) (zs bs : List Nat) (w : World) (h : Own B w (some ⟨g, 0, none⟩) c zs) (hn : off + n = zs.length) (hr : Rd w ab cb bs) (ho : Off g ab bs)
    (hl : bs.length ≤ n) (hm : zs.length ≤ 9223372036854775807) (hv : val zs + 4294967296 ^ off * val bs < 4294967296 ^ zs.length) :
    Calls Tryd.prog 84 #[.slice (some ⟨g, off, none⟩) n cz, .slice ab bs.length cb] w (PutOwn B g c (dig zs.length (val zs + 4294967296 ^ off * val bs)) w) := by
  have hdl : (zs.drop off).length = n := by simp; omega
  have hwr := h.wr.drop off
  rw [Nat.zero_add] at hwr
  have hc := increase_any (some ⟨g, off, none⟩) ab g off cz cb (zs.drop off) bs w (fun _ => rfl) hwr (wf_drop h.2 off) hr ho (by omega) (by omega)
  rw [hdl] at hc
  refine hc.mono ?_
  rintro e w' ⟨rfl, rfl⟩
  refine ⟨rfl, ?_, _, _, hid rfl⟩
  have h2 := h.put_at off (dig n (val (zs.drop off) + val bs)) (by rw [length_dig]; omega) (wf_dig _ _)
  have e : zs.take off ++ dig n (val (zs.drop off) + val bs) ++ zs.drop (off + (dig n (val (zs.drop off) + val bs)).length) = dig zs.length (val zs + 4294967296 ^ off * val bs) := by
    rw [length_dig, hn, List.drop_length, List.append_nil]
    have h3 := val_split zs off (by omega)
    refine dig_of_val (wf_append.2 ⟨wf_take h.2 _, wf_dig _ _⟩) (by simp [length_dig]; omega) ?_
    rw [val_append, val_dig, List.length_take, Nat.min_eq_left (by omega), Nat.mod_eq_of_lt, h3, Nat.mul_add]
    · omega
    · rw [← hn, Nat.pow_add, h3] at hv
      have h4 : 4294967296 ^ off * (val (zs.drop off) + val bs) < 4294967296 ^ off * 4294967296 ^ n := by rw [Nat.mul_add]; omega
      exact Nat.lt_of_mul_lt_mul_left h4
  rw [e] at h2
  exact h2

/-- an owned slice as the target of a change in place -/
theorem Own.inplace {B : Nat} {w : World} {ao : Option Addr} {c : Nat} {zs : List Nat} (h : Own B w ao c zs) (hB : B ≤ w.heap.size) :
    ∃ g, (zs ≠ [] → ao = some ⟨g, 0, none⟩) ∧ B ≤ g ∧ Wr w g 0 zs ∧ ∀ ys, ys.length = zs.length → wf ys → Own B (wput w g 0 ys) ao c ys := by
  rcases h.cases with ⟨h1, h2, h3⟩ | ⟨g, cur, h1, h2, h3⟩
  · subst h1 h2 h3
    exact ⟨w.heap.size, fun h => absurd rfl h, hB, fun i hi => by simp at hi, fun ys hl _ => by
      obtain rfl : ys = [] := List.eq_nil_of_length_eq_zero (by simpa using hl)
      exact Own.nil _ _⟩
  · subst h1
    exact ⟨g, fun _ => rfl, h2, h.wr, fun ys hl hw => h.put hl hw⟩
def PutOwn' (B : Nat) (ao : Option Addr) (c : Nat) (zs : List Nat) (w : World) (e : Ending) (w' : World) : Prop := e = .returned (.tuple #[]) ∧ Own B w' ao c zs ∧ ∃ g ys, B ≤ g ∧ Hid (w' = wput w g 0 ys)
theorem decrease_own (B c cb v : Nat) (ao ab : Option Addr) (zs bs : List Nat) (w : World) (h : Own B w ao c zs) (hB : B ≤ w.heap.size) (hr : Rd w ab cb bs) (ho : ∀ g, B ≤ g → Off g ab bs)
    (hl : bs.length ≤ zs.length) (hm : zs.length ≤ 9223372036854775807) (hv : v + val bs = val zs) :
    Calls Tryd.prog 102 #[.slice ao zs.length c, .slice ab bs.length cb] w (PutOwn' B ao c (dig zs.length v) w) := by
  obtain ⟨g, h1, h2, h3, h4⟩ := h.inplace hB
  refine (decrease_any ao ab g 0 c cb v zs bs w h1 h3 h.2 hr (ho g h2) hl hm hv).mono ?_
  rintro e w' ⟨rfl, rfl⟩
  exact ⟨rfl, h4 _ (length_dig _ _) (wf_dig _ _), g, _, h2, hid rfl⟩
end Go.Proofs.YtbcaigpdckencaaDoor
