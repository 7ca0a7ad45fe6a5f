/- Walks: Shift, divideBy, guessDigit, decreaseBy. -/
import Derived.Test.YtbcaigpdckencaaDoorShf
namespace Go.Proofs.YtbcaigpdckencaaDoor
open Go.RowKit Num

theorem or_dig_wrap {r : Nat} (h : r < 4294967296) : IntKind.u64.wrap ((r : Int) * 4294967296) = (r : Int) * 4294967296 := by
  have e : ((r : Int) * 4294967296) = ((r * 4294967296 : Nat) : Int) := by simp
  rw [e, wrap_u64_nat _ (by omega)]

def shiftN (v : Nat) (n : Int) : Nat := if 65536 < n then 0 else if 0 ≤ n then v * 2 ^ n.toNat else v / 2 ^ (-n).toNat

set_option maxRecDepth 100000 in
set_option maxHeartbeats 400000 in
theorem shift_any (ao : Option Addr) (c : Nat) (n : Int) (xs : List Nat) (w : World) (h : Rd w ao c xs) (hl : xs.length ≤ 8796093022208) (hn : -9223372036854775808 ≤ n) (hn2 : n ≤ 9223372036854775807) :
    Calls Tryd.prog 18 #[.slice ao xs.length c, .int .i64 n] w (RetOwn w.heap.size (nd (shiftN (val xs) n)) w) := by
  have hcut := cut_any ao c xs w h
  have hlen := nd_length_le_of h.dg
  have hr := h.cutND
  by_cases h1 : 65536 < n
  · have HZ := hid (show shiftN (val xs) n = 0 by simp [shiftN, h1])
    clear hcut hr h
    go_enter Tryd.func18, Tryd.ntmps18
    go_wp2
    go_ret
    exact ⟨none, 0, by rw [HZ.out, nd_zero]; rfl, by rw [HZ.out, nd_zero]; exact Own.nil _ _, Below.refl _ _⟩
  · by_cases h2 : 0 ≤ n
    · obtain ⟨m, rfl⟩ := Int.eq_ofNat_of_zero_le h2
      have HZ := hid (show shiftN (val xs) (m : Int) = val xs * 2 ^ m by simp [shiftN, h1])
      have hup := shiftUp_any ao c m (nd (val xs)) w hr (by omega) (by omega)
      rw [val_nd, ← HZ.out] at hup
      clear hr h
      go_enter Tryd.func18, Tryd.ntmps18
      go_wp2_with (first | (go_at_call 53; refine hcut.mono ?_; rintro e w' ⟨rfl, rfl⟩) | (go_at_call 59; refine hup.mono ?_; rintro e w' ⟨ao', c', rfl, hown, hbel⟩))
      go_ret
      exact ⟨_, _, rfl, hown, hbel⟩
    · obtain ⟨m, hm⟩ := Int.eq_ofNat_of_zero_le (show 0 ≤ -n by omega)
      obtain rfl : n = -(m : Int) := by omega
      have HZ := hid (show shiftN (val xs) (-(m : Int)) = val xs / 2 ^ m by
        rw [shiftN, if_neg h1, if_neg h2]; simp)
      have hdn := shiftDown_any ao c m (nd (val xs)) w hr (by omega) (by omega)
      rw [val_nd, ← HZ.out] at hdn
      clear hr h hm
      go_enter Tryd.func18, Tryd.ntmps18
      go_wp2_with (first | (go_at_call 53; refine hcut.mono ?_; rintro e w' ⟨rfl, rfl⟩) | (go_at_call 60; refine hdn.mono ?_; rintro e w' ⟨ao', c', rfl, hown, hbel⟩))
      go_ret
      exact ⟨_, _, rfl, hown, hbel⟩

set_option maxRecDepth 100000 in
set_option maxHeartbeats 400000 in
theorem divideBy_any (zo : Option Addr) (g o cz D : Nat) (zs : List Nat) (w : World) (hz : zs ≠ [] → zo = some ⟨g, o, none⟩) (hwr : Wr w g o zs) (hzw : wf zs) (hm : zs.length ≤ 9223372036854775807) (hD : D < 4294967296) (hD0 : 0 < D) :
    Calls Tryd.prog 70 #[.slice zo zs.length cz, .int .u32 (D : Int)] w (Ret (.int .u32 ((val zs % D : Nat) : Int)) (wput w g o (dig zs.length (val zs / D)))) := by
  go_enter Tryd.func70, Tryd.ntmps70
  go_wp2
  go_loopw [5, 6] (fun cv iv wr => ∃ j r : Nat, j ≤ zs.length ∧ iv = .int .i64 ((j : Int) - 1) ∧ cv = .int .u64 (r : Int) ∧ r < D ∧ Hid (r = val (zs.drop j) % D) ∧ Hid (wr = wput w g o (zs.take j ++ dig (zs.length - j) (val (zs.drop j) / D))))
    (fun _ iv _ => (intOf iv + 1).toNat)
  case atStart =>
    refine ⟨zs.length, 0, Nat.le_refl _, rfl, rfl, hD0, ?_, ?_⟩
    · show 0 = _
      rw [List.drop_length]; simp [val]
    · show _ = _
      rw [List.take_length, Nat.sub_self, dig, List.append_nil, wput_self hwr]
  case round =>
    obtain ⟨j, r, hj, rfl, rfl, hrl, HR, HW⟩ := hrel
    by_cases hj0 : j = 0
    · subst hj0
      go_wp2
      go_ret
      have h1 := HR.out
      have h2 := HW.out
      simp only [List.drop_zero, List.take_zero, List.nil_append, Nat.sub_zero] at h1 h2
      refine ⟨?_, h2.symm⟩
      rw [← h1]
      exact congrArg Ending.returned (int_eq (by omega))
    · obtain ⟨i, rfl⟩ : ∃ i, j = i + 1 := ⟨j - 1, by omega⟩
      obtain rfl := hz (by intro h; rw [h] at hj; simp at hj)
      have hW := HW.out
      obtain ⟨x, hx⟩ : ∃ x, x = zs.getD i 0 := ⟨_, rfl⟩
      have hxl : x < 4294967296 := by rw [hx]; exact wf_getD hzw i
      have hLl : (zs.take (i + 1) ++ dig (zs.length - (i + 1)) (val (zs.drop (i + 1)) / D)).length = zs.length := by simp [length_dig]; omega
      have hzc : wr.cell? ⟨g, o + i, none⟩ = some (.int .u32 (x : Int)) := by
        rw [hW, (hwr.put hLl i (by omega)).1, hx]
        rw [getD_take_app (by omega) hj]
      have hzf : wr.frozen? ⟨g, o + i, none⟩ = false := by
        rw [hW, wput_frozen]; exact (hwr i (by omega)).2
      obtain ⟨q, hq⟩ : ∃ q, q = x + 4294967296 * r % 18446744073709551616 := ⟨_, rfl⟩
      obtain ⟨horr, hql, hqm⟩ := or_dig r x q hxl hq
      rw [or_dig_wrap (by omega)] at horr
      have hq2 : q = 4294967296 * r + x := by omega
      have hst := div_step x (val (zs.drop (i + 1))) D hD0
      have hlt := div_step_lt (u := x) (v := val (zs.drop (i + 1))) hxl hD0
      rw [← HR.out, ← hq2] at hst hlt
      have hvd : val (zs.drop i) = x + 4294967296 * val (zs.drop (i + 1)) := by rw [val_drop (by omega), hx]
      have hqd : q / D < 4294967296 := hlt
      have hqi : ((q : Int) / (D : Int)) = ((q / D : Nat) : Int) := by simp
      have hqmi : ((q : Int) % (D : Int)) = ((q % D : Nat) : Int) := by simp
      obtain ⟨qd, hqd1⟩ : ∃ qd, qd = q / D := ⟨_, rfl⟩
      obtain ⟨qr, hqr1⟩ : ∃ qr, qr = q % D := ⟨_, rfl⟩
      rw [← hqd1] at hqi hqd
      rw [← hqr1] at hqmi
      have hqrl : qr < D := by rw [hqr1]; exact Nat.mod_lt _ hD0
      have HP := hid (And.intro hst (And.intro hvd (And.intro hqd1 hqr1)))
      have HLl := hid hLl
      have HW2 := hid hW
      clear hx hW hLl hq hq2 hst hlt hvd hqd1 hqr1 hqm
      go_wp2
      have hp := HP.out
      refine ⟨⟨i, qr, by omega, int_eq (by omega), int_eq hqmi, hqrl, ?_, ?_⟩, by simp [intOf]⟩
      · show _ = _
        rw [hp.2.1, hp.1.2, hp.2.2.2]
      · show World.setCell _ _ _ = _
        rw [HW2.out, wput_seti _ _ _ _ i qd _ (by first | omega | exact hqi | (rw [hqi]; omega)) (by rw [HLl.out]; omega), set_down (by omega) hqd, hp.2.1, hp.1.1, hp.2.2.1]

/-- a product is subtracted in place -/
def RetDec (w : World) (g o n W DV : Nat) (e : Ending) (w' : World) : Prop := ∃ (b : Bool) (t : Nat), e = .returned (.bool b) ∧ t < 4294967296 ^ n ∧ t + DV = W + (if b then 4294967296 ^ n else 0) ∧ Hid (w' = wput w g o (dig n t))

set_option maxRecDepth 100000 in
set_option maxHeartbeats 400000 in
theorem decreaseBy_any (ao : Option Addr) (g o cz c D : Nat) (zs bs : List Nat) (w : World) (hwr : Wr w g o zs) (hzw : wf zs) (hr : Rd w ao c bs) (ho : Off g ao bs)
    (hl : zs.length = bs.length + 1) (hm : bs.length ≤ 9223372036854775806) (hD : D < 4294967296) :
    Calls Tryd.prog 99 #[.slice (some ⟨g, o, none⟩) zs.length cz, .slice ao bs.length c, .int .u32 (D : Int)] w (RetDec w g o zs.length (val zs) (D * val bs)) := by
  have hzl1 : zs.length ≤ bs.length + 1 := by omega
  have hzl2 : bs.length + 1 ≤ zs.length := by omega
  have HL := hid hl
  clear hl
  go_enter Tryd.func99, Tryd.ntmps99
  go_wp2
  go_loopw [7, 8, 14] (fun cv bv iv wr => ∃ k cr bw t : Nat, k ≤ bs.length ∧ iv = .int .i64 k ∧ cv = .int .u64 (cr : Int) ∧ bv = .int .u32 (bw : Int) ∧ cr < 4294967296 ∧ bw ≤ 1 ∧ Hid (t < 4294967296 ^ k ∧ t + D * val (bs.take k) = val (zs.take k) + (cr + bw) * 4294967296 ^ k) ∧ Hid (wr = wput w g o (dig k t ++ zs.drop k)))
    (fun _ _ iv _ => bs.length - (intOf iv).toNat)
  case atStart => exact ⟨0, 0, 0, 0, Nat.zero_le _, rfl, rfl, rfl, by omega, by omega, by simp [Hid, val], by simp [Hid, dig]; exact (wput_self hwr).symm⟩
  case round =>
    obtain ⟨k, cr, bw, t, hk, rfl, rfl, rfl, hcl, hbl, HC, HW⟩ := hrel
    by_cases hlt : k < bs.length
    · have hLl := length_dig k t
      have hW := HW.out
      obtain ⟨hzc, hzf⟩ := snoc_cell hwr hLl (by omega) hW
      obtain ⟨b2, o2, rfl, hxc⟩ := rd_cell hr ho hlt hW
      obtain ⟨x, hx⟩ : ∃ x, x = zs.getD k 0 := ⟨_, rfl⟩
      obtain ⟨y, hy⟩ : ∃ y, y = bs.getD k 0 := ⟨_, rfl⟩
      have hxl : x < 4294967296 := by rw [hx]; exact wf_getD hzw k
      have hyl : y < 4294967296 := by rw [hy]; exact wf_getD hr.dg k
      rw [← hx] at hzc
      rw [← hy] at hxc
      obtain ⟨p, hp⟩ : ∃ p, p = D * y := ⟨_, rfl⟩
      have hpl : p ≤ 18446744065119617025 := by rw [hp]; exact mul_u32 hD hyl
      have hpi : (D : Int) * (y : Int) = (p : Int) := by rw [hp]; simp
      obtain ⟨l, hll⟩ : ∃ l, l = (cr + p) % 4294967296 := ⟨_, rfl⟩
      have hli : ((cr : Int) + (p : Int)) % 4294967296 = (l : Int) := by omega
      have hlL : l < 4294967296 := by omega
      have hdig := sub_digit x l bw hxl hlL hbl
      obtain ⟨d, hd⟩ : ∃ d, d = (x + 8589934592 - l - bw) % 4294967296 := ⟨_, rfl⟩
      obtain ⟨q, hq⟩ : ∃ q, q = if x < l + bw then 1 else 0 := ⟨_, rfl⟩
      have hcon := fun w => sub32_any x l bw d q w hxl hlL hbl hd hq
      rw [← hd, ← hq] at hdig
      have hcr' : cr + D * y = 4294967296 * ((cr + p) / 4294967296) + l := by rw [← hp, hll]; omega
      have hcb : (cr + p) / 4294967296 < 4294967296 := by omega
      have HX := hid (And.intro hx (And.intro hy hcr'))
      have HW' := hid hW
      have HD := hid hdig
      have HH := hid (And.intro ho hr)
      clear hx hy hW hd hq hdig hp hll hcr' HW ho hr hLl
      go_wp2_with (go_at_call 109; refine (hcon _).mono ?_; rintro e w' ⟨rfl, rfl⟩)
      have hdig := HD.out
      refine ⟨⟨k + 1, (cr + p) / 4294967296, q, t + 4294967296 ^ k * d, by omega, by simp, int_eq (by omega), rfl, hcb, hdig.2.2, ⟨?_, ?_⟩, ?_⟩, by simp [intOf]; omega⟩
      · rw [Nat.pow_succ]; exact step_lt HC.out.1 hdig.2.1
      · rw [val_take_succ (xs := zs) (by omega), val_take_succ (xs := bs) hlt, ← HX.out.1, ← HX.out.2.1, Nat.pow_succ]
        exact subBy_step HC.out.2 HX.out.2.2 hdig.1
      · show World.setCell _ _ _ = _
        rw [step_dig_succ, Nat.div_eq_of_lt HC.out.1, Nat.zero_add, Nat.mod_eq_of_lt hdig.2.1]
        exact snoc_put (length_dig k t) (by omega) HW'.out rfl
    · obtain rfl : k = bs.length := by omega
      have hLl := length_dig bs.length t
      have hW := HW.out
      obtain ⟨hzc, hzf⟩ := snoc_cell hwr hLl (by omega) hW
      obtain ⟨x, hx⟩ : ∃ x, x = zs.getD bs.length 0 := ⟨_, rfl⟩
      have hxl : x < 4294967296 := by rw [hx]; exact wf_getD hzw _
      rw [← hx] at hzc
      have hdig := sub_digit x cr bw hxl hcl hbl
      obtain ⟨d, hd⟩ : ∃ d, d = (x + 8589934592 - cr - bw) % 4294967296 := ⟨_, rfl⟩
      obtain ⟨q, hq⟩ : ∃ q, q = if x < cr + bw then 1 else 0 := ⟨_, rfl⟩
      have hcon := fun w => sub32_any x cr bw d q w hxl hcl hbl hd hq
      rw [← hd, ← hq] at hdig
      have hfin : (t + 4294967296 ^ bs.length * d) < 4294967296 ^ zs.length ∧ (t + 4294967296 ^ bs.length * d) + D * val bs = val zs + q * 4294967296 ^ zs.length := by
        have h1 := HC.out
        rw [HL.out, Nat.pow_succ]
        refine ⟨step_lt h1.1 hdig.2.1, ?_⟩
        have h2 := val_take_succ (xs := zs) (k := bs.length) (by omega)
        rw [← HL.out, List.take_length, ← hx] at h2
        rw [List.take_length] at h1
        have h3 := subBy_step (y := 0) (l := cr) (c' := 0) h1.2 (by omega) hdig.1
        rw [h2]
        simpa using h3
      have HF := hid (snoc_put (d := d) (v := (d : Int)) hLl (by omega) hW rfl)
      have HT := hid (show dig bs.length t ++ [d] ++ zs.drop (bs.length + 1) = dig zs.length (t + 4294967296 ^ bs.length * d) by
        rw [List.drop_eq_nil_of_le (by omega), List.append_nil, HL.out, step_dig_succ, Nat.div_eq_of_lt HC.out.1, Nat.zero_add, Nat.mod_eq_of_lt hdig.2.1])
      have HFIN := hid hfin
      have hq1 := hdig.2.2
      clear hx hW hd hq hdig HW hLl hfin hlt hk
      by_cases hq0 : q = 0
      · have hb : ((q : Int) != 0) = false := by simp [hq0]
        have HQ := hid hq0
        clear hq0
        go_wp2_with (go_at_call 109; refine (hcon _).mono ?_; rintro e w' ⟨rfl, rfl⟩)
        go_ret
        refine ⟨false, _, rfl, HFIN.out.1, ?_, ?_⟩
        · rw [HFIN.out.2, HQ.out]; simp
        · show _ = _
          rw [← HT.out]; exact HF.out
      · have hb : ((q : Int) != 0) = true := by simp [hq0]
        have HQ := hid (show q = 1 by omega)
        clear hq0
        go_wp2_with (go_at_call 109; refine (hcon _).mono ?_; rintro e w' ⟨rfl, rfl⟩)
        go_ret
        refine ⟨true, _, rfl, HFIN.out.1, ?_, ?_⟩
        · rw [HFIN.out.2, HQ.out]; simp
        · show _ = _
          rw [← HT.out]; exact HF.out
end Go.Proofs.YtbcaigpdckencaaDoor
