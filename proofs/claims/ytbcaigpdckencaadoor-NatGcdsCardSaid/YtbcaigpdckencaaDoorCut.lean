/- Walks: Normal, cut, Trim, Add32, Sub32, increase, decrease. -/
import Derived.Test.YtbcaigpdckencaaDoorMem
namespace Go.Proofs.YtbcaigpdckencaaDoor
open Go.RowKit Num

theorem add32_any (x y c d q : Nat) (w : World) (hx : x < 4294967296) (hy : y < 4294967296) (hc : c < 4294967296) (hd : d = (x + y + c) % 4294967296) (hq : q = (x + y + c) / 4294967296) :
    Calls Tryd.prog 104 #[.int .u32 x, .int .u32 y, .int .u32 c] w (Ret (.tuple #[.int .u32 (d : Int), .int .u32 (q : Int)]) w) := by
  have HD := hid hd
  have HQ := hid hq
  clear hd hq
  go_enter Tryd.func104, Tryd.ntmps104
  go_wp2
  go_ret2
  refine Ret.mk ?_
  rw [HD.out, HQ.out]
  rfl

theorem normal_any (ao : Option Addr) (c : Nat) (xs : List Nat) (b : Bool) (w : World) (h : Rd w ao c xs) (hb : b = true ↔ nrm xs) :
    Calls Tryd.prog 81 #[.slice ao xs.length c] w fun e w' => e = .returned (.bool b) ∧ w = w' := by
  have hle := h.le
  have hcm := h.cm
  by_cases h0 : xs.length = 0
  · have hb0 : ((xs.length : Int) == 0) = true := by simp [h0]
    have hbt : b = true := hb.2 (Or.inl (List.eq_nil_of_length_eq_zero h0))
    subst hbt
    clear h
    go_enter Tryd.func81, Tryd.ntmps81
    go_wp2
    go_ret
    exact ⟨rfl, rfl⟩
  · rcases h.lies with h1 | ⟨bl, off, rfl, hcell⟩
    · simp [h1] at h0
    · have hb0 : ((xs.length : Int) == 0) = false := beq_eq_false_iff_ne.2 (by omega)
      obtain ⟨d, hd⟩ : ∃ d, xs.getD (xs.length - 1) 0 = d := ⟨_, rfl⟩
      have hc := hcell (xs.length - 1) (by omega)
      rw [hd] at hc
      have hbd : ((d : Int) != 0) = b := by
        rw [Bool.eq_iff_iff, hb, nrm, hd, bne_iff_ne]
        constructor
        · intro h; right; omega
        · rintro (h | h)
          · simp [h] at h0
          · omega
      clear hd hcell h hb
      go_enter Tryd.func81, Tryd.ntmps81
      go_wp2
      go_ret
      exact ⟨rfl, rfl⟩

theorem cut_any (ao : Option Addr) (c : Nat) (xs : List Nat) (w : World) (h : Rd w ao c xs) :
    Calls Tryd.prog 53 #[.slice ao xs.length c] w fun e w' => e = .returned (.slice ao (nd (val xs)).length c) ∧ w = w' := by
  have hle := h.le
  have hcm := h.cm
  go_enter Tryd.func53, Tryd.ntmps53
  go_wp2_with fail
  go_loop [0] (fun v => ∃ k : Nat, k ≤ xs.length ∧ val (xs.take k) = val xs ∧ v = .slice ao k c) slen
  case atStart => exact ⟨xs.length, Nat.le_refl _, by simp, rfl⟩
  case round =>
    obtain ⟨k, hk, hv, rfl⟩ := hrel
    have hr := h.take k
    have hlen : (xs.take k).length = k := by simp [hk]
    have HV := hid hv
    clear hv
    by_cases hn : nrm (xs.take k)
    · have hc := normal_any ao c (xs.take k) true w hr (by simp [hn])
      rw [hlen] at hc
      have HL := hid hlen
      clear hlen
      go_wp2_with (go_at_call 81; refine hc.mono ?_; rintro e w' ⟨rfl, rfl⟩)
      go_ret
      refine ⟨?_, rfl⟩
      have e : nd (val xs) = xs.take k := by rw [← HV.out]; exact nd_val hr.dg hn
      rw [e, HL.out]; rfl
    · have hc := normal_any ao c (xs.take k) false w hr (by simp [hn])
      rw [hlen] at hc
      have hk0 : k ≠ 0 := by rintro rfl; exact hn (Or.inl (by simp))
      have HN := hid hn
      clear hlen hn
      go_wp2_with (go_at_call 81; refine hc.mono ?_; rintro e w' ⟨rfl, rfl⟩)
      refine ⟨⟨k - 1, by omega, ?_, rfl⟩, by simp [slen]; omega⟩
      rw [← HV.out]
      obtain ⟨m, rfl⟩ : ∃ m, k = m + 1 := ⟨k - 1, by omega⟩
      refine (val_take_pred (by omega) ?_).symm
      have hn := HN.out
      apply Classical.byContradiction
      intro h3
      refine hn (Or.inr ?_)
      have hl2 : (xs.take (m + 1)).length = m + 1 := by simp [hk]
      rw [hl2]
      simpa using h3

theorem top_u32 {n : Nat} (h : n < 4294967296) : n >>> 31 = 0 ∨ n >>> 31 = 1 := by
  rw [Nat.shiftRight_eq_div_pow]; omega
theorem sub32_top (x y c d : Nat) (hx : x < 4294967296) (hy : y < 4294967296) (hc : c ≤ 1) (hd : d = (x + 8589934592 - y - c) % 4294967296) :
    ((4294967295 ^^^ x) &&& y ||| (4294967295 ^^^ (x ^^^ y)) &&& d) / 2147483648 = if x < y + c then 1 else 0 := by
  have hdl : d < 4294967296 := by omega
  rw [show 2147483648 = 2 ^ 31 from rfl, ← Nat.shiftRight_eq_div_pow]
  simp only [Nat.shiftRight_or_distrib, Nat.shiftRight_and_distrib, Nat.shiftRight_xor_distrib]
  rw [show 4294967295 >>> 31 = 1 from rfl]
  have ex := Nat.shiftRight_eq_div_pow x 31
  have ey := Nat.shiftRight_eq_div_pow y 31
  have ed := Nat.shiftRight_eq_div_pow d 31
  rw [show 2 ^ 31 = 2147483648 from rfl] at ex ey ed
  rcases top_u32 hx with h1 | h1 <;> rcases top_u32 hy with h2 | h2 <;> rcases top_u32 hdl with h3 | h3 <;> rw [h1, h2, h3] <;> split <;> first | rfl | omega
theorem int_mod_sub (x y c : Nat) (hx : x < 4294967296) (hy : y < 4294967296) (hc : c ≤ 1) : ((x : Int) - y - c) % 4294967296 = (((x + 8589934592 - y - c) % 4294967296 : Nat) : Int) := by omega
theorem sub32_any (x y c d b : Nat) (w : World) (hx : x < 4294967296) (hy : y < 4294967296) (hc : c ≤ 1) (hd : d = (x + 8589934592 - y - c) % 4294967296) (hb : b = if x < y + c then 1 else 0) :
    Calls Tryd.prog 109 #[.int .u32 x, .int .u32 y, .int .u32 c] w (Ret (.tuple #[.int .u32 (d : Int), .int .u32 (b : Int)]) w) := by
  have HT := hid (sub32_top x y c d hx hy hc hd)
  have HD := hid (int_mod_sub x y c hx hy hc)
  have hdl : d < 4294967296 := by omega
  have HE := hid hd
  have HB := hid hb
  clear hd hb
  go_enter Tryd.func109, Tryd.ntmps109
  go_wp2
  go_ret2
  refine Ret.mk ?_
  show Value.tuple #[.int .u32 (((x : Int) - y - c) % 4294967296), .int .u32 (_ / 2147483648)] = _
  rw [HD.out, ← HE.out, show IntKind.u32.max = ((4294967295 : Nat) : Int) from rfl]
  have h1 : 4294967295 ^^^ x < 4294967296 := Nat.xor_lt_two_pow (n := 32) (by omega) hx
  have h2 : x ^^^ y < 4294967296 := Nat.xor_lt_two_pow (n := 32) hx hy
  have h3 : 4294967295 ^^^ (x ^^^ y) < 4294967296 := Nat.xor_lt_two_pow (n := 32) (by omega) h2
  have h4 : (4294967295 ^^^ x) &&& y < 4294967296 := Nat.and_lt_two_pow (n := 32) _ hy
  have h5 : (4294967295 ^^^ (x ^^^ y)) &&& d < 4294967296 := Nat.and_lt_two_pow (n := 32) _ hdl
  rw [u32_xor_nat _ _ (by omega) hx, u32_xor_nat _ _ hx hy, u32_and_nat _ _ h1 hy, u32_xor_nat _ _ (by omega) h2, u32_and_nat _ _ h3 hdl, u32_or_nat _ _ h4 h5]
  rw [HB.out, ← HT.out]
  simp


set_option maxHeartbeats 400000 in
theorem increase_any (zo ao : Option Addr) (g o cz c : Nat) (zs bs : List Nat) (w : World) (hz : zs ≠ [] → zo = some ⟨g, o, none⟩) (hwr : Wr w g o zs) (hzw : wf zs) (hr : Rd w ao c bs) (ho : Off g ao bs)
    (hl : bs.length ≤ zs.length) (hm : zs.length ≤ 9223372036854775807) :
    Calls Tryd.prog 84 #[.slice zo zs.length cz, .slice ao bs.length c] w (Ret (.tuple #[]) (wput w g o (dig zs.length (val zs + val bs)))) := by
  go_enter Tryd.func84, Tryd.ntmps84
  go_wp2
  go_loopw [4, 10] (fun cv iv wr => ∃ k cy : Nat, k ≤ bs.length ∧ iv = .int .i64 k ∧ cv = .int .u32 cy ∧ Hid (cy = (val (zs.take k) + val (bs.take k)) / 4294967296 ^ k) ∧ Hid (wr = wput w g o (dig k (val (zs.take k) + val (bs.take k)) ++ zs.drop k)))
    (fun _ iv _ => bs.length - (intOf iv).toNat)
  case atStart => exact ⟨0, 0, Nat.zero_le _, rfl, rfl, by simp [Hid, val], by simp [Hid, dig]; exact (wput_self hwr).symm⟩
  case round =>
    obtain ⟨k, cy, hk, rfl, rfl, HC, HW⟩ := hrel
    by_cases hlt : k < bs.length
    · obtain rfl := hz (by intro h; simp [h] at hl; simp [hl] at hlt)
      rcases hr.lies with h1 | ⟨b2, o2, rfl, hcell⟩
      · simp [h1] at hlt
      have hne : b2 ≠ g := by
        rcases ho with h | h
        · simp [h] at hlt
        · exact h _ rfl
      obtain ⟨s, hs⟩ : ∃ s, s = val (zs.take k) + val (bs.take k) := ⟨_, rfl⟩
      obtain ⟨x, hx⟩ : ∃ x, x = zs.getD k 0 := ⟨_, rfl⟩
      obtain ⟨y, hy⟩ : ∃ y, y = bs.getD k 0 := ⟨_, rfl⟩
      have hxl : x < 4294967296 := by rw [hx]; exact wf_getD hzw k
      have hyl : y < 4294967296 := by rw [hy]; exact wf_getD hr.dg k
      have hsl : s < 2 * 4294967296 ^ k := by
        have := val_take_lt hzw k
        have := val_take_lt hr.dg k
        omega
      have hcl : cy ≤ 1 := by
        rw [HC.out, ← hs]
        have := Nat.div_lt_of_lt_mul (m := s) (n := 4294967296 ^ k) (k := 2) (by omega)
        omega
      have hs' : val (zs.take (k + 1)) + val (bs.take (k + 1)) = s + 4294967296 ^ k * (x + y) := by
        rw [val_take_succ (by omega), val_take_succ hlt, ← hx, ← hy, hs]; grind
      have hLl := length_dig k s
      have hW := HW.out
      rw [← hs] at hW
      have hzc : wr.cell? ⟨g, o + k, none⟩ = some (.int .u32 (x : Int)) := by
        rw [hW, (hwr.put (length_snoc hLl (by omega)) k (by rw [length_snoc hLl (by omega)]; omega)).1, getD_snoc hLl, hx]
      have hzf : wr.frozen? ⟨g, o + k, none⟩ = false := by
        rw [hW, wput_frozen]; exact (hwr k (by omega)).2
      have hbc : wr.cell? ⟨b2, o2 + k, none⟩ = some (.int .u32 (y : Int)) := by
        rw [hW, wput_cell_other _ _ _ _ ⟨b2, o2 + k, none⟩ hne, hcell k hlt, hy]
      obtain ⟨d, hd⟩ : ∃ d, d = (x + y + cy) % 4294967296 := ⟨_, rfl⟩
      obtain ⟨q, hq⟩ : ∃ q, q = (x + y + cy) / 4294967296 := ⟨_, rfl⟩
      have hcon := fun w => add32_any x y cy d q w hxl hyl (by omega) hd hq
      have HS := hid hs
      have HS' := hid hs'
      have HX := hid (And.intro hx hy)
      have HW' := hid hW
      have HD := hid (And.intro hd hq)
      have HO := hid ho
      have HCELL := hid hcell
      clear hs hs' hx hy hW hd hq ho hcell hz hsl hLl
      go_wp2_with (go_at_call 104; refine (hcon _).mono ?_; rintro e w' ⟨rfl, rfl⟩)
      have hc := HC.out
      rw [← HS.out] at hc
      have hsum : x + y + cy = s / 4294967296 ^ k + (x + y) := by omega
      refine ⟨⟨k + 1, q, by omega, by simp, rfl, ?_, ?_⟩, by simp [intOf]; omega⟩
      · show q = _
        rw [HS'.out, step_div_succ, HD.out.2, hsum]
      · show wr.setCell _ _ = _
        have hLl := length_dig k s
        rw [HS'.out, step_dig_succ, HW'.out, wput_set _ _ _ _ _ _ (by rw [length_snoc hLl (by omega)]; omega), set_snoc hLl (by omega), HD.out.1, hsum]
    · obtain rfl : k = bs.length := by omega
      clear hlt hk
      go_wp2
      go_loopw [4, 7] (fun cv iv wr => ∃ j cy : Nat, bs.length ≤ j ∧ j ≤ zs.length ∧ iv = .int .i64 j ∧ cv = .int .u32 cy ∧ Hid (cy = (val (zs.take j) + val bs) / 4294967296 ^ j) ∧ Hid (wr = wput w g o (dig j (val (zs.take j) + val bs) ++ zs.drop j)))
        (fun _ iv _ => zs.length - (intOf iv).toNat)
      case atStart => exact ⟨bs.length, cy, Nat.le_refl _, hl, rfl, rfl, by simpa using HC, by simpa using HW⟩
      case round =>
        obtain ⟨j, cy, hj, hj2, rfl, rfl, HC, HW⟩ := hrel
        obtain ⟨s, hs⟩ : ∃ s, s = val (zs.take j) + val bs := ⟨_, rfl⟩
        have hsl : s < 2 * 4294967296 ^ j := by
          have h1 := val_take_lt hzw j
          have h2 := val_lt hr.dg
          have h3 := Nat.pow_le_pow_right (show 0 < 4294967296 by omega) hj
          omega
        have hcl : cy ≤ 1 := by
          rw [HC.out, ← hs]
          have := Nat.div_lt_of_lt_mul (m := s) (n := 4294967296 ^ j) (k := 2) (by omega)
          omega
        have hc := HC.out
        have hW := HW.out
        rw [← hs] at hc hW
        have hfin : val zs + val bs = s + 4294967296 ^ j * val (zs.drop j) := by
          rw [val_split zs j hj2, hs]; omega
        by_cases h0 : cy = 0
        · have HF : Hid (wr = wput w g o (dig zs.length (val zs + val bs))) := by
            show _ = _
            rw [hW, dig_rest hzw hj2 (by omega), hfin]
          have hb : ((cy : Int) != 0) = false := by simp [h0]
          clear hs hc hW hfin h0
          go_wp2
          go_end0
          exact ⟨rfl, HF.out.symm⟩
        · have hb : ((cy : Int) != 0) = true := by simp [h0]
          by_cases hlt : j < zs.length
          · obtain rfl := hz (by intro h; simp [h] at hlt)
            obtain ⟨x, hx⟩ : ∃ x, x = zs.getD j 0 := ⟨_, rfl⟩
            have hxl : x < 4294967296 := by rw [hx]; exact wf_getD hzw j
            have hs' : val (zs.take (j + 1)) + val bs = s + 4294967296 ^ j * x := by
              rw [val_take_succ hlt, ← hx, hs]; omega
            have hLl := length_dig j s
            have hzc : wr.cell? ⟨g, o + j, none⟩ = some (.int .u32 (x : Int)) := by
              rw [hW, (hwr.put (length_snoc hLl (by omega)) j (by rw [length_snoc hLl (by omega)]; omega)).1, getD_snoc hLl, hx]
            have hzf : wr.frozen? ⟨g, o + j, none⟩ = false := by
              rw [hW, wput_frozen]; exact (hwr j (by omega)).2
            obtain ⟨d, hd⟩ : ∃ d, d = (x + 0 + cy) % 4294967296 := ⟨_, rfl⟩
            obtain ⟨q, hq⟩ : ∃ q, q = (x + 0 + cy) / 4294967296 := ⟨_, rfl⟩
            have hcon := fun w => add32_any x 0 cy d q w hxl (by omega) (by omega) hd hq
            have HS' := hid hs'
            have HW' := hid hW
            have HD := hid (And.intro hd hq)
            have HCC := hid hc
            have hbt : decide ((j : Int) < (zs.length : Int)) = true := by simp; omega
            clear hs hs' hx hW hd hq hz hsl hLl hc hfin h0
            go_wp2_with (go_at_call 104; refine (hcon _).mono ?_; rintro e w' ⟨rfl, rfl⟩)
            have hsum : x + 0 + cy = s / 4294967296 ^ j + x := by have := HCC.out; omega
            refine ⟨⟨j + 1, q, by omega, by omega, by simp, rfl, ?_, ?_⟩, by simp [intOf]; omega⟩
            · show q = _
              rw [HS'.out, step_div_succ, HD.out.2, hsum]
            · show wr.setCell _ _ = _
              have hLl := length_dig j s
              rw [HS'.out, step_dig_succ, HW'.out, wput_set _ _ _ _ _ _ (by rw [length_snoc hLl (by omega)]; omega), set_snoc hLl (by omega), HD.out.1, hsum]
          · obtain rfl : j = zs.length := by omega
            have HF : Hid (wr = wput w g o (dig zs.length (val zs + val bs))) := by
              show _ = _
              rw [hW, hfin]; simp [val]
            clear hs hc hW hfin h0
            go_wp2
            go_end0
            exact ⟨rfl, HF.out.symm⟩
end Go.Proofs.YtbcaigpdckencaaDoor
