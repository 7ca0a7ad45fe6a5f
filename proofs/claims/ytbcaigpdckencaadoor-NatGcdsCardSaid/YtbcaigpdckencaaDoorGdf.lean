/- nat.difference: p a - q b into z. -/
import Derived.Test.YtbcaigpdckencaaDoorDiv
import Derived.Test.YtbcaigpdckencaaDoorGc0
namespace Go.Proofs.YtbcaigpdckencaaDoor
open Go.RowKit Num

theorem val_take_more (xs : List Nat) (k : Nat) : val (xs.take (k + 1)) = val (xs.take k) + 4294967296 ^ k * xs.getD k 0 := by
  by_cases h : k < xs.length
  · exact val_take_succ h
  · rw [val_take_of_ge (by omega), val_take_of_ge (by omega), List.getD_eq_getElem?_getD, List.getElem?_eq_none (by omega)]; simp
theorem getD_out {xs : List Nat} {k : Nat} (h : ¬ k < xs.length) : xs.getD k 0 = 0 := by
  rw [List.getD_eq_getElem?_getD, List.getElem?_eq_none (by omega)]; rfl

/-- the difference stands in place -/
def RetDif (w : World) (g o n cz V : Nat) (e : Ending) (w' : World) : Prop := e = .returned (.slice (some ⟨g, o, none⟩) (nd V).length cz) ∧ w' = wput w g o (dig n V)

set_option maxRecDepth 100000 in
set_option maxHeartbeats 3200000 in
theorem difference_any (aa ab : Option Addr) (g o cz ca cb p q V : Nat) (zs xs ys : List Nat) (w : World) (hwr : Wr w g o zs) (hcz : zs.length ≤ cz) (hcm : cz ≤ 9223372036854775807) (ha : Rd w aa ca xs) (hb : Rd w ab cb ys)
    (hoa : Off g aa xs) (hob : Off g ab ys) (hl1 : xs.length ≤ zs.length) (hl2 : ys.length ≤ zs.length) (hp : p < 4294967296) (hq : q < 4294967296) (hV : V + q * val ys = p * val xs) (hVl : V < 4294967296 ^ zs.length) :
    Calls Tryd.prog 91 #[.slice (some ⟨g, o, none⟩) zs.length cz, .int .u64 (p : Int), .slice aa xs.length ca, .int .u64 (q : Int), .slice ab ys.length cb] w (RetDif w g o zs.length cz V) := by
  have HV := hid (And.intro hV hVl)
  have HO := hid (And.intro hwr (And.intro (And.intro ha hoa) (And.intro hb hob)))
  have HL := hid (And.intro hl1 hl2)
  have h0 := ha.le
  have h1 := ha.cm
  have h2 := hb.le
  have h3 := hb.cm
  clear hV hVl ha hb hoa hob
  go_enter Tryd.func91, Tryd.ntmps91
  go_wp2
  go_loopw [11, 12, 13, 17] (fun pv mv bv iv wr => ∃ k pl ml bw t : Nat, k ≤ zs.length ∧ iv = .int .i64 (k : Int) ∧ pv = .int .u64 (pl : Int) ∧ mv = .int .u64 (ml : Int) ∧ bv = .int .u32 (bw : Int) ∧ pl < 4294967296 ∧ ml < 4294967296 ∧ bw ≤ 1 ∧
      Hid (t < 4294967296 ^ k ∧ t + q * val (ys.take k) + pl * 4294967296 ^ k = p * val (xs.take k) + (ml + bw) * 4294967296 ^ k) ∧ Hid (wr = wput w g o (dig k t ++ zs.drop k)))
    (fun _ _ _ iv _ => zs.length - (intOf iv).toNat)
  case atStart => exact ⟨0, 0, 0, 0, 0, Nat.zero_le _, rfl, rfl, rfl, rfl, by omega, by omega, by omega, by simp [Hid, val], by simp [Hid, dig]; exact (wput_self HO.out.1).symm⟩
  case round =>
    obtain ⟨k, pl, ml, bw, t, hk, rfl, rfl, rfl, rfl, hpl, hml, hbw, HC, HW⟩ := hrel
    by_cases hlt : k < zs.length
    · have hLl := length_dig k t
      have hW := HW.out
      obtain ⟨hzc, hzf⟩ := snoc_cell HO.out.1 hLl hlt hW
      obtain ⟨x, hx⟩ : ∃ x, x = xs.getD k 0 := ⟨_, rfl⟩
      obtain ⟨y, hy⟩ : ∃ y, y = ys.getD k 0 := ⟨_, rfl⟩
      have hxl : x < 4294967296 := by rw [hx]; exact wf_getD HO.out.2.1.1.dg k
      have hyl : y < 4294967296 := by rw [hy]; exact wf_getD HO.out.2.2.1.dg k
      obtain ⟨P, hP⟩ : ∃ P, P = p * x := ⟨_, rfl⟩
      obtain ⟨Q, hQ⟩ : ∃ Q, Q = q * y := ⟨_, rfl⟩
      have hPl : P ≤ 18446744065119617025 := by rw [hP]; exact mul_u32 hp hxl
      have hQl : Q ≤ 18446744065119617025 := by rw [hQ]; exact mul_u32 hq hyl
      have hPi : (p : Int) * (x : Int) = (P : Int) := by rw [hP]; simp
      have hQi : (q : Int) * (y : Int) = (Q : Int) := by rw [hQ]; simp
      obtain ⟨pd, hpd⟩ : ∃ pd, pd = (pl + P) % 4294967296 := ⟨_, rfl⟩
      obtain ⟨md, hmd⟩ : ∃ md, md = (ml + Q) % 4294967296 := ⟨_, rfl⟩
      have hpi : ((pl : Int) + (P : Int)) % 4294967296 = (pd : Int) := by omega
      have hmi : ((ml : Int) + (Q : Int)) % 4294967296 = (md : Int) := by omega
      have hpdl : pd < 4294967296 := by omega
      have hmdl : md < 4294967296 := by omega
      have hdig := sub_digit pd md bw hpdl hmdl hbw
      obtain ⟨d, hd⟩ : ∃ d, d = (pd + 8589934592 - md - bw) % 4294967296 := ⟨_, rfl⟩
      obtain ⟨c, hc⟩ : ∃ c, c = if pd < md + bw then 1 else 0 := ⟨_, rfl⟩
      have hcon := fun w => sub32_any pd md bw d c w hpdl hmdl hbw hd hc
      rw [← hd, ← hc] at hdig
      have hstep := diff_step (x := x) (y := y) (pl1 := (pl + P) / 4294967296) (ml1 := (ml + Q) / 4294967296) HC.out.2 (by rw [← hP, hpd]; omega) (by rw [← hQ, hmd]; omega) hdig.1
      have hpb : (pl + P) / 4294967296 < 4294967296 := by omega
      have hmb : (ml + Q) / 4294967296 < 4294967296 := by omega
      have HN := hid (show t + 4294967296 ^ k * d < 4294967296 ^ (k + 1) ∧ t + 4294967296 ^ k * d + q * val (ys.take (k + 1)) + (pl + P) / 4294967296 * 4294967296 ^ (k + 1) = p * val (xs.take (k + 1)) + ((ml + Q) / 4294967296 + c) * 4294967296 ^ (k + 1) by
        rw [val_take_more, val_take_more, ← hx, ← hy, Nat.pow_succ]
        exact ⟨step_lt HC.out.1 hdig.2.1, hstep⟩)
      have HF := hid (show World.setCell wr ⟨g, o + k, none⟩ (.int .u32 (d : Int)) = wput w g o (dig (k + 1) (t + 4294967296 ^ k * d) ++ zs.drop (k + 1)) by
        rw [step_dig_succ, Nat.div_eq_of_lt HC.out.1, Nat.zero_add, Nat.mod_eq_of_lt hdig.2.1]
        exact snoc_put hLl hlt hW rfl)
      have hc1 := hdig.2.2
      have HX := hid (And.intro (And.intro hx hP) (And.intro hy hQ))
      clear hd hc hdig hstep HC hpd hmd hP hQ hLl
      by_cases hix : k < xs.length
      · by_cases hiy : k < ys.length
        · obtain ⟨b2, o2, rfl, hxc⟩ := rd_cell HO.out.2.1.1 HO.out.2.1.2 hix hW
          rw [← HX.out.1.1] at hxc
          obtain ⟨b3, o3, rfl, hyc⟩ := rd_cell HO.out.2.2.1 HO.out.2.2.2 hiy hW
          rw [← HX.out.2.1] at hyc
          clear hx hy HX hW HW
          go_wp2_with (go_at_call 109; refine (hcon _).mono ?_; rintro e w' ⟨rfl, rfl⟩)
          refine ⟨⟨k + 1, (pl + P) / 4294967296, (ml + Q) / 4294967296, c, t + 4294967296 ^ k * d, by omega, by simp, int_eq (by omega), int_eq (by omega), rfl, hpb, hmb, hc1, HN.out, HF.out⟩, by simp [intOf]; omega⟩
        · obtain ⟨b2, o2, rfl, hxc⟩ := rd_cell HO.out.2.1.1 HO.out.2.1.2 hix hW
          rw [← HX.out.1.1] at hxc
          have hy0 : Q = 0 := by rw [HX.out.2.2, HX.out.2.1, getD_out hiy, Nat.mul_zero]
          obtain rfl : md = ml := by omega
          rw [hy0, Nat.add_zero] at HN hmb
          clear hmi hQi hQl hy0
          clear hx hy HX hW HW
          go_wp2_with (go_at_call 109; refine (hcon _).mono ?_; rintro e w' ⟨rfl, rfl⟩)
          refine ⟨⟨k + 1, (pl + P) / 4294967296, md / 4294967296, c, t + 4294967296 ^ k * d, by omega, by simp, int_eq (by omega), int_eq (by omega), rfl, hpb, hmb, hc1, HN.out, HF.out⟩, by simp [intOf]; omega⟩
      · by_cases hiy : k < ys.length
        · have hx0 : P = 0 := by rw [HX.out.1.2, HX.out.1.1, getD_out hix, Nat.mul_zero]
          obtain rfl : pd = pl := by omega
          rw [hx0, Nat.add_zero] at HN hpb
          clear hpi hPi hPl hx0
          obtain ⟨b3, o3, rfl, hyc⟩ := rd_cell HO.out.2.2.1 HO.out.2.2.2 hiy hW
          rw [← HX.out.2.1] at hyc
          clear hx hy HX hW HW
          go_wp2_with (go_at_call 109; refine (hcon _).mono ?_; rintro e w' ⟨rfl, rfl⟩)
          refine ⟨⟨k + 1, pd / 4294967296, (ml + Q) / 4294967296, c, t + 4294967296 ^ k * d, by omega, by simp, int_eq (by omega), int_eq (by omega), rfl, hpb, hmb, hc1, HN.out, HF.out⟩, by simp [intOf]; omega⟩
        · have hx0 : P = 0 := by rw [HX.out.1.2, HX.out.1.1, getD_out hix, Nat.mul_zero]
          obtain rfl : pd = pl := by omega
          rw [hx0, Nat.add_zero] at HN hpb
          clear hpi hPi hPl hx0
          have hy0 : Q = 0 := by rw [HX.out.2.2, HX.out.2.1, getD_out hiy, Nat.mul_zero]
          obtain rfl : md = ml := by omega
          rw [hy0, Nat.add_zero] at HN hmb
          clear hmi hQi hQl hy0
          clear hx hy HX hW HW
          go_wp2_with (go_at_call 109; refine (hcon _).mono ?_; rintro e w' ⟨rfl, rfl⟩)
          refine ⟨⟨k + 1, pd / 4294967296, md / 4294967296, c, t + 4294967296 ^ k * d, by omega, by simp, int_eq (by omega), int_eq (by omega), rfl, hpb, hmb, hc1, HN.out, HF.out⟩, by simp [intOf]; omega⟩
    · obtain rfl : k = zs.length := by omega
      have hW := HW.out
      have h1 := HC.out
      rw [val_take_of_ge HL.out.1, val_take_of_ge HL.out.2] at h1
      have htV : t = V := by
        have h2 := HV.out.1
        have h3 := HV.out.2
        have h4 : t + pl * 4294967296 ^ zs.length = V + (ml + bw) * 4294967296 ^ zs.length := by omega
        have h5 := congrArg (· % 4294967296 ^ zs.length) h4
        simp only [Nat.add_mul_mod_self_right] at h5
        rw [Nat.mod_eq_of_lt h1.1, Nat.mod_eq_of_lt h3] at h5
        exact h5
      subst htV
      rw [List.drop_eq_nil_of_le (Nat.le_refl _), List.append_nil] at hW
      have hrd := ((HO.out.1.put (ys := dig zs.length t) (length_dig _ _)).rd (c := cz) (by rw [length_dig]; exact hcz) hcm (wf_dig _ _))
      have hcut := cut_any _ _ _ _ hrd
      rw [length_dig, val_dig, Nat.mod_eq_of_lt h1.1] at hcut
      have HW2 := hid hW
      subst hW
      clear hrd h1 HC HW
      go_wp2_with fail
      refine hcut.mono ?_
      rintro e w' ⟨rfl, rfl⟩
      go_wp2
      go_ret
      exact ⟨rfl, rfl⟩
end Go.Proofs.YtbcaigpdckencaaDoor
