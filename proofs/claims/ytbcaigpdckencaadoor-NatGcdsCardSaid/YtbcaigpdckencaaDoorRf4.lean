/- Walks: the reference's Sub. -/
import Derived.Test.YtbcaigpdckencaaDoorRf3
namespace Go.Proofs.YtbcaigpdckencaaDoor
open Go.RowKit Num

set_option maxRecDepth 100000 in
set_option maxHeartbeats 1600000 in
theorem rsub_any (aa ab : Option Addr) (ca cb : Nat) (xs ys : List Nat) (w : World) (ha : Rd w aa ca xs) (hb : Rd w ab cb ys) (hl1 : xs.length ≤ 17592186044414) (hl2 : ys.length ≤ 17592186044414) :
    Calls Tryd.prog 78 #[.slice aa xs.length ca, .slice ab ys.length cb] w (RetOwn w.heap.size (nd (val xs - val ys)) w) := by
  have hcm := rcompare_any aa ab ca cb xs ys w ha hb (by omega) (by omega)
  obtain ⟨r, hr⟩ : ∃ r, r = cmpN (val xs) (val ys) := ⟨_, rfl⟩
  rw [← hr] at hcm
  by_cases hlt : val xs < val ys
  · have hr0 : r < 0 := by rw [hr, cmpN_neg]; exact hlt
    have e0 : val xs - val ys = 0 := by omega
    rw [e0, nd_zero]
    clear hr hlt e0 ha hb
    go_enter Tryd.func78, Tryd.ntmps78
    go_wp2_with fail
    refine hcm.mono ?_
    rintro e w1 ⟨rfl, hb1⟩
    go_wp2
    go_ret
    exact ⟨none, 0, rfl, Own.nil _ _, hb1⟩
  · have hr0 : ¬ r < 0 := by rw [hr, cmpN_neg]; exact hlt
    have hlx := nd_length_le_of ha.dg
    have hly := nd_length_le_of hb.dg
    have hmono : (nd (val ys)).length ≤ (nd (val xs)).length := nd_length_mono (by omega)
    obtain ⟨us, hus⟩ : ∃ us, us = nd (val xs) := ⟨_, rfl⟩
    obtain ⟨vs, hvs⟩ : ∃ vs, vs = nd (val ys) := ⟨_, rfl⟩
    have hvu : val us = val xs := by rw [hus, val_nd]
    have hvv : val vs = val ys := by rw [hvs, val_nd]
    have hge : val vs ≤ val us := by omega
    have HV := hid (And.intro hvu (And.intro hvv hge))
    have HUS := hid hus
    have HVS := hid hvs
    rw [← hus] at hlx hmono
    rw [← hvs] at hly hmono
    clear hr hlt hus hvs hvu hvv hge
    go_enter Tryd.func78, Tryd.ntmps78
    go_wp2_with fail
    refine hcm.mono ?_
    rintro e w1 ⟨rfl, hb1⟩
    have ht := rtrim_any ab cb ys w1 (hb.below hb1) (by omega)
    rw [← HVS.out] at ht
    clear hcm
    go_wp2_with fail
    refine ht.mono ?_
    rintro e w2 ⟨a2, c2, rfl, ho2, hb2⟩
    have hb02 := hb1.trans (hb2.mono hb1.size)
    have ht2 := rtrim_any aa ca xs w2 (ha.below hb02) (by omega)
    rw [← HUS.out] at ht2
    clear ht hb1 hb2
    go_wp2_with fail
    refine ht2.mono ?_
    rintro e w3 ⟨ao, c, rfl, ho3, hb3⟩
    clear ht2
    have hux := ho3.2
    have hvx := ho2.2
    go_wp2_with fail
    go_loopw [6, 7] (fun bv iv wr => ∃ k cy t : Nat, k ≤ us.length ∧ bv = .int .u64 (cy : Int) ∧ iv = .int .i64 (k : Int) ∧ cy ≤ 1 ∧ Hid (t < 4294967296 ^ k ∧ t + val (vs.take k) = val (us.take k) + cy * 4294967296 ^ k) ∧
        Own w2.heap.size wr ao c (dig k t ++ us.drop k) ∧ Below w2.heap.size w2 wr) (fun _ iv _ => us.length - (intOf iv).toNat)
    case atStart => exact ⟨0, 0, 0, Nat.zero_le _, rfl, rfl, by omega, by simp [Hid, val], by simpa [dig] using ho3, hb3⟩
    case round =>
      obtain ⟨k, cy, t, hk, rfl, rfl, hcl, HC, hown, hbel⟩ := hrel
      by_cases hk2 : k < us.length
      · obtain ⟨x, hx⟩ : ∃ x, x = us.getD k 0 := ⟨_, rfl⟩
        obtain ⟨y, hy⟩ : ∃ y, y = vs.getD k 0 := ⟨_, rfl⟩
        have hxl : x < 4294967296 := by rw [hx]; exact wf_getD hux k
        have hyl : y < 4294967296 := by rw [hy]; exact wf_getD hvx k
        have HX := hid (And.intro hx hy)
        have hll : (dig k t ++ us.drop k).length = us.length := length_snoc (length_dig k t) (by omega)
        rcases hown.cases with ⟨_, _, h3⟩ | ⟨g, cur, rfl, hg, _⟩
        · rw [h3] at hll; simp at hll; omega
        have hcell := hown.cell k (by omega)
        rw [getD_snoc (length_dig k t), ← hx] at hcell
        have hfr := hown.frozen k
        have hrv := (ho2.below hbel).rd
        have hli : (k : Int) < (us.length : Int) := by omega
        have HOWN := hid hown
        have HLL := hid hll
        clear hown hll
        by_cases hky : k < vs.length
        · rcases hrv.lies with h9 | ⟨b2, o2, rfl, hc2⟩
          · simp [h9] at hky
          have g2 := hc2 k hky
          rw [← hy] at g2
          have hlj : (k : Int) < (vs.length : Int) := by omega
          clear hc2 hrv
          by_cases h3 : x < y + cy
          · have h3i : (x : Int) < (cy : Int) + (y : Int) := by omega
            have hds := sub_digit x y cy hxl hyl hcl
            obtain ⟨dd, hdd⟩ : ∃ dd, dd = (x + 8589934592 - y - cy) % 4294967296 := ⟨_, rfl⟩
            rw [← hdd, if_pos h3] at hds
            have hnew : ∀ v : Int, v = (dd : Int) → Own w2.heap.size (wr.setCell ⟨g, k, none⟩ (.int .u32 v)) (some ⟨g, 0, none⟩) c (dig (k + 1) (t + 4294967296 ^ k * dd) ++ us.drop (k + 1)) := by
              intro v hv
              have h := HOWN.out.set k dd v hv hds.2.1 (by rw [HLL.out]; exact hk2)
              rw [set_snoc (length_dig k t) hk2] at h
              rwa [step_dig_succ, Nat.div_eq_of_lt HC.out.1, Nat.zero_add, Nat.mod_eq_of_lt hds.2.1]
            have HD := hid hds
            have HN := hid hnew
            clear hds hdd hnew hx hy h3
            go_wp2
            have hds := HD.out
            refine ⟨⟨k + 1, 1, t + 4294967296 ^ k * dd, by omega, rfl, by simp, by omega, ⟨?_, ?_⟩, HN.out _ (by omega), Below.setCell hbel hg _⟩, by simp [intOf]; omega⟩
            · rw [Nat.pow_succ]; exact step_lt HC.out.1 hds.2.1
            · rw [val_take_getD, val_take_getD, ← HX.out.1, ← HX.out.2, Nat.pow_succ]; exact sub_step HC.out.2 hds.1
          · have h3i : ¬ (x : Int) < (cy : Int) + (y : Int) := by omega
            have hds := sub_digit x y cy hxl hyl hcl
            obtain ⟨dd, hdd⟩ : ∃ dd, dd = (x + 8589934592 - y - cy) % 4294967296 := ⟨_, rfl⟩
            rw [← hdd, if_neg h3] at hds
            have hnew : ∀ v : Int, v = (dd : Int) → Own w2.heap.size (wr.setCell ⟨g, k, none⟩ (.int .u32 v)) (some ⟨g, 0, none⟩) c (dig (k + 1) (t + 4294967296 ^ k * dd) ++ us.drop (k + 1)) := by
              intro v hv
              have h := HOWN.out.set k dd v hv hds.2.1 (by rw [HLL.out]; exact hk2)
              rw [set_snoc (length_dig k t) hk2] at h
              rwa [step_dig_succ, Nat.div_eq_of_lt HC.out.1, Nat.zero_add, Nat.mod_eq_of_lt hds.2.1]
            have HD := hid hds
            have HN := hid hnew
            clear hds hdd hnew hx hy h3
            go_wp2
            have hds := HD.out
            refine ⟨⟨k + 1, 0, t + 4294967296 ^ k * dd, by omega, rfl, by simp, by omega, ⟨?_, ?_⟩, HN.out _ (by omega), Below.setCell hbel hg _⟩, by simp [intOf]; omega⟩
            · rw [Nat.pow_succ]; exact step_lt HC.out.1 hds.2.1
            · rw [val_take_getD, val_take_getD, ← HX.out.1, ← HX.out.2, Nat.pow_succ]; exact sub_step HC.out.2 hds.1
        · have hlj : ¬ (k : Int) < (vs.length : Int) := by omega
          have hy0 : y = 0 := by rw [hy, List.getD_eq_getElem?_getD, List.getElem?_eq_none (by omega)]; rfl
          have HY0 := hid hy0
          clear hrv
          by_cases h3 : x < y + cy
          · have h3i : (x : Int) < (cy : Int) := by omega
            have hds := sub_digit x y cy hxl hyl hcl
            obtain ⟨dd, hdd⟩ : ∃ dd, dd = (x + 8589934592 - y - cy) % 4294967296 := ⟨_, rfl⟩
            rw [← hdd, if_pos h3] at hds
            have hnew : ∀ v : Int, v = (dd : Int) → Own w2.heap.size (wr.setCell ⟨g, k, none⟩ (.int .u32 v)) (some ⟨g, 0, none⟩) c (dig (k + 1) (t + 4294967296 ^ k * dd) ++ us.drop (k + 1)) := by
              intro v hv
              have h := HOWN.out.set k dd v hv hds.2.1 (by rw [HLL.out]; exact hk2)
              rw [set_snoc (length_dig k t) hk2] at h
              rwa [step_dig_succ, Nat.div_eq_of_lt HC.out.1, Nat.zero_add, Nat.mod_eq_of_lt hds.2.1]
            have HD := hid hds
            have HN := hid hnew
            clear hds hdd hnew hx hy h3 hy0
            go_wp2
            have hds := HD.out
            refine ⟨⟨k + 1, 1, t + 4294967296 ^ k * dd, by omega, rfl, by simp, by omega, ⟨?_, ?_⟩, HN.out _ (by have := HY0.out; omega), Below.setCell hbel hg _⟩, by simp [intOf]; omega⟩
            · rw [Nat.pow_succ]; exact step_lt HC.out.1 hds.2.1
            · rw [val_take_getD, val_take_getD, ← HX.out.1, ← HX.out.2, Nat.pow_succ]; exact sub_step HC.out.2 hds.1
          · have h3i : ¬ (x : Int) < (cy : Int) := by omega
            have hds := sub_digit x y cy hxl hyl hcl
            obtain ⟨dd, hdd⟩ : ∃ dd, dd = (x + 8589934592 - y - cy) % 4294967296 := ⟨_, rfl⟩
            rw [← hdd, if_neg h3] at hds
            have hnew : ∀ v : Int, v = (dd : Int) → Own w2.heap.size (wr.setCell ⟨g, k, none⟩ (.int .u32 v)) (some ⟨g, 0, none⟩) c (dig (k + 1) (t + 4294967296 ^ k * dd) ++ us.drop (k + 1)) := by
              intro v hv
              have h := HOWN.out.set k dd v hv hds.2.1 (by rw [HLL.out]; exact hk2)
              rw [set_snoc (length_dig k t) hk2] at h
              rwa [step_dig_succ, Nat.div_eq_of_lt HC.out.1, Nat.zero_add, Nat.mod_eq_of_lt hds.2.1]
            have HD := hid hds
            have HN := hid hnew
            clear hds hdd hnew hx hy h3 hy0
            go_wp2
            have hds := HD.out
            refine ⟨⟨k + 1, 0, t + 4294967296 ^ k * dd, by omega, rfl, by simp, by omega, ⟨?_, ?_⟩, HN.out _ (by have := HY0.out; omega), Below.setCell hbel hg _⟩, by simp [intOf]; omega⟩
            · rw [Nat.pow_succ]; exact step_lt HC.out.1 hds.2.1
            · rw [val_take_getD, val_take_getD, ← HX.out.1, ← HX.out.2, Nat.pow_succ]; exact sub_step HC.out.2 hds.1
      · obtain rfl : k = us.length := by omega
        have hke : ¬ ((us.length : Int) < (us.length : Int)) := by omega
        have hT : val (dig us.length t ++ us.drop us.length) = val xs - val ys := by
          have h1 := HC.out.2
          have h0 := HC.out.1
          rw [val_take_of_ge (Nat.le_refl _), val_take_of_ge hmono] at h1
          have h2 := HV.out
          have h4 := val_lt hux
          rw [List.drop_length, List.append_nil, val_dig, Nat.mod_eq_of_lt h0]
          rcases (by omega : cy = 0 ∨ cy = 1) with rfl | rfl <;> omega
        have hll : (dig us.length t ++ us.drop us.length).length = us.length := length_snoc (length_dig _ t) (by omega)
        have ht := rtrim_any ao c (dig us.length t ++ us.drop us.length) wr hown.rd (by rw [hll]; omega)
        rw [hT, hll] at ht
        have hbr := hb02.trans (hbel.mono hb02.size)
        clear hown hbel hT hll hke hk2
        go_wp2_with fail
        refine ht.mono ?_
        rintro e w5 ⟨a5, c5, rfl, ho5, hb5⟩
        go_wp2
        go_ret
        exact ⟨a5, c5, rfl, ho5.mono hbr.size, hbr.trans (hb5.mono hbr.size)⟩
end Go.Proofs.YtbcaigpdckencaaDoor
