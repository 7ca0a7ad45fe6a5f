/-  -/
import Derived.Test.YtcankknlbljicaaGreatDoorWi
import Derived.WalkMore

set_option linter.unusedVariables false
set_option linter.unusedSimpArgs false
set_option linter.unusedSectionVars false
set_option maxRecDepth 100000
set_option maxHeartbeats 3200000

namespace Go.Proofs.YtcankknlbljicaaGreatDoor
open Go.RowKit Num

theorem dig_nd {v T : Nat} (h1 : v ≤ T) (h2 : T < 4294967296 ^ (nd v).length) : dig (nd v).length T = nd T := by
 have e : (nd T).length = (nd v).length := Nat.le_antisymm (nd_length_le h2) (nd_length_mono h1)
 have := dig_val (wf_nd T)
 rw [val_nd] at this
 rw [← e]; exact this
theorem dig_snoc_nd {n T cy : Nat} (hc : T / 4294967296 ^ n = cy) (hcl : cy < 4294967296) (h0 : cy ≠ 0) : dig n T ++ [cy] = nd T := by
 have hv : val (dig n T ++ [cy]) = T := by rw [val_snoc, val_dig, length_dig, ← hc]; exact Nat.mod_add_div _ _
 have hw : wf (dig n T ++ [cy]) := wf_append.2 ⟨wf_dig _ _, wf_cons.2 ⟨hcl, wf_nil⟩⟩
 have hn : nrm (dig n T ++ [cy]) := by
  right
  rw [List.length_append, List.length_cons, List.length_nil, Nat.zero_add, Nat.add_sub_cancel, List.getD_eq_getElem?_getD, List.getElem?_append_right (Nat.le_refl _)]
  simpa using h0
 have := nd_val hw hn
 rw [hv] at this
 exact this.symm

theorem scale_any (B : Nat) (ao : Option Addr) (c D cc v : Nat) (w : World) (h : Own B w ao c (nd v)) (hB : B ≤ w.heap.size) (hD1 : 1 ≤ D) (hD : D < 4294967296) (hcc : cc < 4294967296) (hl : (nd v).length ≤ 17592186044415) :
  Calls Tryz.prog 146 #[.slice ao (nd v).length c, .int .u32 (D : Int), .int .u32 (cc : Int)] w
   (fun e w' => ∃ ao' c', e = .returned (.slice ao' (nd (v * D + cc)).length c') ∧ Own B w' ao' c' (nd (v * D + cc)) ∧ Below B w w') := by
 have hax := h.rd.le
 have hax2 := h.rd.cm
 obtain ⟨zs, hzs⟩ : ∃ zs, zs = nd v := ⟨_, rfl⟩
 rw [← hzs] at h hl hax ⊢
 have hzw : wf zs := h.2
 have HZ := hid hzs
 clear hzs
 go_enter Tryz.func146, Tryz.ntmps146
 go_wp2
 go_loopw [7, 13] (fun cv iv wr => ∃ k cy : Nat, k ≤ zs.length ∧ cv = .int .u64 (cy : Int) ∧ iv = .int .i64 (k : Int) ∧ cy < 4294967296 ∧ Hid ((val (zs.take k) * D + cc) / 4294967296 ^ k = cy) ∧
   Own B wr ao c (dig k (val (zs.take k) * D + cc) ++ zs.drop k) ∧ Below B w wr) (fun _ iv _ => zs.length - (intOf iv).toNat)
 case atStart => exact ⟨0, cc, Nat.zero_le _, rfl, rfl, hcc, by simp [Hid, val], by simpa [dig] using h, Below.refl _ _⟩
 case round =>
  obtain ⟨k, cy, hk, rfl, rfl, hcl, HC, hown, hbel⟩ := hrel
  by_cases hlt : k < zs.length
  ·obtain ⟨x, hx⟩ : ∃ x, x = zs.getD k 0 := ⟨_, rfl⟩
   have hxl : x < 4294967296 := by rw [hx]; exact wf_getD hzw k
   have hll : (dig k (val (zs.take k) * D + cc) ++ zs.drop k).length = zs.length := length_snoc (length_dig _ _) hk
   rcases hown.cases with ⟨_, _, h3⟩ | ⟨g, cur, rfl, hg, _⟩
   ·rw [h3] at hll; simp at hll; omega
   have hcell := hown.cell k (by rw [hll]; exact hlt)
   rw [getD_snoc (length_dig _ _), ← hx] at hcell
   have hfr := hown.frozen k
   obtain ⟨p, hp⟩ : ∃ p, p = x * D := ⟨_, rfl⟩
   have hpl : p ≤ 18446744065119617025 := by
    have := Nat.mul_le_mul (show x ≤ 4294967295 by omega) (show D ≤ 4294967295 by omega)
    omega
   obtain ⟨t, htt⟩ : ∃ t, t = cy + p := ⟨_, rfl⟩
   obtain ⟨d, hd⟩ : ∃ d, d = t % 4294967296 := ⟨_, rfl⟩
   have hdl : d < 4294967296 := by omega
   have hpi : (x : Int) * (D : Int) = (p : Int) := by rw [hp, Int.natCast_mul]
   have hti : (cy : Int) + (p : Int) = (t : Int) := by omega
   have htl : t ≤ 18446744073709551615 := by omega
   have hdi : (t : Int) % 4294967296 = (d : Int) := by omega
   have hst := add_step HC.out htt
   have e1 : val (zs.take (k + 1)) * D + cc = val (zs.take k) * D + cc + 4294967296 ^ k * p := by
    rw [val_take_succ hlt, ← hx, hp]; grind
   rw [← e1, ← hd] at hst
   have hnew : ∀ u : Int, u = (d : Int) → Own B (wr.setCell ⟨g, k, none⟩ (.int .u32 u)) (some ⟨g, 0, none⟩) c (dig (k + 1) (val (zs.take (k + 1)) * D + cc) ++ zs.drop (k + 1)) := by
    intro u hu
    have h := hown.set k d u hu hdl (by rw [hll]; exact hlt)
    rw [set_snoc (length_dig _ _) hlt, ← hst.1] at h
    exact h
   have hli : (k : Int) < (zs.length : Int) := by omega
   have HST := hid hst.2
   have HNEW := hid hnew
   clear hx hd hst e1 hnew hown hll htt hp h
   go_wp2
   refine ⟨⟨k + 1, t / 4294967296, by omega, int_eq (by omega), by simp, by omega, HST.out, HNEW.out _ rfl, Below.setCell hbel hg _⟩, by simp [intOf]; omega⟩
  ·obtain rfl : k = zs.length := by omega
   have hke : ¬ ((zs.length : Int) < (zs.length : Int)) := by omega
   have hT : val (zs.take zs.length) * D + cc = v * D + cc := by rw [List.take_length, HZ.out, val_nd]
   have hc := HC.out
   rw [hT] at hc hown
   rw [List.drop_length, List.append_nil] at hown
   by_cases hcy : cy = 0
   ·have hb : ((cy : Int) != 0) = false := by simp [hcy]
    have hvT : v ≤ v * D + cc := Nat.le_trans (Nat.le_mul_of_pos_right _ hD1) (Nat.le_add_right _ _)
    have hlT : v * D + cc < 4294967296 ^ (nd v).length := by
     rw [← HZ.out]
     rw [hcy] at hc
     rcases Nat.div_eq_zero_iff.1 hc with h | h
     ·have := pow_pos zs.length; omega
     ·exact h
    have e := dig_nd hvT hlT
    rw [← HZ.out] at e
    rw [e] at hown
    have el : zs.length = (nd (v * D + cc)).length := by rw [← e, length_dig]
    have HE := hid el
    clear hc hcy hT hvT hlT e el h
    go_wp2
    go_ret
    exact ⟨ao, c, by rw [← HE.out]; rfl, hown, hbel⟩
   ·have hb : ((cy : Int) != 0) = true := by simp [hcy]
    have e := dig_snoc_nd hc hcl hcy
    have hci : (cy : Int) % 4294967296 = (cy : Int) := by omega
    have hk35 : zs.length + 1 ≤ 35184372088832 := by omega
    have HON := hid (Own.one wr wr.heap.size cy (Nat.le_refl _) hcl)
    have HOWN := hid hown
    have HBEL := hid hbel
    have HE := hid e
    have hBw : B ≤ wr.heap.size := Nat.le_trans hB hbel.size
    clear hc hcy hT e hown hbel h
    go_wp2_with (at_builtin; refine wp_append _ rfl _ _ rfl B ao (some ⟨wr.heap.size, 0, none⟩) zs.length 1 c 1 (dig zs.length (v * D + cc)) [cy] rfl ?c0 (length_dig _ _).symm rfl (HOWN.out.below (below_alloc _ _)) ?c1 hk35 ?c2 ?c3)
    case c1 => exact HON.out.rd
    case c2 => exact Nat.le_succ_of_le hBw
    intro a4 c4 w9 ho3 hb3
    have hb9 := (HBEL.out.trans ((below_alloc wr (.cells #[.int .u32 (cy : Int)] 88)).mono hBw)).trans hb3
    rw [HE.out] at ho3
    have el : zs.length + 1 = (nd (v * D + cc)).length := by rw [← HE.out, List.length_append, length_dig]; rfl
    have H3 := hid (And.intro el (And.intro ho3 hb9))
    clear ho3 hb3 hb9 el
    go_wp2
    go_ret
    exact ⟨a4, c4, by rw [← H3.out.1]; rfl, H3.out.2⟩
end Go.Proofs.YtcankknlbljicaaGreatDoor

namespace Go.Proofs.YtcankknlbljicaaGreatDoor
open Go.RowKit Num

def dv (bs : List Nat) : Nat := bs.foldl (fun v b => 10 * v + (b - 48)) 0
theorem dv_snoc (bs : List Nat) (b : Nat) : dv (bs ++ [b]) = 10 * dv bs + (b - 48) := by simp [dv, List.foldl_append]
def dgs (bs : List Nat) : Prop := ∀ b ∈ bs, 48 ≤ b ∧ b ≤ 57
theorem bstr_get {bs : List Nat} {i : Nat} (h : i < (bstr bs).size) (hb : ∀ b ∈ bs, b < 256) : ((bstr bs)[i]'h).toNat = bs.getD i 0 := by
 have hi : i < bs.length := by rw [bstr_size] at h; exact h
 have e : (bstr bs)[i]'h = UInt8.ofNat (bs[i]'hi) := by
  show (bstr bs).data[i] = _
  simp [bstr]
 have hlt := hb _ (List.getElem_mem hi)
 rw [e, List.getD_eq_getElem?_getD, List.getElem?_eq_getElem hi]
 simp [UInt8.toNat_ofNat']
 omega
theorem scale_len {v D cc : Nat} (hc : cc < D) (hD : D < 4294967296) : (nd (v * D + cc)).length ≤ (nd v).length + 1 := by
 refine nd_length_le ?_
 have h1 : v < 4294967296 ^ (nd v).length := by have := val_lt (wf_nd v); rwa [val_nd] at this
 have h2 := Nat.mul_le_mul h1 (show D ≤ 4294967296 by omega)
 rw [Nat.pow_succ]
 rw [Nat.succ_mul] at h2
 omega
theorem bstr_toList (bs : List Nat) : (bstr bs).toList = bs.map UInt8.ofNat := by rw [ByteArray.toList_eq]; simp [bstr]
theorem bstr_not_zero {bs : List Nat} (hb : ∀ b ∈ bs, b < 256) (h48 : bs.getD 0 0 ≠ 48) : ((bstr bs).toList == [48]) = false := by
 rw [bstr_toList, beq_eq_false_iff_ne]
 intro h
 match bs with
 | [] => cases h
 | b :: ds =>
  simp only [List.map_cons, List.cons.injEq] at h
  have h2 := congrArg UInt8.toNat h.1
  have h3 := hb b (by simp)
  rw [UInt8.toNat_ofNat'] at h2
  simp at h48 h2
  omega
theorem bstr_not_nil {bs : List Nat} (h0 : 0 < bs.length) : (bstr bs).toList.isEmpty = false := by
 rw [bstr_toList, List.isEmpty_eq_false_iff]
 intro h
 rw [List.map_eq_nil_iff] at h
 rw [h] at h0; simp at h0

def RetParse (v : Nat) (er : Int) (w : World) (e : Ending) (w' : World) : Prop :=
 ∃ ao c, e = .returned (.tuple #[.slice ao (nd v).length c, .int .i64 er]) ∧ Own w.heap.size w' ao c (nd v) ∧ Below w.heap.size w w'

set_option maxRecDepth 1000000 in
theorem parse_body (bs : List Nat) (w : World) (V : Nat) (er : Int) (hl : bs.length ≤ 4096) (hb : ∀ b ∈ bs, b < 256) (h0 : 0 < bs.length) (h48 : bs.getD 0 0 ≠ 48)
  (hv1 : dgs bs → V = dv bs ∧ er = 0) (hv2 : ¬ dgs bs → V = 0 ∧ er = 6) :
  Calls Tryz.prog 82 #[.string (bstr bs)] w (RetParse V er w) := by
 have hsz : (bstr bs).size = bs.length := bstr_size bs
 have e1 : ((bstr bs).toList == [48]) = false := bstr_not_zero hb h48
 have e2 : (bstr bs).toList.isEmpty = false := bstr_not_nil h0
 have e3 : ((((bstr bs)[0]'(by rw [hsz]; exact h0)).toNat : Int) == 48) = false := by
  rw [bstr_get _ hb]; exact beq_eq_false_iff_ne.2 (by omega)
 have HV1 := hid hv1
 have HV2 := hid hv2
 have HB := hid hb
 clear hv1 hv2 hb h48
 go_enter Tryz.func82, Tryz.ntmps82
 go_wp2_with fail
 go_step3
 go_wp2_with fail
 go_step3
 go_wp2_with fail
 go_loopw [4, 5] (fun zv iv wr => ∃ (k : Nat) (a3 : Option Addr) (c3 : Nat), k ≤ bs.length ∧ zv = .slice a3 (nd (dv (bs.take k))).length c3 ∧ iv = .int .i64 (k : Int) ∧ Hid (dgs (bs.take k)) ∧ (nd (dv (bs.take k))).length ≤ 4 * k ∧ Own w.heap.size wr a3 c3 (nd (dv (bs.take k))) ∧ Below w.heap.size w wr)
  (fun _ iv _ => bs.length - (intOf iv).toNat)
 case atStart => exact ⟨0, none, 0, Nat.zero_le _, by rw [List.take_zero, show dv [] = 0 from rfl, nd_zero]; rfl, rfl, (by intro b hb; simp at hb), by simp [dv, nd_zero], by rw [List.take_zero, show dv [] = 0 from rfl, nd_zero]; exact Own.nil _ _, Below.refl _ _⟩
 case round =>
  obtain ⟨k, a3, c3, hk, rfl, rfl, HD, hnl, hown, hbel⟩ := hrel
  by_cases hlt : k < bs.length
  ·have hki : (k : Int) < (bs.length : Int) := by omega
   go_wp2_with fail
   go_loop [5, 6, 7] (fun iv cv sv => ∃ (j ch p : Nat) (P : Int), j ≤ 9 ∧ k + j ≤ bs.length ∧ iv = .int .i64 ((k : Int) + (j : Int)) ∧ cv = .int .u32 (ch : Int) ∧ sv = .int .u32 P ∧ Hid (P = (p : Int)) ∧ Hid (ch < p ∧ p ≤ 1000000000) ∧ 1 ≤ P ∧ P ≤ 1000000000 ∧ Hid (p = 10 ^ j) ∧ Hid (dgs (bs.take (k + j)) ∧ dv (bs.take (k + j)) = dv (bs.take k) * p + ch)) (fun iv _ _ => bs.length - (intOf iv).toNat)
   case atStart => exact ⟨0, 0, 1, 1, by omega, by omega, int_eq (by omega), rfl, rfl, rfl, ⟨by omega, by omega⟩, by omega, by omega, by simp [Hid], ⟨HD.out, by simp⟩⟩
   case round =>
    obtain ⟨j, ch, p, P, hj, hkj, rfl, rfl, rfl, HPI, HCP, hP1, hP9, HP, HJ⟩ := hrel
    by_cases hin : k + j < bs.length ∧ P < 1000000000
    ·obtain ⟨hin1, hin2⟩ := hin
     have hj8 : j ≤ 8 := by
      refine Nat.le_of_not_lt fun h => ?_
      have : j = 9 := by omega
      have h2 := HP.out
      rw [this] at h2
      have := HPI.out
      omega
     have hp8 : p ≤ 100000000 := by rw [HP.out]; exact Nat.pow_le_pow_right (n := 10) (by omega) hj8
     have hP8 : P ≤ 100000000 := by have := HPI.out; omega
     have hch8 : ch < 100000000 := by have := HCP.out; omega
     clear hp8
     obtain ⟨x, hx⟩ : ∃ x, x = bs.getD (k + j) 0 := ⟨_, rfl⟩
     have hkl : k + j < (bstr bs).size := by rw [hsz]; exact hin1
     have hg : ((bstr bs)[k + j]'hkl).toNat = x := by rw [bstr_get hkl HB.out, hx]
     have hmem : x ∈ bs := by rw [hx, List.getD_eq_getElem?_getD, List.getElem?_eq_getElem hin1]; exact List.getElem_mem hin1
     have hx256 := HB.out x hmem
     have HX := hid (And.intro hx hmem)
     have hi1 : (k : Int) + (j : Int) < (bs.length : Int) := by omega
     have hi2 : P < 1000000000 := by omega
     clear hx hmem
     by_cases hlo : x < 48
     ·have hlo2 : (x : Int) < 48 := by omega
      obtain ⟨rfl, rfl⟩ := HV2.out (fun h => by have := h x HX.out.2; omega)
      go_wp2
      simp only [Exit.noGoto_ret]
      go_ret2
      exact ⟨none, 0, by rw [nd_zero]; rfl, by rw [nd_zero]; exact Own.nil _ _, hbel⟩
     ·by_cases hhi : 57 < x
      ·have hlo2 : ¬ (x : Int) < 48 := by omega
       have hhi2 : (x : Int) > 57 := by omega
       obtain ⟨rfl, rfl⟩ := HV2.out (fun h => by have := h x HX.out.2; omega)
       go_wp2
       simp only [Exit.noGoto_ret]
       go_ret2
       exact ⟨none, 0, by rw [nd_zero]; rfl, by rw [nd_zero]; exact Own.nil _ _, hbel⟩
      ·have hlo2 : ¬ (x : Int) < 48 := by omega
       have hhi2 : ¬ (x : Int) > 57 := by omega
       go_wp2
       have hc8 := HCP.out
       have hpi := HPI.out
       refine ⟨⟨j + 1, 10 * ch + (x - 48), 10 * p, 10 * P, by omega, by omega, int_eq (by omega), int_eq (by omega), rfl, (by show _ = _; rw [hpi]; simp), ⟨by omega, by omega⟩, by omega, by omega, (by show _ = _; rw [HP.out, Nat.pow_succ, Nat.mul_comm]), ⟨?_, ?_⟩⟩, by simp [intOf]; omega⟩
       ·rw [← Nat.add_assoc, take_succ_getD hin1, ← HX.out.1]
        intro b hb
        rcases List.mem_append.1 hb with h | h
        ·exact HJ.out.1 b h
        ·rw [List.mem_singleton.1 h]; omega
       ·rw [← Nat.add_assoc, take_succ_getD hin1, ← HX.out.1, dv_snoc, HJ.out.2]
        grind
    ·by_cases h1 : k + j < bs.length
     ·have hi1 : (k : Int) + (j : Int) < (bs.length : Int) := by omega
      have hi2 : ¬ P < 1000000000 := fun h => hin ⟨h1, h⟩
      have hj1 : 1 ≤ j := by
       refine Nat.pos_of_ne_zero fun h => ?_
       have h2 := HP.out
       have h3 := HPI.out
       rw [h, Nat.pow_zero] at h2
       omega
      clear hin
      have hsc := scale_any w.heap.size a3 c3 p ch (dv (bs.take k)) wr hown hbel.size (by have := HCP.out; omega) (by have := HCP.out; omega) (by have := HCP.out; omega) (by omega)
      rw [← HPI.out, ← HJ.out.2] at hsc
      have hln : (nd (dv (bs.take (k + j)))).length ≤ 4 * (k + j) := by
       have h1 := scale_len (v := dv (bs.take k)) (D := p) (cc := ch) HCP.out.1 (by have := HCP.out; omega)
       rw [← HJ.out.2] at h1
       omega
      clear hown
      go_wp2_with fail
      refine hsc.mono ?_
      rintro e w4 ⟨a4, c4, rfl, ho4, hb4⟩
      have hb5 := hbel.trans hb4
      clear hsc hb4 hbel
      go_wp2
      refine ⟨⟨k + j, a4, c4, hkj, rfl, int_eq (by omega), HJ.out.1, hln, ho4, hb5⟩, by simp [intOf]; omega⟩
     ·have hi1 : ¬ (k : Int) + (j : Int) < (bs.length : Int) := by omega
      have hj1 : 1 ≤ j := by omega
      clear hin
      have hsc := scale_any w.heap.size a3 c3 p ch (dv (bs.take k)) wr hown hbel.size (by have := HCP.out; omega) (by have := HCP.out; omega) (by have := HCP.out; omega) (by omega)
      rw [← HPI.out, ← HJ.out.2] at hsc
      have hln : (nd (dv (bs.take (k + j)))).length ≤ 4 * (k + j) := by
       have h1 := scale_len (v := dv (bs.take k)) (D := p) (cc := ch) HCP.out.1 (by have := HCP.out; omega)
       rw [← HJ.out.2] at h1
       omega
      clear hown
      go_wp2_with fail
      refine hsc.mono ?_
      rintro e w4 ⟨a4, c4, rfl, ho4, hb4⟩
      have hb5 := hbel.trans hb4
      clear hsc hb4 hbel
      go_wp2
      refine ⟨⟨k + j, a4, c4, hkj, rfl, int_eq (by omega), HJ.out.1, hln, ho4, hb5⟩, by simp [intOf]; omega⟩
  ·obtain rfl : k = bs.length := by omega
   have hke : ¬ ((bs.length : Int) < (bs.length : Int)) := by omega
   have hd := HD.out
   rw [List.take_length] at hd hown ⊢
   obtain ⟨rfl, rfl⟩ := HV1.out hd
   clear hd
   go_wp2
   first | (simp only [Exit.noGoto_ret]; go_ret2) | go_ret2
   exact ⟨a3, c3, rfl, hown, hbel⟩

def Parsed (bs : List Nat) (V : Nat) (er : Int) : Prop :=
 (4096 < bs.length ∧ V = 0 ∧ er = 4) ∨ (bs = [48] ∧ V = 0 ∧ er = 0) ∨ (bs.length ≤ 4096 ∧ bs = [] ∧ V = 0 ∧ er = 6) ∨
 (bs.length ≤ 4096 ∧ 1 < bs.length ∧ bs.getD 0 0 = 48 ∧ V = 0 ∧ er = 6) ∨
 (bs.length ≤ 4096 ∧ 0 < bs.length ∧ bs.getD 0 0 ≠ 48 ∧ ((dgs bs ∧ V = dv bs ∧ er = 0) ∨ (¬ dgs bs ∧ V = 0 ∧ er = 6)))
theorem parsed_some (bs : List Nat) : ∃ V er, Parsed bs V er := by
 by_cases h1 : 4096 < bs.length
 ·exact ⟨0, 4, Or.inl ⟨h1, rfl, rfl⟩⟩
 ·by_cases h2 : bs = []
  ·exact ⟨0, 6, Or.inr (Or.inr (Or.inl ⟨by omega, h2, rfl, rfl⟩))⟩
  ·have h3 : 0 < bs.length := List.length_pos_iff.2 h2
   by_cases h4 : bs.getD 0 0 = 48
   ·by_cases h5 : 1 < bs.length
    ·exact ⟨0, 6, Or.inr (Or.inr (Or.inr (Or.inl ⟨by omega, h5, h4, rfl, rfl⟩)))⟩
    ·refine ⟨0, 0, Or.inr (Or.inl ⟨?_, rfl, rfl⟩)⟩
     obtain ⟨b, hb⟩ := List.length_eq_one_iff.1 (show bs.length = 1 by omega)
     rw [hb] at h4 ⊢
     simpa using h4
   ·by_cases h5 : dgs bs
    ·exact ⟨dv bs, 0, Or.inr (Or.inr (Or.inr (Or.inr ⟨by omega, h3, h4, Or.inl ⟨h5, rfl, rfl⟩⟩)))⟩
    ·exact ⟨0, 6, Or.inr (Or.inr (Or.inr (Or.inr ⟨by omega, h3, h4, Or.inr ⟨h5, rfl, rfl⟩⟩)))⟩
theorem retParse_none {er : Int} {w : World} : RetParse 0 er w (.returned (.tuple #[.slice none 0 0, .int .i64 er])) w :=
 ⟨none, 0, by rw [nd_zero]; rfl, by rw [nd_zero]; exact Own.nil _ _, Below.refl _ _⟩

set_option maxRecDepth 1000000 in
theorem parse_any (bs : List Nat) (w : World) (V : Nat) (er : Int) (hb : ∀ b ∈ bs, b < 256) (hm : bs.length ≤ 9223372036854775807) (h : Parsed bs V er) :
  Calls Tryz.prog 82 #[.string (bstr bs)] w (RetParse V er w) := by
 have hsz : (bstr bs).size = bs.length := bstr_size bs
 rcases h with ⟨h1, rfl, rfl⟩ | ⟨h1, rfl, rfl⟩ | ⟨h1, h2, rfl, rfl⟩ | ⟨h1, h2, h3, rfl, rfl⟩ | ⟨h1, h2, h3, h4⟩
 ·have hi : (bs.length : Int) > 4096 := by omega
  clear hb
  go_enter Tryz.func82, Tryz.ntmps82
  go_wp2_with fail
  go_step3
  go_wp2_with fail
  simp only [Exit.noGoto_ret]
  go_ret2
  exact retParse_none
 ·subst h1
  have e1 : ((bstr [48]).toList == [48]) = true := by rw [bstr_toList]; rfl
  clear hb
  go_enter Tryz.func82, Tryz.ntmps82
  go_wp2_with fail
  go_step3
  go_wp2_with fail
  simp only [Exit.noGoto_ret]
  go_ret2
  exact retParse_none
 ·subst h2
  have e1 : ((bstr []).toList == [48]) = false := by rw [bstr_toList]; rfl
  have e2 : (bstr []).toList.isEmpty = true := by rw [bstr_toList]; rfl
  clear hb
  go_enter Tryz.func82, Tryz.ntmps82
  go_wp2_with fail
  go_step3
  go_wp2_with fail
  simp only [Exit.noGoto_ret]
  go_ret2
  exact retParse_none
 ·have e1 : ((bstr bs).toList == [48]) = false := by
   rw [bstr_toList, beq_eq_false_iff_ne]
   intro h
   have := congrArg List.length h
   simp at this
   omega
  have e2 : (bstr bs).toList.isEmpty = false := bstr_not_nil (by omega)
  have e3 : ((((bstr bs)[0]'(by rw [hsz]; omega)).toNat : Int) == 48) = true := by rw [bstr_get _ hb, h3]; rfl
  clear hb h3
  go_enter Tryz.func82, Tryz.ntmps82
  go_wp2_with fail
  go_step3
  go_wp2_with fail
  simp only [Exit.noGoto_ret]
  go_ret2
  exact retParse_none
 ·refine parse_body bs w V er h1 hb h2 h3 (fun hd => ?_) (fun hd => ?_)
  ·rcases h4 with h | h
   ·exact h.2
   ·exact absurd hd h.1
  ·rcases h4 with h | h
   ·exact absurd h.1 hd
   ·exact h.2
end Go.Proofs.YtcankknlbljicaaGreatDoor

namespace Go.Proofs.YtcankknlbljicaaGreatDoor
open Go.RowKit Num

theorem decR_step {v : Nat} (h : v ≠ 0) : decR v = (48 + v % 10) :: decR (v / 10) := by rw [decR, dif_neg h]
theorem decR_zero : decR 0 = [] := by rw [decR]; simp
theorem decR_spec (n : Nat) : ∀ v, v < n → dv (decR v).reverse = v ∧ dgs (decR v).reverse ∧ (v ≠ 0 → 0 < (decR v).length ∧ (decR v).reverse.getD 0 0 ≠ 48) := by
 induction n with
 | zero => intro v h; omega
 | succ n ih =>
  intro v hv
  by_cases h : v = 0
  ·subst h
   rw [decR_zero]
   exact ⟨rfl, (by intro b hb; simp at hb), fun h => absurd rfl h⟩
  ·obtain ⟨h1, h2, h3⟩ := ih (v / 10) (by omega)
   rw [decR_step h, List.reverse_cons]
   refine ⟨by rw [dv_snoc, h1]; omega, ?_, fun _ => ⟨by simp, ?_⟩⟩
   ·intro b hb
    rcases List.mem_append.1 hb with hb | hb
    ·exact h2 b hb
    ·rw [List.mem_singleton.1 hb]; omega
   ·by_cases h4 : v / 10 = 0
    ·rw [h4, decR_zero]; simp; omega
    ·obtain ⟨h5, h6⟩ := h3 h4
     rw [List.getD_eq_getElem?_getD, List.getElem?_append_left (by rw [List.length_reverse]; exact h5), ← List.getD_eq_getElem?_getD]
     exact h6
theorem decR_length (k : Nat) : ∀ v, v < 10 ^ k → (decR v).length ≤ k := by
 induction k with
 | zero =>
  intro v h
  obtain rfl : v = 0 := by simpa using h
  rw [decR_zero]; simp
 | succ k ih =>
  intro v h
  by_cases h0 : v = 0
  ·subst h0; rw [decR_zero]; simp
  ·rw [decR_step h0, List.length_cons]
   have := ih (v / 10) (by rw [Nat.pow_succ] at h; omega)
   omega
theorem parsed_dec {v k : Nat} (hk : v < 10 ^ k) (hk2 : k ≤ 4096) : Parsed (decT v) v 0 := by
 by_cases h : v = 0
 ·subst h
  exact Or.inr (Or.inl ⟨rfl, rfl, rfl⟩)
 ·obtain ⟨h1, h2, h3⟩ := decR_spec (v + 1) v (by omega)
  obtain ⟨h4, h5⟩ := h3 h
  have hl := decR_length k v hk
  have e : decT v = (decR v).reverse := by rw [decT, if_neg h]
  rw [e]
  exact Or.inr (Or.inr (Or.inr (Or.inr ⟨by rw [List.length_reverse]; omega, by rw [List.length_reverse]; exact h4, h5, Or.inl ⟨h2, h1.symm, rfl⟩⟩)))
end Go.Proofs.YtcankknlbljicaaGreatDoor
