/-  -/
import Derived.Test.YtcankknlbljicaaGreatDoorWn
import Derived.Test.YtcankknlbljicaaGreatDoorWj
import Derived.Test.YtcankknlbljicaaGreatDoorWk

set_option linter.unusedVariables false
set_option linter.unusedSimpArgs false
set_option linter.unusedSectionVars false
set_option maxRecDepth 100000
set_option maxHeartbeats 3200000

namespace Go.Proofs.YtcankknlbljicaaGreatDoor
open Go.RowKit Num

set_option maxRecDepth 1000000 in
set_option maxHeartbeats 6400000 in
theorem rparse_body (bs : List Nat) (w : World) (V : Nat) (er : Int) (hl : bs.length ≤ 4096) (hb : ∀ b ∈ bs, b < 256) (h0 : 0 < bs.length) (h48 : 1 < bs.length → bs.getD 0 0 ≠ 48)
  (hv1 : dgs bs → V = dv bs ∧ er = 0) (hv2 : ¬ dgs bs → V = 0 ∧ er = 6) :
  Calls Tryz.prog 86 #[.string (bstr bs)] w (RetParse V er w) := by
 have hsz : (bstr bs).size = bs.length := bstr_size bs
 have g0 : ¬ ((bs.length : Int) > 4096) := by omega
 have g1 : ((bs.length : Int) == 0) = false := by rw [beq_eq_false_iff_ne]; omega
 have HV1 := hid hv1
 have HV2 := hid hv2
 have HB := hid hb
 have e3 : 1 < bs.length → ((((bstr bs)[0]'(by rw [hsz]; exact h0)).toNat : Int) == 48) = false := by
  intro h
  rw [bstr_get _ hb]; exact beq_eq_false_iff_ne.2 (by have := h48 h; omega)
 have HE := hid e3
 clear hv1 hv2 hb h48 e3
 by_cases h1 : 1 < bs.length
 ·have g2 : (bs.length : Int) > 1 := by omega
  have e3 := HE.out h1
  clear h1 HE
  go_enter Tryz.func86, Tryz.ntmps86
  go_wp2_with fail
  clear g0 g1 g2 e3
  go_loopw [4, 5] (fun zv iv wr => ∃ (k D : Nat) (a3 : Option Addr) (c3 : Nat), k ≤ bs.length ∧ zv = .slice a3 (nd D).length c3 ∧ iv = .int .i64 (k : Int) ∧ (nd D).length ≤ 4 * k ∧ Hid (D = dv (bs.take k) ∧ dgs (bs.take k) ∧ Own w.heap.size wr a3 c3 (nd D) ∧ Below w.heap.size w wr))
   (fun _ iv _ => bs.length - (intOf iv).toNat)
  case atStart => exact ⟨0, 0, none, 0, Nat.zero_le _, by rw [nd_zero]; rfl, rfl, by rw [nd_zero]; simp, ⟨by rw [List.take_zero]; rfl, (by intro b hb; simp at hb), by rw [nd_zero]; exact Own.nil _ _, Below.refl _ _⟩⟩
  case round =>
   obtain ⟨k, D, a3, c3, hk, rfl, rfl, hnl, HR⟩ := hrel
   by_cases hlt : k < bs.length
   ·have hki : (k : Int) < (bs.length : Int) := by omega
    obtain ⟨x, hx⟩ : ∃ x, x = bs.getD k 0 := ⟨_, rfl⟩
    have hkl : k < (bstr bs).size := by rw [hsz]; exact hlt
    have hg : ((bstr bs)[k]'hkl).toNat = x := by rw [bstr_get hkl HB.out, hx]
    have hmem : x ∈ bs := by rw [hx, List.getD_eq_getElem?_getD, List.getElem?_eq_getElem hlt]; exact List.getElem_mem hlt
    have hx256 := HB.out x hmem
    have HX := hid (And.intro hx hmem)
    clear hx hmem
    by_cases hlo : x < 48
    ·have hlo2 : (x : Int) < 48 := by omega
     obtain ⟨rfl, rfl⟩ := HV2.out (fun h => by have := h x HX.out.2; omega)
     have HBL := hid HR.out.2.2.2
     clear HR
     go_wp2
     go_ret2
     exact ⟨none, 0, by rw [nd_zero]; rfl, by rw [nd_zero]; exact Own.nil _ _, HBL.out⟩
    ·by_cases hhi : 57 < x
     ·have hlo2 : ¬ (x : Int) < 48 := by omega
      have hhi2 : (x : Int) > 57 := by omega
      obtain ⟨rfl, rfl⟩ := HV2.out (fun h => by have := h x HX.out.2; omega)
      have HBL := hid HR.out.2.2.2
      clear HR
      go_wp2
      go_ret2
      exact ⟨none, 0, by rw [nd_zero]; rfl, by rw [nd_zero]; exact Own.nil _ _, HBL.out⟩
     ·have hlo2 : ¬ (x : Int) < 48 := by omega
      have hhi2 : ¬ (x : Int) > 57 := by omega
      obtain ⟨y, hy⟩ : ∃ y, y = x - 48 := ⟨_, rfl⟩
      have hyi : (x : Int) - 48 = (y : Int) := by omega
      have hy10 : y < 10 := by omega
      have hyw : IntKind.u8.wrap (y : Int) = (y : Int) := by simp [IntKind.wrap, IntKind.bits, IntKind.signed]; omega
      have hyw2 : IntKind.u32.wrap (y : Int) = (y : Int) := by simp [IntKind.wrap, IntKind.bits, IntKind.signed]; omega
      have HY := hid hy
      clear hy
      have hb0 : Below w.heap.size w wr := HR.out.2.2.2
      have l10 : (nd (D * 10)).length ≤ 4 * k + 2 := by
       have h1 := len_mul (u := D) (v := 10) hnl (show (nd 10).length ≤ 1 from nd_length_le (by omega))
       omega
      have HMUL := hid (fun (W : World) (g : Nat) (h1 : Below w.heap.size w W) (h2 : Rd W (some ⟨g, 0, none⟩) 1 [10]) (h3 : Rd W a3 c3 (nd D)) => (by
       have h := rmul_any a3 (some ⟨g, 0, none⟩) c3 1 (nd D) [10] W h3 h2 (by omega) (by simp)
       rw [val_nd, show val [10] = 10 by simp [val]] at h
       exact h : Calls Tryz.prog 152 #[.slice a3 (nd D).length c3, .slice (some ⟨g, 0, none⟩) 1 1] W (RetOwn W.heap.size (nd (D * 10)) W)))
      have HADD := hid (fun (W : World) (am : Option Addr) (cm g : Nat) (h2 : Rd W (some ⟨g, 0, none⟩) 1 [y]) (h3 : Rd W am cm (nd (D * 10))) => (by
       have h := radd_any am (some ⟨g, 0, none⟩) cm 1 (nd (D * 10)) [y] W h3 h2 (by omega) (by simp)
       rw [val_nd, show val [y] = y by simp [val]] at h
       exact h : Calls Tryz.prog 151 #[.slice am (nd (D * 10)).length cm, .slice (some ⟨g, 0, none⟩) 1 1] W (RetOwn W.heap.size (nd (D * 10 + y)) W)))
      have o10 : ∀ W : World, Own W.heap.size (W.alloc (.cells #[.int .u32 10] 88)) (some ⟨W.heap.size, 0, none⟩) 1 [10] := fun W => Own.one W W.heap.size 10 (Nat.le_refl _) (by omega)
      have ox : ∀ W : World, Own W.heap.size (W.alloc (.cells #[.int .u32 (y : Int)] 88)) (some ⟨W.heap.size, 0, none⟩) 1 [y] := fun W => Own.one W W.heap.size y (Nat.le_refl _) (by omega)
      have b10 := fun W : World => below_alloc W (.cells #[.int .u32 10] 88)
      have bx := fun W : World => below_alloc W (.cells #[.int .u32 (y : Int)] 88)
      have rd0 : Rd wr a3 c3 (nd D) := HR.out.2.2.1.rd
      have e10 : (wr.alloc (.cells #[.int .u32 10] 88)).heap.size = wr.heap.size + 1 := by simp
      have ey : (wr.alloc (.cells #[.int .u32 (y : Int)] 88)).heap.size = wr.heap.size + 1 := by simp
      have HW1 := hid (show Below w.heap.size w ((wr.alloc (.cells #[.int .u32 10] 88)).drew) ∧ Rd ((wr.alloc (.cells #[.int .u32 10] 88)).drew) (some ⟨wr.heap.size, 0, none⟩) 1 [10] ∧ Rd ((wr.alloc (.cells #[.int .u32 10] 88)).drew) a3 c3 (nd D) from
       ⟨(hb0.trans ((b10 wr).mono hb0.size)).drew, (o10 wr).rd.keep (fun _ _ h => h), (rd0.below (b10 wr)).keep (fun _ _ h => h)⟩)
      have HW2 := hid (show Below w.heap.size w (((wr.alloc (.cells #[.int .u32 10] 88)).alloc (.cells #[.int .u32 (y : Int)] 88)).drew) ∧ Rd (((wr.alloc (.cells #[.int .u32 10] 88)).alloc (.cells #[.int .u32 (y : Int)] 88)).drew) (some ⟨wr.heap.size, 0, none⟩) 1 [10] ∧ Rd (((wr.alloc (.cells #[.int .u32 10] 88)).alloc (.cells #[.int .u32 (y : Int)] 88)).drew) a3 c3 (nd D) ∧ Rd (((wr.alloc (.cells #[.int .u32 10] 88)).alloc (.cells #[.int .u32 (y : Int)] 88)).drew) (some ⟨wr.heap.size + 1, 0, none⟩) 1 [y] from by
       have h1 := hb0.trans ((b10 wr).mono hb0.size)
       have h2 := bx (wr.alloc (.cells #[.int .u32 10] 88))
       have h3 := (ox (wr.alloc (.cells #[.int .u32 10] 88))).rd
       rw [e10] at h3
       exact ⟨(h1.trans (h2.mono h1.size)).drew, ((o10 wr).below h2).rd.keep (fun _ _ h => h), ((rd0.below (b10 wr)).below h2).keep (fun _ _ h => h), h3.keep (fun _ _ h => h)⟩)
      have HW3 := hid (show Below w.heap.size w (((wr.alloc (.cells #[.int .u32 (y : Int)] 88)).alloc (.cells #[.int .u32 10] 88)).drew) ∧ Rd (((wr.alloc (.cells #[.int .u32 (y : Int)] 88)).alloc (.cells #[.int .u32 10] 88)).drew) (some ⟨wr.heap.size + 1, 0, none⟩) 1 [10] ∧ Rd (((wr.alloc (.cells #[.int .u32 (y : Int)] 88)).alloc (.cells #[.int .u32 10] 88)).drew) a3 c3 (nd D) ∧ Rd (((wr.alloc (.cells #[.int .u32 (y : Int)] 88)).alloc (.cells #[.int .u32 10] 88)).drew) (some ⟨wr.heap.size, 0, none⟩) 1 [y] from by
       have h1 := hb0.trans ((bx wr).mono hb0.size)
       have h2 := b10 (wr.alloc (.cells #[.int .u32 (y : Int)] 88))
       have h3 := (o10 (wr.alloc (.cells #[.int .u32 (y : Int)] 88))).rd
       rw [ey] at h3
       exact ⟨(h1.trans (h2.mono h1.size)).drew, h3.keep (fun _ _ h => h), ((rd0.below (bx wr)).below h2).keep (fun _ _ h => h), ((ox wr).below h2).rd.keep (fun _ _ h => h)⟩)
      have H0 := hid (And.intro ox bx)
      have HFIN := hid (show (nd (D * 10 + y)).length ≤ 4 * (k + 1) ∧ D * 10 + y = dv (bs.take (k + 1)) ∧ dgs (bs.take (k + 1)) from by
       refine ⟨?_, ?_, ?_⟩
       ·have h := scale_len (v := D) (cc := y) (D := 10) hy10 (by omega)
        omega
       ·rw [take_succ_getD hlt, ← HX.out.1, dv_snoc, ← HY.out, HR.out.1]; omega
       ·rw [take_succ_getD hlt, ← HX.out.1]
        intro b hb
        rcases List.mem_append.1 hb with h | h
        ·exact HR.out.2.1 b h
        ·rw [List.mem_singleton.1 h]; omega)
      clear o10 ox b10 bx rd0 hb0 e10 ey
      go_wp2_with fail
      go_region_with (first
       | (go_at_call 152; (with_reducible refine (HMUL.out ((wr.alloc (.cells #[.int .u32 10] 88)).drew) wr.heap.size HW1.out.1 HW1.out.2.1 HW1.out.2.2).mono ?_); rintro e wM ⟨am, cm, rfl, om, fm⟩; have km := hid (And.intro (om.mono HW1.out.1.size) (HW1.out.1.trans (fm.mono HW1.out.1.size))); have t1 := hid True.intro)
       | (go_at_call 152; (with_reducible refine (HMUL.out (((wr.alloc (.cells #[.int .u32 10] 88)).alloc (.cells #[.int .u32 (y : Int)] 88)).drew) wr.heap.size HW2.out.1 HW2.out.2.1 HW2.out.2.2.1).mono ?_); rintro e wM ⟨am, cm, rfl, om, fm⟩; have km := hid (And.intro (om.mono HW2.out.1.size) (HW2.out.1.trans (fm.mono HW2.out.1.size))); have kx := hid (HW2.out.2.2.2.below fm); have t2 := hid True.intro)
       | (go_at_call 152; (with_reducible refine (HMUL.out (((wr.alloc (.cells #[.int .u32 (y : Int)] 88)).alloc (.cells #[.int .u32 10] 88)).drew) (wr.heap.size + 1) HW3.out.1 HW3.out.2.1 HW3.out.2.2.1).mono ?_); rintro e wM ⟨am, cm, rfl, om, fm⟩; have km := hid (And.intro (om.mono HW3.out.1.size) (HW3.out.1.trans (fm.mono HW3.out.1.size))); have kx := hid (HW3.out.2.2.2.below fm); have t3 := hid True.intro)
       | (go_at_call 151; have zz := t1; (with_reducible refine (HADD.out (wM.alloc (.cells #[.int .u32 (y : Int)] 88)) am cm wM.heap.size (H0.out.1 wM).rd (km.out.1.below (H0.out.2 wM)).rd).mono ?_); rintro e wA ⟨az, cz, rfl, oz, fz⟩; have kz := hid (And.intro (oz.mono (Nat.le_trans km.out.2.size (H0.out.2 wM).size)) (km.out.2.trans (((H0.out.2 wM).trans (fz.mono (H0.out.2 wM).size)).mono km.out.2.size))))
       | (go_at_call 151; have zz := t2; (with_reducible refine (HADD.out wM am cm (wr.heap.size + 1) kx.out km.out.1.rd).mono ?_); rintro e wA ⟨az, cz, rfl, oz, fz⟩; have kz := hid (And.intro (oz.mono km.out.2.size) (km.out.2.trans (fz.mono km.out.2.size))))
       | (go_at_call 151; have zz := t3; (with_reducible refine (HADD.out wM am cm wr.heap.size kx.out km.out.1.rd).mono ?_); rintro e wA ⟨az, cz, rfl, oz, fz⟩; have kz := hid (And.intro (oz.mono km.out.2.size) (km.out.2.trans (fz.mono km.out.2.size)))))
      all_goals
       clear HR
       go_wp2
       exact ⟨⟨k + 1, D * 10 + y, az, cz, by omega, rfl, int_eq (by omega), HFIN.out.1, ⟨HFIN.out.2.1, HFIN.out.2.2, kz.out⟩⟩, by simp [intOf]; omega⟩
   ·obtain rfl : k = bs.length := by omega
    have hki : ¬ ((bs.length : Int) < (bs.length : Int)) := by omega
    have hd := HR.out.1
    have hdg := HR.out.2.1
    rw [List.take_length] at hd hdg
    obtain ⟨rfl, rfl⟩ := HV1.out hdg
    subst hd
    have HF := hid (And.intro HR.out.2.2.1 HR.out.2.2.2)
    clear HR hdg hnl hk
    go_wp2
    go_ret2
    exact ⟨a3, c3, rfl, HF.out.1, HF.out.2⟩
 ·have g2 : ¬ ((bs.length : Int) > 1) := by omega
  clear h1 HE
  go_enter Tryz.func86, Tryz.ntmps86
  go_wp2_with fail
  clear g0 g1 g2
  go_loopw [4, 5] (fun zv iv wr => ∃ (k D : Nat) (a3 : Option Addr) (c3 : Nat), k ≤ bs.length ∧ zv = .slice a3 (nd D).length c3 ∧ iv = .int .i64 (k : Int) ∧ (nd D).length ≤ 4 * k ∧ Hid (D = dv (bs.take k) ∧ dgs (bs.take k) ∧ Own w.heap.size wr a3 c3 (nd D) ∧ Below w.heap.size w wr))
   (fun _ iv _ => bs.length - (intOf iv).toNat)
  case atStart => exact ⟨0, 0, none, 0, Nat.zero_le _, by rw [nd_zero]; rfl, rfl, by rw [nd_zero]; simp, ⟨by rw [List.take_zero]; rfl, (by intro b hb; simp at hb), by rw [nd_zero]; exact Own.nil _ _, Below.refl _ _⟩⟩
  case round =>
   obtain ⟨k, D, a3, c3, hk, rfl, rfl, hnl, HR⟩ := hrel
   by_cases hlt : k < bs.length
   ·have hki : (k : Int) < (bs.length : Int) := by omega
    obtain ⟨x, hx⟩ : ∃ x, x = bs.getD k 0 := ⟨_, rfl⟩
    have hkl : k < (bstr bs).size := by rw [hsz]; exact hlt
    have hg : ((bstr bs)[k]'hkl).toNat = x := by rw [bstr_get hkl HB.out, hx]
    have hmem : x ∈ bs := by rw [hx, List.getD_eq_getElem?_getD, List.getElem?_eq_getElem hlt]; exact List.getElem_mem hlt
    have hx256 := HB.out x hmem
    have HX := hid (And.intro hx hmem)
    clear hx hmem
    by_cases hlo : x < 48
    ·have hlo2 : (x : Int) < 48 := by omega
     obtain ⟨rfl, rfl⟩ := HV2.out (fun h => by have := h x HX.out.2; omega)
     have HBL := hid HR.out.2.2.2
     clear HR
     go_wp2
     go_ret2
     exact ⟨none, 0, by rw [nd_zero]; rfl, by rw [nd_zero]; exact Own.nil _ _, HBL.out⟩
    ·by_cases hhi : 57 < x
     ·have hlo2 : ¬ (x : Int) < 48 := by omega
      have hhi2 : (x : Int) > 57 := by omega
      obtain ⟨rfl, rfl⟩ := HV2.out (fun h => by have := h x HX.out.2; omega)
      have HBL := hid HR.out.2.2.2
      clear HR
      go_wp2
      go_ret2
      exact ⟨none, 0, by rw [nd_zero]; rfl, by rw [nd_zero]; exact Own.nil _ _, HBL.out⟩
     ·have hlo2 : ¬ (x : Int) < 48 := by omega
      have hhi2 : ¬ (x : Int) > 57 := by omega
      obtain ⟨y, hy⟩ : ∃ y, y = x - 48 := ⟨_, rfl⟩
      have hyi : (x : Int) - 48 = (y : Int) := by omega
      have hy10 : y < 10 := by omega
      have hyw : IntKind.u8.wrap (y : Int) = (y : Int) := by simp [IntKind.wrap, IntKind.bits, IntKind.signed]; omega
      have hyw2 : IntKind.u32.wrap (y : Int) = (y : Int) := by simp [IntKind.wrap, IntKind.bits, IntKind.signed]; omega
      have HY := hid hy
      clear hy
      have hb0 : Below w.heap.size w wr := HR.out.2.2.2
      have l10 : (nd (D * 10)).length ≤ 4 * k + 2 := by
       have h1 := len_mul (u := D) (v := 10) hnl (show (nd 10).length ≤ 1 from nd_length_le (by omega))
       omega
      have HMUL := hid (fun (W : World) (g : Nat) (h1 : Below w.heap.size w W) (h2 : Rd W (some ⟨g, 0, none⟩) 1 [10]) (h3 : Rd W a3 c3 (nd D)) => (by
       have h := rmul_any a3 (some ⟨g, 0, none⟩) c3 1 (nd D) [10] W h3 h2 (by omega) (by simp)
       rw [val_nd, show val [10] = 10 by simp [val]] at h
       exact h : Calls Tryz.prog 152 #[.slice a3 (nd D).length c3, .slice (some ⟨g, 0, none⟩) 1 1] W (RetOwn W.heap.size (nd (D * 10)) W)))
      have HADD := hid (fun (W : World) (am : Option Addr) (cm g : Nat) (h2 : Rd W (some ⟨g, 0, none⟩) 1 [y]) (h3 : Rd W am cm (nd (D * 10))) => (by
       have h := radd_any am (some ⟨g, 0, none⟩) cm 1 (nd (D * 10)) [y] W h3 h2 (by omega) (by simp)
       rw [val_nd, show val [y] = y by simp [val]] at h
       exact h : Calls Tryz.prog 151 #[.slice am (nd (D * 10)).length cm, .slice (some ⟨g, 0, none⟩) 1 1] W (RetOwn W.heap.size (nd (D * 10 + y)) W)))
      have o10 : ∀ W : World, Own W.heap.size (W.alloc (.cells #[.int .u32 10] 88)) (some ⟨W.heap.size, 0, none⟩) 1 [10] := fun W => Own.one W W.heap.size 10 (Nat.le_refl _) (by omega)
      have ox : ∀ W : World, Own W.heap.size (W.alloc (.cells #[.int .u32 (y : Int)] 88)) (some ⟨W.heap.size, 0, none⟩) 1 [y] := fun W => Own.one W W.heap.size y (Nat.le_refl _) (by omega)
      have b10 := fun W : World => below_alloc W (.cells #[.int .u32 10] 88)
      have bx := fun W : World => below_alloc W (.cells #[.int .u32 (y : Int)] 88)
      have rd0 : Rd wr a3 c3 (nd D) := HR.out.2.2.1.rd
      have e10 : (wr.alloc (.cells #[.int .u32 10] 88)).heap.size = wr.heap.size + 1 := by simp
      have ey : (wr.alloc (.cells #[.int .u32 (y : Int)] 88)).heap.size = wr.heap.size + 1 := by simp
      have HW1 := hid (show Below w.heap.size w ((wr.alloc (.cells #[.int .u32 10] 88)).drew) ∧ Rd ((wr.alloc (.cells #[.int .u32 10] 88)).drew) (some ⟨wr.heap.size, 0, none⟩) 1 [10] ∧ Rd ((wr.alloc (.cells #[.int .u32 10] 88)).drew) a3 c3 (nd D) from
       ⟨(hb0.trans ((b10 wr).mono hb0.size)).drew, (o10 wr).rd.keep (fun _ _ h => h), (rd0.below (b10 wr)).keep (fun _ _ h => h)⟩)
      have HW2 := hid (show Below w.heap.size w (((wr.alloc (.cells #[.int .u32 10] 88)).alloc (.cells #[.int .u32 (y : Int)] 88)).drew) ∧ Rd (((wr.alloc (.cells #[.int .u32 10] 88)).alloc (.cells #[.int .u32 (y : Int)] 88)).drew) (some ⟨wr.heap.size, 0, none⟩) 1 [10] ∧ Rd (((wr.alloc (.cells #[.int .u32 10] 88)).alloc (.cells #[.int .u32 (y : Int)] 88)).drew) a3 c3 (nd D) ∧ Rd (((wr.alloc (.cells #[.int .u32 10] 88)).alloc (.cells #[.int .u32 (y : Int)] 88)).drew) (some ⟨wr.heap.size + 1, 0, none⟩) 1 [y] from by
       have h1 := hb0.trans ((b10 wr).mono hb0.size)
       have h2 := bx (wr.alloc (.cells #[.int .u32 10] 88))
       have h3 := (ox (wr.alloc (.cells #[.int .u32 10] 88))).rd
       rw [e10] at h3
       exact ⟨(h1.trans (h2.mono h1.size)).drew, ((o10 wr).below h2).rd.keep (fun _ _ h => h), ((rd0.below (b10 wr)).below h2).keep (fun _ _ h => h), h3.keep (fun _ _ h => h)⟩)
      have HW3 := hid (show Below w.heap.size w (((wr.alloc (.cells #[.int .u32 (y : Int)] 88)).alloc (.cells #[.int .u32 10] 88)).drew) ∧ Rd (((wr.alloc (.cells #[.int .u32 (y : Int)] 88)).alloc (.cells #[.int .u32 10] 88)).drew) (some ⟨wr.heap.size + 1, 0, none⟩) 1 [10] ∧ Rd (((wr.alloc (.cells #[.int .u32 (y : Int)] 88)).alloc (.cells #[.int .u32 10] 88)).drew) a3 c3 (nd D) ∧ Rd (((wr.alloc (.cells #[.int .u32 (y : Int)] 88)).alloc (.cells #[.int .u32 10] 88)).drew) (some ⟨wr.heap.size, 0, none⟩) 1 [y] from by
       have h1 := hb0.trans ((bx wr).mono hb0.size)
       have h2 := b10 (wr.alloc (.cells #[.int .u32 (y : Int)] 88))
       have h3 := (o10 (wr.alloc (.cells #[.int .u32 (y : Int)] 88))).rd
       rw [ey] at h3
       exact ⟨(h1.trans (h2.mono h1.size)).drew, h3.keep (fun _ _ h => h), ((rd0.below (bx wr)).below h2).keep (fun _ _ h => h), ((ox wr).below h2).rd.keep (fun _ _ h => h)⟩)
      have H0 := hid (And.intro ox bx)
      have HFIN := hid (show (nd (D * 10 + y)).length ≤ 4 * (k + 1) ∧ D * 10 + y = dv (bs.take (k + 1)) ∧ dgs (bs.take (k + 1)) from by
       refine ⟨?_, ?_, ?_⟩
       ·have h := scale_len (v := D) (cc := y) (D := 10) hy10 (by omega)
        omega
       ·rw [take_succ_getD hlt, ← HX.out.1, dv_snoc, ← HY.out, HR.out.1]; omega
       ·rw [take_succ_getD hlt, ← HX.out.1]
        intro b hb
        rcases List.mem_append.1 hb with h | h
        ·exact HR.out.2.1 b h
        ·rw [List.mem_singleton.1 h]; omega)
      clear o10 ox b10 bx rd0 hb0 e10 ey
      go_wp2_with fail
      go_region_with (first
       | (go_at_call 152; (with_reducible refine (HMUL.out ((wr.alloc (.cells #[.int .u32 10] 88)).drew) wr.heap.size HW1.out.1 HW1.out.2.1 HW1.out.2.2).mono ?_); rintro e wM ⟨am, cm, rfl, om, fm⟩; have km := hid (And.intro (om.mono HW1.out.1.size) (HW1.out.1.trans (fm.mono HW1.out.1.size))); have t1 := hid True.intro)
       | (go_at_call 152; (with_reducible refine (HMUL.out (((wr.alloc (.cells #[.int .u32 10] 88)).alloc (.cells #[.int .u32 (y : Int)] 88)).drew) wr.heap.size HW2.out.1 HW2.out.2.1 HW2.out.2.2.1).mono ?_); rintro e wM ⟨am, cm, rfl, om, fm⟩; have km := hid (And.intro (om.mono HW2.out.1.size) (HW2.out.1.trans (fm.mono HW2.out.1.size))); have kx := hid (HW2.out.2.2.2.below fm); have t2 := hid True.intro)
       | (go_at_call 152; (with_reducible refine (HMUL.out (((wr.alloc (.cells #[.int .u32 (y : Int)] 88)).alloc (.cells #[.int .u32 10] 88)).drew) (wr.heap.size + 1) HW3.out.1 HW3.out.2.1 HW3.out.2.2.1).mono ?_); rintro e wM ⟨am, cm, rfl, om, fm⟩; have km := hid (And.intro (om.mono HW3.out.1.size) (HW3.out.1.trans (fm.mono HW3.out.1.size))); have kx := hid (HW3.out.2.2.2.below fm); have t3 := hid True.intro)
       | (go_at_call 151; have zz := t1; (with_reducible refine (HADD.out (wM.alloc (.cells #[.int .u32 (y : Int)] 88)) am cm wM.heap.size (H0.out.1 wM).rd (km.out.1.below (H0.out.2 wM)).rd).mono ?_); rintro e wA ⟨az, cz, rfl, oz, fz⟩; have kz := hid (And.intro (oz.mono (Nat.le_trans km.out.2.size (H0.out.2 wM).size)) (km.out.2.trans (((H0.out.2 wM).trans (fz.mono (H0.out.2 wM).size)).mono km.out.2.size))))
       | (go_at_call 151; have zz := t2; (with_reducible refine (HADD.out wM am cm (wr.heap.size + 1) kx.out km.out.1.rd).mono ?_); rintro e wA ⟨az, cz, rfl, oz, fz⟩; have kz := hid (And.intro (oz.mono km.out.2.size) (km.out.2.trans (fz.mono km.out.2.size))))
       | (go_at_call 151; have zz := t3; (with_reducible refine (HADD.out wM am cm wr.heap.size kx.out km.out.1.rd).mono ?_); rintro e wA ⟨az, cz, rfl, oz, fz⟩; have kz := hid (And.intro (oz.mono km.out.2.size) (km.out.2.trans (fz.mono km.out.2.size)))))
      all_goals
       clear HR
       go_wp2
       exact ⟨⟨k + 1, D * 10 + y, az, cz, by omega, rfl, int_eq (by omega), HFIN.out.1, ⟨HFIN.out.2.1, HFIN.out.2.2, kz.out⟩⟩, by simp [intOf]; omega⟩
   ·obtain rfl : k = bs.length := by omega
    have hki : ¬ ((bs.length : Int) < (bs.length : Int)) := by omega
    have hd := HR.out.1
    have hdg := HR.out.2.1
    rw [List.take_length] at hd hdg
    obtain ⟨rfl, rfl⟩ := HV1.out hdg
    subst hd
    have HF := hid (And.intro HR.out.2.2.1 HR.out.2.2.2)
    clear HR hdg hnl hk
    go_wp2
    go_ret2
    exact ⟨a3, c3, rfl, HF.out.1, HF.out.2⟩
end Go.Proofs.YtcankknlbljicaaGreatDoor
