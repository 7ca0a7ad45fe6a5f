/- Walks: DivMod. -/
import Derived.Test.YtbcaigpdckencaaDoorGss
namespace Go.Proofs.YtbcaigpdckencaaDoor
open Go.RowKit Num

/-- the number that a slice holds -/
def valOf (v : Value) (w : World) : Nat := match v with
  | .slice (some a) n _ => val ((List.range n).map fun i => match w.cell? ⟨a.block, a.off + i, none⟩ with | some (.int _ q) => q.toNat | _ => 0)
  | _ => 0
theorem Rd.valOf {w : World} {ao : Option Addr} {c : Nat} {xs : List Nat} (h : Rd w ao c xs) : valOf (.slice ao xs.length c) w = val xs := by
  rcases h.lies with h1 | ⟨b, off, h1, h2⟩
  · subst h1; cases ao <;> rfl
  · subst h1
    show val _ = _
    congr 1
    apply List.ext_getElem
    · simp
    · intro i h3 h4
      simp only [List.getElem_map, List.getElem_range]
      rw [h2 i h4]
      simp [List.getD, h4]
/-- quotient, remainder and an error code -/
def RetDiv (B : Nat) (xs ys : List Nat) (err : Int) (w : World) (e : Ending) (w' : World) : Prop :=
  ∃ ax cx ay cy, e = .returned (.tuple #[.slice ax xs.length cx, .slice ay ys.length cy, .int .i64 err]) ∧ Own B w' ax cx xs ∧ Own B w' ay cy ys ∧ Below w.heap.size w w'

/-- '[]uint32{x}' -/
theorem Own.one (w : World) (B x : Nat) (hB : B ≤ w.heap.size) (hx : x < 4294967296) : Own B (w.alloc (.cells #[.int .u32 (x : Int)] 61)) (some ⟨w.heap.size, 0, none⟩) 1 [x] :=
  Own.mk_some (cur := #[.int .u32 (x : Int)]) hB (heap_alloc_at w _) (Nat.le_refl _) (by omega) rfl rfl (wf_cons.2 ⟨hx, wf_nil⟩)

theorem divmod_zero (aa ab : Option Addr) (ca cb : Nat) (xs ys : List Nat) (w : World) (ha : Rd w aa ca xs) (hb : Rd w ab cb ys) (h0 : val ys = 0) :
    Calls Tryd.prog 29 #[.slice aa xs.length ca, .slice ab ys.length cb] w (RetDiv w.heap.size [] [] 3 w) := by
  have hcx := cut_any aa ca xs w ha
  have hcy := cut_any ab cb ys w hb
  rw [h0, nd_zero] at hcy
  have hb0 : ((([] : List Nat).length : Int) == 0) = true := by simp
  clear ha hb h0
  go_enter Tryd.func29, Tryd.ntmps29
  go_wp2_with fail
  refine hcx.mono ?_
  rintro e w' ⟨rfl, rfl⟩
  go_wp2_with fail
  refine hcy.mono ?_
  rintro e w' ⟨rfl, rfl⟩
  go_wp2
  go_ret3
  exact ⟨none, 0, none, 0, rfl, Own.nil _ _, Own.nil _ _, Below.refl _ _⟩

set_option maxRecDepth 100000 in
set_option maxHeartbeats 800000 in
theorem divmod_any (aa ab : Option Addr) (ca cb : Nat) (xs ys : List Nat) (w : World) (ha : Rd w aa ca xs) (hb : Rd w ab cb ys) (h0 : val ys ≠ 0) (hlx : xs.length ≤ 4398046511104) :
    Calls Tryd.prog 29 #[.slice aa xs.length ca, .slice ab ys.length cb] w (RetDiv w.heap.size (nd (val xs / val ys)) (nd (val xs % val ys)) 0 w) := by
  have hcx := cut_any aa ca xs w ha
  have hcy := cut_any ab cb ys w hb
  have hlx2 := nd_length_le_of ha.dg
  have hly := nd_length_le_of hb.dg
  have hra := ha.cutND
  have hrb := hb.cutND
  have hbm := hb.cm
  have hbl := hb.le
  obtain ⟨us, hus⟩ : ∃ us, us = nd (val xs) := ⟨_, rfl⟩
  obtain ⟨vs, hvs⟩ : ∃ vs, vs = nd (val ys) := ⟨_, rfl⟩
  have hvx : val us = val xs := by rw [hus, val_nd]
  have hvy : val vs = val ys := by rw [hvs, val_nd]
  have hlen : val ys ≤ val xs → vs.length ≤ us.length := by rw [hus, hvs]; exact nd_length_mono
  have hnv : nrm vs := by rw [hvs]; exact nrm_nd _
  have HU := hid (show nd (val us) = us by rw [hus, val_nd])
  rw [← hus] at hcx hlx2 hra
  rw [← hvs] at hcy hly hrb
  rw [← hvx, ← hvy]
  rw [← hvx, ← hvy] at hlen
  rw [← hvy] at h0
  clear hus hvs hvx hvy ha hb
  have hvl : vs.length ≠ 0 := by
    intro h; apply h0; rw [List.eq_nil_of_length_eq_zero h]; rfl
  have hb0 : ((vs.length : Int) == 0) = false := beq_eq_false_iff_ne.2 (by omega)
  have hcmp := compare_any aa ab ca cb us vs w hra hrb
  obtain ⟨r, hr⟩ : ∃ r, r = cmpN (val us) (val vs) := ⟨_, rfl⟩
  rw [← hr] at hcmp
  have hrn : r < 0 ↔ val us < val vs := by rw [hr]; exact cmpN_neg
  clear hr
  by_cases hlt : val us < val vs
  · have hr0 : r < 0 := hrn.2 hlt
    have HQ := hid (And.intro (Nat.div_eq_of_lt hlt) (Nat.mod_eq_of_lt hlt))
    have hcl := fun q => clone_any aa ca us (w.drewN q) (hra.drewN q) (by omega)
    clear hrn hlt hlen h0 hnv
    go_enter Tryd.func29, Tryd.ntmps29
    go_wp2_with fail
    refine hcx.mono ?_
    rintro e w' ⟨rfl, rfl⟩
    go_wp2_with fail
    refine hcy.mono ?_
    rintro e w' ⟨rfl, rfl⟩
    go_wp2_with fail
    refine hcmp.mono ?_
    rintro e w' ⟨rfl, q, rfl⟩
    go_wp2_with fail
    refine (hcl q).mono ?_
    rintro e w1 ⟨ac, cc, rfl, hown, hbel⟩
    go_wp2
    go_ret3
    rw [HQ.out.1, HQ.out.2, nd_zero, HU.out]
    exact ⟨none, 0, _, _, rfl, Own.nil _ _, hown, (below_drewN w q).trans hbel⟩
  · have hr0 : ¬ r < 0 := fun h => hlt (hrn.1 h)
    have hll := hlen (by omega)
    clear hrn hlt hlen
    by_cases h1 : vs.length = 1
    · have hb1 : ((vs.length : Int) == 1) = true := by simp [h1]
      obtain ⟨d, hd⟩ := List.length_eq_one_iff.1 h1
      have hdl : d < 4294967296 := by have := hrb.dg; rw [hd] at this; exact (wf_cons.1 this).1
      have hdv : val vs = d := by rw [hd]; simp [val]
      rcases hrb.lies with h2 | ⟨b2, o2, rfl, hc2⟩
      · rw [h2] at h1; simp at h1
      have hc := hc2 0 (by omega)
      rw [hd] at hc
      simp only [List.getD_cons_zero, Nat.add_zero] at hc
      have hcl := fun q => clone_any aa ca us (w.drewN q) (hra.drewN q) (by omega)
      rw [hdv] at h0 ⊢
      have hux := hra.dg
      have hcw := hb1
      have hbw : b2 < w.heap.size := lt_of_cell hc
      clear h1 hd hdv hc2 hnv hra hrb
      go_enter Tryd.func29, Tryd.ntmps29
      go_wp2_with fail
      refine hcx.mono ?_
      rintro e w' ⟨rfl, rfl⟩
      go_wp2_with fail
      refine hcy.mono ?_
      rintro e w' ⟨rfl, rfl⟩
      go_wp2_with fail
      refine hcmp.mono ?_
      rintro e w' ⟨rfl, q, rfl⟩
      go_wp2_with fail
      refine (hcl q).mono ?_
      rintro e w1 ⟨ac, cc, rfl, hown, hbel⟩
      have hown : Own w.heap.size w1 ac cc us := hown
      have hb1 : Below w.heap.size w w1 := (below_drewN w q).trans hbel
      have hc1 : w1.cell? ⟨b2, o2, none⟩ = some (.int .u32 (d : Int)) := by rw [hb1.cell (p := ⟨b2, o2, none⟩) hbw]; exact hc
      obtain ⟨g, g1, g2, g3, g4⟩ := hown.inplace hb1.size
      have hdb := divideBy_any ac g 0 cc d us w1 g1 g3 hux (by omega) hdl (by omega)
      have hown2 := g4 (dig us.length (val us / d)) (length_dig _ _) (wf_dig _ _)
      have hb2 := below_put hb1 g2 0 (dig us.length (val us / d))
      have hvq : val (dig us.length (val us / d)) = val us / d := by
        rw [val_dig, Nat.mod_eq_of_lt (Nat.lt_of_le_of_lt (Nat.div_le_self _ _) (val_lt hux))]
      have hcq := fun W (hW : Own w.heap.size W ac cc (dig us.length (val us / d))) => cut_any _ _ _ _ hW.rd
      simp only [length_dig, hvq] at hcq
      have hown3 := hown2.cutND
      rw [hvq] at hown3
      have hrl : val us % d < 4294967296 := Nat.lt_of_lt_of_le (Nat.mod_lt _ (by omega)) (by omega)
      have HCQ := hid (hcq _ hown2)
      obtain ⟨rr, hrr⟩ : ∃ rr, rr = val us % d := ⟨_, rfl⟩
      rw [← hrr] at hrl hdb
      have HRR := hid hrr
      clear hcl hbel hc g1 g3 g4 hcq hown hrr
      go_wp2_with fail
      refine hdb.mono ?_
      rintro e w' ⟨rfl, rfl⟩
      clear hdb
      generalize wput w1 g 0 (dig us.length (val us / d)) = w2 at hown2 hb2 hown3 HCQ ⊢
      go_wp2_with fail
      refine HCQ.out.mono ?_
      rintro e w' ⟨rfl, rfl⟩
      have hone := Own.one w2 w.heap.size rr hb2.size hrl
      have hco := cut_any _ _ _ _ hone.rd
      rw [show val [rr] = rr by simp [val]] at hco
      simp only [List.length_singleton] at hco
      have hone2 := hone.cutND
      rw [show val [rr] = rr by simp [val]] at hone2
      have hb3 := hb2.trans ((below_alloc w2 (.cells #[.int .u32 (rr : Int)] 61)).mono hb2.size)
      have hown4 := hown3.below (below_alloc w2 (.cells #[.int .u32 (rr : Int)] 61))
      have H4 := hid (And.intro hone2 (And.intro hb3 hown4))
      clear hone hone2 hb3 hown4
      go_wp2_with fail
      refine hco.mono ?_
      rintro e w' ⟨rfl, rfl⟩
      go_wp2
      go_ret3
      rw [← HRR.out]
      exact ⟨_, _, _, _, rfl, H4.out.2.2, H4.out.1, H4.out.2.1⟩
    · have hb1 : ((vs.length : Int) == 1) = false := beq_eq_false_iff_ne.2 (by omega)
      obtain ⟨n, hn⟩ : ∃ n, vs.length = n + 2 := ⟨vs.length - 2, by omega⟩
      have htop : vs.getD (n + 1) 0 ≠ 0 := by
        rcases hnv with h | h
        · rw [h] at hn; simp at hn
        · rwa [hn] at h
      have hld := fun q => longDivision_any aa ab ca cb n us vs (w.drewN q) (hra.drewN q) (hrb.drewN q) hn htop hll (by omega)
      clear hn htop hnv hra hrb
      go_enter Tryd.func29, Tryd.ntmps29
      go_wp2_with fail
      refine hcx.mono ?_
      rintro e w' ⟨rfl, rfl⟩
      go_wp2_with fail
      refine hcy.mono ?_
      rintro e w' ⟨rfl, rfl⟩
      go_wp2_with fail
      refine hcmp.mono ?_
      rintro e w' ⟨rfl, q, rfl⟩
      go_wp2_with fail
      refine (hld q).mono ?_
      rintro e w1 ⟨ax, cx, ay, cy, rfl, h5, h6, h7⟩
      go_wp2
      go_ret3
      exact ⟨_, _, _, _, rfl, h5, h6, (below_drewN w q).trans h7⟩
end Go.Proofs.YtbcaigpdckencaaDoor
