/- Walks: Add, Sub. -/
import Derived.Test.YtbcaigpdckencaaDoorCmp
namespace Go.Proofs.YtbcaigpdckencaaDoor
open Go.RowKit Num

set_option maxRecDepth 100000 in
set_option maxHeartbeats 800000 in
theorem add_any (aa ab : Option Addr) (ca cb : Nat) (xs ys : List Nat) (w : World) (ha : Rd w aa ca xs) (hb : Rd w ab cb ys) (hl1 : xs.length ≤ 17592186044416) (hl2 : ys.length ≤ 17592186044416) :
    Calls Tryd.prog 51 #[.slice aa xs.length ca, .slice ab ys.length cb] w (RetOwn w.heap.size (nd (val xs + val ys)) w) := by
  have hcx := cut_any aa ca xs w ha
  have hcy := cut_any ab cb ys w hb
  have hlx := nd_length_le_of ha.dg
  have hly := nd_length_le_of hb.dg
  have hra := ha.cutND
  have hrb := hb.cutND
  obtain ⟨us, hus⟩ : ∃ us, us = nd (val xs) := ⟨_, rfl⟩
  obtain ⟨vs, hvs⟩ : ∃ vs, vs = nd (val ys) := ⟨_, rfl⟩
  have hvx : val us = val xs := by rw [hus, val_nd]
  have hvy : val vs = val ys := by rw [hvs, val_nd]
  rw [← hus] at hcx hlx hra
  rw [← hvs] at hcy hly hrb
  have hux := hra.dg
  have huy := hrb.dg
  clear hus hvs ha hb
  by_cases hlen : us.length < vs.length
  · have HSUM := hid (show val vs + val us = val xs + val ys by omega)
    have HLT := hid (show val vs + val us < 4294967296 ^ (vs.length + 1) by
      have h1 := val_lt hux
      have h2 := val_lt huy
      have h3 := Nat.pow_le_pow_right (show 0 < 4294967296 by omega) (Nat.le_of_lt hlen)
      rw [Nat.pow_succ]; omega)
    clear hvx hvy

    have hmk : ∀ w1 : World, Below w.heap.size w w1 → Rd w1 ab cb vs ∧ Rd w1 aa ca us := fun w1 hb => ⟨hrb.below hb, hra.below hb⟩
    go_enter Tryd.func51, Tryd.ntmps51
    go_wp2_with fail
    refine hcx.mono ?_
    rintro e w' ⟨rfl, rfl⟩
    go_wp2_with fail
    refine hcy.mono ?_
    rintro e w' ⟨rfl, rfl⟩
    go_wp2_with (at_make; refine wp_make _ rfl _ rfl w.heap.size (vs.length + 1) _ rfl (by omega) (by omega) (Nat.le_refl _) ?_; intro w1 hown1 hbel1 hsz1)
    have hrr := hmk w1 hbel1
    obtain ⟨cur, hcur, hcl⟩ := hown1.row
    have hown2 := hown1.copied (ys := vs) (by omega) hrr.1.dg
    have hb2 := below_put hbel1 (Nat.le_refl w.heap.size) 0 vs
    have hoff : Off w.heap.size aa us := hra.lt_size (Nat.le_refl _)
    have hrb2 := hrr.2.put hoff 0 vs
    have HC1 := hid hcur
    have HC2 := hid hcl
    clear hcur hcl
    rw [run_copy w1 _ w.heap.size 0 _ _ _ _ _ (List.replicate (vs.length + 1) 0) vs (by simp) rfl cur _ HC1.out (by have := HC2.out; omega) hrr.1 (by simp)]
    generalize wput w1 w.heap.size 0 vs = w2 at hown2 hb2 hrb2 ⊢
    go_wp2_with fail
    rw [show vs.length + 1 - vs.length = 1 by omega] at hown2
    have hlen2 : (vs ++ List.replicate 1 0).length = vs.length + 1 := by simp
    have hinc := increase_any (some ⟨w.heap.size, 0, none⟩) aa w.heap.size 0 (vs.length + 1) ca (vs ++ List.replicate 1 0) us w2 (fun _ => rfl) hown2.wr hown2.2 hrb2 hoff (by omega) (by omega)
    rw [hlen2] at hinc
    refine hinc.mono ?_
    rintro e w' ⟨rfl, rfl⟩
    have hown3 := hown2.put (ys := dig (vs.length + 1) (val (vs ++ List.replicate 1 0) + val us)) (by rw [length_dig, hlen2]) (wf_dig _ _)
    have hb3 := below_put hb2 (Nat.le_refl w.heap.size) 0 (dig (vs.length + 1) (val (vs ++ List.replicate 1 0) + val us))
    have hv : val (dig (vs.length + 1) (val (vs ++ List.replicate 1 0) + val us)) = val xs + val ys := by
      rw [val_dig, val_append, val_replicate, Nat.mul_zero, Nat.add_zero, Nat.mod_eq_of_lt HLT.out, HSUM.out]
    generalize wput w2 w.heap.size 0 (dig (vs.length + 1) (val (vs ++ List.replicate 1 0) + val us)) = w3 at hown3 hb3 ⊢
    have hcut := cut_any _ _ _ _ hown3.rd
    rw [length_dig] at hcut
    have hown4 := hown3.cutND
    rw [hv] at hcut hown4
    go_wp2_with fail
    refine hcut.mono ?_
    rintro e w' ⟨rfl, rfl⟩
    go_wp2
    go_ret
    exact ⟨_, _, rfl, hown4, hb3⟩
  · have HSUM := hid (show val us + val vs = val xs + val ys by omega)
    have HLT := hid (show val us + val vs < 4294967296 ^ (us.length + 1) by
      have h1 := val_lt hux
      have h2 := val_lt huy
      have h3 := Nat.pow_le_pow_right (show 0 < 4294967296 by omega) (Nat.le_of_not_lt hlen)
      rw [Nat.pow_succ]; omega)
    clear hvx hvy

    have hmk : ∀ w1 : World, Below w.heap.size w w1 → Rd w1 aa ca us ∧ Rd w1 ab cb vs := fun w1 hb => ⟨hra.below hb, hrb.below hb⟩
    go_enter Tryd.func51, Tryd.ntmps51
    go_wp2_with fail
    refine hcx.mono ?_
    rintro e w' ⟨rfl, rfl⟩
    go_wp2_with fail
    refine hcy.mono ?_
    rintro e w' ⟨rfl, rfl⟩
    go_wp2_with (at_make; refine wp_make _ rfl _ rfl w.heap.size (us.length + 1) _ rfl (by omega) (by omega) (Nat.le_refl _) ?_; intro w1 hown1 hbel1 hsz1)
    have hrr := hmk w1 hbel1
    obtain ⟨cur, hcur, hcl⟩ := hown1.row
    have hown2 := hown1.copied (ys := us) (by omega) hrr.1.dg
    have hb2 := below_put hbel1 (Nat.le_refl w.heap.size) 0 us
    have hoff : Off w.heap.size ab vs := hrb.lt_size (Nat.le_refl _)
    have hrb2 := hrr.2.put hoff 0 us
    have HC1 := hid hcur
    have HC2 := hid hcl
    clear hcur hcl
    rw [run_copy w1 _ w.heap.size 0 _ _ _ _ _ (List.replicate (us.length + 1) 0) us (by simp) rfl cur _ HC1.out (by have := HC2.out; omega) hrr.1 (by simp)]
    generalize wput w1 w.heap.size 0 us = w2 at hown2 hb2 hrb2 ⊢
    go_wp2_with fail
    rw [show us.length + 1 - us.length = 1 by omega] at hown2
    have hlen2 : (us ++ List.replicate 1 0).length = us.length + 1 := by simp
    have hinc := increase_any (some ⟨w.heap.size, 0, none⟩) ab w.heap.size 0 (us.length + 1) cb (us ++ List.replicate 1 0) vs w2 (fun _ => rfl) hown2.wr hown2.2 hrb2 hoff (by omega) (by omega)
    rw [hlen2] at hinc
    refine hinc.mono ?_
    rintro e w' ⟨rfl, rfl⟩
    have hown3 := hown2.put (ys := dig (us.length + 1) (val (us ++ List.replicate 1 0) + val vs)) (by rw [length_dig, hlen2]) (wf_dig _ _)
    have hb3 := below_put hb2 (Nat.le_refl w.heap.size) 0 (dig (us.length + 1) (val (us ++ List.replicate 1 0) + val vs))
    have hv : val (dig (us.length + 1) (val (us ++ List.replicate 1 0) + val vs)) = val xs + val ys := by
      rw [val_dig, val_append, val_replicate, Nat.mul_zero, Nat.add_zero, Nat.mod_eq_of_lt HLT.out, HSUM.out]
    generalize wput w2 w.heap.size 0 (dig (us.length + 1) (val (us ++ List.replicate 1 0) + val vs)) = w3 at hown3 hb3 ⊢
    have hcut := cut_any _ _ _ _ hown3.rd
    rw [length_dig] at hcut
    have hown4 := hown3.cutND
    rw [hv] at hcut hown4
    go_wp2_with fail
    refine hcut.mono ?_
    rintro e w' ⟨rfl, rfl⟩
    go_wp2
    go_ret
    exact ⟨_, _, rfl, hown4, hb3⟩

end Go.Proofs.YtbcaigpdckencaaDoor
