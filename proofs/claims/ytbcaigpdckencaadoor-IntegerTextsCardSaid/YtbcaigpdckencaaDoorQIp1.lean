/- Integers' Parse, every text; the reference's. -/
import Derived.Test.YtbcaigpdckencaaDoorQIp0

namespace Go.Proofs.YtbcaigpdckencaaDoor
open Go.RowKit Num

theorem head_byte (bs : List Nat) (neg : Bool) (ts : List Nat) (h : Cuts bs neg ts) (h0 : 0 < (bstr bs).size) (hb : ∀ b ∈ bs, b < 256) : ((((bstr bs)[0]'h0).toNat : Int) == 45) = neg := by
  rw [bstr_get _ hb]
  rcases h with ⟨rfl, rfl⟩ | ⟨rfl, rfl, h2⟩
  · rfl
  · rw [beq_eq_false_iff_ne]
    intro h3
    cases bs with
    | nil => simp [bstr_size] at h0
    | cons b l => simp at h3; exact h2 (by simp; omega)
theorem iv_keep {neg : Bool} {V : Nat} (h : ¬ (neg = true ∧ V = 0)) : decide (iv neg V < 0) = neg := by
  rw [iv_neg]
  cases neg with
  | false => rfl
  | true => simp; exact Nat.pos_of_ne_zero fun h2 => h ⟨rfl, h2⟩

set_option maxRecDepth 1000000 in
set_option maxHeartbeats 1600000 in
theorem iparse_any (bs : List Nat) (w : World) (z er : Int) (hb : ∀ b ∈ bs, b < 256) (hm : bs.length ≤ 9223372036854775807) (h : IParsed bs z er) :
    Calls Tryd.prog 45 #[.string (bstr bs)] w (RetIParse z er w) := by
  have hsz : (bstr bs).size = bs.length := bstr_size bs
  have hb1 := below_alloc w (.cells #[.bool false, .slice none 0 0] 43)
  have hz1 : (w.alloc (.cells #[.bool false, .slice none 0 0] 43)).heap.size = w.heap.size + 1 := by simp
  have hP := heap_alloc_at w (.cells #[.bool false, .slice none 0 0] 43)
  rcases h with ⟨h1, rfl, rfl⟩ | ⟨h1, neg, ts, V, e, hc, hp, h2⟩
  · have hi : (bs.length : Int) > 4096 := by omega
    have H := hid (below_alloc w (.cells #[.bool false, .slice none 0 0] 43))
    clear hb hb1 hz1 hP
    go_enter Tryd.func45, Tryd.ntmps45
    go_wp2
    refine bodyPost_ret (v := .tuple #[.agg #[.bool false, .slice none 0 0], .int .i64 4]) (by simp [results, Tryd.results45, go_sem]) rfl ?_
    exact ⟨none, 0, by rw [show nd (0 : Int).natAbs = [] from nd_zero]; rfl, by rw [show nd (0 : Int).natAbs = [] from nd_zero]; exact Own.nil _ _, H.out⟩
  have hi : ¬ ((bs.length : Int) > 4096) := by omega
  have htl := cuts_len hc
  have HPZ := hid (And.intro hb1 (And.intro hz1 hP))
  have hcp := parse_any ts (w.alloc (.cells #[.bool false, .slice none 0 0] 43)) V e (fun x hx => hb x (htl.2 x hx)) (by omega) hp
  have hcut := cutMinus_any bs (w.alloc (.cells #[.bool false, .slice none 0 0] 43)) neg ts hb hm hc
  rcases h2 with ⟨rfl, rfl, rfl⟩ | ⟨rfl, rfl, rfl, rfl, rfl⟩ | ⟨rfl, h2, rfl, rfl⟩
  · cases neg
    · skip
      clear hb hc hp htl hb1 hz1 hP
      go_enter Tryd.func45, Tryd.ntmps45
      go_wp2_with fail
      refine hcut.mono ?_
      rintro e w' ⟨rfl, rfl⟩
      clear hcut
      go_wp2_with fail
      refine hcp.mono ?_
      rintro e w2 ⟨a2, c2, rfl, o2, b2⟩
      obtain ⟨k0, k1, k2, k3⟩ := pair_cells HPZ.out.2.2 b2
      have hb02 := HPZ.out.1.trans (b2.mono HPZ.out.1.size)
      have HO := hid (And.intro o2 (And.intro b2 hb02))
      clear hcp o2 b2 hb02
      go_wp2
      have hz := HPZ.out.2.1
      have hs := HO.out.2.1.size
      refine bodyPost_ret (v := .tuple #[.agg #[.bool false, .slice none 0 0], .int .i64 6]) (by simp [results, Tryd.results45, go_sem, k0, k1]) rfl ?_
      exact RetIParse.fin0 (by omega) HO.out.2.2 (Nat.le_refl _) _ _
    · skip
      clear hb hc hp htl hb1 hz1 hP
      go_enter Tryd.func45, Tryd.ntmps45
      go_wp2_with fail
      refine hcut.mono ?_
      rintro e w' ⟨rfl, rfl⟩
      clear hcut
      go_wp2_with fail
      refine hcp.mono ?_
      rintro e w2 ⟨a2, c2, rfl, o2, b2⟩
      obtain ⟨k0, k1, k2, k3⟩ := pair_cells HPZ.out.2.2 b2
      have hb02 := HPZ.out.1.trans (b2.mono HPZ.out.1.size)
      have HO := hid (And.intro o2 (And.intro b2 hb02))
      clear hcp o2 b2 hb02
      go_wp2
      have hz := HPZ.out.2.1
      have hs := HO.out.2.1.size
      refine bodyPost_ret (v := .tuple #[.agg #[.bool false, .slice none 0 0], .int .i64 6]) (by simp [results, Tryd.results45, go_sem, k0, k1]) rfl ?_
      exact RetIParse.fin0 (by omega) HO.out.2.2 (Nat.le_refl _) _ _
  · have hn0 : (((nd 0).length : Int) == 0) = true := by rw [nd_zero]; rfl
    clear hb hc hp htl hb1 hz1 hP
    go_enter Tryd.func45, Tryd.ntmps45
    go_wp2_with fail
    refine hcut.mono ?_
    rintro e w' ⟨rfl, rfl⟩
    clear hcut
    go_wp2_with fail
    refine hcp.mono ?_
    rintro e w2 ⟨a2, c2, rfl, o2, b2⟩
    obtain ⟨k0, k1, k2, k3⟩ := pair_cells HPZ.out.2.2 b2
    have hb02 := HPZ.out.1.trans (b2.mono HPZ.out.1.size)
    have HO := hid (And.intro o2 (And.intro b2 hb02))
    clear hcp o2 b2 hb02
    go_wp2
    have hz := HPZ.out.2.1
    have hs := HO.out.2.1.size
    refine bodyPost_ret (v := .tuple #[.agg #[.bool false, .slice none 0 0], .int .i64 6]) (by simp [results, Tryd.results45, go_sem, k0, k1]) rfl ?_
    exact RetIParse.fin0 (by omega) HO.out.2.2 (Nat.le_refl _) _ _
  · have HK := hid (iv_keep h2)
    cases neg
    · clear h2
      clear hb hc hp htl hb1 hz1 hP
      go_enter Tryd.func45, Tryd.ntmps45
      go_wp2_with fail
      refine hcut.mono ?_
      rintro e w' ⟨rfl, rfl⟩
      clear hcut
      go_wp2_with fail
      refine hcp.mono ?_
      rintro e w2 ⟨a2, c2, rfl, o2, b2⟩
      obtain ⟨k0, k1, k2, k3⟩ := pair_cells HPZ.out.2.2 b2
      have hb02 := HPZ.out.1.trans (b2.mono HPZ.out.1.size)
      have HO := hid (And.intro o2 (And.intro b2 hb02))
      clear hcp o2 b2 hb02
      have hsg := signed_any _ false a2 c2 V w2 HO.out.1
      go_wp2_with fail
      refine hsg.mono ?_
      rintro e w3 ⟨a3, c3, rfl, o3, b3⟩
      have b13 := HO.out.2.1.trans (b3.mono HO.out.2.1.size)
      clear k0 k1 k2 k3 hsg
      obtain ⟨k0, k1, k2, k3⟩ := pair_cells HPZ.out.2.2 b13
      have H3 := hid (And.intro o3 (HPZ.out.1.trans (b13.mono HPZ.out.1.size)))
      clear o3 b3 b13
      go_wp2
      have hz := HPZ.out.2.1
      refine bodyPost_ret (v := .tuple #[.agg #[.bool (decide (iv false V < 0)), .slice a3 (nd (iv false V).natAbs).length c3], .int .i64 0]) (by simp [results, Tryd.results45, go_sem, k0, k1]) rfl ?_
      exact RetIParse.fin H3.out.1 (by omega) H3.out.2 (Nat.le_refl _) _ _
    · have hv : V ≠ 0 := fun h => h2 ⟨rfl, h⟩
      have hn0 : (((nd V).length : Int) == 0) = false := by
        rw [beq_eq_false_iff_ne]
        intro h
        exact hv (nd_eq_nil.1 (List.eq_nil_of_length_eq_zero (by omega)))
      clear h2 hv
      clear hb hc hp htl hb1 hz1 hP
      go_enter Tryd.func45, Tryd.ntmps45
      go_wp2_with fail
      refine hcut.mono ?_
      rintro e w' ⟨rfl, rfl⟩
      clear hcut
      go_wp2_with fail
      refine hcp.mono ?_
      rintro e w2 ⟨a2, c2, rfl, o2, b2⟩
      obtain ⟨k0, k1, k2, k3⟩ := pair_cells HPZ.out.2.2 b2
      have hb02 := HPZ.out.1.trans (b2.mono HPZ.out.1.size)
      have HO := hid (And.intro o2 (And.intro b2 hb02))
      clear hcp o2 b2 hb02
      have hsg := signed_any _ true a2 c2 V w2 HO.out.1
      go_wp2_with fail
      refine hsg.mono ?_
      rintro e w3 ⟨a3, c3, rfl, o3, b3⟩
      have b13 := HO.out.2.1.trans (b3.mono HO.out.2.1.size)
      clear k0 k1 k2 k3 hsg
      obtain ⟨k0, k1, k2, k3⟩ := pair_cells HPZ.out.2.2 b13
      have H3 := hid (And.intro o3 (HPZ.out.1.trans (b13.mono HPZ.out.1.size)))
      clear o3 b3 b13
      go_wp2
      have hz := HPZ.out.2.1
      refine bodyPost_ret (v := .tuple #[.agg #[.bool (decide (iv true V < 0)), .slice a3 (nd (iv true V).natAbs).length c3], .int .i64 0]) (by simp [results, Tryd.results45, go_sem, k0, k1]) rfl ?_
      exact RetIParse.fin H3.out.1 (by omega) H3.out.2 (Nat.le_refl _) _ _

set_option maxRecDepth 1000000 in
set_option maxHeartbeats 1600000 in
theorem riparse_any (bs : List Nat) (w : World) (z er : Int) (hb : ∀ b ∈ bs, b < 256) (hm : bs.length ≤ 9223372036854775807) (h : IParsed bs z er) :
    Calls Tryd.prog 46 #[.string (bstr bs)] w (RetIParse z er w) := by
  have hsz : (bstr bs).size = bs.length := bstr_size bs
  have hb1 := below_alloc w (.cells #[.bool false, .slice none 0 0] 43)
  have hz1 : (w.alloc (.cells #[.bool false, .slice none 0 0] 43)).heap.size = w.heap.size + 1 := by simp
  have hP := heap_alloc_at w (.cells #[.bool false, .slice none 0 0] 43)
  rcases h with ⟨h1, rfl, rfl⟩ | ⟨h1, neg, ts, V, e, hc, hp, h2⟩
  · have hi : (bs.length : Int) > 4096 := by omega
    have H := hid (below_alloc w (.cells #[.bool false, .slice none 0 0] 43))
    clear hb hb1 hz1 hP
    go_enter Tryd.func46, Tryd.ntmps46
    go_wp2
    refine bodyPost_ret (v := .tuple #[.agg #[.bool false, .slice none 0 0], .int .i64 4]) (by simp [results, Tryd.results46, go_sem]) rfl ?_
    exact ⟨none, 0, by rw [show nd (0 : Int).natAbs = [] from nd_zero]; rfl, by rw [show nd (0 : Int).natAbs = [] from nd_zero]; exact Own.nil _ _, H.out⟩
  have hi : ¬ ((bs.length : Int) > 4096) := by omega
  have htl := cuts_len hc
  have HPZ := hid (And.intro hb1 (And.intro hz1 hP))
  have hcp := rparse_any ts (w.alloc (.cells #[.bool false, .slice none 0 0] 43)) V e (fun x hx => hb x (htl.2 x hx)) (by omega) hp
  rcases h2 with ⟨rfl, rfl, rfl⟩ | ⟨rfl, rfl, rfl, rfl, rfl⟩ | ⟨rfl, h2, rfl, rfl⟩
  · cases neg
    · skip
      have hts : bs = ts := by
        rcases hc with ⟨h9, _⟩ | ⟨_, h9, _⟩
        · exact absurd h9 (by simp)
        · exact h9
      subst hts
      by_cases hn : bs.length = 0
      · have hg : ¬ ((bs.length : Int) > 0) := by omega
        clear hb hc hp htl hb1 hz1 hP hn
        go_enter Tryd.func46, Tryd.ntmps46
        go_wp2_with fail
        refine hcp.mono ?_
        rintro e w2 ⟨a2, c2, rfl, o2, b2⟩
        obtain ⟨k0, k1, k2, k3⟩ := pair_cells HPZ.out.2.2 b2
        have hb02 := HPZ.out.1.trans (b2.mono HPZ.out.1.size)
        have HO := hid (And.intro o2 (And.intro b2 hb02))
        clear hcp o2 b2 hb02
        go_wp2
        have hz := HPZ.out.2.1
        have hs := HO.out.2.1.size
        refine bodyPost_ret (v := .tuple #[.agg #[.bool false, .slice none 0 0], .int .i64 6]) (by simp [results, Tryd.results46, go_sem, k0, k1]) rfl ?_
        exact RetIParse.fin0 (by omega) HO.out.2.2 (Nat.le_refl _) _ _
      · have hg : (bs.length : Int) > 0 := by omega
        have hp0 : 0 < (bstr bs).size := by rw [hsz]; omega
        have h45 := head_byte bs false bs hc hp0 hb
        clear hb hc hp htl hb1 hz1 hP hn
        go_enter Tryd.func46, Tryd.ntmps46
        go_wp2_with fail
        refine hcp.mono ?_
        rintro e w2 ⟨a2, c2, rfl, o2, b2⟩
        obtain ⟨k0, k1, k2, k3⟩ := pair_cells HPZ.out.2.2 b2
        have hb02 := HPZ.out.1.trans (b2.mono HPZ.out.1.size)
        have HO := hid (And.intro o2 (And.intro b2 hb02))
        clear hcp o2 b2 hb02
        go_wp2
        have hz := HPZ.out.2.1
        have hs := HO.out.2.1.size
        refine bodyPost_ret (v := .tuple #[.agg #[.bool false, .slice none 0 0], .int .i64 6]) (by simp [results, Tryd.results46, go_sem, k0, k1]) rfl ?_
        exact RetIParse.fin0 (by omega) HO.out.2.2 (Nat.le_refl _) _ _
    · skip
      have h45 : ∀ h0, ((((bstr bs)[0]'h0).toNat : Int) == 45) = true := fun h0 => head_byte bs true ts hc h0 hb
      have hbt : bs = 45 :: ts := by
        rcases hc with ⟨_, h9⟩ | ⟨h9, _⟩
        · exact h9
        · exact absurd h9 (by simp)
      clear hc
      subst hbt
      have hl : (45 :: ts).length = ts.length + 1 := rfl
      rw [hl] at hsz hm hi
      have ht := bstr_tail 45 ts
      rw [hsz] at ht
      have hp0 : 0 < (bstr (45 :: ts)).size := by rw [hsz]; omega
      replace h45 := h45 hp0
      have hg : (0 : Int) < (ts.length : Int) + 1 := by omega
      have hg2 : (ts.length : Int) + 1 > 0 := by omega
      have hg3 : (1 : Int) ≤ (ts.length : Int) + 1 := by omega
      clear hb hp htl hb1 hz1 hP hl
      go_enter Tryd.func46, Tryd.ntmps46
      go_wp2_with fail
      refine hcp.mono ?_
      rintro e w2 ⟨a2, c2, rfl, o2, b2⟩
      obtain ⟨k0, k1, k2, k3⟩ := pair_cells HPZ.out.2.2 b2
      have hb02 := HPZ.out.1.trans (b2.mono HPZ.out.1.size)
      have HO := hid (And.intro o2 (And.intro b2 hb02))
      clear hcp o2 b2 hb02
      go_wp2
      have hz := HPZ.out.2.1
      have hs := HO.out.2.1.size
      refine bodyPost_ret (v := .tuple #[.agg #[.bool false, .slice none 0 0], .int .i64 6]) (by simp [results, Tryd.results46, go_sem, k0, k1]) rfl ?_
      exact RetIParse.fin0 (by omega) HO.out.2.2 (Nat.le_refl _) _ _
  · have hn0 : (((nd 0).length : Int) == 0) = true := by rw [nd_zero]; rfl
    have h45 : ∀ h0, ((((bstr bs)[0]'h0).toNat : Int) == 45) = true := fun h0 => head_byte bs true ts hc h0 hb
    have hbt : bs = 45 :: ts := by
      rcases hc with ⟨_, h9⟩ | ⟨h9, _⟩
      · exact h9
      · exact absurd h9 (by simp)
    clear hc
    subst hbt
    have hl : (45 :: ts).length = ts.length + 1 := rfl
    rw [hl] at hsz hm hi
    have ht := bstr_tail 45 ts
    rw [hsz] at ht
    have hp0 : 0 < (bstr (45 :: ts)).size := by rw [hsz]; omega
    replace h45 := h45 hp0
    have hg : (0 : Int) < (ts.length : Int) + 1 := by omega
    have hg2 : (ts.length : Int) + 1 > 0 := by omega
    have hg3 : (1 : Int) ≤ (ts.length : Int) + 1 := by omega
    clear hb hp htl hb1 hz1 hP hl
    go_enter Tryd.func46, Tryd.ntmps46
    go_wp2_with fail
    refine hcp.mono ?_
    rintro e w2 ⟨a2, c2, rfl, o2, b2⟩
    obtain ⟨k0, k1, k2, k3⟩ := pair_cells HPZ.out.2.2 b2
    have hb02 := HPZ.out.1.trans (b2.mono HPZ.out.1.size)
    have HO := hid (And.intro o2 (And.intro b2 hb02))
    clear hcp o2 b2 hb02
    go_wp2
    have hz := HPZ.out.2.1
    have hs := HO.out.2.1.size
    refine bodyPost_ret (v := .tuple #[.agg #[.bool false, .slice none 0 0], .int .i64 6]) (by simp [results, Tryd.results46, go_sem, k0, k1]) rfl ?_
    exact RetIParse.fin0 (by omega) HO.out.2.2 (Nat.le_refl _) _ _
  · have HK := hid (iv_keep h2)
    cases neg
    · clear h2
      have hts : bs = ts := by
        rcases hc with ⟨h9, _⟩ | ⟨_, h9, _⟩
        · exact absurd h9 (by simp)
        · exact h9
      subst hts
      by_cases hn : bs.length = 0
      · have hg : ¬ ((bs.length : Int) > 0) := by omega
        clear hb hc hp htl hb1 hz1 hP hn
        go_enter Tryd.func46, Tryd.ntmps46
        go_wp2_with fail
        refine hcp.mono ?_
        rintro e w2 ⟨a2, c2, rfl, o2, b2⟩
        obtain ⟨k0, k1, k2, k3⟩ := pair_cells HPZ.out.2.2 b2
        have hb02 := HPZ.out.1.trans (b2.mono HPZ.out.1.size)
        have HO := hid (And.intro o2 (And.intro b2 hb02))
        clear hcp o2 b2 hb02
        go_wp2
        have hz := HPZ.out.2.1
        refine bodyPost_ret (v := .tuple #[.agg #[.bool false, .slice a2 (nd V).length c2], .int .i64 0]) (by simp [results, Tryd.results46, go_sem, k0, k1]) rfl ?_
        have hf := RetIParse.fin (B := w.heap.size + 1) (g := w.heap.size) (c4 := c2) (z := iv false V) (er := 0) (w := w) (w4 := w2) (a4 := a2) (by rw [iv_abs, ← hz]; exact HO.out.1) (by omega) HO.out.2.2 (Nat.le_refl _) (.bool false) (.slice a2 (nd V).length c2)
        rw [HK.out, iv_abs] at hf
        exact hf
      · have hg : (bs.length : Int) > 0 := by omega
        have hp0 : 0 < (bstr bs).size := by rw [hsz]; omega
        have h45 := head_byte bs false bs hc hp0 hb
        clear hb hc hp htl hb1 hz1 hP hn
        go_enter Tryd.func46, Tryd.ntmps46
        go_wp2_with fail
        refine hcp.mono ?_
        rintro e w2 ⟨a2, c2, rfl, o2, b2⟩
        obtain ⟨k0, k1, k2, k3⟩ := pair_cells HPZ.out.2.2 b2
        have hb02 := HPZ.out.1.trans (b2.mono HPZ.out.1.size)
        have HO := hid (And.intro o2 (And.intro b2 hb02))
        clear hcp o2 b2 hb02
        go_wp2
        have hz := HPZ.out.2.1
        refine bodyPost_ret (v := .tuple #[.agg #[.bool false, .slice a2 (nd V).length c2], .int .i64 0]) (by simp [results, Tryd.results46, go_sem, k0, k1]) rfl ?_
        have hf := RetIParse.fin (B := w.heap.size + 1) (g := w.heap.size) (c4 := c2) (z := iv false V) (er := 0) (w := w) (w4 := w2) (a4 := a2) (by rw [iv_abs, ← hz]; exact HO.out.1) (by omega) HO.out.2.2 (Nat.le_refl _) (.bool false) (.slice a2 (nd V).length c2)
        rw [HK.out, iv_abs] at hf
        exact hf
    · have hv : V ≠ 0 := fun h => h2 ⟨rfl, h⟩
      have hn0 : (((nd V).length : Int) == 0) = false := by
        rw [beq_eq_false_iff_ne]
        intro h
        exact hv (nd_eq_nil.1 (List.eq_nil_of_length_eq_zero (by omega)))
      clear h2 hv
      have h45 : ∀ h0, ((((bstr bs)[0]'h0).toNat : Int) == 45) = true := fun h0 => head_byte bs true ts hc h0 hb
      have hbt : bs = 45 :: ts := by
        rcases hc with ⟨_, h9⟩ | ⟨h9, _⟩
        · exact h9
        · exact absurd h9 (by simp)
      clear hc
      subst hbt
      have hl : (45 :: ts).length = ts.length + 1 := rfl
      rw [hl] at hsz hm hi
      have ht := bstr_tail 45 ts
      rw [hsz] at ht
      have hp0 : 0 < (bstr (45 :: ts)).size := by rw [hsz]; omega
      replace h45 := h45 hp0
      have hg : (0 : Int) < (ts.length : Int) + 1 := by omega
      have hg2 : (ts.length : Int) + 1 > 0 := by omega
      have hg3 : (1 : Int) ≤ (ts.length : Int) + 1 := by omega
      clear hb hp htl hb1 hz1 hP hl
      go_enter Tryd.func46, Tryd.ntmps46
      go_wp2_with fail
      refine hcp.mono ?_
      rintro e w2 ⟨a2, c2, rfl, o2, b2⟩
      obtain ⟨k0, k1, k2, k3⟩ := pair_cells HPZ.out.2.2 b2
      have hb02 := HPZ.out.1.trans (b2.mono HPZ.out.1.size)
      have HO := hid (And.intro o2 (And.intro b2 hb02))
      clear hcp o2 b2 hb02
      go_wp2
      have hz := HPZ.out.2.1
      refine bodyPost_ret (v := .tuple #[.agg #[.bool true, .slice a2 (nd V).length c2], .int .i64 0]) (by simp [results, Tryd.results46, go_sem, k0, k1]) rfl ?_
      have hf := RetIParse.fin (B := w.heap.size + 1) (g := w.heap.size) (c4 := c2) (z := iv true V) (er := 0) (w := w) (w4 := w2) (a4 := a2) (by rw [iv_abs, ← hz]; exact HO.out.1) (by omega) HO.out.2.2 (Nat.le_refl _) (.bool true) (.slice a2 (nd V).length c2)
      rw [HK.out, iv_abs] at hf
      exact hf
end Go.Proofs.YtbcaigpdckencaaDoor
