/-  -/
import Derived.Test.YtcankknlbljicaaGreatDoorWf

set_option linter.unusedVariables false
set_option linter.unusedSimpArgs false
set_option linter.unusedSectionVars false
set_option maxRecDepth 100000
set_option maxHeartbeats 3200000

namespace Go.Proofs.YtcankknlbljicaaGreatDoor
open Go.RowKit Num

theorem reverse_any (B g c : Nat) (bs : List Nat) (w : World) (h : OwnB B w (some ⟨g, 0, none⟩) c bs) (hl : bs.length ≤ 9223372036854775807) :
  Calls Tryz.prog 158 #[.slice (some ⟨g, 0, none⟩) bs.length c] w (fun e w' => e = .returned (.tuple #[]) ∧ OwnB B w' (some ⟨g, 0, none⟩) c bs.reverse ∧ Below B w w') := by
 have hg := h.block.1
 go_enter Tryz.func158, Tryz.ntmps158
 go_wp2
 go_loopw [2, 3] (fun iv jv wr => ∃ (i : Nat) (l : List Nat), 2 * i ≤ bs.length + 1 ∧ iv = .int .i64 (i : Int) ∧ jv = .int .i64 ((bs.length : Int) - 1 - (i : Int)) ∧ Hid (revTo bs l i) ∧ OwnB B wr (some ⟨g, 0, none⟩) c l ∧ Below B w wr)
  (fun iv _ _ => bs.length - (intOf iv).toNat)
 case atStart => exact ⟨0, bs, by omega, rfl, by simp, ⟨rfl, fun t ht => by rw [if_neg (by omega)]⟩, h, Below.refl _ _⟩
 case round =>
  obtain ⟨i, l, hi, rfl, rfl, HR, hown, hbel⟩ := hrel
  have hll := HR.out.1
  by_cases hlt : 2 * i + 1 < bs.length
  ·obtain ⟨j, hj⟩ : ∃ j, i + j + 1 = bs.length := ⟨bs.length - 1 - i, by omega⟩
   have hji : ((bs.length : Int) - 1 - (i : Int)) = (j : Int) := by omega
   rw [hji]
   have c1 := hown.cell i (by omega)
   have c2 := hown.cell j (by omega)
   have f1 := hown.frozen i
   have f2 := hown.frozen j
   obtain ⟨x, hx⟩ : ∃ x, x = l.getD i 0 := ⟨_, rfl⟩
   obtain ⟨y, hy⟩ : ∃ y, y = l.getD j 0 := ⟨_, rfl⟩
   rw [← hx] at c1
   rw [← hy] at c2
   have hij : i < j := by omega
   have hiji : (i : Int) < (j : Int) := by omega
   have hjl : (j : Int) < (bs.length : Int) := by omega
   have hil : (i : Int) < (bs.length : Int) := by omega
   have hne : ¬ (i = j) := by omega
   have hne2 : ¬ (j = i) := by omega
   have hstep := revTo_step HR.out hj hij hx hy
   have hown2 := (OwnB.set (w := wr.drew) (h := (hown.keep (fun _ _ => rfl))) i y (y : Int) rfl).set j x (x : Int) rfl
   have hbel2 : Below B w ((wr.drew.setCell ⟨g, i, none⟩ (.int .u8 (y : Int))).setCell ⟨g, j, none⟩ (.int .u8 (x : Int))) := (hbel.drew.setCell (p := ⟨g, i, none⟩) hg _).setCell (p := ⟨g, j, none⟩) hg _
   have H := hid (And.intro hstep (And.intro hown2 hbel2))
   have HJ := hid hj
   clear hstep hown2 hbel2 hx hy hj hown hbel hji HR hll
   go_wp2_with fail
   go_region
   go_wp2
   refine ⟨⟨i + 1, _, by omega, by simp, int_eq (by have := HJ.out; omega), H.out.1, H.out.2.1, H.out.2.2⟩, by simp [intOf]; omega⟩
  ·have HF := hid (revTo_end HR.out (by omega))
   have hge : ¬ ((i : Int) < (bs.length : Int) - 1 - (i : Int)) := by omega
   go_wp2
   go_end0
   exact ⟨rfl, by rw [← HF.out]; exact hown, hbel⟩

theorem bstr_index (w : World) (d : Nat) (l : List Nat) (hd : d < 256) : (Instr.index 9 (.string (bstr (d :: l))) (.int .i64 0)).run Tryz.prog w = .ok (.int .u8 (d : Int)) w := by
 have h := run_index_string (P := Tryz.prog) w 9 (bstr (d :: l)) .i64 0 Tryz.underlying9
 rw [h, dif_pos ⟨Int.le_refl _, by rw [bstr_size]; simp⟩]
 congr 2
 simp [bstr, ByteArray.getElem_eq_getElem_data]
 omega

theorem trimLeftByte_any (k d : Nat) (l : List Nat) (w : World) (hd : d ≠ 48) (hd2 : d < 58) (hl : k + (d :: l).length ≤ 9223372036854775807) :
  Calls Tryz.prog 205 #[.string (bstr (List.replicate k 48 ++ d :: l)), .int .u8 48] w (Ret (.string (bstr (d :: l))) w) := by
 go_enter Tryz.func205, Tryz.ntmps205
 go_wp2_with fail
 go_loop [0] (fun v => ∃ (j : Nat) (s : ByteArray), j ≤ k ∧ v = .string s ∧ Hid (s = bstr (List.replicate j 48 ++ d :: l))) (fun v => match v with | .string s => s.size | _ => 0)
 case atStart => exact ⟨k, _, Nat.le_refl _, rfl, rfl⟩
 case round =>
  obtain ⟨j, s, hj, rfl, HS⟩ := hrel
  have hsz : s.size = j + (d :: l).length := by rw [HS.out, bstr_size]; simp
  have hsz1 : 1 ≤ s.size := by rw [hsz]; simp; omega
  have hszl : s.size ≤ 9223372036854775807 := by omega
  by_cases hj0 : j = 0
  ·subst hj0
   have hs := HS.out
   rw [List.replicate_zero, List.nil_append] at hs
   have hi : ∀ w, (Instr.index 9 (.string s) (.int .i64 0)).run Tryz.prog w = .ok (.int .u8 (d : Int)) w := fun w => by rw [hs]; exact bstr_index w d l (by omega)
   have hb : ((d : Int) == 48) = false := beq_eq_false_iff_ne.2 (by omega)
   have hp : (0 : Int) < (s.size : Int) := by omega
   have HS2 := hid hs
   clear hs HS hsz
   go_wp2
   go_ret
   exact Ret.mk (by rw [← HS2.out]; rfl)
  ·obtain ⟨i, rfl⟩ : ∃ i, j = i + 1 := ⟨j - 1, by omega⟩
   have hs := HS.out
   rw [List.replicate_succ, List.cons_append] at hs
   have hi : ∀ w, (Instr.index 9 (.string s) (.int .i64 0)).run Tryz.prog w = .ok (.int .u8 ((48 : Nat) : Int)) w := fun w => by rw [hs]; exact bstr_index w 48 _ (by omega)
   have hp : (0 : Int) < (s.size : Int) := by omega
   have hex : s.extract 1 s.size = bstr (List.replicate i 48 ++ d :: l) := by rw [hs]; exact bstr_tail _ _
   have HX := hid hex
   have HSZ := hid hsz
   clear hs HS hsz hex hj0
   go_wp2
   refine ⟨⟨i, _, by omega, rfl, HX.out⟩, ?_⟩
   show (s.extract 1 s.size).size < s.size
   rw [HX.out, bstr_size, HSZ.out]
   simp
theorem trimLeft_any (k d : Nat) (l : List Nat) (w : World) (hd : d ≠ 48) (hd2 : d < 58) (hl : k + (d :: l).length ≤ 9223372036854775807) :
  Calls Tryz.prog 159 #[.string (bstr (List.replicate k 48 ++ d :: l)), .string ⟨#[48]⟩] w (Ret (.string (bstr (d :: l))) w) := by
 have hc := fun w => trimLeftByte_any k d l w hd hd2 hl
 obtain ⟨s, hs⟩ : ∃ s, s = bstr (List.replicate k 48 ++ d :: l) := ⟨_, rfl⟩
 rw [← hs]
 simp only [← hs] at hc
 have hsz : s.size = k + (d :: l).length := by rw [hs, bstr_size]; simp
 have h1 : s.size ≤ 9223372036854775807 := by omega
 have h2 : 1 ≤ s.size := by rw [hsz]; simp; omega
 have hne : ¬ s.toList = [] := by
  rw [ByteArray.toList_eq]
  intro h
  have := congrArg List.length h
  have h3 : s.data.toList.length = s.size := rfl
  simp only [List.length_nil] at this
  omega
 have hie : s.toList.isEmpty = false := by rw [List.isEmpty_eq_false_iff]; exact hne
 have h48 : ∀ h, (({ data := #[48] } : ByteArray)[0]'h).toNat = 48 := fun _ => rfl
 clear hs hsz hl
 go_enter Tryz.func159, Tryz.ntmps159
 go_wp2_with (go_at_call 205; refine (hc _).mono ?_; rintro e w' ⟨rfl, rfl⟩)
 go_ret
 exact Ret.mk rfl

theorem bytes_string {B : Nat} {w : World} {ao : Option Addr} {c : Nat} {bs : List Nat} (h : OwnB B w ao c bs) (hb : bs ≠ []) :
  (convert 135 9 (.slice ao bs.length c)).run Tryz.prog w = .ok (.string (bstr bs)) w := by
 rw [run_convert_bytes_string w 135 9 5 _ _ _ Tryz.underlying135 Tryz.underlying5 Tryz.underlying9]
 rcases h.cases with ⟨h1, h2, h3⟩ | ⟨g, h1, _⟩
 ·exact absurd h3 hb
 ·subst h1
  have hl : (loadCells ⟨g, 0, none⟩ bs.length).run Tryz.prog w = .ok ((bs.map fun d : Nat => (d : Int)).map (Value.int .u8)).toArray w := by
   have := run_loadCells_list (P := Tryz.prog) w ⟨g, 0, none⟩ (bs.map fun d : Nat => Value.int .u8 (d : Int)) (fun j u hu => by
    have hj : j < bs.length := by have := (List.getElem?_eq_some_iff.1 hu).1; simpa using this
    rw [Addr.add_lit, Nat.zero_add, h.cell j hj]
    simpa [hj] using hu)
   rw [List.length_map] at this
   rw [this, List.map_map]
   rfl
  rw [run_bytesToString w ⟨g, 0, none⟩ bs.length c _ hl, foldl_push]
  simp [bstr]

def fmtS (v : Nat) : ByteArray := bstr (decT v)
def RetFmt (v : Nat) (w : World) (e : Ending) (w' : World) : Prop := e = .returned (.string (fmtS v)) ∧ Below w.heap.size w w'

theorem format_any (aa : Option Addr) (ca : Nat) (xs : List Nat) (w : World) (ha : Rd w aa ca xs) (hl : xs.length ≤ 1073741824) :
  Calls Tryz.prog 90 #[.slice aa xs.length ca] w (RetFmt (val xs) w) := by
 have ht := trim_any aa ca xs w ha (by omega)
 obtain ⟨V, hV⟩ : ∃ V, V = val xs := ⟨_, rfl⟩
 rw [← hV] at ht ⊢
 have hVl : V < 4294967296 ^ xs.length := by rw [hV]; exact val_lt ha.dg
 clear ha hV
 by_cases h0 : V = 0
 ·subst h0
  rw [nd_zero] at ht
  have hb : ((([] : List Nat).length : Int) == 0) = true := by simp
  clear hVl
  go_enter Tryz.func90, Tryz.ntmps90
  go_wp2_with (go_at_call 155; refine ht.mono ?_; rintro e w1 ⟨ao, c, rfl, hown, hbel⟩)
  go_ret
  exact ⟨rfl, hbel⟩
 ·obtain ⟨us, hus⟩ : ∃ us, us = nd V := ⟨_, rfl⟩
  rw [← hus] at ht
  have hul : us.length ≤ xs.length := by rw [hus]; exact nd_length_le hVl
  have hu0 : us.length ≠ 0 := by intro h; rw [hus] at h; exact h0 (nd_eq_nil.1 (List.eq_nil_of_length_eq_zero h))
  have hb : ((us.length : Int) == 0) = false := beq_eq_false_iff_ne.2 (by omega)
  have HUS := hid hus
  have HVL := hid hVl
  clear hus hVl
  go_enter Tryz.func90, Tryz.ntmps90
  go_wp2_with (go_at_call 155; refine ht.mono ?_; rintro e w1 ⟨al, cl, rfl, hown, hbel⟩)
  clear ht
  obtain ⟨B2, hB2⟩ : ∃ B2, B2 = w1.heap.size := ⟨_, rfl⟩
  have hB1 : w.heap.size ≤ B2 := by rw [hB2]; exact hbel.size
  have hal : ∀ a, al = some a → a.block < B2 := fun a ha => by subst ha; rw [hB2]; exact hown.block.2
  have hBB : B2 ≤ w1.heap.size := by omega
  clear hB2
  go_loopw [3, 4, 5, 18] (fun lv tv _ _ wr => ∃ (m : Nat) (ls bs : List Nat) (at_ : Option Addr) (ct : Nat), lv = .slice al ls.length cl ∧ tv = .slice at_ bs.length ct ∧ Hid (ls = nd (V / 10 ^ (9 * m)) ∧ bs = dpad (9 * m) V) ∧ ls.length ≤ xs.length ∧ bs.length ≤ 18 * xs.length + 9 ∧
    Own w.heap.size wr al cl ls ∧ OwnB B2 wr at_ ct bs ∧ Below w.heap.size w wr ∧ B2 ≤ wr.heap.size)
   (fun lv _ _ _ wr => valOf lv wr)
  case atStart => exact ⟨0, us, [], none, 0, rfl, rfl, ⟨by rw [HUS.out]; simp, rfl⟩, hul, by simp, hown, OwnB.nil _ _, hbel, hBB⟩
  case round =>
   obtain ⟨m, ls, bs, at_, ct, rfl, rfl, HM, hll, hbl, hown, hob, hbel, hBw⟩ := hrel
   have hlv : val ls = V / 10 ^ (9 * m) := by rw [HM.out.1, val_nd]
   by_cases hl0 : ls.length = 0
   ·have hls : ls = [] := List.eq_nil_of_length_eq_zero hl0
    have hV10 : V < 10 ^ (9 * m) := by
     rw [hls] at hlv
     have h1 : V / 10 ^ (9 * m) = 0 := hlv.symm
     rcases Nat.div_eq_zero_iff.1 h1 with h2 | h2
     ·have := Nat.pow_pos (n := 9 * m) (show 0 < 10 by omega); omega
     ·exact h2
    obtain ⟨j, hj⟩ := Num.trimmed h0 hV10
    obtain ⟨d, l, hd1, hd2, hd3⟩ := decT_head h0
    have hbe : bs ≠ [] := by
     intro h
     have h1 := congrArg List.length HM.out.2
     rw [h, length_dpad] at h1
     have h2 : m = 0 := by simp at h1; omega
     rw [h2] at hV10
     simp at hV10
     exact h0 hV10
    rcases hob.cases with ⟨_, _, h3⟩ | ⟨g, rfl, hg1, hg2, hg3, hg4⟩
    ·exact absurd h3 hbe
    have hrev := reverse_any B2 g ct bs wr hob (by omega)
    have hrl : bs.reverse.length = bs.length := List.length_reverse
    have hjl : j + (d :: l).length = bs.length := by
     have := congrArg List.length hj
     rw [← HM.out.2, hrl, hd1] at this
     simp at this ⊢; omega
    have htl := trimLeft_any j d l
    rw [← hd1, ← hj, ← HM.out.2] at htl
    have hconv : ∀ W, OwnB B2 W (some ⟨g, 0, none⟩) ct bs.reverse → (convert 135 9 (.slice (some ⟨g, 0, none⟩) bs.length ct)).run Tryz.prog W = .ok (.string (bstr bs.reverse)) W := by
     intro W hW
     have := bytes_string hW (by simpa using hbe)
     rwa [hrl] at this
    have htl2 := fun W => htl W hd2 hd3 (by rw [hd1]; omega)
    obtain ⟨sr, hsr⟩ : ∃ sr, sr = bstr bs.reverse := ⟨_, rfl⟩
    rw [← hsr] at hconv htl2
    have HCONV := hid hconv
    have HTL := hid htl2
    have hgt : ¬ ((ls.length : Int) > 0) := by omega
    clear hlv hls hV10 hj hd1 hbe hrl hjl htl hconv htl2 hsr HM hb
    go_wp2_with fail
    refine hrev.mono ?_
    rintro e w8 ⟨rfl, hor, hbr⟩
    have hcv := HCONV.out w8 hor
    clear hrev
    go_wp2_with (go_at_call 159; refine (HTL.out _).mono ?_; rintro e w' ⟨rfl, rfl⟩)
    go_ret
    exact ⟨rfl, hbel.trans (hbr.mono hB1)⟩
   ·have hlx : V / 10 ^ (9 * m) ≠ 0 := by
     intro h
     rw [HM.out.1, h, nd_zero] at hl0
     exact hl0 rfl
    have hm2 : m ≤ 2 * xs.length := by
     have h1 : 10 ^ (9 * m) ≤ V := by
      apply Classical.byContradiction
      intro hc
      exact hlx (Nat.div_eq_of_lt (by omega))
     have h2 : 2 ^ (16 * m) ≤ 10 ^ (9 * m) := by
      rw [Nat.pow_mul, Nat.pow_mul]
      exact Nat.pow_le_pow_left (by omega) m
     have h3 := HVL.out
     rw [show (4294967296 : Nat) = 2 ^ 32 from rfl, ← Nat.pow_mul] at h3
     have h4 := (Nat.pow_lt_pow_iff_right (show 1 < 2 by omega)).1 (Nat.lt_of_le_of_lt h2 (Nat.lt_of_le_of_lt h1 h3))
     omega
    have hbs9 : bs.length ≤ 9 * m := by rw [HM.out.2, length_dpad]; exact Nat.le_refl _
    obtain ⟨g, g1, g2, g3, g4⟩ := hown.inplace hbel.size
    have hdb := divideBy_any al g 0 cl 1000000000 ls wr g1 g3 hown.2 (by omega) (by omega) (by omega)
    have hgB : g < B2 := hal ⟨g, 0, none⟩ (g1 (by intro h; rw [h] at hl0; exact hl0 rfl))
    have hown2 := g4 (dig ls.length (val ls / 1000000000)) (length_dig _ _) (wf_dig _ _)
    have hvq : val (dig ls.length (val ls / 1000000000)) = val ls / 1000000000 := by
     rw [val_dig, Nat.mod_eq_of_lt (Nat.lt_of_le_of_lt (Nat.div_le_self _ _) (val_lt hown.2))]
    have hcq := cut_any _ _ _ _ hown2.rd
    rw [length_dig, hvq] at hcq
    have hown3 := hown2.cutND
    rw [hvq] at hown3
    have hob2 : OwnB B2 (wput wr g 0 (dig ls.length (val ls / 1000000000))) at_ ct bs := hob.keep fun a ha => by
     subst ha
     have := hob.block
     rw [wput_heap, if_neg (by omega)]
    have hb2 := below_put hbel g2 0 (dig ls.length (val ls / 1000000000))
    have hsz2 := wput_size wr g 0 (dig ls.length (val ls / 1000000000))
    obtain ⟨ch, hch⟩ : ∃ ch, ch = val ls % 1000000000 := ⟨_, rfl⟩
    rw [← hch] at hdb
    have hchl : ch < 1000000000 := by rw [hch]; exact Nat.mod_lt _ (by omega)
    obtain ⟨ns, hns⟩ : ∃ ns, ns = nd (val ls / 1000000000) := ⟨_, rfl⟩
    rw [← hns] at hcq hown3
    have hnsl : ns.length ≤ ls.length := by rw [hns]; exact nd_length_le (Nat.lt_of_le_of_lt (Nat.div_le_self _ _) (val_lt hown.2))
    have hva := hown.rd.valOf
    have hlpos : 0 < val ls := by rw [hlv]; omega
    have hnv : val ns < val ls := by rw [hns, val_nd]; omega
    have HNS := hid (show ns = nd (V / 10 ^ (9 * (m + 1))) by
     rw [hns, hlv, Nat.div_div_eq_div_mul, show 9 * (m + 1) = 9 * m + 9 by omega, Nat.pow_add])
    have HCH := hid (show ch = V / 10 ^ (9 * m) % 1000000000 by rw [hch, hlv])
    have HVA := hid hva
    have HBS := hid HM.out.2
    have hgt : (ls.length : Int) > 0 := by omega
    clear hlv hlx hch hns hvq hown2 g1 g3 g4 hown hva HM hob hl0 hlpos hb
    go_wp2_with fail
    refine hdb.mono ?_
    rintro e w' ⟨rfl, rfl⟩
    clear hdb
    generalize wput wr g 0 (dig ls.length (val ls / 1000000000)) = w5 at hcq hown3 hob2 hb2 hsz2 ⊢
    go_wp2_with fail
    refine hcq.mono ?_
    rintro e w' ⟨rfl, rfl⟩
    clear hcq
    go_wp2_with fail
    go_loopw [4, 5, 18] (fun tv cv iv wq => ∃ (i cc : Nat) (cs : List Nat) (a2 : Option Addr) (c2 : Nat), i ≤ 9 ∧ tv = .slice a2 cs.length c2 ∧ cv = .int .u32 (cc : Int) ∧ iv = .int .i64 (i : Int) ∧ cc < 4294967296 ∧ cs.length ≤ bs.length + i ∧ Hid (cs = dpad (9 * m + i) V ∧ cc = ch / 10 ^ i) ∧
      OwnB B2 wq a2 c2 cs ∧ Own w.heap.size wq al cl ns ∧ Below w.heap.size w wq ∧ B2 ≤ wq.heap.size)
     (fun _ _ iv _ => 9 - (intOf iv).toNat)
    case atStart => exact ⟨0, ch, bs, at_, ct, by omega, rfl, rfl, rfl, by omega, by omega, ⟨HBS.out, by simp⟩, hob2, hown3, hb2, by omega⟩
    case round =>
     obtain ⟨i, cc, cs, a2, c2, hi, rfl, rfl, rfl, hccl, hcsl, HI, ho2, hw2, hbe2, hB2w⟩ := hrel
     clear hob2 hown3 hb2
     by_cases hi9 : i = 9
     ·have HI2 := hid (show cs = dpad (9 * (m + 1)) V by rw [HI.out.1, hi9]; congr 1)
      have hge : ¬ ((i : Int) < 9) := by omega
      have hi9' : i ≥ 9 := by omega
      clear hi9
      go_wp2
      refine ⟨⟨m + 1, ns, cs, a2, c2, rfl, rfl, ⟨HNS.out, HI2.out⟩, by omega, by omega, hw2, ho2, hbe2, hB2w⟩, ?_⟩
      show valOf (.slice al ns.length cl) _ < valOf (.slice al ls.length cl) _
      rw [HVA.out, hw2.rd.valOf]
      exact hnv
     ·have hlt : (i : Int) < 9 := by omega
      obtain ⟨dg, hdg⟩ : ∃ dg, dg = cc % 10 := ⟨_, rfl⟩
      have hdgl : dg < 10 := by omega
      have hdgi : (cc : Int) % 10 = (dg : Int) := by omega
      have HD := hid (show cs ++ [48 + dg] = dpad (9 * m + (i + 1)) V by
       rw [show 9 * m + (i + 1) = 9 * m + i + 1 by omega, dpad_succ, ← HI.out.1, hdg, HI.out.2, HCH.out, chunk_digit _ _ (by omega), Nat.div_div_eq_div_mul, ← Nat.pow_add])
      have HC := hid (show cc / 10 = ch / 10 ^ (i + 1) by rw [HI.out.2, Nat.div_div_eq_div_mul, Nat.pow_succ])
      clear hdg
      go_wp2_with (at_builtin; refine wp_appendB _ rfl _ _ rfl B2 a2 ⟨wr.heap.size, 0, none⟩ _ _ 1 cs (48 + dg) rfl rfl rfl ?c1 (ho2.below (below_alloc _ _)) ?c3 (Nat.le_trans hB2w (below_alloc wr _).size) ?c4)
      case c1 => go_simp
      case c3 => omega
      intro a3 c3 w9 ho3 hb3
      have hw3 : Own w.heap.size w9 al cl ns := (hw2.below (below_alloc wr _)).keep fun a ha => hb3.block _ (hal a ha)
      have hbe3 : Below w.heap.size w w9 := (hbe2.trans ((below_alloc wr _).mono hbe2.size)).trans (hb3.mono hB1)
      have hsz3 : B2 ≤ w9.heap.size := Nat.le_trans hB2w (Nat.le_trans (below_alloc wr (.cells #[.int .u8 ((48 + dg : Nat) : Int)] 5)).size hb3.size)
      have H3 := hid (And.intro ho3 (And.intro hw3 (And.intro hbe3 hsz3)))
      clear ho3 hw3 hbe3 hsz3 ho2 hw2 hbe2
      go_wp2
      refine ⟨⟨i + 1, cc / 10, _, a3, c3, by omega, ?_, int_eq (by omega), int_eq (by omega), by omega, ?_, ⟨HD.out, HC.out⟩, H3.out⟩, by simp [intOf]; omega⟩
      ·rw [List.length_append]; rfl
      ·rw [List.length_append]; simp; omega
end Go.Proofs.YtcankknlbljicaaGreatDoor
