/-  -/
import Derived.Test.YtcankknlbljicaaGreatDoorWRpa

set_option linter.unusedVariables false
set_option linter.unusedSimpArgs false
set_option linter.unusedSectionVars false
set_option maxRecDepth 100000
set_option maxHeartbeats 3200000

namespace Go.Proofs.YtcankknlbljicaaGreatDoor
open Go.RowKit Num

theorem bstr_of (s : ByteArray) : ∃ bs : List Nat, s = bstr bs ∧ (∀ b ∈ bs, b < 256) ∧ bs.length = s.size := by
 refine ⟨s.data.toList.map UInt8.toNat, ?_, ?_, ?_⟩
 ·unfold bstr
  rw [List.map_map]
  have e : (UInt8.ofNat ∘ UInt8.toNat) = id := by funext x; simp
  rw [e, List.map_id]
 ·intro b hb
  obtain ⟨x, _, rfl⟩ := List.mem_map.1 hb
  exact x.toNat_lt
 ·rw [List.length_map, Array.length_toList]; rfl

set_option maxRecDepth 1000000 in
theorem rparse_any (bs : List Nat) (w : World) (V : Nat) (er : Int) (hb : ∀ b ∈ bs, b < 256) (hm : bs.length ≤ 9223372036854775807) (h : Parsed bs V er) :
  Calls Tryz.prog 86 #[.string (bstr bs)] w (RetParse V er w) := by
 have hsz : (bstr bs).size = bs.length := bstr_size bs
 rcases h with ⟨h1, rfl, rfl⟩ | ⟨h1, rfl, rfl⟩ | ⟨h1, h2, rfl, rfl⟩ | ⟨h1, h2, h3, rfl, rfl⟩ | ⟨h1, h2, h3, h4⟩
 ·have hi : (bs.length : Int) > 4096 := by omega
  clear hb
  go_enter Tryz.func86, Tryz.ntmps86
  go_wp2
  go_ret2
  exact retParse_none
 ·subst h1
  have hd : dgs [48] := by intro b hb; simp at hb; omega
  exact rparse_body [48] w 0 0 (by simp) hb (by simp) (fun h => by simp at h) (fun _ => ⟨by rfl, rfl⟩) (fun h => absurd hd h)
 ·subst h2
  clear hb
  go_enter Tryz.func86, Tryz.ntmps86
  go_wp2
  go_ret2
  exact retParse_none
 ·have g0 : ¬ ((bs.length : Int) > 4096) := by omega
  have g1 : ((bs.length : Int) == 0) = false := by rw [beq_eq_false_iff_ne]; omega
  have g2 : (bs.length : Int) > 1 := by omega
  have e3 : ((((bstr bs)[0]'(by rw [hsz]; omega)).toNat : Int) == 48) = true := by rw [bstr_get _ hb, h3]; rfl
  clear hb h3
  go_enter Tryz.func86, Tryz.ntmps86
  go_wp2
  go_ret2
  exact retParse_none
 ·refine rparse_body bs w V er h1 hb h2 (fun _ => h3) (fun hd => ?_) (fun hd => ?_)
  ·rcases h4 with h | h
   ·exact h.2
   ·exact absurd hd h.1
  ·rcases h4 with h | h
   ·exact absurd h.1 hd
   ·exact h.2
end Go.Proofs.YtcankknlbljicaaGreatDoor

namespace Go.Proofs.YtcankknlbljicaaGreatDoor
open Go.RowKit Num

theorem bstr_append (a b : List Nat) : bstr a ++ bstr b = bstr (a ++ b) := by
 unfold bstr
 rw [ByteArray.mk_append_mk]
 simp
theorem OwnB.one (w : World) (x : Nat) : OwnB w.heap.size (w.alloc (.cells #[.int .u8 (x : Int)] 5)) (some ⟨w.heap.size, 0, none⟩) 1 [x] :=
 ⟨by simp, Or.inr ⟨w.heap.size, 1, #[.int .u8 (x : Int)], rfl, Nat.le_refl _, heap_alloc_at w _, Nat.le_refl _, by decide, rfl, rfl⟩⟩
theorem decR_part {r Q e X : Nat} (hX : X = r + 10 ^ (e + 1) * Q) (h0 : X ≠ 0) : decR X = (48 + r % 10) :: decR (r / 10 + 10 ^ e * Q) := by
 have e1 : X % 10 = r % 10 := by rw [hX, Nat.pow_succ, Nat.mul_assoc, Nat.mul_left_comm]; omega
 have e2 : X / 10 = r / 10 + 10 ^ e * Q := by rw [hX, Nat.pow_succ, Nat.mul_assoc, Nat.mul_left_comm]; omega
 rw [decR_pos h0, e1, e2]

theorem rformat_any (aa : Option Addr) (ca : Nat) (xs : List Nat) (w : World) (ha : Rd w aa ca xs) (hl : xs.length ≤ 1073741824) :
  Calls Tryz.prog 93 #[.slice aa xs.length ca] w (RetFmt (val xs) w) := by
 have ht := rtrim_any aa ca xs w ha (by omega)
 have hlv := Nat.le_trans (nd_length_le_of ha.dg) hl
 obtain ⟨V, hV⟩ : ∃ V, V = val xs := ⟨_, rfl⟩
 rw [← hV] at ht hlv ⊢
 clear ha hV
 by_cases h0 : V = 0
 ·subst h0
  have hf : fmtS 0 = ⟨#[48]⟩ := by rw [fmtS, decT, if_pos rfl]; rfl
  rw [nd_zero] at ht
  have HF := hid hf
  clear hf
  go_enter Tryz.func93, Tryz.ntmps93
  go_wp2_with fail
  refine ht.mono ?_
  rintro e w1 ⟨a1, c1, rfl, o1, b1⟩
  clear ht o1
  go_wp2
  go_ret
  exact ⟨by rw [HF.out]; rfl, b1⟩
 ·have hl0 : (nd V).length ≠ 0 := fun h => h0 (nd_eq_nil.1 (List.eq_nil_of_length_eq_zero h))
  have hli : (((nd V).length : Int) == 0) = false := by rw [beq_eq_false_iff_ne]; omega
  have HV := hid (show fmtS V = bstr (decR V).reverse by rw [fmtS, decT, if_neg h0])
  have hdl : (decR V).length ≤ 10 * (nd V).length := by
   refine decR_length (10 * (nd V).length) V (Nat.lt_of_lt_of_le (lt_pow_nd V) ?_)
   rw [Nat.pow_mul]
   exact Nat.pow_le_pow_left (by omega) _
  have HDL := hid (show (decR V).length ≤ 10737418240 by omega)
  clear hdl
  clear h0 hl0
  go_enter Tryz.func93, Tryz.ntmps93
  go_wp2_with fail
  refine ht.mono ?_
  rintro e w1 ⟨a1, c1, rfl, o1, b1⟩
  have H1 := hid (And.intro o1 b1)
  clear ht o1 b1
  go_wp2_with fail
  go_loopw [0, 3] (fun av sv wr => ∃ (A : Nat) (L : List Nat) (S : ByteArray) (a3 : Option Addr) (c3 : Nat), av = .slice a3 (nd A).length c3 ∧ sv = .string S ∧ (nd A).length ≤ 1073741824 ∧ Hid (S = bstr L.reverse ∧ decR V = L ++ decR A ∧ Own w.heap.size wr a3 c3 (nd A) ∧ Below w.heap.size w wr)) (fun av _ wr => valOf av wr)
  case atStart => exact ⟨V, [], _, a1, c1, rfl, rfl, hlv, ⟨rfl, rfl, H1.out⟩⟩
  case round =>
   obtain ⟨A, L, S, a3, c3, rfl, rfl, hA, HR⟩ := hrel
   clear H1
   by_cases hA0 : A = 0
   ·subst hA0
    have hg : decide (((nd 0).length : Int) > 0) = false := by rw [nd_zero]; simp
    have hg2 : ¬ (0 < ((nd 0).length : Int)) := by rw [nd_zero]; simp
    have hS := HR.out.1
    have hL := HR.out.2.1
    rw [decR_zero, List.append_nil] at hL
    have HF := hid (show S = fmtS V by rw [hS, HV.out, hL])
    have HB := hid HR.out.2.2.2
    clear hS hL HR
    go_wp2
    go_ret
    exact ⟨by rw [← HF.out]; rfl, HB.out⟩
   ·have hp : 0 < (nd A).length := Nat.pos_of_ne_zero fun h => hA0 (nd_eq_nil.1 (List.eq_nil_of_length_eq_zero h))
    have hg : decide (((nd A).length : Int) > 0) = true := decide_eq_true (by omega)
    have hsm := rsmall_any a3 c3 1000000000 (nd A) wr HR.out.2.2.1.rd (by omega) (by omega) (by omega)
    rw [val_nd] at hsm
    have hva := HR.out.2.2.1.rd.valOf
    rw [val_nd] at hva
    obtain ⟨Q, hQ⟩ : ∃ Q, Q = A / 1000000000 := ⟨_, rfl⟩
    obtain ⟨r0, hr0⟩ : ∃ r, r = A % 1000000000 := ⟨_, rfl⟩
    rw [← hQ, ← hr0] at hsm
    have hQA : Q < A := by omega
    have hAr : A = r0 + 1000000000 * Q := by omega
    have hrl : r0 < 1000000000 := by omega
    have hQl : (nd Q).length ≤ 1073741824 := Nat.le_trans (nd_length_mono (Nat.le_of_lt hQA)) hA
    have HM := hid (And.intro hva (And.intro hQA hAr))
    have HSM := hid hsm
    clear hQ hr0 hva hQA hAr hsm
    go_wp2_with fail
    refine HSM.out.mono ?_
    rintro e w3 ⟨aq, cq, rfl, oq, bq⟩
    have hb3 := HR.out.2.2.2.trans (bq.mono HR.out.2.2.2.size)
    have H3 := hid (And.intro (oq.mono HR.out.2.2.2.size) hb3)
    have HL := hid (And.intro HR.out.1 HR.out.2.1)
    clear HSM oq bq hb3 HR hg hp
    go_wp2_with fail
    go_loopw [5, 6, 7] (fun rv pv iv wq => ∃ (i e r : Nat) (P : List Nat) (S2 : ByteArray), i + e = 9 ∧ rv = .int .u32 (r : Int) ∧ pv = .string S2 ∧ iv = .int .i64 (i : Int) ∧ r < 1000000000 ∧ Hid (S2 = bstr P.reverse ∧ decR A = P ++ decR (r + 10 ^ e * Q) ∧ r < 10 ^ e ∧ P.length = i) ∧ Hid (Below w3.heap.size w3 wq)) (fun _ _ iv _ => 9 - (intOf iv).toNat)
    case atStart => exact ⟨0, 9, r0, [], _, rfl, rfl, rfl, rfl, hrl, ⟨rfl, by rw [List.nil_append, HM.out.2.2], by omega, rfl⟩, Below.refl _ _⟩
    case round =>
     obtain ⟨i, e, r, P, S2, hie, rfl, rfl, rfl, hr, HP, HW⟩ := hrel
     have hsum : S2.size + S.size ≤ 9223372036854775807 := by
      have h1 : S2.size = i := by rw [HP.out.1, bstr_size, List.length_reverse, HP.out.2.2.2]
      have h2 : S.size = L.length := by rw [HL.out.1, bstr_size, List.length_reverse]
      have h3 : L.length ≤ (decR V).length := by rw [HL.out.2, List.length_append]; omega
      have := HDL.out
      omega
     by_cases hdone : i = 9 ∨ (r = 0 ∧ Q = 0)
     ·have hPA : decR A = P ++ decR Q := by
       have h1 := HP.out.2.1
       have h2 := HP.out.2.2.1
       rcases hdone with h | ⟨h3, h4⟩
       ·obtain rfl : e = 0 := by omega
        rw [Nat.pow_zero, Nat.one_mul] at h1
        obtain rfl : r = 0 := by rw [Nat.pow_zero] at h2; omega
        rw [Nat.zero_add] at h1; exact h1
       ·rw [h3, h4, Nat.mul_zero] at h1
        rw [h4]; exact h1
      have HF := hid (show S2 ++ S = bstr (L ++ P).reverse ∧ decR V = (L ++ P) ++ decR Q from ⟨by rw [HP.out.1, HL.out.1, bstr_append, List.reverse_append], by rw [HL.out.2, hPA, List.append_assoc]⟩)
      have HO := hid (And.intro (H3.out.1.below HW.out) (H3.out.2.trans (HW.out.mono H3.out.2.size)))
      have hv := hid (show valOf (.slice aq (nd Q).length cq) wr < A by rw [HO.out.1.rd.valOf, val_nd]; exact HM.out.2.1)
      clear hPA HP HL H3
      have hfin := HM.out.1
      rcases hdone with h | ⟨h3, h4⟩
      ·subst h
       clear hfin
       go_wp2
       exact ⟨⟨Q, L ++ P, _, aq, cq, rfl, rfl, hQl, ⟨HF.out.1, HF.out.2, HO.out⟩⟩, by rw [HM.out.1]; exact hv.out⟩
      ·subst h3 h4
       by_cases hi9 : i = 9
       ·subst hi9
        clear hfin
        go_wp2
        exact ⟨⟨0, L ++ P, _, aq, cq, rfl, rfl, hQl, ⟨HF.out.1, HF.out.2, HO.out⟩⟩, by rw [HM.out.1]; exact hv.out⟩
       ·have hi2 : (i : Int) < 9 := by omega
        have hg : decide (((nd 0).length : Int) > 0) = false := by rw [nd_zero]; simp
        have hg2 : ¬ (0 < ((nd 0).length : Int)) := by rw [nd_zero]; simp
        have hg3 : decide ((0 : Int) < ((nd 0).length : Int)) = false := by rw [nd_zero]; simp
        have hn0 := nd_zero
        clear hfin
        go_wp2
        exact ⟨⟨0, L ++ P, _, aq, cq, rfl, by rw [← HF.out.1], hQl, ⟨rfl, HF.out.2, HO.out⟩⟩, by rw [HM.out.1]; exact hv.out⟩
     ·have hi9 : i < 9 := by omega
      have hi2 : (i : Int) < 9 := by omega
      obtain ⟨e', rfl⟩ : ∃ e', e = e' + 1 := ⟨e - 1, by omega⟩
      have hX0 : r + 10 ^ (e' + 1) * Q ≠ 0 := by
       intro h
       have h1 : 10 ^ (e' + 1) * Q = 0 := by omega
       rcases Nat.mul_eq_zero.1 h1 with h2 | h2
       ·exact absurd h2 (Nat.ne_of_gt (Nat.pow_pos (by omega)))
       ·exact hdone (Or.inr ⟨by omega, h2⟩)
      have hdec := decR_part (r := r) (Q := Q) (e := e') rfl hX0
      obtain ⟨D, hD⟩ : ∃ D, D = 48 + r % 10 := ⟨_, rfl⟩
      obtain ⟨dg, hdg⟩ : ∃ dg, dg = r % 10 := ⟨_, rfl⟩
      rw [← hD] at hdec
      have hri : (r : Int) % 10 = (dg : Int) := by omega
      have hDi : (48 : Int) + (dg : Int) = (D : Int) := by omega
      have hD8 : D < 58 := by omega
      have hdg10 : dg < 10 := by omega
      have hw1 : IntKind.u8.wrap (D : Int) = (D : Int) := by simp [IntKind.wrap, IntKind.bits, IntKind.signed]; omega
      have hcv : (convert 135 9 (.slice (some ⟨wr.heap.size, 0, none⟩) 1 1)).run Tryz.prog (wr.alloc (.cells #[.int .u8 (D : Int)] 5)) = .ok (.string (bstr [D])) (wr.alloc (.cells #[.int .u8 (D : Int)] 5)) :=
       bytes_string (B := wr.heap.size) (bs := [D]) (OwnB.one wr D) (by simp)
      have HN := hid (show bstr [D] ++ S2 = bstr (P ++ [D]).reverse ∧ decR A = (P ++ [D]) ++ decR (r / 10 + 10 ^ e' * Q) ∧ r / 10 < 10 ^ e' ∧ (P ++ [D]).length = i + 1 from
       ⟨by rw [HP.out.1, bstr_append]; simp, by rw [HP.out.2.1, hdec, List.append_assoc]; rfl, by have := HP.out.2.2.1; rw [Nat.pow_succ] at this; omega, by rw [List.length_append, HP.out.2.2.2]; rfl⟩)
      have hsum2 : (bstr [D]).size + S2.size ≤ 9223372036854775807 := by
       have h1 : S2.size = i := by rw [HP.out.1, bstr_size, List.length_reverse, HP.out.2.2.2]
       have h2 : (bstr [D]).size = 1 := by rw [bstr_size]; rfl
       omega
      have HW2 := hid (HW.out.trans ((below_alloc wr (.cells #[.int .u8 (D : Int)] 5)).mono HW.out.size))
      have hr10 : r / 10 < 1000000000 := by omega
      have HDr := hid hD
      clear HP hdec hX0 hD hdg HW
      by_cases hr0 : 0 < r
      ·have hr0i : (0 : Int) < (r : Int) := by omega
       clear hdone hr0
       go_wp2
       exact ⟨⟨i + 1, e', r / 10, P ++ [D], _, by omega, int_eq (by omega), rfl, int_eq (by omega), hr10, HN.out, HW2.out⟩, by simp [intOf]; omega⟩
      ·obtain rfl : r = 0 := by omega
       have hQ0 : Q ≠ 0 := fun h => hdone (Or.inr ⟨rfl, h⟩)
       have hq1 : 0 < (nd Q).length := Nat.pos_of_ne_zero fun h => hQ0 (nd_eq_nil.1 (List.eq_nil_of_length_eq_zero h))
       have hq2 : (0 : Int) < ((nd Q).length : Int) := by omega
       obtain rfl : D = 48 := HDr.out
       have hcv2 : (convert 135 9 (.slice (some ⟨wr.heap.size, 0, none⟩) 1 1)).run Tryz.prog (wr.alloc (.cells #[.int .u8 48] 5)) = .ok (.string (bstr [48])) (wr.alloc (.cells #[.int .u8 48] 5)) := hcv
       clear hdone hr0 hQ0 hcv hw1 hDi hri HDr
       go_wp2
       exact ⟨⟨i + 1, e', 0, P ++ [48], _, by omega, rfl, rfl, int_eq (by omega), hr10, HN.out, HW2.out⟩, by simp [intOf]; omega⟩
end Go.Proofs.YtcankknlbljicaaGreatDoor
