/-  -/
import Derived.Test.YtcankknlbljicaaGreatDoorWtb
import Derived.Test.YtcankknlbljicaaGreatDoorW7
import Derived.Test.YtcankknlbljicaaGreatDoorTie
import Derived.Test.YtcankknlbljicaaGreatDoorCards
import Derived.SevenTiedAt

set_option linter.unusedVariables false
set_option linter.unusedSimpArgs false
set_option linter.unusedSectionVars false
set_option maxRecDepth 100000
set_option maxHeartbeats 3200000

namespace Go.Proofs.YtcankknlbljicaaGreatDoor
open Go.RowKit Num

variable {O : Bs}
theorem bx_s3 {T : TypeId} {x : Bool} {w : World} {g : Nat} (h : bx O T 3 (mS x) w g) (hx : x = true) : ∃ p c, bx O T 3 (mK p 4 c) w g := by
  subst hx
  obtain ⟨cs, h1, h2, h3, h4, b, ao, c, xs, ad, d, ds, e, g1, g2, g3⟩ := h
  have g4 := g3.1 rfl
  by_cases hc : canon b xs ds
  · exact ⟨_, true, cs, h1, h2, h3, h4, b, ao, c, xs, ad, d, ds, e, ⟨g1, g2, rfl, g4.1, g4.2⟩, by simp [hc]⟩
  · exact ⟨_, false, cs, h1, h2, h3, h4, b, ao, c, xs, ad, d, ds, e, ⟨g1, g2, rfl, g4.1, g4.2⟩, by simp [hc]⟩
theorem bxK_sz {T : TypeId} {q : Rat} {k : Nat} {cn : Bool} {w : World} {g : Nat} (h : bx O T 3 (mK q k cn) w g) : Sz q (k + 1) := by
  obtain ⟨cs, _, _, _, _, h5⟩ := h
  exact isR.szs (isK.r h5)
theorem or18 {x : Bool} {n : Nat} (h : ((!(x)) || (decide ((200) < ((n : Nat) : Int)))) = false) : x = true ∧ n ≤ 200 := by
  obtain ⟨h1, h2⟩ := Bool.or_eq_false_iff.mp h
  exact ⟨by simpa using h1, by have := of_decide_eq_false h2; omega⟩
theorem c_parseF {q : Rat} (hs : Sz q 5) {w : World} (hT : Tb w) : Calls Tryz.prog 14 #[.string (bstr (fmtQ q))] w (RetM (mT (mC q 4096) (mV (.int .i64 0))) O w) := by
  have key : ∀ v : Nat, (nd v).length ≤ 5 → v < 10 ^ 49 := fun v h => Nat.lt_of_lt_of_le (lt_pow_nd v) (Nat.le_trans (Nat.pow_le_pow_right (by decide) h) (by decide +kernel))
  obtain ⟨h1, h2⟩ := rpar_fmt (key _ hs.1) (key _ hs.2) (by decide) (by decide)
  exact (c_parse (fmtQ_lt q) h2 h1 (fun _ => hs.mono (by omega)) hT).mono fun _ _ r => RetM.imp (fun _ _ h => mT_imp (fun _ h => isE.ok h) (fun _ h => h) h) r
theorem l3_awake {w : World} (hT : Tb w) : Calls Tryz.prog 13 #[] w (RetM (mV (.bool true)) O w) := (awake3_any w hT).mono fun _ _ r => RetB.s r
set_option maxRecDepth 100000
set_option maxHeartbeats 2000000
theorem walkRationalTexts {x0 : Bool} {bs : List Nat} {v0 : Value} {w : World} {O : Bs} (hb : ∀ b ∈ bs, b < 256) (hl : bs.length ≤ 9223372036854775807) (pf0 : (mS (x0)).S O w v0) (hT : Tb w) (ho : OB O w) :
    Calls Tryz.prog 3 #[v0, .string (bstr bs)] w (RetM (mV (.bool (true))) O w) := by
 refine st_start 64 Tryz.func3 [(mS (x0)), (mV (.string (bstr bs)))] ⟨pf0, rfl, trivial⟩ ho fun a S => ?_
 refine wp_seq ?_
 refine st_seq S 0 [] [(false, 0), (false, 1)] trivial (L' := [(0, ?_), (1, ?_)]) ?_ fun a1 w2 S3 => ?_
 rotate_left 2
 · rfl
 refine t_box S3 0 rfl isS.cv fun O a5 w6 g7 S8 => ?_
 refine t_asgC S8 fun a9 S10 => ?_
 refine wpList_nil (then_normal ?_)
 refine wp_seq ?_
 refine wp_seq ?_
 refine st_seq S10 8 [?_, ?_, ?_, ?_, ?_, ?_, ?_, ?_] [(true, 7), (false, 0), (false, 1), (false, 3)] ⟨?_, ?_, ?_, ?_, ?_, ?_, ?_, ?_, trivial⟩ (L' := [(18, ?_), (4, ?_), (2, ?_), (1, ?_)]) ?_ fun a11 w12 S13 => ?_
 rotate_left 12
 · exact opL S10.r 0 Tryz.underlying26 info_Rat fun c => (c.q 1 rfl)
 · exact opC S10.r rfl fun c B => ⟨_, args_1 rfl, (k_small (c.h 0 rfl))⟩
 · exact opV S10.r fun c => run_not rfl (c.e 0 rfl)
 · exact opV S10.r fun c => run_v (run_move rfl) (c.e 0 rfl)
 · exact opG S10.r 0 (fun hγ => opV S10.r fun c => run_v (run_move rfl) (c.q 3 rfl)) gF
 · exact opG S10.r 1 (fun hγ => opV S10.r fun c => run_slen rfl (ev (c.h 0 rfl hγ)) Tryz.underlying9) gF
 · exact opG S10.r 1 (fun hγ => opV S10.r fun c => run_gtr rfl (ev (c.h 0 rfl hγ)) rfl) gF
 · exact opE S10.r fun c => ⟨_, run_pick rfl (c.e 0 rfl), pick_or fun h => (c.h 1 rfl) (by rw [h]; rfl)⟩
 · rfl
 refine wpList_nil (then_normal ?_)
 refine cond_b _ (ev (S13.sl 0 rfl)) (fun hb15 => ?_) (fun hb15 => ?_)
 ·refine wp_seq ?_
  refine st_seq S13 1 [?_] [(true, 0), (false, 1), (false, 2), (false, 3)] ⟨?_, trivial⟩ (L' := [(19, ?_), (4, ?_), (2, ?_), (1, ?_)]) ?_ fun a16 w17 S18 => ?_
  rotate_left 5
  · exact opC S13.r rfl fun c B => ⟨_, args_0, (l3_awake (hT.below B))⟩
  · rfl
  refine t_asg S18 0 fun a20 S21 => ?_
  refine wpList_nil (then_normal ?_)
  refine wp_ret ?_
  exact st_endT S21 0 rfl fun v h => h
 ·obtain ⟨hx0, hlq⟩ := or18 hb15
  obtain ⟨paa, caa, x22⟩ := bx_s3 (S13.bx 0 rfl) hx0
  have hsa := bxK_sz x22
  obtain ⟨qb, er, hrp⟩ := rpar_some bs (by omega)
  have hsq : er = 0 → Sz qb 4096 := fun e => rpar_sz (by omega) (e ▸ hrp)
  have S23 := S13.reX 0 (q := .box g7 26 3 (mK (paa) 4 (caa))) rfl rfl x22
  refine wp_skip (then_normal ?_)
  refine wp_seq ?_
  refine st_seq S23 5 [?_, ?_, ?_, ?_, ?_] [(true, 3), (true, 4), (false, 1), (false, 2), (false, 3)] ⟨?_, ?_, ?_, ?_, ?_, trivial⟩ (L' := [(23, ?_), (24, ?_), (4, ?_), (2, ?_), (1, ?_)]) ?_ fun a24 w25 S26 => ?_
  rotate_left 10
  · exact opV S23.r fun c => run_v (run_move rfl) (c.q 3 rfl)
  · exact opC S23.r rfl fun c B => ⟨_, args_1 (c.e 0 rfl), (c_parse hb (by omega) hrp hsq (hT.below B))⟩
  · exact opP S23.r fun c => ⟨_, run_move rfl, (c.h 0 rfl)⟩
  · exact opP S23.r fun c => ext_0 rfl (c.h 0 rfl)
  · exact opP S23.r fun c => ext_1 rfl (c.h 0 rfl)
  · rfl
  refine t_alloc S26 zero_Rat (fun _ _ _ => bx_Rat) fun O a28 w29 g30 S31 => ?_
  refine t_sto S31 0 1 0 rfl isE.cv (fun w32 S33 => ?_) info_Rat
  refine t_asg S33 2 fun a34 S35 => ?_
  refine wpList_nil (then_normal ?_)
  refine wp_seq ?_
  refine st_seq S35 5 [?_, ?_, ?_, ?_, ?_] [(true, 3), (true, 4), (false, 0), (false, 1), (false, 4), (false, 5)] ⟨?_, ?_, ?_, ?_, ?_, trivial⟩ (L' := [(28, ?_), (29, ?_), (6, ?_), (5, ?_), (4, ?_), (2, ?_)]) ?_ fun a36 w37 S38 => ?_
  rotate_left 11
  · exact opV S35.r fun c => run_v (run_move rfl) (c.q 6 rfl)
  · exact opC S35.r rfl fun c B => ⟨_, args_1 (c.e 0 rfl), (r_parse hb (by omega) hrp (S35.obc c.wb))⟩
  · exact opP S35.r fun c => ⟨_, run_move rfl, (c.h 0 rfl)⟩
  · exact opP S35.r fun c => ext_0 rfl (c.h 0 rfl)
  · exact opP S35.r fun c => ext_1 rfl (c.h 0 rfl)
  · rfl
  refine t_alloc S38 zero_Rat (fun _ _ _ => bx_Rat) fun O a40 w41 g42 S43 => ?_
  refine t_sto S43 0 1 0 rfl isE.cv (fun w44 S45 => ?_) info_Rat
  refine t_asg S45 2 fun a46 S47 => ?_
  refine wpList_nil (then_normal ?_)
  refine wp_seq ?_
  refine st_seq S47 6 [?_, ?_, ?_, ?_, ?_, ?_] [(true, 4), (true, 5), (false, 0), (false, 1), (false, 4), (false, 5), (false, 6), (false, 7)] ⟨?_, ?_, ?_, ?_, ?_, ?_, trivial⟩ (L' := [(34, ?_), (35, ?_), (8, ?_), (7, ?_), (6, ?_), (5, ?_), (4, ?_), (2, ?_)]) ?_ fun a48 w49 S50 => ?_
  rotate_left 14
  · exact opL S47.r 2 Tryz.underlying26 info_Rat fun c => (c.q 7 rfl)
  · exact opC S47.r rfl fun c B => ⟨_, args_1 rfl, (c_fmt (by omega) (isK.r (c.h 0 rfl)) (hT.below B))⟩
  · exact opC S47.r rfl fun c B => ⟨_, args_1 (c.e 0 rfl), (c_parseF hsa (hT.below B))⟩
  · exact opP S47.r fun c => ⟨_, run_move rfl, (c.h 0 rfl)⟩
  · exact opP S47.r fun c => ext_0 rfl (c.h 0 rfl)
  · exact opP S47.r fun c => ext_1 rfl (c.h 0 rfl)
  · rfl
  refine t_alloc S50 zero_Rat (fun _ _ _ => bx_Rat) fun O a52 w53 g54 S55 => ?_
  refine t_sto S55 0 1 0 rfl isC.cv (fun w56 S57 => ?_) info_Rat
  refine t_asg S57 2 fun a58 S59 => ?_
  refine wpList_nil (then_normal ?_)
  refine wp_seq ?_
  refine st_mono S59 29 [?_, ?_, ?_, ?_, ?_, ?_, ?_, ?_, ?_, ?_, ?_, ?_, ?_, ?_, ?_, ?_, ?_, ?_, ?_, ?_, ?_, ?_, ?_, ?_, ?_, ?_, ?_, ?_, ?_] [(true, 28)] ⟨?_, ?_, ?_, ?_, ?_, ?_, ?_, ?_, ?_, ?_, ?_, ?_, ?_, ?_, ?_, ?_, ?_, ?_, ?_, ?_, ?_, ?_, ?_, ?_, ?_, ?_, ?_, ?_, ?_, trivial⟩ (L' := [(4, ?_)]) ?_ fun a60 w61 S62 => ?_
  rotate_left 30
  · exact opC S59.r rfl fun c B => ⟨_, args_0, (l3_awake (hT.below B))⟩
  · exact opV S59.r fun c => run_v (run_move rfl) (c.e 0 rfl)
  · exact opT S59.r 0 (opV S59.r fun c => run_v (run_move rfl) (c.q 6 rfl))
  · exact opT S59.r 0 (opV S59.r fun c => run_v (run_move rfl) (c.q 4 rfl))
  · exact opT S59.r 2 (opV S59.r fun c => run_eql_same rfl (c.e 0 rfl) (c.e 1 rfl))
  · exact opE S59.r fun c => ⟨_, run_pick rfl (c.e 0 rfl), pick_and (fun _ => (c.e 1 rfl))⟩
  · exact opV S59.r fun c => run_v (run_move rfl) (c.e 0 rfl)
  · exact opT S59.r 0 (opL S59.r 2 Tryz.underlying26 info_Rat fun c => (c.q 7 rfl))
  · exact opT S59.r 0 (opL S59.r 1 Tryz.underlying26 info_Rat fun c => (c.q 5 rfl))
  · exact opT S59.r 2 (opC S59.r rfl fun c B => ⟨_, args_2 rfl rfl, (r_sameE (c.h 0 rfl) (c.h 1 rfl))⟩)
  · exact opE S59.r fun c => ⟨_, run_pick rfl (c.e 0 rfl), pick_and (fun _ => (c.e 1 rfl))⟩
  · exact opV S59.r fun c => run_v (run_move rfl) (c.e 0 rfl)
  · exact opT S59.r 0 (opL S59.r 3 Tryz.underlying26 info_Rat fun c => (c.q 9 rfl))
  · exact opT S59.r 1 (opC S59.r rfl fun c B => ⟨_, args_1 rfl, (c_fmt (by omega) (isK.r (c.h 0 rfl)) (hT.below B))⟩)
  · exact opT S59.r 0 (opL S59.r 3 Tryz.underlying26 info_Rat fun c => (c.q 9 rfl))
  · exact opT S59.r 2 (opC S59.r rfl fun c B => ⟨_, args_1 rfl, (r_fmt (by omega) (isK.r (c.h 0 rfl)) (S59.obc c.wb))⟩)
  · exact opT S59.r 2 (opV S59.r fun c => run_b (run_seql (a := fmtQ paa) (b := fmtQ paa) rfl (c.e 0 rfl) (c.e 1 rfl) (fmtQ_lt _) (fmtQ_lt _)) (decide_eq_true rfl))
  · exact opE S59.r fun c => ⟨_, run_pick rfl (c.e 0 rfl), pick_and (fun _ => (c.e 1 rfl))⟩
  · exact opV S59.r fun c => run_v (run_move rfl) (c.e 0 rfl)
  · exact opT S59.r 0 (opV S59.r fun c => run_v (run_move rfl) (c.q 0 rfl))
  · exact opT S59.r 1 (opV S59.r fun c => run_eql_same rfl (c.e 0 rfl) rfl)
  · exact opE S59.r fun c => ⟨_, run_pick rfl (c.e 0 rfl), pick_and (fun _ => (c.e 1 rfl))⟩
  · exact opV S59.r fun c => run_v (run_move rfl) (c.e 0 rfl)
  · exact opT S59.r 0 (opL S59.r 0 Tryz.underlying26 info_Rat fun c => (c.q 1 rfl))
  · exact opT S59.r 0 (opL S59.r 3 Tryz.underlying26 info_Rat fun c => (c.q 9 rfl))
  · exact opT S59.r 1 (opC S59.r rfl fun c B => ⟨_, args_1 rfl, (r_trim (by omega) (isK.r (c.h 0 rfl)))⟩)
  · exact opT S59.r 3 (opC S59.r rfl fun c B => ⟨_, args_2 rfl rfl, (r_sameC (c.h 0 rfl) (c.h 1 rfl))⟩)
  · exact opE S59.r fun c => ⟨_, run_pick rfl (c.e 0 rfl), pick_and (fun _ => (c.e 1 rfl))⟩
  · exact opV S59.r fun c => run_v (run_assign rfl) (c.e 0 rfl)
  · rfl
  refine wpList_nil (then_normal ?_)
  refine wp_ret ?_
  exact st_endT S62 0 rfl fun v h => h
end Go.Proofs.YtcankknlbljicaaGreatDoor

namespace Go.Proofs.YtcankknlbljicaaGreatDoor.rationalTexts
open Go.ChangeShapes Go.WideShapes Go.ChangeAt Go.RowKit
open Go.ChangeMaps (open_string shut_string)

set_option linter.unusedVariables false
theorem lifted (os : Os) (started : os.Started) (H : Type) (enc : TypeId × Value → H) :
  ReturnsInHanded {} Tryz.checked os 3 .any (fun w args => (Rows.rationalTextsSpec.pre enc Tryz.prog Tryz.f3 Rows.rationalTextsRow.domain false w args ∧ laidMetH Tryz.prog Rows.rationalTextsRow.laid w) ∧ sizedMet enc Tryz.prog Tryz.f3 (OpenSpec.ofChange Rows.rationalTextsSpec) false w args)
   (Rows.rationalTextsSpec.post enc Tryz.prog Tryz.f3 false true false false) := by
 refine returnsInHanded_of_change_and (C := Tryz.checked) (X := fun w _ => laidMetH Tryz.prog Rows.rationalTextsRow.laid w) (fun _ _ _ hh h => h.of_heap hh) own started (by kernel_rfl) Tryz.func3
  (ChangeSpec.witness_shaped (enc := enc) (C := Tryz.checked) (os := os) (X := fun w _ => laidMetH Tryz.prog Rows.rationalTextsRow.laid w) false (World.laidAll Tryz.prog os Rows.rationalTextsRow.laid) #[.agg #[.bool false, .slice none 0 0, .slice none 0 0], .string ByteArray.empty] 8 (World.laidAll_os _ _ _)
   (World.shaped_of_ZipB (by kernel_rfl) (by kernel_rfl)) (by kernel_rfl) (by kernel_rfl) (by kernel_rfl)
   (by rw [MakeChecks.laidMetH_plain _ _ _ (by kernel_rfl)]; exact laidMet_laidAll _ (by kernel_rfl) (by kernel_rfl))) ?_
 intro W base args ds gs before hval0 hW hcnd _ hL _
 have hval : ∀ (j : Nat) t v, Tryz.f3.params[j]? = some t → args[j]? = some v → Value.okWide Tryz.prog W .any base t v := hval0
 have hW' := hW
 obtain ⟨p, q, hA0, hV, rfl, hfz, hnd⟩ := hW
 have hA : DataW.TrodAll enc Tryz.prog W 0 (fun _ => true) true Tryz.f3.params.toList args.toList ds p := hA0
 rw [Tryz.params3] at hA hval
 obtain ⟨v0, vs0, d0, ds0, p0, q0, hargs, rfl, rfl, h0, r0⟩ := trodAll_cons hA
 obtain ⟨v1, vs1, d1, ds1, p1, q1, rfl, rfl, rfl, h1, r1⟩ := trodAll_cons r0
 obtain ⟨rfl, rfl, rfl⟩ := trodAll_nil r1
 obtain rfl : args = #[v0, v1] := by cases args; simp_all
 obtain ⟨rfl, rfl⟩ := trodVars_none hV
 have k0 := h0
 have lt0 : ∀ x ∈ p0, x.block < W.heap.size := by obtain ⟨m, hm⟩ := k0; exact DataW.trod_lt m _ _ _ hm
 obtain ⟨x0, hf0⟩ := open_ratS (O := fun _ => False) (hval 0 26 v0 rfl rfl) h0
 obtain ⟨s1, rfl, rfl, rfl, w1⟩ := open_string Tryz.underlying9 (hval 1 9 v1 rfl rfl) h1
 obtain ⟨bs1, rfl, hb1, hn1⟩ := bstr_of s1
 clear hA0 hval0
 refine (walkRationalTexts (O := fun _ => False) hb1 (Nat.le_trans (Nat.le_of_eq hn1) w1) hf0 (tb_of_met (by rw [MakeChecks.laidMetH_plain _ _ _ (by kernel_rfl)] at hL; exact hL)) (fun _ h => h.elim)).mono fun e W' hr => ?_
 obtain ⟨vr, he, hvr, bel⟩ := hr
 obtain rfl : vr = .bool true := hvr
 subst he
 exact ⟨_, rfl, _, _, _, [], _, [], hW', trodAll_mk1 (shut_bool Tryz.underlying4 _), (trodAll_cons_mk (Below.trod laidOut (by kernel_rfl) (of_decide_eq_true (by kernel_rfl)) k0 bel lt0) (trodAll_cons_mk (shut_string Tryz.underlying9 w1) trodAll_mk0)), rfl, bel.frame _, fun h => by cases h⟩

theorem both {a b : Bool} (h1 : a = true) (h2 : b = true) : (a && b) = true := by rw [h1, h2]; rfl

theorem closed : joinedFacts Tryz.prog 3 Tryz.f3 Rows.rationalTextsSpec Rows.rationalTextsRow = true := by
 unfold joinedFacts
 repeat' with_reducible refine both ?_ ?_
 all_goals (as_aux_lemma => kernel_rfl)

theorem over : Rows.RationalTextsSaid :=
 OpenClaim.holds_of_wide 3 Tryz.f3 rfl rfl rfl rfl rfl rfl rfl ⟨rfl, rfl, rfl, rfl, rfl⟩ rfl rfl rfl rfl rfl (by as_aux_lemma => kernel_rfl) Tryz.func3 closed
  (of_decide_eq_true (by kernel_rfl)) (by unfold Func.isWrapper; first | (rw [if_pos (by decide +kernel)]; kernel_rfl) | (rw [if_neg (by decide +kernel)]; exact ⟨rfl, rfl⟩))
  (fun os started H enc _ => lifted os started H enc)

theorem card : Rows.RationalTextsCardSaid :=
 Claim7.holds_tied_plain_at .later [] [.data, .data, .pinned] true Rows.rationalTextsCard.stood.harness false over (fun _ h => by cases h) (by as_aux_lemma => kernel_rfl) (fun _ h => by cases h) rationalTexts_row_tie rfl ⟨rfl, rfl⟩ (by as_aux_lemma => kernel_rfl) rfl
  (fun f fn hf hfn => by
   obtain rfl : f = 3 := Option.some.inj ((show Tryz.prog.funcNamed "dspcompiler/dspcompilerlaw03.RationalTexts" = some 3 by as_aux_lemma => kernel_rfl).symm.trans hf) |>.symm
   obtain rfl : fn = Tryz.f3 := (Option.some.inj (Tryz.func3.symm.trans hfn)).symm
   exact ⟨by as_aux_lemma => kernel_rfl, fun j t ht => by
    rw [Tryz.params3] at ht
    have hm : t ∈ [26, 9] := by simpa using Array.mem_of_getElem? ht
    have hall : ([26, 9].all fun u => !Tryz.prog.wantsStandIn u) = true := by as_aux_lemma => kernel_rfl
    exact (show Tryz.prog.wantsStandIn t = false by simpa using List.all_eq_true.1 hall t hm)⟩)
  (by as_aux_lemma => kernel_rfl)
end Go.Proofs.YtcankknlbljicaaGreatDoor.rationalTexts
