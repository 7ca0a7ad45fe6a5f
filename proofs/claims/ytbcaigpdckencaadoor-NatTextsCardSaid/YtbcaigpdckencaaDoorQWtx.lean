/- The walk of NatTexts. -/
import Derived.Test.YtbcaigpdckencaaDoorQRpb
import Derived.Test.YtbcaigpdckencaaDoorQRfo
import Derived.Test.YtbcaigpdckencaaDoorQk

namespace Go.Proofs.YtbcaigpdckencaaDoor
open Go.RowKit Num

theorem decT_lt (X : Nat) : ∀ b ∈ decT X, b < 256 := by
  intro b hb
  unfold decT at hb
  split at hb
  · simp at hb; omega
  · exact decR_lt X b (List.mem_reverse.1 hb)
theorem decT_small {X : Nat} (h : X < 10 ^ 100) : (decT X).length ≤ 9223372036854775807 := by
  unfold decT
  split
  · simp
  · rw [List.length_reverse]
    have := decR_length 100 X h
    omega
theorem beq_self_str (s : ByteArray) : (s.toList == s.toList) = true := beq_self_eq_true _

set_option maxRecDepth 100000 in
set_option maxHeartbeats 3200000 in
theorem walkNatTexts (aa : Option Addr) (ca : Nat) (xs : List Nat) (s : ByteArray) (w : World) (ha : Rd w aa ca xs) (hs : s.size ≤ 9223372036854775807) :
    Calls Tryd.prog 4 #[.slice aa xs.length ca, .string s] w (RetB (.bool true) w) := by
  have hla := ha.le
  have hla2 := ha.cm
  obtain ⟨bs, rfl, hb256, hbl⟩ := bstr_of s
  have hsz := bstr_size bs
  have hlen : bs.length ≤ 9223372036854775807 := by omega
  clear hbl hs
  by_cases hx0 : xs.length ≤ 10
  case neg =>
    have hd := digits_any aa xs.length ca false w (by omega) (by simp; omega)
    have hk := awake_any w
    clear ha hb256
    go_enter Tryd.func4, Tryd.ntmps4
    go_wp2_with fail
    refine hd.mono ?_
    rintro e w' ⟨rfl, rfl⟩
    go_wp2_with fail
    refine hk.mono ?_
    rintro e w' ⟨rfl, hbel⟩
    go_wp2
    go_ret
    exact ⟨rfl, hbel⟩
  have hd := digits_any aa xs.length ca true w (by omega) (by simp; omega)
  by_cases hx1 : bs.length ≤ 200
  case neg =>
    have hk := awake_any w
    have hi : (200 : Int) < (bs.length : Int) := by omega
    clear ha hb256
    go_enter Tryd.func4, Tryd.ntmps4
    go_wp2_with fail
    refine hd.mono ?_
    rintro e w' ⟨rfl, rfl⟩
    go_wp2_with fail
    refine hk.mono ?_
    rintro e w' ⟨rfl, hbel⟩
    go_wp2
    go_ret
    exact ⟨rfl, hbel⟩
  have hi : ¬ ((200 : Int) < (bs.length : Int)) := by omega
  obtain ⟨V, er, hp⟩ := parsed_some bs
  have HP := hid (fun w' => And.intro (parse_any bs w' V er hb256 (by omega) hp) (rparse_any bs w' V er hb256 (by omega) hp))
  have hv := val_lt_of ha.dg hx0
  obtain ⟨X, hX⟩ : ∃ X, X = val xs := ⟨_, rfl⟩
  have HF := hid (fun w' (h : Rd w' aa ca xs) => And.intro (format_any aa ca xs w' h (by omega)) (rformat_any aa ca xs w' h (by omega)))
  have HT := hid (fun w' (h : Rd w' aa ca xs) => rtrim_any aa ca xs w' h (by omega))
  simp only [← hX] at HF HT
  rw [← hX] at hv
  have hX100 : X < 10 ^ 100 := Nat.lt_trans hv (by decide)
  have HD := hid (fun w' => parse_any (decT X) w' X 0 (fun b hb => decT_lt X b hb) (decT_small hX100) (parsed_dec hX100 (by omega)))
  have HR := hid ha
  have hee : (er == er) = true := by simp
  have hff := beq_self_str (fmtS X)
  clear ha hb256 hp hv hX hX100
  go_enter Tryd.func4, Tryd.ntmps4
  go_wp2_with fail
  refine hd.mono ?_
  rintro e w' ⟨rfl, rfl⟩
  clear hd
  have c1 := (HP.out w).1
  go_wp2_with fail
  refine c1.mono ?_
  rintro e w1 ⟨a1, d1, rfl, o1, b1⟩
  have c2 := (HP.out w1).2
  clear c1
  go_wp2_with fail
  refine c2.mono ?_
  rintro e w2 ⟨a2, d2, rfl, o2, k2⟩
  have b2 := b1.trans (k2.mono b1.size)
  have o12 := o1.below k2
  have c3 := (HF.out w2 (HR.out.below b2)).1
  clear c2 k2 o1 b1
  go_wp2_with fail
  refine c3.mono ?_
  rintro e w3 ⟨rfl, k3⟩
  have b3 := b2.trans (k3.mono b2.size)
  have o13 := o12.below k3
  have o23 := o2.below k3
  have c4 := HD.out w3
  clear c3 k3 o12 o2 b2
  go_wp2_with fail
  refine c4.mono ?_
  rintro e w4 ⟨a4, d4, rfl, o4, k4⟩
  have b4 := b3.trans (k4.mono b3.size)
  have o14 := o13.below k4
  have o24 := o23.below k4
  clear c4 k4 o13 o23 b3
  go_wp2_with fail
  refine (awake_any w4).mono ?_
  rintro e w5 ⟨rfl, k5⟩
  have b5 := b4.trans (k5.mono b4.size)
  have o15 := o14.below k5
  have o25 := o24.below k5
  have o45 := o4.below k5
  have c5 := same_any a1 a2 d1 d2 (nd V) (nd V) true w5 o15.rd o25.rd ⟨fun _ => rfl, fun _ => rfl⟩
  clear k5 o14 o24 o4 b4
  go_wp2_with fail
  refine c5.mono ?_
  rintro e w' ⟨rfl, q5, rfl⟩
  have b6 := b5.trans ((below_drewN w5 q5).mono b5.size)
  have o46 := o45.drewN q5
  clear c5 o15 o25 o45 b5
  generalize w5.drewN q5 = w6 at b6 o46 ⊢
  have c6 := (HF.out w6 (HR.out.below b6)).1
  go_wp2_with fail
  refine c6.mono ?_
  rintro e w7 ⟨rfl, k7⟩
  have b7 := b6.trans (k7.mono b6.size)
  have o47 := o46.below k7
  have c7 := (HF.out w7 (HR.out.below b7)).2
  clear c6 k7 b6 o46
  go_wp2_with fail
  refine c7.mono ?_
  rintro e w8 ⟨rfl, k8⟩
  have b8 := b7.trans (k8.mono b7.size)
  have o48 := o47.below k8
  have c8 := HT.out w8 (HR.out.below b8)
  clear c7 k8 b7 o47
  go_wp2_with fail
  refine c8.mono ?_
  rintro e w9 ⟨a9, d9, rfl, o9, k9⟩
  have b9 := b8.trans (k9.mono b8.size)
  have o49 := o48.below k9
  have c9 := same_any a4 a9 d4 d9 (nd X) (nd X) true w9 o49.rd o9.rd ⟨fun _ => rfl, fun _ => rfl⟩
  clear c8 k9 b8 o48
  go_wp2_with fail
  refine c9.mono ?_
  rintro e w' ⟨rfl, q9, rfl⟩
  have HB := hid (b9.trans ((below_drewN w9 q9).mono b9.size))
  clear c9 b9 o49 o9
  go_wp2
  go_ret
  exact ⟨rfl, HB.out⟩
end Go.Proofs.YtbcaigpdckencaaDoor
