/-  -/
import Derived.Test.YtcankknlbljicaaGreatDoorWfc
import Derived.Test.YtcankknlbljicaaGreatDoorWRpj
import Derived.Test.YtcankknlbljicaaGreatDoorWRtx

set_option linter.unusedVariables false
set_option linter.unusedSimpArgs false
set_option linter.unusedSectionVars false
set_option maxRecDepth 100000
set_option maxHeartbeats 3200000

namespace Go.Proofs.YtcankknlbljicaaGreatDoor
open Go.RowKit Num
variable {O : Bs}

theorem bl_loop (bs : ByteArray) : ∀ (n i : Nat) (r : List UInt8), n = bs.size - i → ByteArray.toList.loop bs i r = r.reverse ++ bs.data.toList.drop i := by
 intro n
 induction n with
 | zero =>
  intro i r h
  unfold ByteArray.toList.loop
  have : ¬ i < bs.size := by omega
  rw [if_neg this, List.drop_eq_nil_of_le (by rw [Array.length_toList]; exact Nat.le_of_not_lt this)]; simp
 | succ n ih =>
  intro i r h
  unfold ByteArray.toList.loop
  have hi : i < bs.size := by omega
  have hi2 : i < bs.data.toList.length := by rw [Array.length_toList]; exact hi
  rw [if_pos hi, ih (i+1) _ (by omega), List.drop_eq_getElem_cons hi2]
  have : bs.get! i = bs.data.toList[i] := by
   show bs.data[i]! = _
   rw [getElem!_pos bs.data i hi, Array.getElem_toList]
  rw [this]; simp
theorem bl_eq (bs : ByteArray) : bs.toList = bs.data.toList := by
 unfold ByteArray.toList; rw [bl_loop bs _ 0 [] rfl]; simp
theorem bstr_inj {a b : List Nat} (ha : ∀ x ∈ a, x < 256) (hb : ∀ x ∈ b, x < 256) (h : bstr a = bstr b) : a = b := by
 have e : (bstr a).data.toList = (bstr b).data.toList := by rw [h]
 have e2 : a.map UInt8.ofNat = b.map UInt8.ofNat := by simpa [bstr] using e
 have e3 := congrArg (List.map UInt8.toNat) e2
 have key : ∀ l : List Nat, (∀ x ∈ l, x < 256) → (l.map UInt8.ofNat).map UInt8.toNat = l := by
  intro l hl
  rw [List.map_map]
  conv => rhs; rw [← List.map_id l]
  exact List.map_congr_left fun x hx => by simp [Function.comp]; exact hl x hx
 rwa [key a ha, key b hb] at e3
theorem bstr_beq {a b : List Nat} (ha : ∀ x ∈ a, x < 256) (hb : ∀ x ∈ b, x < 256) : ((bstr a).toList == (bstr b).toList) = decide (a = b) := by
 rw [bl_eq, bl_eq]
 by_cases h : a = b
 ·subst h; simp
 ·rw [decide_eq_false h, beq_eq_false_iff_ne]
  exact fun e => h (bstr_inj ha hb (congrArg (fun l => (⟨l.toArray⟩ : ByteArray)) e))
section
variable {P : Program} {ρ : Operand → Value} {o : Oper} {w : World}
theorem run_slen {x : Operand} {t : TypeId} {bs : List Nat} (ho : o.op = .call { callee := .builtin .len, args := #[x], argTypes := #[t] }) (hx : ρ x = .string (bstr bs)) (hu : P.underlying t = some .string) : (execOp ρ o).run P w = .ok (.value (.int .i64 ((bs.length : Nat) : Int))) w := by
 unfold execOp; simp [ho, hx, go_sem, Builtin.len_, run_underlying hu, goInt, bstr_size]
theorem run_sadd {x y : Operand} {T T' : TypeId} {a b : List Nat} (ho : o.op = .binOp .add T x y T') (hx : ρ x = .string (bstr a)) (hy : ρ y = .string (bstr b)) (h : a.length + b.length ≤ 9223372036854775807) : (execOp ρ o).run P w = .ok (.value (.string (bstr (a ++ b)))) w := by
 have e : ¬ ((((bstr a).size + (bstr b).size : Nat) : Int) > IntKind.i64.max) := by
  rw [bstr_size, bstr_size]
  show ¬ (((a.length + b.length : Nat) : Int) > 9223372036854775807)
  omega
 unfold execOp; simp [ho, hx, hy, go_sem, Op.stringOp, ← bstr_append]
 simpa using e
theorem run_seql {x y : Operand} {T T' : TypeId} {a b : List Nat} (ho : o.op = .binOp .eql T x y T') (hx : ρ x = .string (bstr a)) (hy : ρ y = .string (bstr b)) (ha : ∀ x ∈ a, x < 256) (hb : ∀ x ∈ b, x < 256) : (execOp ρ o).run P w = .ok (.value (.bool (decide (a = b)))) w := by
 unfold execOp; simp [ho, hx, hy, go_sem, Op.stringOp]
 exact bstr_beq ha hb
theorem run_sneq {x y : Operand} {T T' : TypeId} {a b : List Nat} (ho : o.op = .binOp .neq T x y T') (hx : ρ x = .string (bstr a)) (hy : ρ y = .string (bstr b)) (ha : ∀ x ∈ a, x < 256) (hb : ∀ x ∈ b, x < 256) : (execOp ρ o).run P w = .ok (.value (.bool (!(decide (a = b))))) w := by
 have e := bstr_beq ha hb
 unfold execOp; simp [ho, hx, hy, go_sem, Op.stringOp]
 rw [← e]
theorem run_sidx {x y : Operand} {t : TypeId} {bs : List Nat} (i : Nat) (ho : o.op = .index t x y) (hx : ρ x = .string (bstr bs)) (hy : ρ y = .int .i64 ((i : Nat) : Int)) (hu : P.underlying t = some .string) (hi : i < bs.length) (hb : ∀ x ∈ bs, x < 256) : (execOp ρ o).run P w = .ok (.value (.int .u8 ((bs.getD i 0 : Nat) : Int))) w := by
 have h1 : i < (bstr bs).size := by rw [bstr_size]; exact hi
 have h2 := bstr_get h1 hb
 unfold execOp; simp [ho, hx, hy, go_sem, Instr.index, asIntOf, run_underlying hu, getElem?_pos (bstr bs) i h1]
 rw [h2]; simp
theorem run_sslH {x y : Operand} {t : TypeId} {s : ByteArray} (n : Nat) (ho : o.op = .slice t x none (some y) none) (hx : ρ x = .string s) (hy : ρ y = .int .i64 ((n : Nat) : Int)) (hu : P.underlying t = some .string) (hn : n ≤ s.size) : (execOp ρ o).run P w = .ok (.value (.string (s.extract 0 n))) w := by
 unfold execOp; simp [ho, hx, hy, go_sem, Instr.sliceAt, Instr.slice, Instr.sliceBounds, Instr.sliceBound, asIntOf, run_underlying hu, hn]
theorem run_sslL {x y : Operand} {t : TypeId} {s : ByteArray} (n : Nat) (ho : o.op = .slice t x (some y) none none) (hx : ρ x = .string s) (hy : ρ y = .int .i64 ((n : Nat) : Int)) (hu : P.underlying t = some .string) (hn : n ≤ s.size) : (execOp ρ o).run P w = .ok (.value (.string (s.extract n s.size))) w := by
 unfold execOp; simp [ho, hx, hy, go_sem, Instr.sliceAt, Instr.slice, Instr.sliceBounds, Instr.sliceBound, asIntOf, run_underlying hu, hn]
end
end Go.Proofs.YtcankknlbljicaaGreatDoor

namespace Go.Proofs.YtcankknlbljicaaGreatDoor
open Go.RowKit Num
variable {O : Bs}

def isNz (z : Int) (k : Nat) (w : World) (v : Value) : Prop := ∃ ao c, v = .agg #[.bool (decide (z < 0)), .slice ao (nd z.natAbs).length c] ∧ Rd w ao c (nd z.natAbs) ∧ (nd z.natAbs).length ≤ k
def mNz (z : Int) (k : Nat) : MP := MP.of (isNz z k) fun _ _ _ he ⟨ao, c, h1, h2, h3⟩ => ⟨ao, c, h1, h2.ext he, h3⟩
def isQz (z : Int) (V k : Nat) (w : World) (v : Value) : Prop := ∃ ao c ad d, v = .agg #[.bool (decide (z < 0)), .slice ao (nd z.natAbs).length c, .slice ad (nd V).length d] ∧ Rd w ao c (nd z.natAbs) ∧ Rd w ad d (nd V) ∧ (nd z.natAbs).length ≤ k ∧ (nd V).length ≤ k
def mQz (z : Int) (V k : Nat) : MP := MP.of (isQz z V k) fun _ _ _ he ⟨ao, c, ad, d, h1, h2, h3, h4⟩ => ⟨ao, c, ad, d, h1, h2.ext he, h3.ext he, h4⟩
theorem noU2 {b : Bool} {ao : Option Addr} {n c : Nat} : noU #[.bool b, .slice ao n c] := by
 intro i x
 match i with
 | 0 => simp
 | 1 => simp
 | i + 2 => simp
theorem isNz.cv {z : Int} {k : Nat} {w : World} {v : Value} (h : isNz z k w v) : cv 2 v := by
 obtain ⟨ao, c, rfl, _⟩ := h
 exact ⟨_, rfl, rfl, noU2, by simp [Value.oneCell']⟩
theorem isQz.cv {z : Int} {V k : Nat} {w : World} {v : Value} (h : isQz z V k w v) : cv 3 v := by
 obtain ⟨ao, c, ad, d, rfl, _⟩ := h
 exact ⟨_, rfl, rfl, noU3, by simp [Value.oneCell']⟩
theorem info_Int : (Tryz.prog.info? 24).map (·.size) = some 2 := by kernel_rfl
theorem zero_Int (w : World) : (zeroValue 24).run Tryz.prog w = .ok (.agg #[.bool false, .slice none 0 0]) w := by kernel_rfl
theorem bx_Int {w : World} {g : Nat} (h : w.heap[g]? = some (.cells (Value.agg #[.bool false, .slice none 0 0]).cells 24 (0, 0))) : bx O 24 2 mTop w g := ⟨_, h, rfl, noU2, by simp [Value.cells, Value.oneCell'], trivial⟩
theorem fa_Rat_0 {ρ : Operand → Value} {o : Oper} {w : World} {x : Operand} {g : Nat} (ho : o.op = .fieldAddr 26 x 0) (hx : ρ x = .pointer (some ⟨g, 0, none⟩)) : (execOp ρ o).run Tryz.prog w = .ok (.value (.pointer (some ⟨g, 0, none⟩))) w := run_fieldAddr ho hx Tryz.underlying26 rfl info_Int
theorem ld_num {ρ : Operand → Value} {o : Oper} {w : World} {x : Operand} {g : Nat} {T : TypeId} {q : Rat} {k : Nat} (h : bx O T 3 (mC q k) w g) (hx : ρ x = .pointer (some ⟨g, 0, none⟩)) (ho : o.op = .load 24 x := by rfl) : ∃ v, (execOp ρ o).run Tryz.prog w = .ok (.value v) w ∧ (mNz q.num k).S O w v := by
 obtain ⟨cs, h1, h2, h3, h4, ao, c, ad, d, e, k1, k2, k3⟩ := h
 obtain rfl := Value.agg.inj e
 have hr : w.rangeAt g 0 [.bool (decide (q.num < 0)), .slice ao (nd q.num.natAbs).length c] := fun j v hv => by
  rw [cell_of_row w g _ _ T (0, 0) h1]
  match j with
  | 0 => simpa using hv
  | 1 => simpa using hv
  | j + 2 => simp at hv
 exact ⟨_, run_load_mid _ _ ho hx hr Tryz.underlying24 rfl info_Int, ao, c, rfl, k1, k3.1⟩
def mU (x : Nat) : MP := MP.of (fun w v => ∃ a, v = .pointer (some a) ∧ w.cell? a = some (.int .u32 ((x : Nat) : Int))) fun _ _ _ he ⟨a, h1, h2⟩ => ⟨a, h1, he _ _ h2⟩
theorem info_u32 : (Tryz.prog.info? 88).map (·.size) = some (zc 0) := by kernel_rfl
theorem ix_d {a : Act} {o : Oper} {w : World} {x : Tmp} {y : Operand} {xs : List Nat} (i : Nat) (h : (mD xs).S O w (sl a x)) (hy : a.eval y = .int .i64 ((i : Nat) : Int)) (hi : i < xs.length) (ho : o.op = .indexAddr 22 (.tmp x) y := by rfl) : ∃ v, (execOp a.eval o).run Tryz.prog w = .ok (.value v) w ∧ (mU (xs.getD i 0)).S O w v := by
 obtain ⟨ao, c, h1, h2⟩ := h
 rcases h2.lies with e | ⟨b, off, rfl, hl⟩
 ·subst e; simp at hi
 ·exact ⟨_, ix_addr (ρ := a.eval) (es := 0) Tryz.underlying22 info_u32 (ev h1) hy hi ho, _, rfl, by rw [show zc 0 = 1 from rfl, Nat.one_mul]; exact hl i hi⟩
theorem ld_u {a : Act} {o : Oper} {w : World} {x : Tmp} {n : Nat} (h : (mU n).S O w (sl a x)) (ho : o.op = .load 88 (.tmp x) := by rfl) : (execOp a.eval o).run Tryz.prog w = .ok (.value (.int .u32 ((n : Nat) : Int))) w := by
 obtain ⟨ad, h1, h2⟩ := h
 have h1' : a.eval (.tmp x) = _ := h1
 obtain ⟨ρ, hρ⟩ : ∃ ρ, ρ = a.eval := ⟨_, rfl⟩
 rw [← hρ] at h1' ⊢
 unfold execOp
 simp [ho, h1', Instr.loadAt, Instr.sureAddr, go_sem, loadVar, isAgg, run_underlying Tryz.underlying88, h2]
theorem len_d {a : Act} {o : Oper} {w : World} {x : Tmp} {xs : List Nat} (h : (mD xs).S O w (sl a x)) (ho : o.op = .call { callee := .builtin .len, args := #[.tmp x], argTypes := #[22] } := by rfl) : (execOp a.eval o).run Tryz.prog w = .ok (.value (.int .i64 ((xs.length : Nat) : Int))) w := by
 obtain ⟨ao, c, h1, h2⟩ := h
 have h1' : a.eval (.tmp x) = _ := h1
 obtain ⟨ρ, hρ⟩ : ∃ ρ, ρ = a.eval := ⟨_, rfl⟩
 rw [← hρ] at h1' ⊢
 unfold execOp
 simp [ho, h1', go_sem, Builtin.len_, run_underlying Tryz.underlying22, goInt]
theorem built_Q0 (b : Bool) (ao ad : Option Addr) (n c m d : Nat) : Tryz.prog.built 26 [(0, .agg #[.bool b, .slice ao n c]), (1, .slice ad m d)] = some #[.bool b, .slice ao n c, .slice ad m d] := by kernel_rfl
theorem bld_Q {a : Act} {w : World} {o : Oper} {t u : Tmp} {z : Int} {k : Nat} (hk : 1 ≤ k) (ho : o.op = .build 26 #[(0, Operand.tmp t), (1, Operand.tmp u)]) (h : (mNz z k).S O w (sl a t)) (g : (mD [1]).S O w (sl a u)) : ∃ v, (execOp a.eval o).run Tryz.prog w = .ok (.value v) w ∧ (mQz z 1 k).S O w v := by
 obtain ⟨ao, c, q1, h1, h3⟩ := h
 obtain ⟨ad, d, q2, h2⟩ := g
 have e1 : a.eval (.tmp t) = _ := q1
 have e2 : a.eval (.tmp u) = _ := q2
 have en : nd 1 = [1] := by decide +kernel
 refine ⟨_, run_build_op _ _ ho (cells := #[.bool (decide (z < 0)), .slice ao (nd z.natAbs).length c, .slice ad ([1] : List Nat).length d]) ?_, ao, c, ad, d, by rw [en], h1, by rw [en]; exact h2, h3, by rw [en]; exact hk⟩
 simp only [List.map_toArray, List.map_cons, List.map_nil, e1, e2]
 exact built_Q0 _ _ _ _ _ _ _
section
variable {P : Program} {ops : Array Oper} {rest : List Oper} {o : Oper} {a : Act} {w W0 : World} {Q : Exit → Act → World → Prop} {N : Nat} {O0 : Bs} {L : List (Nat × MP)} {X : List RX}
theorem t_sto_den (S : St N O0 O W0 a w L X) (i j k : Nat) {t u : Tmp} {g : Nat} {T0 : TypeId} {z : Int} {V V' m : Nat} (hm : (nd V').length ≤ m) (hk : X[k]? = some (.box g T0 3 (mQz z V m))) (hi : L[i]? = some (t, mV (.pointer (some ⟨g, 2, none⟩)))) (hj : L[j]? = some (u, mD (nd V')))
  (h : ∀ w', St N O0 O W0 a w' L (X.set k (.box g T0 3 (mQz z V' m))) → wpList Tryz.prog ops Q rest a w') (ho : o.op = .store 22 (.tmp t) (.tmp u) := by rfl) (hg : o.guard = none := by rfl) (hd : o.dst = none := by rfl) : wpList Tryz.prog ops Q (o :: rest) a w := by
 have hO := (S.x.o _ (List.mem_of_getElem? hk) g rfl).1
 have hb := S.bx k hk
 obtain ⟨ao', d', hy', hr⟩ := S.sl j hj
 have hy : a.eval (.tmp u) = _ := hy'
 obtain ⟨cs, h1, h2, h3, h4, ao, c, ad, d, e, k1, k2, k3, k4⟩ := id hb
 obtain rfl := Value.agg.inj e
 have kp := bx.kp #[.bool (decide (z < 0)), .slice ao (nd z.natAbs).length c, .slice ao' (nd V').length d'] hb hO
 refine wpList_plain hg fun K hK => ?_
 have hx : a.eval (.tmp t) = .pointer (some ⟨g, 2, none⟩) := S.e i hi
 have hc : w.cell? ⟨g, 2, none⟩ = some (.slice ad (nd V).length d) := by rw [cell_of_row w g 2 _ T0 (0, 0) h1]; rfl
 have hrow : w.setCell ⟨g, 2, none⟩ (.slice ao' (nd V').length d') = w.setRow g #[.bool (decide (z < 0)), .slice ao (nd z.natAbs).length c, .slice ao' (nd V').length d'] := by
  rw [setCell_eq_setRow w g 2 _ T0 (0, 0) _ h1]; rfl
 have hrun : (execOp a.eval o).run Tryz.prog w = .ok .skip (w.setRow g #[.bool (decide (z < 0)), .slice ao (nd z.natAbs).length c, .slice ao' (nd V').length d']) := by
  rw [← hrow]
  have hz : w.frozen? ⟨g, 2, none⟩ = false := by simp [World.frozen?, h1]
  clear hrow h kp hb S hK
  obtain ⟨ρ, hρ⟩ : ∃ ρ, ρ = a.eval := ⟨_, rfl⟩
  rw [← hρ] at hx hy ⊢
  unfold execOp
  simp [ho, hx, hy, Instr.storeAt, Instr.sureAddr, go_sem, storeVar, isAgg, run_underlying Tryz.underlying22, hc, hz]
 unfold Oper.wp
 rw [hrun]
 refine hK _ _ ?_
 rw [hd]
 refine h _ (S.put k hk rfl kp (q := .box g T0 3 (mQz z V' m)) ⟨_, setRow_heap w g _ _ T0 (0, 0) h1, rfl, noU3, ?_, ao, c, ao', d', rfl, k1.ext kp.e, hr.ext kp.e, k3, hm⟩ rfl)
 simp [Value.oneCell']
end

theorem c_fmt {q : Rat} {k : Nat} (hk : k ≤ 1073741000) {v : Value} {w : World} (h : isR q k w v) (hT : Tb w) : Calls Tryz.prog 16 #[v] w (RetM (mV (.string (bstr (fmtQ q)))) O w) := by
 obtain ⟨b, ao, c, xs, ad, d, ds, rfl, h1⟩ := h
 exact (format3_any h1 hk hT).mono fun _ _ r => RetB.s r
theorem c_parse {bs : List Nat} {q : Rat} {er : Int} (hb : ∀ b ∈ bs, b < 256) (hl : bs.length ≤ 4096) (h : RPar bs q er) (hs : er = 0 → Sz q 4096) {w : World} (hT : Tb w) : Calls Tryz.prog 14 #[.string (bstr bs)] w (RetM (mT (mE q er 4096) (mV (.int .i64 er))) O w) :=
 (rparse_all bs w q er hb hl h hT).mono fun _ _ ⟨ao, c, ad, d, r1, h1, h2, h3⟩ => ⟨_, r1, ⟨_, _, rfl, ⟨ao, c, ad, d, rfl, h1.rd, h2.rd, hs⟩, rfl⟩, h3⟩
theorem r_ifmt {z : Int} {k : Nat} (hk : k ≤ 1073741824) {v : Value} {w : World} (h : isNz z k w v) : Calls Tryz.prog 92 #[v] w (RetM (mV (.string (bstr (fmtL z)))) O w) := by
 obtain ⟨ao, c, rfl, h1, h2⟩ := h
 have h3 := riformat_any (decide (z < 0)) ao c _ w h1 (by omega)
 rw [val_nd, iv_self] at h3
 exact h3.mono fun _ _ r => ⟨_, r.1, rfl, r.2⟩
theorem r_nfmt {V : Nat} (hk : (nd V).length ≤ 1073741824) {v : Value} {w : World} (h : isD (nd V) w v) : Calls Tryz.prog 93 #[v] w (RetM (mV (.string (bstr (decT V)))) O w) := by
 obtain ⟨ao, c, rfl, h1⟩ := h
 have h3 := rformat_any ao c _ w h1 hk
 rw [val_nd] at h3
 exact h3.mono fun _ _ r => ⟨_, r.1, rfl, r.2⟩
theorem r_iparse {bs : List Nat} {z er : Int} (hb : ∀ b ∈ bs, b < 256) (hl : bs.length ≤ 4096) (h : IParsed bs z er) {w : World} : Calls Tryz.prog 85 #[.string (bstr bs)] w (RetM (mT (mNz z 4096) (mV (.int .i64 er))) O w) :=
 (riparse_any bs w z er hb (by omega) h).mono fun _ _ ⟨ao, c, r1, r2, r3⟩ => ⟨_, r1, ⟨_, _, rfl, ⟨ao, c, rfl, r2.rd, iparsed_small h hl⟩, rfl⟩, r3⟩
theorem r_nparse {bs : List Nat} {V : Nat} {er : Int} (hb : ∀ b ∈ bs, b < 256) (hl : bs.length ≤ 4096) (h : Parsed bs V er) {w : World} : Calls Tryz.prog 86 #[.string (bstr bs)] w (RetM (mT (mD (nd V)) (mV (.int .i64 er))) O w) :=
 (rparse_any bs w V er hb (by omega) h).mono fun _ _ ⟨ao, c, r1, r2, r3⟩ => ⟨_, r1, ⟨_, _, rfl, ⟨ao, c, rfl, r2.rd⟩, rfl⟩, r3⟩
theorem isQz.k {z : Int} {V k : Nat} {w : World} {v : Value} (h : isQz z V k w v) (cn : Bool) (hc : cn = true ↔ canon (decide (z < 0)) (nd z.natAbs) (nd V)) : isK (rv (decide (z < 0)) z.natAbs V) k cn w v := by
 obtain ⟨ao, c, ad, d, rfl, h1, h2, h3, h4⟩ := h
 exact ⟨_, ao, c, _, ad, d, _, rfl, ⟨h1, h2, by rw [val_nd, val_nd], h3, h4⟩, hc⟩
theorem r_validK {q : Rat} {k : Nat} {cn : Bool} (hk : k ≤ 4398046511103) {v : Value} {w : World} (h : isK q k cn w v) : Calls Tryz.prog 87 #[v] w (RetM (mV (.bool cn)) O w) := by
 obtain ⟨b, ao, c, xs, ad, d, ds, rfl, h1, h2⟩ := h
 exact (rvalid3_any h1 hk cn h2).mono fun _ _ r => RetB.s r
theorem isQz.c {z : Int} {V k : Nat} {q : Rat} (hc : canon (decide (z < 0)) (nd z.natAbs) (nd V)) (h1 : q.num = z) (h2 : q.den = V) {w : World} {v : Value} (h : isQz z V k w v) : isC q k w v := by
 subst h1 h2
 obtain ⟨ao, c, ad, d, rfl, g1, g2, g3, g4⟩ := h
 exact ⟨ao, c, ad, d, rfl, g1, g2, g3, g4⟩
end Go.Proofs.YtcankknlbljicaaGreatDoor

namespace Go.Proofs.YtcankknlbljicaaGreatDoor
open Go.RowKit Num
variable {O : Bs}

theorem decT_len {X k : Nat} (h : X < 10 ^ k) (hk : 1 ≤ k) : (decT X).length ≤ k := by
 unfold decT
 split
 ·simpa using hk
 ·rw [List.length_reverse]; exact decR_length k X h
theorem decT_dgs (X : Nat) : dgs (decT X) := by
 unfold decT
 split
 ·intro b hb; simp at hb; omega
 ·exact (decR_spec (X + 1) X (Nat.lt_succ_self X)).2.1
theorem decT_lt2 (X : Nat) : ∀ b ∈ decT X, b < 256 := by
 intro b hb
 have := decT_dgs X b hb
 omega
theorem fmtL_dgs (z : Int) : ∀ b ∈ fmtL z, b = 45 ∨ (48 ≤ b ∧ b ≤ 57) := by
 intro b hb
 unfold fmtL at hb
 split at hb
 ·rcases List.mem_cons.1 hb with h | h
  ·exact Or.inl h
  ·have := decT_dgs _ b h; omega
 ·have := decT_dgs _ b hb; omega
theorem fmtL_lt (z : Int) : ∀ b ∈ fmtL z, b < 256 := by
 intro b hb
 have := fmtL_dgs z b hb; omega
theorem fmtQ_lt (q : Rat) : ∀ b ∈ fmtQ q, b < 256 := by
 intro b hb
 unfold fmtQ at hb
 rcases List.mem_append.1 hb with h | h
 ·exact fmtL_lt _ b h
 ·split at h
  ·simp at h
  ·rcases List.mem_cons.1 h with h | h
   ·omega
   ·exact decT_lt2 _ b h
theorem iparsed_fmt {z : Int} {k : Nat} (hk : z.natAbs < 10 ^ k) (h1 : 1 ≤ k) (hk2 : k ≤ 4095) : IParsed (fmtL z) z 0 ∧ (fmtL z).length ≤ k + 1 := by
 have hl := decT_len hk h1
 have hp := parsed_dec hk (by omega : k ≤ 4096)
 unfold fmtL
 by_cases hn : z < 0
 ·rw [if_pos hn]
  have e : (45 :: decT z.natAbs).length = (decT z.natAbs).length + 1 := rfl
  exact ⟨Or.inr ⟨by omega, true, decT z.natAbs, z.natAbs, 0, Or.inl ⟨rfl, rfl⟩, hp, Or.inr (Or.inr ⟨rfl, by omega, by rw [iv, if_pos rfl]; omega, rfl⟩)⟩, by omega⟩
 ·rw [if_neg hn]
  refine ⟨Or.inr ⟨by omega, false, decT z.natAbs, z.natAbs, 0, Or.inr ⟨rfl, rfl, fun h => ?_⟩, hp, Or.inr (Or.inr ⟨rfl, by simp, by rw [iv, if_neg (by simp)]; omega, rfl⟩)⟩, by omega⟩
  have := decT_dgs z.natAbs 45 (List.mem_of_head? h)
  omega
theorem iparsed_back {a : List Nat} {z : Int} (h : IParsed a z 0) : fmtL z = a := by
 rcases h with ⟨_, _, h⟩ | ⟨_, neg, ts, V, e, hc, hp, ⟨_, _, h⟩ | ⟨_, _, _, _, h⟩ | ⟨rfl, h1, rfl, _⟩⟩
 ·omega
 ·omega
 ·omega
 ·have hb := parsed_back hp
  rcases hc with ⟨rfl, rfl⟩ | ⟨rfl, rfl, _⟩
  ·have hV : V ≠ 0 := fun e => h1 ⟨rfl, e⟩
   have hz : iv true V = -(V : Int) := by rw [iv, if_pos rfl]
   rw [hz, fmtL, if_pos (by omega), show (-(V : Int)).natAbs = V by omega, hb]
  ·have hz : iv false V = (V : Int) := by rw [iv, if_neg (by simp)]
   rw [hz, fmtL, if_neg (by omega), show ((V : Int)).natAbs = V by omega, hb]
theorem canon_rv {z : Int} {V : Nat} (h : canon (decide (z < 0)) (nd z.natAbs) (nd V)) : (rv (decide (z < 0)) z.natAbs V).num = z ∧ (rv (decide (z < 0)) z.natAbs V).den = V := by
 obtain ⟨⟨h1, h2⟩, h3⟩ := (canon_iff (wf_nd _) (wf_nd _) (by rw [val_nd, val_nd])).1 h
 have e1 := congrArg val h2
 have e2 := congrArg val h3
 rw [val_nd, val_nd] at e1 e2
 refine ⟨?_, e2.symm⟩
 have h4 : (z < 0) ↔ ((rv (decide (z < 0)) z.natAbs V).num < 0) := by simpa using h1
 omega
theorem canon_of {q : Rat} : canon (decide (q.num < 0)) (nd q.num.natAbs) (nd q.den) := by
 refine (canon_iff (q := q) (wf_nd _) (wf_nd _) ?_).2 ⟨⟨rfl, rfl⟩, rfl⟩
 rw [val_nd, val_nd]
 unfold rv
 rw [iv_self]
 exact Rat.mkRat_self q
theorem canon_one (z : Int) : canon (decide (z < 0)) (nd z.natAbs) (nd 1) := canon_of (q := ((z : Int) : Rat))
theorem fmt_back {bs a r : List Nat} {f : Bool} {z : Int} {V : Nat} (hc : CutS bs a r f) (hf : f = true) (hi : IParsed a z 0) (hp : Parsed r V 0) (hk : canon (decide (z < 0)) (nd z.natAbs) (nd V)) : fmtQ (rv (decide (z < 0)) z.natAbs V) = bs ↔ V ≠ 1 := by
 obtain ⟨h1, h2⟩ := canon_rv hk
 rcases hc with ⟨_, rfl, _⟩ | ⟨h, _⟩
 ·unfold fmtQ
  rw [h1, h2, iparsed_back hi]
  by_cases h : V = 1
  ·rw [if_pos h]; simp [h]
  ·rw [if_neg h, parsed_back hp]; simp [h]
 ·rw [hf] at h; cases h
theorem fmt_back1 {bs a r : List Nat} {f : Bool} {z : Int} (hc : CutS bs a r f) (hf : f = false) (hi : IParsed a z 0) : fmtQ (rv (decide (z < 0)) z.natAbs 1) = bs := by
 obtain ⟨h1, h2⟩ := canon_rv (canon_one z)
 rcases hc with ⟨h, _⟩ | ⟨_, rfl, _⟩
 ·rw [hf] at h; cases h
 ·unfold fmtQ
  rw [h1, h2, iparsed_back hi, if_pos rfl, List.append_nil]
theorem slash_cond {bs a r : List Nat} {f : Bool} {k : Nat} (hc : CutS bs a r f) (hk : k ≤ a.length) : (decide (((k : Nat) : Int) < ((bs.length : Nat) : Int)) && decide ((((bs.getD k 0 : Nat) : Int)) ≠ (47))) = decide (k < a.length) := by
 rcases hc with ⟨_, rfl, h2⟩ | ⟨_, rfl, _, h2⟩
 ·by_cases h : k < a.length
  ·have e : (a ++ 47 :: r).getD k 0 = a[k] := by rw [List.getD_eq_getElem?_getD, List.getElem?_append_left h, List.getElem?_eq_getElem h]; rfl
   have hm : a[k] ≠ 47 := fun e => h2 (e ▸ List.getElem_mem h)
   have h3 : ((k : Nat) : Int) < (((a ++ 47 :: r).length : Nat) : Int) := by simp; omega
   rw [e, decide_eq_true h3, decide_eq_true h, Bool.true_and, decide_eq_true_eq]
   omega
  ·have hk2 : k = a.length := by omega
   subst hk2
   have e : (a ++ 47 :: r).getD a.length 0 = 47 := by simp
   rw [e]; simp
 ·by_cases h : k < a.length
  ·have e : a.getD k 0 = a[k] := by rw [List.getD_eq_getElem?_getD, List.getElem?_eq_getElem h]; rfl
   have hm : a[k] ≠ 47 := fun e => h2 (e ▸ List.getElem_mem h)
   have h3 : ((k : Nat) : Int) < ((a.length : Nat) : Int) := by omega
   rw [e, decide_eq_true h3, decide_eq_true h, Bool.true_and, decide_eq_true_eq]
   omega
  ·rw [decide_eq_false (show ¬ ((k : Nat) : Int) < ((a.length : Nat) : Int) by omega), decide_eq_false h]; rfl
theorem cutS_lo {bs a r : List Nat} {f : Bool} {k : Nat} (hc : CutS bs a r f) (hk : k = a.length) : Value.string ((bstr bs).extract 0 k) = .string (bstr a) := by
 subst hk
 rcases hc with ⟨_, rfl, _⟩ | ⟨_, rfl, _⟩
 ·rw [bstr_ex0]
 ·have h := bstr_ex0 a []
  rw [List.append_nil] at h
  rw [h]
theorem cutS_hi {bs a r : List Nat} {f : Bool} {k : Nat} (hc : CutS bs a r f) (hf : f = true) (hk : k = a.length) : Value.string ((bstr bs).extract (k + 1) (bstr bs).size) = .string (bstr r) := by
 subst hk
 rcases hc with ⟨_, rfl, _⟩ | ⟨h, _⟩
 ·have h := bstr_ex1 a r 47
  rw [bstr_size, show (a ++ 47 :: r).length = a.length + 1 + r.length by simp; omega, h]
 ·rw [hf] at h; cases h
theorem cutS_f {bs a r : List Nat} {f : Bool} (hc : CutS bs a r f) : f = decide (a.length < bs.length) := by
 rcases hc with ⟨rfl, rfl, _⟩ | ⟨rfl, rfl, _⟩
 ·simp
 ·simp
theorem cutS_in {bs a r : List Nat} {f : Bool} (hc : CutS bs a r f) (hb : ∀ b ∈ bs, b < 256) : (∀ b ∈ a, b < 256) ∧ ∀ b ∈ r, b < 256 := by
 rcases hc with ⟨_, rfl, _⟩ | ⟨_, rfl, rfl, _⟩
 ·exact ⟨fun b h => hb b (by simp [h]), fun b h => hb b (by simp [h])⟩
 ·exact ⟨hb, fun b h => by simp at h⟩
theorem rpar_sz {bs : List Nat} {q : Rat} (hl : bs.length ≤ 4096) (h : RPar bs q 0) : Sz q 4096 := by
 obtain ⟨a, r, f, z, hc, h⟩ := h
 have hl2 := cutS_len hc
 rcases h with ⟨_, h⟩ | ⟨hi, _, _, rfl⟩ | ⟨hi, _, V, ⟨_, h⟩ | ⟨_, _, h⟩ | ⟨_, _, _, h⟩ | ⟨hp, _, _, _, rfl, rfl⟩⟩
 ·omega
 ·exact ⟨iparsed_small hi (by omega), Nat.le_trans (nd_length_le (show (1 : Nat) < 4294967296 ^ 1 by omega)) (by omega)⟩
 ·omega
 ·omega
 ·omega
 ·exact ⟨iparsed_small hi (by omega), parsed_small hp (by omega)⟩
theorem rpar_fmt {q : Rat} {k : Nat} (h1 : q.num.natAbs < 10 ^ k) (h2 : q.den < 10 ^ k) (hk : 1 ≤ k) (hk2 : k ≤ 2000) : RPar (fmtQ q) q 0 ∧ (fmtQ q).length ≤ 4096 := by
 obtain ⟨hi, hl⟩ := iparsed_fmt h1 hk (by omega)
 have hld := decT_len h2 hk
 have h47 : 47 ∉ fmtL q.num := fun h => by have := fmtL_dgs _ 47 h; omega
 unfold fmtQ
 by_cases hd : q.den = 1
 ·rw [if_pos hd, List.append_nil]
  refine ⟨⟨_, [], false, q.num, Or.inr ⟨rfl, rfl, rfl, h47⟩, Or.inr (Or.inl ⟨hi, rfl, rfl, ?_⟩)⟩, by omega⟩
  exact Rat.ext rfl hd
 ·rw [if_neg hd]
  refine ⟨⟨_, _, true, q.num, Or.inl ⟨rfl, rfl, h47⟩, Or.inr (Or.inr ⟨hi, rfl, q.den, Or.inr (Or.inr (Or.inr ⟨parsed_dec h2 (by omega), hd, canon_of, rfl, rfl, rfl⟩))⟩)⟩, ?_⟩
  simp; omega
end Go.Proofs.YtcankknlbljicaaGreatDoor
