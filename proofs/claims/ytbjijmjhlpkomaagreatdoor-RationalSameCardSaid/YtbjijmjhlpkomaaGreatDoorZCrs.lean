/-  -/
import Derived.Test.YtbjijmjhlpkomaaGreatDoorZcb
import Derived.Test.YtbjijmjhlpkomaaGreatDoorZ7
import Derived.Test.YtbjijmjhlpkomaaGreatDoorTie
import Derived.Test.YtbjijmjhlpkomaaGreatDoorCards
import Derived.SevenTiedAt

set_option linter.unusedVariables false
set_option linter.unusedSimpArgs false
set_option linter.unusedSectionVars false
set_option maxRecDepth 100000
set_option maxHeartbeats 3200000

namespace Go.Proofs.YtbjijmjhlpkomaaGreatDoor
open Go.RowKit Num

def mOI (B : Nat) (z : Int) : BP := ⟨fun w v => ∃ ao c, v = .agg #[.bool (decide (z < 0)), .slice ao (nd z.natAbs).length c] ∧ Own B w ao c (nd z.natAbs), fun _ _ _ hb ⟨ao, c, h1, h2⟩ => ⟨ao, c, h1, h2.below hb⟩⟩
theorem k_iof (z : Int) {w : World} (B : Nat) (hB : B ≤ w.heap.size) (h1 : -9223372036854775808 ≤ z) (h2 : z ≤ 9223372036854775807) : Calls Tryz.prog 18 #[.int .i64 z] w (RetS (mOI B z).S w) :=
 (riof_any z w h1 h2).mono fun _ _ r => by obtain ⟨ao, c, rfl, h3, h4⟩ := r; exact ⟨_, rfl, ⟨ao, c, rfl, h3.mono hB⟩, h4⟩
def mI (z : Int) : MP := ⟨fun w v => ∃ ao c, v = .agg #[.bool (decide (z < 0)), .slice ao (nd z.natAbs).length c] ∧ Rd w ao c (nd z.natAbs), fun _ _ _ he ⟨ao, c, h1, h2⟩ => ⟨ao, c, h1, h2.ext he⟩⟩
theorem k_iofR (z : Int) {w : World} (h1 : -9223372036854775808 ≤ z) (h2 : z ≤ 9223372036854775807) : Calls Tryz.prog 18 #[.int .i64 z] w (RetS (mI z).S w) :=
 (riof_any z w h1 h2).mono fun _ _ r => by obtain ⟨ao, c, rfl, h3, h4⟩ := r; exact ⟨_, rfl, ⟨ao, c, rfl, h3.rd⟩, h4⟩
theorem run_toU32 {ρ : Operand → Value} {o : Oper} {w : World} {x : Operand} {n : Int} (ho : o.op = .convert 3 38 x) (hx : ρ x = .int .i64 n) (h1 : 0 ≤ n) (h2 : n < 4294967296) : (execOp ρ o).run Tryz.prog w = .ok (.value (.int .u32 n)) w := by
 unfold execOp
 rw [ho]
 have e := IntWalk.u32_in n ⟨h1, by omega⟩
 simp [hx, go_sem, convert, run_underlying Tryz.underlying3, run_underlying Tryz.underlying38, e]
theorem built_u30 (n : Int) : Tryz.prog.builtSlice 38 3 [(0, .int .u32 n), (1, .int .u32 0), (2, .int .u32 0)] = some #[.int .u32 n, .int .u32 0, .int .u32 0] := by kernel_rfl
theorem run_u3 {a : Act} {o : Oper} {w : World} {t : Tmp} {n : Int} (ho : o.op = .buildSlice 22 3 #[(0, .tmp t), (1, .const (.int .u32 0)), (2, .const (.int .u32 0))]) (h0 : a.eval (.tmp t) = .int .u32 n) :
   (execOp a.eval o).run Tryz.prog w = .ok (.value (.slice (some ⟨w.heap.size, 0, none⟩) 3 3)) (w.alloc (.cells #[.int .u32 n, .int .u32 0, .int .u32 0] 38)) := by
 refine run_buildSliceR ho Tryz.underlying22 ?_
 simp only [List.map_toArray, List.map_cons, List.map_nil, h0]
 exact built_u30 n
theorem run_u1 {a : Act} {o : Oper} {w : World} (ho : o.op = .buildSlice 22 1 #[(0, .const (.int .u32 0))]) :
   (execOp a.eval o).run Tryz.prog w = .ok (.value (.slice (some ⟨w.heap.size, 0, none⟩) 1 1)) (w.alloc (.cells #[.int .u32 0] 38)) := by
 refine run_buildSliceR ho Tryz.underlying22 ?_
 simp only [List.map_toArray, List.map_cons, List.map_nil]
 kernel_rfl
theorem built_x0 (x0 x1 : Value) (y : Option Addr) (n c : Nat) : Tryz.prog.built 26 [(0, .agg #[x0, x1]), (1, .slice y n c)] = some #[x0, x1, .slice y n c] := by kernel_rfl
theorem built_x {a : Act} {t u : Tmp} {x0 x1 : Value} {y : Option Addr} {n c : Nat} (h1 : sl a t = .agg #[x0, x1]) (h2 : sl a u = .slice y n c) : Tryz.prog.built 26 ((#[(0, Operand.tmp t), (1, Operand.tmp u)] : Array (Nat × Operand)).map fun (i, x) => (i, a.eval x)).toList = some #[x0, x1, .slice y n c] := by
 have e1 : a.eval (.tmp t) = .agg #[x0, x1] := h1
 have e2 : a.eval (.tmp u) = .slice y n c := h2
 simp only [List.map_toArray, List.map_cons, List.map_nil, e1, e2]
 exact built_x0 _ _ _ _ _
theorem built_n0 (x0 x1 : Value) : Tryz.prog.built 26 [(0, .agg #[x0, x1])] = some #[x0, x1, .slice none 0 0] := by kernel_rfl
theorem built_n {a : Act} {t : Tmp} {x0 x1 : Value} (h1 : sl a t = .agg #[x0, x1]) : Tryz.prog.built 26 ((#[(0, Operand.tmp t)] : Array (Nat × Operand)).map fun (i, x) => (i, a.eval x)).toList = some #[x0, x1, .slice none 0 0] := by
 have e1 : a.eval (.tmp t) = .agg #[x0, x1] := h1
 simp only [List.map_toArray, List.map_cons, List.map_nil, e1]
 exact built_n0 _ _
theorem info_Int : (Tryz.prog.info? 24).map (·.size) = some 2 := by kernel_rfl
theorem info_U : (Tryz.prog.info? 22).map (·.size) = some 1 := by kernel_rfl
theorem fa_Rat_0 {ρ : Operand → Value} {o : Oper} {w : World} {x : Operand} {g : Nat} (ho : o.op = .fieldAddr 26 x 0) (hx : ρ x = .pointer (some ⟨g, 0, none⟩)) : (execOp ρ o).run Tryz.prog w = .ok (.value (.pointer (some ⟨g, 0, none⟩))) w := run_fieldAddr ho hx Tryz.underlying26 rfl info_Int
theorem fa_Int_1 {ρ : Operand → Value} {o : Oper} {w : World} {x : Operand} {g : Nat} (ho : o.op = .fieldAddr 24 x 1) (hx : ρ x = .pointer (some ⟨g, 0, none⟩)) : (execOp ρ o).run Tryz.prog w = .ok (.value (.pointer (some ⟨g, 1, none⟩))) w := run_fieldAddr ho hx Tryz.underlying24 rfl info_U
theorem run_load_s {ρ : Operand → Value} {o : Oper} {w : World} {x : Operand} {g off : Nat} {v : Value} (ho : o.op = .load 22 x) (hx : ρ x = .pointer (some ⟨g, off, none⟩)) (hc : w.cell? ⟨g, off, none⟩ = some v) : (execOp ρ o).run Tryz.prog w = .ok (.value v) w := by
 unfold execOp
 rw [ho]
 simp [hx, Instr.loadAt, Instr.sureAddr, go_sem, loadVar, isAgg, run_underlying Tryz.underlying22, hc]
theorem tl_cell {ops : Array Oper} {rest : List Oper} {o : Oper} {a : Act} {w : World} {Q : Exit → Act → World → Prop} (hg : o.guard = none) (hd : o.dst = none) {T : TypeId} {x y : Operand} (ho : o.op = .store T x y) {g off : Nat} {v : Value} (hx : a.eval x = .pointer (some ⟨g, off, none⟩)) (hy : a.eval y = v) (hv : v.oneCell' = true) (hi : (Tryz.prog.info? T).map (·.size) = some 1)
   {T0 : TypeId} {cs : Array Value} (hr : w.heap[g]? = some (.cells cs T0 (0, 0))) (ho2 : off < cs.size) (h : wpList Tryz.prog ops Q rest a (w.setRow g (cs.set! off v))) : wpList Tryz.prog ops Q (o :: rest) a w :=
 wpList_plain hg fun _ hK => by
   have hc : v.cells = #[v] := by cases v <;> first | rfl | cases hv
   have hcell : w.cell? ⟨g, off, none⟩ = some cs[off] := by rw [cell_of_row w g off cs T0 (0, 0) hr]; simp [ho2]
   have hf : w.frozen? ⟨g, off, none⟩ = false := by simp [World.frozen?, hr]
   cases hq : Tryz.prog.info? T with
   | none => simp [hq] at hi
   | some i =>
     have hs : i.size = 1 := by simpa [hq] using hi
     have hst := run_store Tryz.prog w ⟨g, off, none⟩ v .plain hv
     rw [hcell] at hst
     rw [hf, setCell_eq_setRow w g off cs T0 (0, 0) v hr] at hst
     replace hst : (store ⟨g, off, none⟩ v .plain).run Tryz.prog w = .ok () (w.setRow g (cs.set! off v)) := hst
     have hsv : (storeVar T ⟨g, off, none⟩ v).run Tryz.prog w = .ok () (w.setRow g (cs.set! off v)) := by
       unfold storeVar
       rw [hc]
       simp [sizeOf, typeInfo, hq, hs, storeCells, Sem.run_bind, Result.andThen]
       rw [show (⟨g, off, none⟩ : Addr).add 0 = ⟨g, off, none⟩ from Addr.add_mid _ _ _, hst]
       simp
     unfold Oper.wp execOp
     simp only [ho, hx, hy, Instr.storeAt, Instr.sureAddr, Sem.run_bind, Sem.run_pure, Result.andThen_ok, hsv]
     refine hK _ _ ?_
     rw [hd]
     exact h
theorem tl_append {ops : Array Oper} {rest : List Oper} {o : Oper} {a : Act} {w : World} {Q : Exit → Act → World → Prop} (hgd : o.guard = none) {d : Tmp} (hd : o.dst = some d) {s x : Operand}
   (ho : o.op = .call { callee := .builtin .append, args := #[s, x], argTypes := #[22, 22] })
   {B : Nat} {ao ax : Option Addr} {c cx : Nat} {xs ys : List Nat} (hs : a.eval s = .slice ao xs.length c) (hx : a.eval x = .slice ax ys.length cx) (hown : Own B w ao c xs) (hr : Rd w ax cx ys)
   (hb : xs.length + ys.length ≤ 35184372088832) (hB : B ≤ w.heap.size) (hlt : d < a.tmps.size)
   (h : ∀ a' w' ao' c', a'.tmps.size = a.tmps.size → a'.defers = a.defers → sl a' d = .slice ao' (xs ++ ys).length c' → (∀ t, t ≠ d → sl a' t = sl a t) → Own B w' ao' c' (xs ++ ys) → Below B w w' → (∀ k, k < w.heap.size → (∀ p, ao = some p → p.block ≠ k) → w'.heap[k]? = w.heap[k]?) → wpList Tryz.prog ops Q rest a' w') : wpList Tryz.prog ops Q (o :: rest) a w := by
 refine wp_append_kept w hgd s x ho B ao ax _ _ c cx xs ys hs hx rfl rfl hown hr hb hB ?_
 intro ao' c' w' h1 h2 h3
 rw [hd]
 exact h _ _ _ _ (put_size _ _ _) (put_defers _ _ _) ((sl_put _ hlt).trans (by rw [List.length_append])) (fun t ht => sl_other _ fun e => ht e.symm) h1 h2 h3
theorem rd_row {w : World} {g : Nat} {xs : List Nat} {cs : Array Value} (h : w.heap[g]? = some (.cells cs 38 (0, 0))) (hc : ∀ i, i < xs.length → cs[i]? = some (.int .u32 ((xs.getD i 0 : Nat) : Int))) (hw : wf xs) (hl : xs.length ≤ 9223372036854775807) : Rd w (some ⟨g, 0, none⟩) xs.length xs :=
 ⟨Nat.le_refl _, hl, fun h => (by cases h), hw, Or.inr ⟨g, 0, rfl, fun i hi => by rw [Nat.zero_add, cell_of_row w g i cs _ (0, 0) h]; exact hc i hi⟩⟩
theorem own_ne {B c g : Nat} {w : World} {ao : Option Addr} {xs : List Nat} {cs : Array Value} {t : TypeId} {p : Nat × Nat} (h : Own B w ao c xs) (hh : w.heap[g]? = some (.cells cs t p)) (ht : t ≠ 38) : ∀ a, ao = some a → a.block ≠ g := by
 rintro a rfl he
 rcases h.1.2 with ⟨h1, _⟩ | ⟨g', cc, cur, h1, h2, h3, _⟩
 · cases h1
 · simp only [Value.slice.injEq, Option.some.injEq] at h1
   obtain ⟨rfl, _, _⟩ := h1
   simp only at he
   subst he
   rw [h3] at hh
   simp only [Option.some.injEq, Obj.cells.injEq] at hh
   exact ht hh.2.1.symm
theorem isK_zeros {A B F AF BF : Int} (hF : 1 ≤ F) (hB : 1 ≤ B) (eA : AF = A * F) (eB : BF = B * F) (hA1 : -9223372036854775808 ≤ AF) (hA2 : AF ≤ 4294967295) (hA3 : -4294967295 ≤ AF) (hB2 : BF ≤ 4294967295) {w : World} {ao : Option Addr} {c gd : Nat} (h1 : Rd w ao c (nd AF.natAbs ++ [0])) (h2 : Rd w (some ⟨gd, 0, none⟩) 3 [BF.toNat, 0, 0]) :
   isK (Rat.divInt A B) 3 false w (.agg #[.bool (decide (AF < 0)), .slice ao (nd AF.natAbs ++ [0]).length c, .slice (some ⟨gd, 0, none⟩) 3 3]) := by
 have hBF : 1 ≤ BF := by rw [eB]; exact Int.mul_pos (by omega) (by omega)
 refine ⟨_, ao, c, _, some ⟨gd, 0, none⟩, 3, _, rfl, ⟨h1, h2, ?_, ?_, by simp⟩, ?_⟩
 · rw [val_append, val_nd]
   have e1 : val [0] = 0 := by decide
   have e2 : val [BF.toNat, 0, 0] = BF.toNat := by simp [val]
   rw [e1, e2, Nat.mul_zero, Nat.add_zero]
   unfold rv
   rw [iv_self, ← Rat.divInt_ofNat, Int.toNat_of_nonneg (by omega), eA, eB]
   exact Rat.divInt_mul_right (by omega)
 · have := nd_length_le (v := AF.natAbs) (k := 1) (by omega)
   simp; omega
 · refine ⟨fun h => (by cases h), fun h => ?_⟩
   have h3 := h.2.1
   exact absurd h3 (by simp [nrm])
theorem mul_small {a f : Int} (h1 : -500 ≤ a) (h2 : a ≤ 499) (h3 : 1 ≤ f) (h4 : f ≤ 90) : -45000 ≤ a * f ∧ a * f ≤ 45000 := by
 have g1 := Int.mul_le_mul_of_nonneg_right h1 (show 0 ≤ f by omega)
 have g2 := Int.mul_le_mul_of_nonneg_right h2 (show 0 ≤ f by omega)
 omega
theorem mul_smallp {a f : Int} (h1 : 1 ≤ a) (h2 : a ≤ 500) (h3 : 1 ≤ f) (h4 : f ≤ 90) : 1 ≤ a * f ∧ a * f ≤ 45000 := by
 have g2 := Int.mul_le_mul_of_nonneg_right h2 (show 0 ≤ f by omega)
 have g3 := Int.mul_pos (show 0 < a by omega) (show 0 < f by omega)
 omega
theorem awake3_s {w : World} (hT : Tb w) : Calls Tryz.prog 10 #[] w (RetS (mV (.bool true)).S w) :=
 (awake3_any w hT).mono fun _ _ r => by obtain ⟨rfl, h⟩ := r; exact ⟨_, rfl, rfl, h⟩
theorem isR_zero {z : Int} (h2 : z.natAbs < 4294967296) {w : World} {ao : Option Addr} {c : Nat} (h1 : Rd w ao c (nd z.natAbs)) : isR 0 1 w (.agg #[.bool (decide (z < 0)), .slice ao (nd z.natAbs).length c, .slice none 0 0]) :=
 ⟨_, ao, c, _, none, 0, [], rfl, h1, ⟨Nat.le_refl _, by decide, fun _ => rfl, wf_nil, Or.inl rfl⟩, rv_zero _ _, nd_length_le (by omega), Nat.zero_le _⟩
theorem cmp_self {q : Rat} : decide (cmpQ q q = 0) = true := by
 rw [decide_eq_true_eq]; unfold cmpQ; rw [if_neg (Rat.lt_irrefl), if_neg (Rat.lt_irrefl)]
theorem same_zero {q : Rat} : (true && decide (0 + q = q)) = true := by simp [Rat.zero_add]
end Go.Proofs.YtbjijmjhlpkomaaGreatDoor

namespace Go.Proofs.YtbjijmjhlpkomaaGreatDoor
open Go.RowKit Num

theorem walkRationalSame (j0 j1 j2 : Int)  {w : World} (h0a : -9223372036854775808 ≤ j0) (h0b : j0 ≤ 9223372036854775807) (h1a : -9223372036854775808 ≤ j1) (h1b : j1 ≤ 9223372036854775807) (h2a : -9223372036854775808 ≤ j2) (h2b : j2 ≤ 9223372036854775807)  (hT : Tb w) :
   Calls Tryz.prog 4 #[.int .i64 (j0), .int .i64 (j1), .int .i64 (j2)] w (RetS (mV (.bool (true))).S w) := by
 refine calls_abs 70 Tryz.func4 rfl rfl (by simp) ?_
 intro a0 z0 d0 ha
 have s0_0 : sl a0 0 = .int .i64 (j0) := ha 0 (by simp)
 have s0_1 : sl a0 1 = .int .i64 (j1) := ha 1 (by simp)
 have s0_2 : sl a0 2 = .int .i64 (j2) := ha 2 (by simp)
 have B0 : Below w.heap.size w w := Below.refl _ _
 refine wp_seq ?_
 refine wp_region_seq 0 (mG []) (by rw [z0]; kernel_rfl) (mG_mono _) (ops_ok trivial) ?_
 intro a1 w2 ms3
 have B4 : Below w.heap.size w w2 := B0.trans (ms3.b.mono B0.size)
 have z5 : a1.tmps.size = 70 := ms3.sz.trans z0
 have d6 : a1.defers = [] := ms3.df.trans d0
 have s7 : sl a1 0 = .int .i64 (j0) := (ms3.fr 0 (out_of (by kernel_rfl))).trans s0_0
 have s8 : sl a1 1 = .int .i64 (j1) := (ms3.fr 1 (out_of (by kernel_rfl))).trans s0_1
 have s9 : sl a1 2 = .int .i64 (j2) := (ms3.fr 2 (out_of (by kernel_rfl))).trans s0_2
 refine tl_set rfl rfl (run_assign rfl) (by rw [z5]; decide) ?_
 intro a10 z11 d12 s13 fr14
 have s15 : sl a10 6 = .bool (false) := s13.trans rfl
 have z16 : a10.tmps.size = 70 := z11.trans z5
 have d17 : a10.defers = [] := d12.trans d6
 have s18 : sl a10 0 = .int .i64 (j0) := (fr14 0 (by decide)).trans s7
 have s19 : sl a10 1 = .int .i64 (j1) := (fr14 1 (by decide)).trans s8
 have s20 : sl a10 2 = .int .i64 (j2) := (fr14 2 (by decide)).trans s9
 refine wpList_nil (then_normal ?_)
 refine wp_seq ?_
 refine wp_region_seq 9 (mG [(mV (.int .i64 (j0))).b, (mV (.int .i64 ((j0) % (1000)))).b, (mV (.int .i64 (((j0) % (1000)) - (500)))).b, (mV (.int .i64 (j1))).b, (mV (.int .i64 ((j1) % (500)))).b, (mV (.int .i64 ((1) + ((j1) % (500))))).b, (mV (.int .i64 (j2))).b, (mV (.int .i64 ((j2) % (90)))).b, (mV (.int .i64 ((1) + ((j2) % (90))))).b]) (by rw [z16]; kernel_rfl) (mG_mono _) (ops_ok ⟨?_, ?_, ?_, ?_, ?_, ?_, ?_, ?_, ?_, trivial⟩) ?_
 · exact opk_pure rfl rfl fun a w hb hf hd => ⟨_, run_move rfl, fun _ _ => ((hf 0 (out_of (by kernel_rfl))).trans s18)⟩
 · refine opk_call rfl rfl fun a w hb hf hd => ?_
   have e0 : a.eval (.tmp 13) = .int .i64 (j0) := (hd.at 0 rfl rfl rfl rfl)
   exact ⟨17, #[.int .i64 (j0), .int .i64 (1000)], run_call rfl rfl (fun _ _ => by kernel_rfl) (args_2 e0 rfl), (k_mod (j0) (1000) (by omega) (by omega) (by omega) (by omega)).mono fun _ _ r => RetS.imp (fun _ _ h => fun _ _ => h) r⟩
 · exact opk_pure rfl rfl fun a w hb hf hd => ⟨_, run_sub rfl (ev (hd.at 0 rfl rfl rfl rfl)) rfl (by omega) (by omega), fun _ _ => rfl⟩
 · exact opk_pure rfl rfl fun a w hb hf hd => ⟨_, run_move rfl, fun _ _ => ((hf 1 (out_of (by kernel_rfl))).trans s19)⟩
 · refine opk_call rfl rfl fun a w hb hf hd => ?_
   have e0 : a.eval (.tmp 16) = .int .i64 (j1) := (hd.at 0 rfl rfl rfl rfl)
   exact ⟨17, #[.int .i64 (j1), .int .i64 (500)], run_call rfl rfl (fun _ _ => by kernel_rfl) (args_2 e0 rfl), (k_mod (j1) (500) (by omega) (by omega) (by omega) (by omega)).mono fun _ _ r => RetS.imp (fun _ _ h => fun _ _ => h) r⟩
 · exact opk_pure rfl rfl fun a w hb hf hd => ⟨_, run_add rfl rfl (ev (hd.at 0 rfl rfl rfl rfl)) (by omega) (by omega), fun _ _ => rfl⟩
 · exact opk_pure rfl rfl fun a w hb hf hd => ⟨_, run_move rfl, fun _ _ => ((hf 2 (out_of (by kernel_rfl))).trans s20)⟩
 · refine opk_call rfl rfl fun a w hb hf hd => ?_
   have e0 : a.eval (.tmp 19) = .int .i64 (j2) := (hd.at 0 rfl rfl rfl rfl)
   exact ⟨17, #[.int .i64 (j2), .int .i64 (90)], run_call rfl rfl (fun _ _ => by kernel_rfl) (args_2 e0 rfl), (k_mod (j2) (90) (by omega) (by omega) (by omega) (by omega)).mono fun _ _ r => RetS.imp (fun _ _ h => fun _ _ => h) r⟩
 · exact opk_pure rfl rfl fun a w hb hf hd => ⟨_, run_add rfl rfl (ev (hd.at 0 rfl rfl rfl rfl)) (by omega) (by omega), fun _ _ => rfl⟩
 intro a21 w22 ms23
 have B24 : Below w.heap.size w w22 := B4.trans (ms23.b.mono B4.size)
 have z25 : a21.tmps.size = 70 := ms23.sz.trans z16
 have d26 : a21.defers = [] := ms23.df.trans d17
 have s27 : sl a21 6 = .bool (false) := (ms23.fr 6 (out_of (by kernel_rfl))).trans s15
 have s28 : sl a21 15 = .int .i64 (((j0) % (1000)) - (500)) := ms23.g 2 _ 15 rfl (by decide) trivial rfl
 have s29 : sl a21 18 = .int .i64 ((1) + ((j1) % (500))) := ms23.g 5 _ 18 rfl (by decide) trivial rfl
 have s30 : sl a21 21 = .int .i64 ((1) + ((j2) % (90))) := ms23.g 8 _ 21 rfl (by decide) trivial rfl
 refine tl_set rfl rfl (run_assign rfl) (by rw [z25]; decide) ?_
 intro a31 z32 d33 s34 fr35
 have s36 : sl a31 7 = .int .i64 (((j0) % (1000)) - (500)) := s34.trans s28
 have z37 : a31.tmps.size = 70 := z32.trans z25
 have d38 : a31.defers = [] := d33.trans d26
 have s39 : sl a31 6 = .bool (false) := (fr35 6 (by decide)).trans s27
 have s40 : sl a31 15 = .int .i64 (((j0) % (1000)) - (500)) := (fr35 15 (by decide)).trans s28
 have s41 : sl a31 18 = .int .i64 ((1) + ((j1) % (500))) := (fr35 18 (by decide)).trans s29
 have s42 : sl a31 21 = .int .i64 ((1) + ((j2) % (90))) := (fr35 21 (by decide)).trans s30
 refine tl_set rfl rfl (run_assign rfl) (by rw [z37]; decide) ?_
 intro a43 z44 d45 s46 fr47
 have s48 : sl a43 8 = .int .i64 ((1) + ((j1) % (500))) := s46.trans s41
 have z49 : a43.tmps.size = 70 := z44.trans z37
 have d50 : a43.defers = [] := d45.trans d38
 have s51 : sl a43 6 = .bool (false) := (fr47 6 (by decide)).trans s39
 have s52 : sl a43 15 = .int .i64 (((j0) % (1000)) - (500)) := (fr47 15 (by decide)).trans s40
 have s53 : sl a43 18 = .int .i64 ((1) + ((j1) % (500))) := (fr47 18 (by decide)).trans s41
 have s54 : sl a43 21 = .int .i64 ((1) + ((j2) % (90))) := (fr47 21 (by decide)).trans s42
 have s55 : sl a43 7 = .int .i64 (((j0) % (1000)) - (500)) := (fr47 7 (by decide)).trans s36
 refine tl_set rfl rfl (run_assign rfl) (by rw [z49]; decide) ?_
 intro a56 z57 d58 s59 fr60
 have s61 : sl a56 9 = .int .i64 ((1) + ((j2) % (90))) := s59.trans s54
 have z62 : a56.tmps.size = 70 := z57.trans z49
 have d63 : a56.defers = [] := d58.trans d50
 have s64 : sl a56 6 = .bool (false) := (fr60 6 (by decide)).trans s51
 have s65 : sl a56 15 = .int .i64 (((j0) % (1000)) - (500)) := (fr60 15 (by decide)).trans s52
 have s66 : sl a56 18 = .int .i64 ((1) + ((j1) % (500))) := (fr60 18 (by decide)).trans s53
 have s67 : sl a56 21 = .int .i64 ((1) + ((j2) % (90))) := (fr60 21 (by decide)).trans s54
 have s68 : sl a56 7 = .int .i64 (((j0) % (1000)) - (500)) := (fr60 7 (by decide)).trans s55
 have s69 : sl a56 8 = .int .i64 ((1) + ((j1) % (500))) := (fr60 8 (by decide)).trans s48
 refine wpList_nil (then_normal ?_)
 refine wp_seq ?_
 have hF1 : 1 ≤ (1) + ((j2) % (90)) := by omega
 have hF2 : (1) + ((j2) % (90)) ≤ 90 := by omega
 have hB1 : 1 ≤ (1) + ((j1) % (500)) := by omega
 have hB2 : (1) + ((j1) % (500)) ≤ 500 := by omega
 have hA1 : -500 ≤ ((j0) % (1000)) - (500) := by omega
 have hA2 : ((j0) % (1000)) - (500) ≤ 499 := by omega
 have hAF := mul_small hA1 hA2 hF1 hF2
 have hBF := mul_smallp hB1 hB2 hF1 hF2
 refine wp_region_seq 8 (mG [(mV (.int .i64 (((j0) % (1000)) - (500)))).b, (mV (.int .i64 ((1) + ((j2) % (90))))).b, (mV (.int .i64 ((((j0) % (1000)) - (500)) * ((1) + ((j2) % (90)))))).b, (mOI w.heap.size ((((j0) % (1000)) - (500)) * ((1) + ((j2) % (90))))), (mV (.int .i64 ((1) + ((j1) % (500))))).b, (mV (.int .i64 ((1) + ((j2) % (90))))).b, (mV (.int .i64 (((1) + ((j1) % (500))) * ((1) + ((j2) % (90)))))).b, (mV (.int .u32 (((1) + ((j1) % (500))) * ((1) + ((j2) % (90)))))).b]) (by rw [z62]; kernel_rfl) (mG_mono _) (ops_ok ⟨?_, ?_, ?_, ?_, ?_, ?_, ?_, ?_, trivial⟩) ?_
 · exact opk_pure rfl rfl fun a w hb hf hd => ⟨_, run_move rfl, fun _ _ => ((hf 7 (out_of (by kernel_rfl))).trans s68)⟩
 · exact opk_pure rfl rfl fun a w hb hf hd => ⟨_, run_move rfl, fun _ _ => ((hf 9 (out_of (by kernel_rfl))).trans s61)⟩
 · exact opk_pure rfl rfl fun a w hb hf hd => ⟨_, run_mul rfl (ev (hd.at 0 rfl rfl rfl rfl)) (ev (hd.at 1 rfl rfl rfl rfl)) (by omega) (by omega), fun _ _ => rfl⟩
 · refine opk_call rfl rfl fun a w hb hf hd => ?_
   have e0 : a.eval (.tmp 24) = .int .i64 ((((j0) % (1000)) - (500)) * ((1) + ((j2) % (90)))) := (hd.at 0 rfl rfl rfl rfl)
   exact ⟨18, #[.int .i64 ((((j0) % (1000)) - (500)) * ((1) + ((j2) % (90))))], run_call rfl rfl (fun _ _ => by kernel_rfl) (args_1 e0), (k_iof ((((j0) % (1000)) - (500)) * ((1) + ((j2) % (90)))) _ (Nat.le_trans B24.size hb.size) (by omega) (by omega)).mono fun _ _ r => RetS.imp (fun _ _ h => fun _ _ => h) r⟩
 · exact opk_pure rfl rfl fun a w hb hf hd => ⟨_, run_move rfl, fun _ _ => ((hf 8 (out_of (by kernel_rfl))).trans s69)⟩
 · exact opk_pure rfl rfl fun a w hb hf hd => ⟨_, run_move rfl, fun _ _ => ((hf 9 (out_of (by kernel_rfl))).trans s61)⟩
 · exact opk_pure rfl rfl fun a w hb hf hd => ⟨_, run_mul rfl (ev (hd.at 0 rfl rfl rfl rfl)) (ev (hd.at 1 rfl rfl rfl rfl)) (by omega) (by omega), fun _ _ => rfl⟩
 · exact opk_pure rfl rfl fun a w hb hf hd => ⟨_, run_toU32 rfl (ev (hd.at 0 rfl rfl rfl rfl)) (by omega) (by omega), fun _ _ => rfl⟩
 intro a1 w1 ms1
 have B1 := B24.trans (ms1.b.mono B24.size)
 have z1 := ms1.sz.trans z62
 have d1 := ms1.df.trans d63
 have s17 := (ms1.fr 7 (out_of (by kernel_rfl))).trans s68
 have s18 := (ms1.fr 8 (out_of (by kernel_rfl))).trans s69
 obtain ⟨ao, c, e25, o1⟩ := (show (mOI w.heap.size ((((j0) % (1000)) - (500)) * ((1) + ((j2) % (90))))).S w1 (sl a1 25) from ms1.g 3 _ 25 rfl (by decide) trivial rfl)
 have s29 : sl a1 29 = .int .u32 (((1) + ((j1) % (500))) * ((1) + ((j2) % (90)))) := ms1.g 7 _ 29 rfl (by decide) trivial rfl
 have hpb := own_block o1
 obtain ⟨AF, hAFe⟩ : ∃ x, x = (((j0) % (1000)) - (500)) * ((1) + ((j2) % (90))) := ⟨_, rfl⟩
 obtain ⟨BF, hBFe⟩ : ∃ x, x = ((1) + ((j1) % (500))) * ((1) + ((j2) % (90))) := ⟨_, rfl⟩
 rw [← hAFe] at e25 o1 hAF
 rw [← hBFe] at s29 hBF
 refine tl_newS rfl rfl (run_u3 rfl (ev s29)) (by rw [z1]; decide) ?_
 intro a2 w2 gd z2 d2 s30 fr2 hgd hrow2 hb2
 have B2 := B1.trans (hb2.mono B1.size)
 have o2 := o1.below hb2
 have lgd : gd < w2.heap.size := (Array.getElem?_eq_some_iff.1 hrow2).1
 refine tl_set rfl rfl (run_build_op _ _ rfl (built_x ((fr2 25 (by decide)).trans e25) s30)) (by rw [z2, z1]; decide) ?_
 intro a3 z3 d3 s31 fr3
 refine tl_new rfl rfl (run_alloc_op rfl zero_Rat) (by rw [z3, z2, z1]; decide) ?_
 intro a4 w4 g z4 d4 s10 fr4 hg4 hrow4 hb4
 have B4 := B2.trans (hb4.mono B2.size)
 have o4 := o2.below hb4
 have hrd4 := (hb4.block gd lgd).trans hrow2
 have q1 := B1.size
 have q2 := hb2.size
 have lg : g < w4.heap.size := (Array.getElem?_eq_some_iff.1 hrow4).1
 refine wpList_store_rowTo rfl _ _ _ rfl rfl g _ (ev s10) (ev ((fr4 31 (by decide)).trans s31)) _ _ hrow4 info_Rat rfl (by simp [Value.oneCell']) ?_
 obtain ⟨w5, hw5⟩ : ∃ x, x = w4.setRow g #[.bool (decide (AF < 0)), .slice ao (nd AF.natAbs).length c, .slice (some ⟨gd, 0, none⟩) 3 3] := ⟨_, rfl⟩
 have B5 : Below w.heap.size w w5 := by rw [hw5]; exact below_row B4 (by omega) _
 have hrow5 := setRow_heap w4 g _ (#[.bool (decide (AF < 0)), .slice ao (nd AF.natAbs).length c, .slice (some ⟨gd, 0, none⟩) 3 3]) _ (0, 0) hrow4
 rw [← hw5] at hrow5
 have hrd5 := (setRow_other w4 g gd (#[.bool (decide (AF < 0)), .slice ao (nd AF.natAbs).length c, .slice (some ⟨gd, 0, none⟩) 3 3]) (by omega)).trans hrd4
 rw [← hw5] at hrd5
 have o5 : Own w.heap.size w5 ao c (nd AF.natAbs) := o4.keep fun p hp => by rw [hw5]; exact setRow_other w4 g _ _ (by have := hpb p hp; omega)
 have lgd5 : gd < w5.heap.size := (Array.getElem?_eq_some_iff.1 hrd5).1
 have lg5 : g < w5.heap.size := (Array.getElem?_eq_some_iff.1 hrow5).1
 rw [← hw5]
 clear hw5
 refine wpList_nil (then_normal ?_)
 refine wp_seq ?_
 refine wp_region_seq 0 (mG []) (by rw [z4, z3, z2, z1]; kernel_rfl) (mG_mono _) (ops_ok trivial) ?_
 intro a6 w6 ms6
 have z6 : a6.tmps.size = 70 := ms6.sz.trans (z4.trans (z3.trans (z2.trans z1)))
 have d6 : a6.defers = [] := ms6.df.trans (d4.trans (d3.trans (d2.trans d1)))
 have u10 := (ms6.fr 10 (out_of (by kernel_rfl))).trans s10
 have u7 := (ms6.fr 7 (out_of (by kernel_rfl))).trans ((fr4 7 (by decide)).trans ((fr3 7 (by decide)).trans ((fr2 7 (by decide)).trans s17)))
 have u8 := (ms6.fr 8 (out_of (by kernel_rfl))).trans ((fr4 8 (by decide)).trans ((fr3 8 (by decide)).trans ((fr2 8 (by decide)).trans s18)))
 have B6 := B5.trans (ms6.b.mono B5.size)
 have o6 := o5.below ms6.b
 have hrow6 := (ms6.b.block g lg5).trans hrow5
 have hrd6 := (ms6.b.block gd lgd5).trans hrd5
 have lg6 : g < w6.heap.size := (Array.getElem?_eq_some_iff.1 hrow6).1
 have lgd6 : gd < w6.heap.size := (Array.getElem?_eq_some_iff.1 hrd6).1
 refine tl_set rfl rfl (fa_Rat_0 rfl (ev u10)) (by rw [z6]; decide) ?_
 intro a7 z7 d7 s32 fr7
 refine tl_set rfl rfl (fa_Int_1 rfl (ev s32)) (by rw [z7, z6]; decide) ?_
 intro a8 z8 d8 s33 fr8
 refine tl_set rfl rfl (run_load_s rfl (ev s33) ((cell_of_row w6 g 1 _ _ (0, 0) hrow6).trans rfl)) (by rw [z8, z7, z6]; decide) ?_
 intro a9 z9 d9 s34 fr9
 refine tl_newS rfl rfl (run_u1 rfl) (by rw [z9, z8, z7, z6]; decide) ?_
 intro a10 w10 ga z10 d10 s35 fr10 hga hrow10 hb10
 have o10 := o6.below hb10
 have hrow10g := (hb10.block g lg6).trans hrow6
 have hrd10 := (hb10.block gd lgd6).trans hrd6
 have lg10 : g < w10.heap.size := (Array.getElem?_eq_some_iff.1 hrow10g).1
 have lgd10 : gd < w10.heap.size := (Array.getElem?_eq_some_iff.1 hrd10).1
 have B10 := B6.trans (hb10.mono B6.size)
 have hone : Rd w10 (some ⟨ga, 0, none⟩) 1 [0] := rd_row (xs := [0]) hrow10 (fun i hi => by obtain rfl : i = 0 := (by simpa using hi); rfl) (by simp [wf]) (by decide)
 have hln : (nd AF.natAbs).length ≤ 1 := nd_length_le (v := AF.natAbs) (k := 1) (by omega)
 refine tl_append rfl rfl rfl (ev ((fr10 34 (by decide)).trans s34)) (ev s35) o10 hone (by simp; omega) B10.size (by rw [z10, z9, z8, z7, z6]; decide) ?_
 intro a11 w11 ao' c' z11 d11 s36 fr11 o11 hb11 hk11
 have hrow11 := (hk11 g lg10 (fun p hp => by have := hpb p hp; omega)).trans hrow10g
 have hrd11 := (hk11 gd lgd10 (fun p hp => by have := hpb p hp; omega)).trans hrd10
 have B11 := B10.trans hb11
 refine tl_set rfl rfl (fa_Rat_0 rfl (ev ((fr11 10 (by decide)).trans ((fr10 10 (by decide)).trans ((fr9 10 (by decide)).trans ((fr8 10 (by decide)).trans ((fr7 10 (by decide)).trans u10))))))) (by rw [z11, z10, z9, z8, z7, z6]; decide) ?_
 intro a12 z12 d12 s37 fr12
 refine tl_set rfl rfl (fa_Int_1 rfl (ev s37)) (by rw [z12, z11, z10, z9, z8, z7, z6]; decide) ?_
 intro a13 z13 d13 s38 fr13
 refine tl_cell rfl rfl rfl (ev s38) (ev ((fr13 36 (by decide)).trans ((fr12 36 (by decide)).trans s36))) rfl info_U hrow11 (by simp) ?_
 obtain ⟨w12, hw12⟩ : ∃ x, x = w11.setRow g #[.bool (decide (AF < 0)), .slice ao' (nd AF.natAbs ++ [0] : List Nat).length c', .slice (some ⟨gd, 0, none⟩) 3 3] := ⟨_, rfl⟩
 rw [show (#[Value.bool (decide (AF < 0)), .slice ao (nd AF.natAbs).length c, .slice (some ⟨gd, 0, none⟩) 3 3] : Array Value).set! 1 (.slice ao' (nd AF.natAbs ++ [0] : List Nat).length c') = #[.bool (decide (AF < 0)), .slice ao' (nd AF.natAbs ++ [0] : List Nat).length c', .slice (some ⟨gd, 0, none⟩) 3 3] from rfl]
 have B12 : Below w.heap.size w w12 := by rw [hw12]; exact below_row B11 (by omega) _
 have hrow12 := setRow_heap w11 g _ (#[.bool (decide (AF < 0)), .slice ao' (nd AF.natAbs ++ [0] : List Nat).length c', .slice (some ⟨gd, 0, none⟩) 3 3]) _ (0, 0) hrow11
 rw [← hw12] at hrow12
 have hrd12 := (setRow_other w11 g gd (#[.bool (decide (AF < 0)), .slice ao' (nd AF.natAbs ++ [0] : List Nat).length c', .slice (some ⟨gd, 0, none⟩) 3 3]) (by omega)).trans hrd11
 rw [← hw12] at hrd12
 have o12 : Own w.heap.size w12 ao' c' (nd AF.natAbs ++ [0]) := o11.keep fun p hp => by rw [hw12]; exact setRow_other w11 g _ _ (own_ne o11 hrow11 (by decide) p hp)
 have hk12 := isK_zeros hF1 hB1 hAFe hBFe (by omega) (by omega) (by omega) (by omega) o12.rd (rd_row (xs := [BF.toNat, 0, 0]) hrd12 (fun i hi => by
   have hn : ((BF.toNat : Nat) : Int) = BF := Int.toNat_of_nonneg (by omega)
   match i, hi with
   | 0, _ => simp [hn]
   | 1, _ => rfl
   | 2, _ => rfl) (by simp [wf]; omega) (by simp))
 have x12 : bx 26 3 (mK (Rat.divInt (((j0) % (1000)) - (500)) ((1) + ((j1) % (500)))) 3 (false)) w12 g := ⟨_, hrow12, rfl, noU3, by simp [Value.oneCell'], hk12⟩
 rw [← hw12]
 have z14 : a13.tmps.size = 70 := z13.trans (z12.trans (z11.trans (z10.trans (z9.trans (z8.trans (z7.trans z6))))))
 have d14 : a13.defers = [] := d13.trans (d12.trans (d11.trans (d10.trans (d9.trans (d8.trans (d7.trans d6))))))
 have v7 := (fr13 7 (by decide)).trans ((fr12 7 (by decide)).trans ((fr11 7 (by decide)).trans ((fr10 7 (by decide)).trans ((fr9 7 (by decide)).trans ((fr8 7 (by decide)).trans ((fr7 7 (by decide)).trans u7))))))
 have v8 := (fr13 8 (by decide)).trans ((fr12 8 (by decide)).trans ((fr11 8 (by decide)).trans ((fr10 8 (by decide)).trans ((fr9 8 (by decide)).trans ((fr8 8 (by decide)).trans ((fr7 8 (by decide)).trans u8))))))
 have v10 := (fr13 10 (by decide)).trans ((fr12 10 (by decide)).trans ((fr11 10 (by decide)).trans ((fr10 10 (by decide)).trans ((fr9 10 (by decide)).trans ((fr8 10 (by decide)).trans ((fr7 10 (by decide)).trans u10))))))
 clear hw12 hrow12 hrd12 hk12 o12 o11 o10 o6 o5 o4 o2 o1
 refine wpList_nil (then_normal ?_)
 refine wp_seq ?_
 refine wp_region_seq 3 (mG [(mV (.int .i64 (((j0) % (1000)) - (500)))).b, (mV (.int .i64 ((1) + ((j1) % (500))))).b, (mC (Rat.divInt (((j0) % (1000)) - (500)) ((1) + ((j1) % (500)))) 2).b]) (by rw [z14]; kernel_rfl) (mG_mono _) (ops_ok ⟨?_, ?_, ?_, trivial⟩) ?_
 · exact opk_pure rfl rfl fun a w hb hf hd => ⟨_, run_move rfl, fun _ _ => ((hf 7 (out_of (by kernel_rfl))).trans v7)⟩
 · exact opk_pure rfl rfl fun a w hb hf hd => ⟨_, run_move rfl, fun _ _ => ((hf 8 (out_of (by kernel_rfl))).trans v8)⟩
 · refine opk_call rfl rfl fun a w hb hf hd => ?_
   have e0 : a.eval (.tmp 39) = .int .i64 (((j0) % (1000)) - (500)) := (hd.at 0 rfl rfl rfl rfl)
   have e1 : a.eval (.tmp 40) = .int .i64 ((1) + ((j1) % (500))) := (hd.at 1 rfl rfl rfl rfl)
   exact ⟨19, #[.int .i64 (((j0) % (1000)) - (500)), .int .i64 ((1) + ((j1) % (500)))], run_call rfl rfl (fun _ _ => by kernel_rfl) (args_2 e0 e1), (c_frac (((j0) % (1000)) - (500)) ((1) + ((j1) % (500))) (by omega) (by omega) (by omega) (by omega) (hT.below (B12.trans (hb.mono B12.size)))).mono fun _ _ r => RetS.imp (fun _ _ h => fun _ _ => (isC.mono h (by omega))) r⟩
 intro a70 w71 ms72
 have B73 : Below w.heap.size w w71 := B12.trans (ms72.b.mono B12.size)
 have z74 : a70.tmps.size = 70 := ms72.sz.trans z14
 have d75 : a70.defers = [] := ms72.df.trans d14
 have s76 : sl a70 7 = .int .i64 (((j0) % (1000)) - (500)) := (ms72.fr 7 (out_of (by kernel_rfl))).trans v7
 have s77 : sl a70 8 = .int .i64 ((1) + ((j1) % (500))) := (ms72.fr 8 (out_of (by kernel_rfl))).trans v8
 have s78 : sl a70 10 = .pointer (some ⟨g, 0, none⟩) := (ms72.fr 10 (out_of (by kernel_rfl))).trans v10
 have x79 := bx.below ms72.b x12
 have s80 : (mC (Rat.divInt (((j0) % (1000)) - (500)) ((1) + ((j1) % (500)))) 2).S w71 (sl a70 41) := ms72.g 2 _ 41 rfl (by decide) trivial rfl
 refine tl_new rfl rfl (run_alloc_op rfl zero_Rat) (by rw [z74]; decide) ?_
 intro a81 w82 g83 z84 d85 s86 fr87 hg88 hc89 hb90
 have z91 : a81.tmps.size = 70 := z84.trans z74
 have d92 : a81.defers = [] := d85.trans d75
 have s93 : sl a81 7 = .int .i64 (((j0) % (1000)) - (500)) := (fr87 7 (by decide)).trans s76
 have s94 : sl a81 8 = .int .i64 ((1) + ((j1) % (500))) := (fr87 8 (by decide)).trans s77
 have s95 : sl a81 10 = .pointer (some ⟨g, 0, none⟩) := (fr87 10 (by decide)).trans s78
 have s96 : (mC (Rat.divInt (((j0) % (1000)) - (500)) ((1) + ((j1) % (500)))) 2).S w71 (sl a81 41) := by rw [fr87 41 (by decide)]; exact s80
 have B97 : Below w.heap.size w w82 := B73.trans (hb90.mono B73.size)
 have ne99 : g ≠ g83 := by have := x79.lt; omega
 have x98 := bx.below hb90 x79
 have s100 := (mC (Rat.divInt (((j0) % (1000)) - (500)) ((1) + ((j1) % (500)))) 2).mono _ _ _ (Ext.of hb90) s96
 have lw102 : w.heap.size ≤ g83 := by have := B73.size; omega
 have x101 := bx_Rat hc89
 refine tl_put rfl rfl rfl (m' := (mC (Rat.divInt (((j0) % (1000)) - (500)) ((1) + ((j1) % (500)))) 2)) x101 (ev s86) s100 (isC.cv s100) info_Rat ?_
 intro w103 x104 ex105 ot106 bl107
 have B108 := bl107 w (by omega) B97
 have x109 := ot106 (by omega) x98
 have s110 := (mC (Rat.divInt (((j0) % (1000)) - (500)) ((1) + ((j1) % (500)))) 2).mono _ _ _ ex105 s100
 refine wpList_nil (then_normal ?_)
 refine wp_seq ?_
 refine wp_region_mono 6 [] (mG [(mV (.int .i64 (((j0) % (1000)) - (500)))).b, (mI (((j0) % (1000)) - (500))).b, (mR (0) (1)).b, (mC (Rat.divInt (((j0) % (1000)) - (500)) ((1) + ((j1) % (500)))) 2).b, (mC ((0) + (Rat.divInt (((j0) % (1000)) - (500)) ((1) + ((j1) % (500))))) (1 + 5)).b, (mNew w103.heap.size 26 3)]) (by kernel_rfl) (by rw [z91]; kernel_rfl) (fun h => absurd rfl h) (mG_mono _) (ops_ok ⟨?_, ?_, ?_, ?_, ?_, ?_, trivial⟩) ?_
 · exact opk_pure rfl rfl fun a w hb hf hd => ⟨_, run_move rfl, fun _ _ => ((hf 7 (out_of (by kernel_rfl))).trans s93)⟩
 · refine opk_call rfl rfl fun a w hb hf hd => ?_
   have e0 : a.eval (.tmp 42) = .int .i64 (((j0) % (1000)) - (500)) := (hd.at 0 rfl rfl rfl rfl)
   exact ⟨18, #[.int .i64 (((j0) % (1000)) - (500))], run_call rfl rfl (fun _ _ => by kernel_rfl) (args_1 e0), (k_iofR (((j0) % (1000)) - (500)) (by omega) (by omega)).mono fun _ _ r => RetS.imp (fun _ _ h => fun _ _ => h) r⟩
 · refine opk_pure rfl rfl fun a w hb hf hd => ?_
   obtain ⟨ao1, c1, e1, rd1⟩ := (hd.at 0 rfl rfl rfl rfl)
   exact ⟨_, run_build_op _ _ rfl (built_n e1), fun _ _ => (isR_zero (by omega) rd1)⟩
 · refine opk_pure rfl rfl fun a w hb hf hd => ?_
   obtain ⟨cs, h1, h2, h3, h4, h5⟩ := bx.below hb x104
   exact ⟨_, run_load_row _ _ rfl (ev ((hf 11 (out_of (by kernel_rfl))).trans s86)) h1 Tryz.underlying26 rfl (by rw [h2]; exact info_Rat), fun _ _ => h5⟩
 · refine opk_call rfl rfl fun a w hb hf hd => ?_
   have e0 : a.eval (.tmp 44) = sl a 44 := rfl
   have e1 : a.eval (.tmp 45) = sl a 45 := rfl
   exact ⟨20, #[sl a 44, sl a 45], run_call rfl rfl (fun _ _ => by kernel_rfl) (args_2 e0 e1), (c_add (by omega) (by omega) (hd.at 0 rfl rfl rfl rfl) (isC.r (hd.at 1 rfl rfl rfl rfl)) (hT.below (B108.trans (hb.mono B108.size)))).mono fun _ _ r => RetS.imp (fun _ _ h => fun _ _ => (isC.mono h (by omega))) r⟩
 · refine opk_alloc rfl fun a w hb hf hd => ⟨_, _, run_alloc_op rfl zero_Rat, below_alloc _ _, fun _ _ => ⟨_, rfl, hb.size, bx_Rat (heap_alloc_at _ _)⟩, fun _ => ⟨_, rfl, Nat.le_refl _, by simp⟩⟩
 intro a111 w112 ms113
 have B114 : Below w.heap.size w w112 := B108.trans (ms113.b.mono B108.size)
 have z115 : a111.tmps.size = 70 := ms113.sz.trans z91
 have d116 : a111.defers = [] := ms113.df.trans d92
 have s117 : sl a111 7 = .int .i64 (((j0) % (1000)) - (500)) := (ms113.fr 7 (out_of (by kernel_rfl))).trans s93
 have s118 : sl a111 8 = .int .i64 ((1) + ((j1) % (500))) := (ms113.fr 8 (out_of (by kernel_rfl))).trans s94
 have s119 : sl a111 10 = .pointer (some ⟨g, 0, none⟩) := (ms113.fr 10 (out_of (by kernel_rfl))).trans s95
 have s120 : sl a111 11 = .pointer (some ⟨g83, 0, none⟩) := (ms113.fr 11 (out_of (by kernel_rfl))).trans s86
 have x121 := bx.below ms113.b x104
 have x122 := bx.below ms113.b x109
 have s123 : (mC ((0) + (Rat.divInt (((j0) % (1000)) - (500)) ((1) + ((j1) % (500))))) (1 + 5)).S w112 (sl a111 46) := ms113.g 4 _ 46 rfl (by decide) trivial rfl
 obtain ⟨g125, s124, e127, x126⟩ := ms113.g 5 _ 12 rfl (by decide) trivial rfl
 have ne128 : g ≠ g125 := by have := x109.lt; omega
 have ne129 : g83 ≠ g125 := by have := x104.lt; omega
 have lw130 : w.heap.size ≤ g125 := by have := B108.size; omega
 refine tl_put rfl rfl rfl (m' := (mC ((0) + (Rat.divInt (((j0) % (1000)) - (500)) ((1) + ((j1) % (500))))) (1 + 5))) x126 (ev s124) s123 (isC.cv s123) info_Rat ?_
 intro w131 x132 ex133 ot134 bl135
 have B136 := bl135 w (by omega) B114
 have x137 := ot134 (by omega) x121
 have x138 := ot134 (by omega) x122
 have s139 := (mC ((0) + (Rat.divInt (((j0) % (1000)) - (500)) ((1) + ((j1) % (500))))) (1 + 5)).mono _ _ _ ex133 s123
 refine wpList_nil (then_normal ?_)
 refine wp_seq ?_
 refine wp_region_mono 23 [] (mG [(mV (.bool (true))).b, (mV (.bool (true))).b, (mK (Rat.divInt (((j0) % (1000)) - (500)) ((1) + ((j1) % (500)))) (3) (false)).b, (mC (Rat.divInt (((j0) % (1000)) - (500)) ((1) + ((j1) % (500)))) 2).b, (mV (.int .i64 (cmpQ (Rat.divInt (((j0) % (1000)) - (500)) ((1) + ((j1) % (500)))) (Rat.divInt (((j0) % (1000)) - (500)) ((1) + ((j1) % (500))))))).b, (mV (.bool (true))).b, (mV (.bool (true))).b, (mV (.bool (true))).b, (mK (Rat.divInt (((j0) % (1000)) - (500)) ((1) + ((j1) % (500)))) (3) (false)).b, (mC (Rat.divInt (((j0) % (1000)) - (500)) ((1) + ((j1) % (500)))) (3 + 1)).b, (mC (Rat.divInt (((j0) % (1000)) - (500)) ((1) + ((j1) % (500)))) 2).b, (mV (.bool (true))).b, (mV (.bool (true))).b, (mV (.bool (true))).b, (mK (Rat.divInt (((j0) % (1000)) - (500)) ((1) + ((j1) % (500)))) (3) (false)).b, (mV (.bool (false))).b, (mV (.bool (true))).b, (mV (.bool (true))).b, (mV (.bool (true))).b, (mC ((0) + (Rat.divInt (((j0) % (1000)) - (500)) ((1) + ((j1) % (500))))) (1 + 5)).b, (mC (Rat.divInt (((j0) % (1000)) - (500)) ((1) + ((j1) % (500)))) 2).b, (mV (.bool (true))).b, (mV (.bool (true))).b]) (by kernel_rfl) (by rw [z115]; kernel_rfl) (fun h => absurd rfl h) (mG_mono _) (ops_ok ⟨?_, ?_, ?_, ?_, ?_, ?_, ?_, ?_, ?_, ?_, ?_, ?_, ?_, ?_, ?_, ?_, ?_, ?_, ?_, ?_, ?_, ?_, ?_, trivial⟩) ?_
 · refine opk_call rfl rfl fun a w hb hf hd => ?_
   exact ⟨10, #[], run_call rfl rfl (fun _ _ => by kernel_rfl) (args_0), (awake3_s (hT.below (B136.trans (hb.mono B136.size)))).mono fun _ _ r => RetS.imp (fun _ _ h => fun _ _ => h) r⟩
 · exact opk_pure rfl rfl fun a w hb hf hd => ⟨_, run_move rfl, fun _ _ => (hd.at 0 rfl rfl rfl rfl)⟩
 · refine opk_guard (true) rfl rfl rfl rfl (by rw [z115]; decide) (fun a w hb hf hd => (hd.at 0 rfl rfl rfl rfl)) (fun h => absurd rfl h) (fun _ => ?_)
   refine opk_pure rfl rfl fun a w hb hf hd => ?_
   obtain ⟨cs, h1, h2, h3, h4, h5⟩ := bx.below hb x138
   exact ⟨_, run_load_row _ _ rfl (ev ((hf 10 (out_of (by kernel_rfl))).trans s119)) h1 Tryz.underlying26 rfl (by rw [h2]; exact info_Rat), fun _ _ => h5⟩
 · refine opk_guard (true) rfl rfl rfl rfl (by rw [z115]; decide) (fun a w hb hf hd => (hd.at 0 rfl rfl rfl rfl)) (fun h => absurd rfl h) (fun _ => ?_)
   refine opk_pure rfl rfl fun a w hb hf hd => ?_
   obtain ⟨cs, h1, h2, h3, h4, h5⟩ := bx.below hb x137
   exact ⟨_, run_load_row _ _ rfl (ev ((hf 11 (out_of (by kernel_rfl))).trans s120)) h1 Tryz.underlying26 rfl (by rw [h2]; exact info_Rat), fun _ _ => h5⟩
 · refine opk_guard (true) rfl rfl rfl rfl (by rw [z115]; decide) (fun a w hb hf hd => (hd.at 2 rfl rfl rfl rfl)) (fun h => absurd rfl h) (fun _ => ?_)
   refine opk_call rfl rfl fun a w hb hf hd => ?_
   have e0 : a.eval (.tmp 49) = sl a 49 := rfl
   have e1 : a.eval (.tmp 50) = sl a 50 := rfl
   exact ⟨21, #[sl a 49, sl a 50], run_call rfl rfl (fun _ _ => by kernel_rfl) (args_2 e0 e1), (c_cmp (by omega) (by omega) (isK.r (hd.at 0 rfl rfl rfl rfl)) (isC.r (hd.at 1 rfl rfl rfl rfl)) (hT.below (B136.trans (hb.mono B136.size)))).mono fun _ _ r => RetS.imp (fun _ _ h => fun _ _ => h) r⟩
 · refine opk_guard (true) rfl rfl rfl rfl (by rw [z115]; decide) (fun a w hb hf hd => (hd.at 1 rfl rfl rfl rfl)) (fun h => absurd rfl h) (fun _ => ?_)
   exact opk_pure rfl rfl fun a w hb hf hd => ⟨_, run_eql rfl (ev (hd.at 0 rfl rfl rfl rfl)) rfl, fun _ _ => (Eq.trans (b := Value.bool (decide ((cmpQ (Rat.divInt (((j0) % (1000)) - (500)) ((1) + ((j1) % (500)))) (Rat.divInt (((j0) % (1000)) - (500)) ((1) + ((j1) % (500))))) = (0)))) (rfl) (congrArg Value.bool (cmp_self)))⟩
 · exact opk_pure rfl rfl fun a w hb hf hd => ⟨_, run_pick rfl (ev (hd.at 0 rfl rfl rfl rfl)), fun _ _ => pick_and (fun _ => (hd.at 1 rfl rfl rfl rfl))⟩
 · exact opk_pure rfl rfl fun a w hb hf hd => ⟨_, run_move rfl, fun _ _ => (hd.at 0 rfl rfl rfl rfl)⟩
 · refine opk_guard (true) rfl rfl rfl rfl (by rw [z115]; decide) (fun a w hb hf hd => (hd.at 0 rfl rfl rfl rfl)) (fun h => absurd rfl h) (fun _ => ?_)
   refine opk_pure rfl rfl fun a w hb hf hd => ?_
   obtain ⟨cs, h1, h2, h3, h4, h5⟩ := bx.below hb x138
   exact ⟨_, run_load_row _ _ rfl (ev ((hf 10 (out_of (by kernel_rfl))).trans s119)) h1 Tryz.underlying26 rfl (by rw [h2]; exact info_Rat), fun _ _ => h5⟩
 · refine opk_guard (true) rfl rfl rfl rfl (by rw [z115]; decide) (fun a w hb hf hd => (hd.at 1 rfl rfl rfl rfl)) (fun h => absurd rfl h) (fun _ => ?_)
   refine opk_call rfl rfl fun a w hb hf hd => ?_
   have e0 : a.eval (.tmp 55) = sl a 55 := rfl
   exact ⟨22, #[sl a 55], run_call rfl rfl (fun _ _ => by kernel_rfl) (args_1 e0), (c_trim (by omega) (isK.r (hd.at 0 rfl rfl rfl rfl)) (hT.below (B136.trans (hb.mono B136.size)))).mono fun _ _ r => RetS.imp (fun _ _ h => fun _ _ => (isC.mono h (by omega))) r⟩
 · refine opk_guard (true) rfl rfl rfl rfl (by rw [z115]; decide) (fun a w hb hf hd => (hd.at 0 rfl rfl rfl rfl)) (fun h => absurd rfl h) (fun _ => ?_)
   refine opk_pure rfl rfl fun a w hb hf hd => ?_
   obtain ⟨cs, h1, h2, h3, h4, h5⟩ := bx.below hb x137
   exact ⟨_, run_load_row _ _ rfl (ev ((hf 11 (out_of (by kernel_rfl))).trans s120)) h1 Tryz.underlying26 rfl (by rw [h2]; exact info_Rat), fun _ _ => h5⟩
 · refine opk_guard (true) rfl rfl rfl rfl (by rw [z115]; decide) (fun a w hb hf hd => (hd.at 3 rfl rfl rfl rfl)) (fun h => absurd rfl h) (fun _ => ?_)
   refine opk_call rfl rfl fun a w hb hf hd => ?_
   have e0 : a.eval (.tmp 56) = sl a 56 := rfl
   have e1 : a.eval (.tmp 57) = sl a 57 := rfl
   exact ⟨14, #[sl a 56, sl a 57], run_call rfl rfl (fun _ _ => by kernel_rfl) (args_2 e0 e1), (r_sameC (hd.at 0 rfl rfl rfl rfl) (hd.at 1 rfl rfl rfl rfl)).mono fun _ _ r => RetS.imp (fun _ _ h => fun _ _ => h) r⟩
 · exact opk_pure rfl rfl fun a w hb hf hd => ⟨_, run_pick rfl (ev (hd.at 0 rfl rfl rfl rfl)), fun _ _ => pick_and (fun _ => (hd.at 1 rfl rfl rfl rfl))⟩
 · exact opk_pure rfl rfl fun a w hb hf hd => ⟨_, run_move rfl, fun _ _ => (hd.at 0 rfl rfl rfl rfl)⟩
 · refine opk_guard (true) rfl rfl rfl rfl (by rw [z115]; decide) (fun a w hb hf hd => (hd.at 0 rfl rfl rfl rfl)) (fun h => absurd rfl h) (fun _ => ?_)
   refine opk_pure rfl rfl fun a w hb hf hd => ?_
   obtain ⟨cs, h1, h2, h3, h4, h5⟩ := bx.below hb x138
   exact ⟨_, run_load_row _ _ rfl (ev ((hf 10 (out_of (by kernel_rfl))).trans s119)) h1 Tryz.underlying26 rfl (by rw [h2]; exact info_Rat), fun _ _ => h5⟩
 · refine opk_guard (true) rfl rfl rfl rfl (by rw [z115]; decide) (fun a w hb hf hd => (hd.at 1 rfl rfl rfl rfl)) (fun h => absurd rfl h) (fun _ => ?_)
   refine opk_call rfl rfl fun a w hb hf hd => ?_
   have e0 : a.eval (.tmp 61) = sl a 61 := rfl
   exact ⟨23, #[sl a 61], run_call rfl rfl (fun _ _ => by kernel_rfl) (args_1 e0), (c_valid (by omega) (hd.at 0 rfl rfl rfl rfl) (hT.below (B136.trans (hb.mono B136.size)))).mono fun _ _ r => RetS.imp (fun _ _ h => fun _ _ => h) r⟩
 · refine opk_guard (true) rfl rfl rfl rfl (by rw [z115]; decide) (fun a w hb hf hd => (hd.at 1 rfl rfl rfl rfl)) (fun h => absurd rfl h) (fun _ => ?_)
   exact opk_pure rfl rfl fun a w hb hf hd => ⟨_, run_not rfl (ev (hd.at 0 rfl rfl rfl rfl)), fun _ _ => rfl⟩
 · exact opk_pure rfl rfl fun a w hb hf hd => ⟨_, run_pick rfl (ev (hd.at 0 rfl rfl rfl rfl)), fun _ _ => pick_and (fun _ => (hd.at 1 rfl rfl rfl rfl))⟩
 · exact opk_pure rfl rfl fun a w hb hf hd => ⟨_, run_move rfl, fun _ _ => (hd.at 0 rfl rfl rfl rfl)⟩
 · refine opk_guard (true) rfl rfl rfl rfl (by rw [z115]; decide) (fun a w hb hf hd => (hd.at 0 rfl rfl rfl rfl)) (fun h => absurd rfl h) (fun _ => ?_)
   refine opk_pure rfl rfl fun a w hb hf hd => ?_
   obtain ⟨cs, h1, h2, h3, h4, h5⟩ := bx.below hb x132
   exact ⟨_, run_load_row _ _ rfl (ev ((hf 12 (out_of (by kernel_rfl))).trans s124)) h1 Tryz.underlying26 rfl (by rw [h2]; exact info_Rat), fun _ _ => h5⟩
 · refine opk_guard (true) rfl rfl rfl rfl (by rw [z115]; decide) (fun a w hb hf hd => (hd.at 0 rfl rfl rfl rfl)) (fun h => absurd rfl h) (fun _ => ?_)
   refine opk_pure rfl rfl fun a w hb hf hd => ?_
   obtain ⟨cs, h1, h2, h3, h4, h5⟩ := bx.below hb x137
   exact ⟨_, run_load_row _ _ rfl (ev ((hf 11 (out_of (by kernel_rfl))).trans s120)) h1 Tryz.underlying26 rfl (by rw [h2]; exact info_Rat), fun _ _ => h5⟩
 · refine opk_guard (true) rfl rfl rfl rfl (by rw [z115]; decide) (fun a w hb hf hd => (hd.at 2 rfl rfl rfl rfl)) (fun h => absurd rfl h) (fun _ => ?_)
   refine opk_call rfl rfl fun a w hb hf hd => ?_
   have e0 : a.eval (.tmp 66) = sl a 66 := rfl
   have e1 : a.eval (.tmp 67) = sl a 67 := rfl
   exact ⟨14, #[sl a 66, sl a 67], run_call rfl rfl (fun _ _ => by kernel_rfl) (args_2 e0 e1), (r_same (isC.k (hd.at 0 rfl rfl rfl rfl)) (hd.at 1 rfl rfl rfl rfl)).mono fun _ _ r => RetS.imp (fun _ _ h => fun _ _ => (h.trans (congrArg Value.bool (same_zero)))) r⟩
 · exact opk_pure rfl rfl fun a w hb hf hd => ⟨_, run_pick rfl (ev (hd.at 0 rfl rfl rfl rfl)), fun _ _ => pick_and (fun _ => (hd.at 1 rfl rfl rfl rfl))⟩
 intro a140 w141 ms142
 have B143 : Below w.heap.size w w141 := B136.trans (ms142.b.mono B136.size)
 have z144 : a140.tmps.size = 70 := ms142.sz.trans z115
 have d145 : a140.defers = [] := ms142.df.trans d116
 have s146 : sl a140 7 = .int .i64 (((j0) % (1000)) - (500)) := (ms142.fr 7 (out_of (by kernel_rfl))).trans s117
 have s147 : sl a140 8 = .int .i64 ((1) + ((j1) % (500))) := (ms142.fr 8 (out_of (by kernel_rfl))).trans s118
 have s148 : sl a140 10 = .pointer (some ⟨g, 0, none⟩) := (ms142.fr 10 (out_of (by kernel_rfl))).trans s119
 have s149 : sl a140 11 = .pointer (some ⟨g83, 0, none⟩) := (ms142.fr 11 (out_of (by kernel_rfl))).trans s120
 have s150 : sl a140 12 = .pointer (some ⟨g125, 0, none⟩) := (ms142.fr 12 (out_of (by kernel_rfl))).trans s124
 have x151 := bx.below ms142.b x132
 have x152 := bx.below ms142.b x137
 have x153 := bx.below ms142.b x138
 have s154 : sl a140 69 = .bool (true) := ms142.g 22 _ 69 rfl (by decide) trivial rfl
 refine tl_set rfl rfl (run_assign rfl) (by rw [z144]; decide) ?_
 intro a155 z156 d157 s158 fr159
 have s160 : sl a155 6 = .bool (true) := s158.trans s154
 have z161 : a155.tmps.size = 70 := z156.trans z144
 have d162 : a155.defers = [] := d157.trans d145
 have s163 : sl a155 7 = .int .i64 (((j0) % (1000)) - (500)) := (fr159 7 (by decide)).trans s146
 have s164 : sl a155 8 = .int .i64 ((1) + ((j1) % (500))) := (fr159 8 (by decide)).trans s147
 have s165 : sl a155 10 = .pointer (some ⟨g, 0, none⟩) := (fr159 10 (by decide)).trans s148
 have s166 : sl a155 11 = .pointer (some ⟨g83, 0, none⟩) := (fr159 11 (by decide)).trans s149
 have s167 : sl a155 12 = .pointer (some ⟨g125, 0, none⟩) := (fr159 12 (by decide)).trans s150
 have s168 : sl a155 69 = .bool (true) := (fr159 69 (by decide)).trans s154
 refine wpList_nil (then_normal ?_)
 refine wp_ret ?_
 exact end_tmp rfl d162 B143 (s160)
end Go.Proofs.YtbjijmjhlpkomaaGreatDoor

namespace Go.Proofs.YtbjijmjhlpkomaaGreatDoor.rationalSame
open Go.ChangeShapes Go.WideShapes Go.ChangeAt Go.RowKit
open Go.ChangeMaps (open_string shut_string)

set_option linter.unusedVariables false
theorem lifted (os : Os) (started : os.Started) (H : Type) (enc : TypeId × Value → H) :
   ReturnsInHanded {} Tryz.checked os 4 .any (fun w args => (Rows.rationalSameSpec.pre enc Tryz.prog Tryz.f4 Rows.rationalSameRow.domain false w args ∧ laidMetH Tryz.prog Rows.rationalSameRow.laid w) ∧ sizedMet enc Tryz.prog Tryz.f4 (OpenSpec.ofChange Rows.rationalSameSpec) false w args)
     (Rows.rationalSameSpec.post enc Tryz.prog Tryz.f4 false true false false) := by
 refine returnsInHanded_of_change_and (C := Tryz.checked) (X := fun w _ => laidMetH Tryz.prog Rows.rationalSameRow.laid w) (fun _ _ _ hh h => h.of_heap hh) own started (by kernel_rfl) Tryz.func4
   (ChangeSpec.witness_shaped (enc := enc) (C := Tryz.checked) (os := os) (X := fun w _ => laidMetH Tryz.prog Rows.rationalSameRow.laid w) false (World.laidAll Tryz.prog os Rows.rationalSameRow.laid) #[.int .i64 0, .int .i64 0, .int .i64 0] 8 (World.laidAll_os _ _ _)
     (World.shaped_of_ZipB (by kernel_rfl) (by kernel_rfl)) (by kernel_rfl) (by kernel_rfl) (by kernel_rfl)
     (by rw [MakeChecks.laidMetH_plain _ _ _ (by kernel_rfl)]; exact laidMet_laidAll _ (by kernel_rfl) (by kernel_rfl))) ?_
 intro W base args ds gs before hval0 hW hcnd _ hL _
 have hval : ∀ (j : Nat) t v, Tryz.f4.params[j]? = some t → args[j]? = some v → Value.okWide Tryz.prog W .any base t v := hval0
 have hW' := hW
 obtain ⟨p, q, hA0, hV, rfl, hfz, hnd⟩ := hW
 have hA : DataW.TrodAll enc Tryz.prog W 0 (fun _ => true) true Tryz.f4.params.toList args.toList ds p := hA0
 rw [Tryz.params4] at hA hval
 obtain ⟨v0, vs0, d0, ds0, p0, q0, hargs, rfl, rfl, h0, r0⟩ := trodAll_cons hA
 obtain ⟨v1, vs1, d1, ds1, p1, q1, rfl, rfl, rfl, h1, r1⟩ := trodAll_cons r0
 obtain ⟨v2, vs2, d2, ds2, p2, q2, rfl, rfl, rfl, h2, r2⟩ := trodAll_cons r1
 obtain ⟨rfl, rfl, rfl⟩ := trodAll_nil r2
 obtain rfl : args = #[v0, v1, v2] := by cases args; simp_all
 obtain ⟨rfl, rfl⟩ := trodVars_none hV
 obtain ⟨a0, rfl, rfl, rfl, w0⟩ := open_int Tryz.underlying3 (hval 0 3 v0 rfl rfl) h0
 have ⟨w0a, w0b⟩ := Go.Joins.in64_of_wf w0
 obtain ⟨a1, rfl, rfl, rfl, w1⟩ := open_int Tryz.underlying3 (hval 1 3 v1 rfl rfl) h1
 have ⟨w1a, w1b⟩ := Go.Joins.in64_of_wf w1
 obtain ⟨a2, rfl, rfl, rfl, w2⟩ := open_int Tryz.underlying3 (hval 2 3 v2 rfl rfl) h2
 have ⟨w2a, w2b⟩ := Go.Joins.in64_of_wf w2
 clear hA0 hval0
 refine (walkRationalSame a0 a1 a2 w0a w0b w1a w1b w2a w2b (tb_of_met (by rw [MakeChecks.laidMetH_plain _ _ _ (by kernel_rfl)] at hL; exact hL))).mono fun e W' hr => ?_
 obtain ⟨vr, he, hvr, bel⟩ := hr
 obtain rfl : vr = .bool true := hvr
 subst he
 exact ⟨_, rfl, _, _, _, [], _, [], hW', trodAll_mk1 (shut_bool Tryz.underlying4 _), (trodAll_cons_mk (shut_int Tryz.underlying3 w0) (trodAll_cons_mk (shut_int Tryz.underlying3 w1) (trodAll_cons_mk (shut_int Tryz.underlying3 w2) trodAll_mk0))), rfl, bel.frame _, fun h => by cases h⟩

theorem both {a b : Bool} (h1 : a = true) (h2 : b = true) : (a && b) = true := by rw [h1, h2]; rfl

theorem closed : joinedFacts Tryz.prog 4 Tryz.f4 Rows.rationalSameSpec Rows.rationalSameRow = true := by
 unfold joinedFacts
 repeat' with_reducible refine both ?_ ?_
 all_goals (as_aux_lemma => kernel_rfl)

theorem over : Rows.RationalSameSaid :=
 OpenClaim.holds_of_wide 4 Tryz.f4 rfl rfl rfl rfl rfl rfl rfl ⟨rfl, rfl, rfl, rfl, rfl⟩ rfl rfl rfl rfl rfl (by as_aux_lemma => kernel_rfl) Tryz.func4 closed
   (of_decide_eq_true (by kernel_rfl)) (by unfold Func.isWrapper; first | (rw [if_pos (by decide +kernel)]; kernel_rfl) | (rw [if_neg (by decide +kernel)]; exact ⟨rfl, rfl⟩))
   (fun os started H enc _ => lifted os started H enc)

theorem card : Rows.RationalSameCardSaid :=
 Claim7.holds_tied_plain_at .later [] [.data, .data, .pinned] true Rows.rationalSameCard.stood.harness false over (fun _ h => by cases h) (by as_aux_lemma => kernel_rfl) (fun _ h => by cases h) rationalSame_row_tie rfl ⟨rfl, rfl⟩ (by as_aux_lemma => kernel_rfl) rfl
   (fun f fn hf hfn => by
     obtain rfl : f = 4 := Option.some.inj ((show Tryz.prog.funcNamed "dspcompiler/dspcompilerlaw03.RationalSame" = some 4 by as_aux_lemma => kernel_rfl).symm.trans hf) |>.symm
     obtain rfl : fn = Tryz.f4 := (Option.some.inj (Tryz.func4.symm.trans hfn)).symm
     exact ⟨by as_aux_lemma => kernel_rfl, fun j t ht => by
       rw [Tryz.params4] at ht
       have hm : t ∈ [3, 3, 3] := by simpa using Array.mem_of_getElem? ht
       have hall : ([3, 3, 3].all fun u => !Tryz.prog.wantsStandIn u) = true := by as_aux_lemma => kernel_rfl
       exact (show Tryz.prog.wantsStandIn t = false by simpa using List.all_eq_true.1 hall t hm)⟩)
   (by as_aux_lemma => kernel_rfl)
end Go.Proofs.YtbjijmjhlpkomaaGreatDoor.rationalSame
