/- append onto an owned slice: which block it lies in afterwards, and that no other one has changed. -/
import Derived.Test.YtbcaigpdckencaaDoorDvm
namespace Go.Proofs.YtbcaigpdckencaaDoor
open Go.RowKit Num

theorem run_append_o (w : World) (ty B g n c m cx : Nat) (ad : Addr) (xs ys : List Nat) (hn : n = xs.length) (hm : m = ys.length) (hown : Own B w (some ⟨g, 0, none⟩) c xs) (hr : Rd w (some ad) cx ys)
    (hb : n + m ≤ 35184372088832) :
    ∃ g' c' w', (Builtin.append_ #[22, 22] ty #[.slice (some ⟨g, 0, none⟩) n c, .slice (some ad) m cx]).run Tryd.prog w = .ok (.slice (some ⟨g', 0, none⟩) (n + m) c') w' ∧
      w'.ownsRow g 61 1 (.slice (some ⟨g', 0, none⟩) (n + m) c') (n + m) ((xs ++ ys).map fun d : Nat => Value.int .u32 (d : Int)) ∧ w.grownBy w' (some g) ∧ (g' = g ∨ w.heap.size ≤ g') := by
  subst hn hm
  obtain ⟨i, hi, hz, hsize, hby⟩ := info_parts infoU32
  have ht := Tryd.underlying22
  have hnews : ∀ j u, (ys.map fun d : Nat => Value.int .u32 (d : Int))[j]? = some u → w.cell? (ad.add j) = some u := by
    intro j u hu
    rcases hr.lies with h1 | ⟨b, off, h1, h2⟩
    · subst h1; simp at hu
    · simp only [Option.some.injEq] at h1
      subst h1
      have hj : j < ys.length := by have := (List.getElem?_eq_some_iff.1 hu).1; simpa using this
      rw [Addr.add_lit, h2 j hj]
      simpa [hj] using hu
  have h1 : ∀ u ∈ (ys.map fun d : Nat => Value.int .u32 (d : Int)), u.oneCell' = true := by
    intro u hu
    obtain ⟨_, _, rfl⟩ := List.mem_map.1 hu
    rfl
  have hl : (ys.map fun d : Nat => Value.int .u32 (d : Int)).length = ys.length * i.size := by rw [hsize]; simp
  rcases hown.1.2 with ⟨h, _⟩ | ⟨g', cap, cur, hv, hbg, hg, hnc, hcm, hcs, htake⟩
  · simp at h
  · simp only [Value.slice.injEq, Option.some.injEq, Addr.mk.injEq] at hv
    obtain ⟨⟨rfl, _⟩, _, rfl⟩ := hv
    have hlen : ((xs ++ ys).map fun d : Nat => Value.int .u32 (d : Int)).length = (xs.length + ys.length) * 1 := by simp
    by_cases hroom : xs.length + ys.length ≤ c
    · have hfit : xs.length * i.size + (ys.map fun d : Nat => Value.int .u32 (d : Int)).length ≤ cur.size := by rw [hsize, hcs]; simp; exact hroom
      have hrun := run_append_room (P := Tryd.prog) w 22 ty 61 i ht hi g xs.length c cur hg ad ys.length cx _ hl hnews h1 hroom hfit
      refine ⟨g, c, _, hrun, ⟨hlen, .inr ⟨g, c, _, rfl, Nat.le_refl _, setRow_heap w g cur _ 61 _ hg, hroom, hcm, ?_, ?_⟩⟩, ⟨rfl, rfl, rfl, by simp, fun k _ hk => setRow_other w g k _ (fun e => hk (by simp [e]))⟩, Or.inl rfl⟩
      · simp only [hsize, List.size_toArray, List.length_append, List.length_take, List.length_drop, Array.length_toList, List.length_map, hcs]
        omega
      · rw [hsize, htake, ← List.map_append, ← hlen]
        exact List.take_left
    · have holds : ∀ j u, (xs.map fun d : Nat => Value.int .u32 (d : Int))[j]? = some u → w.cell? ((⟨g, 0, none⟩ : Addr).add j) = some u := hown.1.cells (g := g) rfl
      have hrun := run_append_grow (P := Tryd.prog) w 22 ty 61 i (.int .u32 0) ht hi hz ⟨g, 0, none⟩ xs.length c (xs.map fun d : Nat => Value.int .u32 (d : Int)) (by rw [hsize]; simp) holds ad ys.length cx _ hl hnews (by omega) (by omega) (growslice_fits (by omega) (by rw [hby]; omega))
      have hge := grownCap_ge w (xs.length + ys.length) c 61
      have hcm' : grownCap w (xs.length + ys.length) c 61 ≤ maxLen := grownCap_le_maxLen w _ c 61 (by simp only [maxLen]; omega)
      refine ⟨w.heap.size, _, _, hrun, ⟨hlen, .inr ⟨w.heap.size, _, _, rfl, ?_, heap_alloc_new w.drew _, hge, hcm', ?_, ?_⟩⟩, ⟨rfl, rfl, rfl, by simp, fun k hk _ => heap_alloc_old w.drew _ hk⟩, Or.inr (Nat.le_refl _)⟩
      · exact Nat.le_of_lt (Array.getElem?_eq_some_iff.1 hg).1
      · simp only [Array.size_append, List.size_toArray, size_zeroCells, List.length_map]
        show _ + _ + _ * 1 = _ * 1
        omega
      · simp only [Array.toList_append, List.append_assoc]
        rw [← List.append_assoc, ← List.map_append, ← hlen]
        exact List.take_left

/-- append(out, x...) onto a slice that is not nil -/
theorem wp_append_o {ops : Array Oper} {rest : List Oper} {o : Oper} {a : Act} {Q : Exit → Act → World → Prop} (w : World) (hgd : o.guard = none) (s x : Operand)
    (ho : o.op = .call { callee := .builtin .append, args := #[s, x], argTypes := #[22, 22] })
    (B g n m c cx : Nat) (ad : Addr) (xs ys : List Nat) (hs : a.eval s = .slice (some ⟨g, 0, none⟩) n c) (hx : a.eval x = .slice (some ad) m cx) (hn : n = xs.length) (hm : m = ys.length) (hown : Own B w (some ⟨g, 0, none⟩) c xs) (hr : Rd w (some ad) cx ys)
    (hb : n + m ≤ 35184372088832)
    (h : ∀ g' c' w', Own B w' (some ⟨g', 0, none⟩) c' (xs ++ ys) → (∀ k, k < w.heap.size → k ≠ g → w'.heap[k]? = w.heap[k]?) → Below B w w' → (g' = g ∨ w.heap.size ≤ g') → wpList Tryd.prog ops Q rest (a.put o.dst (.slice (some ⟨g', 0, none⟩) (n + m) c')) w') :
    wpList Tryd.prog ops Q (o :: rest) a w := by
  obtain ⟨g', c', w', h1, h2, h3, h4⟩ := run_append_o w o.type B g n c m cx ad xs ys hn hm hown hr hb
  have hBg := hown.block.1
  have hgs := hown.block.2
  have hown' : Own B w' (some ⟨g', 0, none⟩) c' (xs ++ ys) := by
    have hl : n + m = (xs ++ ys).length := by simp [hn, hm]
    rw [hl] at h2
    have h5 : Own g w' (some ⟨g', 0, none⟩) c' (xs ++ ys) := ⟨h2, wf_append.2 ⟨hown.2, hr.dg⟩⟩
    exact h5.mono hBg
  have hbel : Below B w w' := (Below.refl _ _).grown h3 (Nat.le_of_lt (Nat.lt_of_le_of_lt hBg hgs)) (fun k hk => by simp only [Option.some.injEq] at hk; subst hk; exact hBg)
  refine wpList_plain hgd fun K hK => ?_
  unfold Oper.wp execOp
  simp only [ho, resolve, invoke, builtin, Sem.run_bind, Sem.run_pure, Result.andThen_ok, List.map_toArray, List.map_cons, List.map_nil, hs, hx, h1]
  exact hK _ _ (h g' c' w' hown' (fun k hk hne => h3.block k hk (fun e => hne (by simpa using e))) hbel h4)
end Go.Proofs.YtbcaigpdckencaaDoor
