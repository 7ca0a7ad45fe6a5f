/- The reference's Parse of natural numbers, every text. -/
import Derived.Test.YtbcaigpdckencaaDoorQRpa

namespace Go.Proofs.YtbcaigpdckencaaDoor
open Go.RowKit Num

theorem bstr_of (s : ByteArray) : ∃ bs : List Nat, s = bstr bs ∧ (∀ b ∈ bs, b < 256) ∧ bs.length = s.size := by
  refine ⟨s.data.toList.map UInt8.toNat, ?_, ?_, ?_⟩
  · unfold bstr
    rw [List.map_map]
    have e : (UInt8.ofNat ∘ UInt8.toNat) = id := by funext x; simp
    rw [e, List.map_id]
  · intro b hb
    obtain ⟨x, _, rfl⟩ := List.mem_map.1 hb
    exact x.toNat_lt
  · rw [List.length_map, Array.length_toList]; rfl

set_option maxRecDepth 1000000 in
set_option maxHeartbeats 1600000 in
theorem rparse_any (bs : List Nat) (w : World) (V : Nat) (er : Int) (hb : ∀ b ∈ bs, b < 256) (hm : bs.length ≤ 9223372036854775807) (h : Parsed bs V er) :
    Calls Tryd.prog 25 #[.string (bstr bs)] w (RetParse V er w) := by
  have hsz : (bstr bs).size = bs.length := bstr_size bs
  rcases h with ⟨h1, rfl, rfl⟩ | ⟨h1, rfl, rfl⟩ | ⟨h1, h2, rfl, rfl⟩ | ⟨h1, h2, h3, rfl, rfl⟩ | ⟨h1, h2, h3, h4⟩
  · have hi : (bs.length : Int) > 4096 := by omega
    clear hb
    go_enter Tryd.func25, Tryd.ntmps25
    go_wp2
    go_ret2
    exact retParse_none
  · subst h1
    have hd : dgs [48] := by intro b hb; simp at hb; omega
    exact rparse_body [48] w 0 0 (by simp) hb (by simp) (fun h => by simp at h) (fun _ => ⟨by rfl, rfl⟩) (fun h => absurd hd h)
  · subst h2
    clear hb
    go_enter Tryd.func25, Tryd.ntmps25
    go_wp2
    go_ret2
    exact retParse_none
  · have g0 : ¬ ((bs.length : Int) > 4096) := by omega
    have g1 : ((bs.length : Int) == 0) = false := by rw [beq_eq_false_iff_ne]; omega
    have g2 : (bs.length : Int) > 1 := by omega
    have e3 : ((((bstr bs)[0]'(by rw [hsz]; omega)).toNat : Int) == 48) = true := by rw [bstr_get _ hb, h3]; rfl
    clear hb h3
    go_enter Tryd.func25, Tryd.ntmps25
    go_wp2
    go_ret2
    exact retParse_none
  · refine rparse_body bs w V er h1 hb h2 (fun _ => h3) (fun hd => ?_) (fun hd => ?_)
    · rcases h4 with h | h
      · exact h.2
      · exact absurd hd h.1
    · rcases h4 with h | h
      · exact absurd h.1 hd
      · exact h.2
end Go.Proofs.YtbcaigpdckencaaDoor
