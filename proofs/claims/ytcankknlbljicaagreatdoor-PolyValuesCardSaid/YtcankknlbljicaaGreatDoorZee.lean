/-  -/
import Derived.Test.YtcankknlbljicaaGreatDoorZfg

set_option linter.unusedVariables false
set_option linter.unusedSimpArgs false
set_option linter.unusedSectionVars false
set_option maxRecDepth 100000
set_option maxHeartbeats 3200000

namespace Go.Proofs.YtcankknlbljicaaGreatDoor
open Go.RowKit Num

set_option maxRecDepth 100000
set_option maxHeartbeats 2000000
end Go.Proofs.YtcankknlbljicaaGreatDoor

namespace Go.Proofs.YtcankknlbljicaaGreatDoor
open Go.RowKit Num

set_option maxRecDepth 100000
set_option maxHeartbeats 2000000
end Go.Proofs.YtcankknlbljicaaGreatDoor

namespace Go.Proofs.YtcankknlbljicaaGreatDoor
open Go.RowKit Num

set_option maxRecDepth 100000
set_option maxHeartbeats 2000000
end Go.Proofs.YtcankknlbljicaaGreatDoor

namespace Go.Proofs.YtcankknlbljicaaGreatDoor
open Go.RowKit Num

set_option maxRecDepth 100000
set_option maxHeartbeats 2000000
theorem k_rat (t : Int)  {w : World} {O : Bs} (h1 : -9223372036854775808 ≤ t) (h2 : t ≤ 9223372036854775807)  (ho : OB O w) :
    Calls Tryz.prog 62 #[.int .i64 (t)] w (RetM (mC (ratQ t) (2)) O w) := by
 refine st_start 11 Tryz.func62 [(mV (.int .i64 (t)))] ⟨rfl, trivial⟩ ho fun a S => ?_
 have htd := tdiv_b (t := t) (n := 25) (by decide) h1 h2
 refine wp_seq ?_
 refine st_seq S 0 [] [(false, 0)] trivial (L' := [(0, ?_)]) ?_ fun a1 w2 S3 => ?_
 rotate_left 1
 · rfl
 refine t_alloc S3 zero_Rat (fun _ _ _ => bx_Rat) fun O a5 w6 g7 S8 => ?_
 refine wpList_nil (then_normal ?_)
 refine wp_seq ?_
 refine st_seq S8 8 [?_, ?_, ?_, ?_, ?_, ?_, ?_, ?_] [(true, 7), (false, 0)] ⟨?_, ?_, ?_, ?_, ?_, ?_, ?_, ?_, trivial⟩ (L' := [(10, ?_), (2, ?_)]) ?_ fun a9 w10 S11 => ?_
 rotate_left 10
 · exact opV S8.r fun c => run_v (run_move rfl) (c.q 1 rfl)
 · exact opC S8.r rfl fun c B => ⟨_, args_2 (c.e 0 rfl) rfl, (k_mod (t) (25) (by omega) (by omega) (by omega) (by omega))⟩
 · exact opV S8.r fun c => run_sub rfl (c.e 0 rfl) rfl (by omega) (by omega)
 · exact opV S8.r fun c => run_v (run_move rfl) (c.q 1 rfl)
 · exact opV S8.r fun c => run_quo rfl (c.e 0 rfl) rfl (by decide) (tdiv_b (by omega) (by omega) (by omega))
 · exact opC S8.r rfl fun c B => ⟨_, args_2 (c.e 0 rfl) rfl, (k_mod (Int.tdiv (t) (25)) (8) (by omega) (by omega) (by omega) (by omega))⟩
 · exact opV S8.r fun c => run_add rfl rfl (c.e 0 rfl) (by omega) (by omega)
 · exact opC S8.r rfl fun c B => ⟨_, args_2 (c.e 0 rfl) (c.e 1 rfl), (r_frac (((t) % (25)) - (12)) ((1) + ((Int.tdiv (t) (25)) % (8))) (by omega) (by omega) (by omega) (by omega))⟩
 · rfl
 refine t_sto S11 1 0 0 rfl isC.cv (fun w13 S14 => ?_) info_Rat
 refine wpList_nil (then_normal ?_)
 refine wp_ret ?_
 exact st_end S14 1 0 rfl Tryz.underlying26 info_Rat fun v h => h
end Go.Proofs.YtcankknlbljicaaGreatDoor

namespace Go.Proofs.YtcankknlbljicaaGreatDoor
open Go.RowKit Num

set_option maxRecDepth 100000
set_option maxHeartbeats 2000000
end Go.Proofs.YtcankknlbljicaaGreatDoor
