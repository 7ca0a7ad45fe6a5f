/-  -/
import Derived.Test.YtcankknlbljicaaGreatDoorYbh

set_option linter.unusedVariables false
set_option linter.unusedSimpArgs false
set_option linter.unusedSectionVars false
set_option maxRecDepth 100000
set_option maxHeartbeats 3200000

namespace Go.Proofs.YtcankknlbljicaaGreatDoor
open Go.RowKit Num

theorem Mod_all (n m:Int) (w:World) (hm : 1≤m) (hm2:m≤1000000) (h1 : -9223372036854775808≤n) (h2:n≤9223372036854775807) :
  Calls Tryz.prog 37 #[.int .i64 n,.int .i64 m] w (Ret (.int .i64 (n % m)) w):=by
 have hm0:¬ m < 1:=by omega
 have hmz:¬ m=0:=by omega
 obtain ⟨t,ht⟩:∃ t,t=Int.tmod n m:=⟨_,rfl⟩
 have hb1:t < m:=by rw [ht]; exact Int.tmod_lt_of_pos n (by omega)
 have hb2 : -m < t:=by
  rw [ht]
  have h:=Int.tmod_lt_of_pos (-n) (show 0 < m by omega)
  rw [Int.neg_tmod] at h
  omega
 have hem:n % m=if t < 0 then t + m else t:=by
  have h3:=Int.emod_nonneg n hmz
  have h4:=Int.emod_lt_of_pos n (show 0 < m by omega)
  have h5:m ∣ t - n % m:=by
   rw [ht]
   have e1:n.tmod m=n - m * n.tdiv m:=by have:=Int.mul_tdiv_add_tmod n m; omega
   have e2:n % m=n - m * (n / m):=by have:=Int.mul_ediv_add_emod n m; omega
   exact ⟨n / m - n.tdiv m,by rw [e1,e2,Int.mul_sub]; omega⟩
  obtain ⟨k,hk⟩:=h5
  have k1 : -2 < k:=Int.lt_of_mul_lt_mul_left (a:=m) (by omega) (by omega)
  have k2:k < 1:=Int.lt_of_mul_lt_mul_left (a:=m) (by omega) (by omega)
  rcases (by omega:k = -1 ∨ k=0) with rfl | rfl
  ·split <;> omega
  ·split <;> omega
 have hti:Int.tmod n m=t:=ht.symm
 have HE:=hid hem
 clear hem ht
 by_cases h0:t < 0
 ·go_enter Tryz.func37,Tryz.ntmps37
  go_wp2
  go_ret
  exact ⟨by rw [HE.out,if_pos h0]; rfl,rfl⟩
 ·go_enter Tryz.func37,Tryz.ntmps37
  go_wp2
  go_ret
  exact ⟨by rw [HE.out,if_neg (by omega)]; rfl,rfl⟩
end Go.Proofs.YtcankknlbljicaaGreatDoor

namespace Go.Proofs.YtcankknlbljicaaGreatDoor
open Go.RowKit Num

end Go.Proofs.YtcankknlbljicaaGreatDoor

namespace Go.Proofs.YtcankknlbljicaaGreatDoor
open Go.RowKit Num

end Go.Proofs.YtcankknlbljicaaGreatDoor

namespace Go.Proofs.YtcankknlbljicaaGreatDoor
open Go.RowKit Num

end Go.Proofs.YtcankknlbljicaaGreatDoor

namespace Go.Proofs.YtcankknlbljicaaGreatDoor
open Go.RowKit Num

end Go.Proofs.YtcankknlbljicaaGreatDoor

namespace Go.Proofs.YtcankknlbljicaaGreatDoor
open Go.RowKit Num





end Go.Proofs.YtcankknlbljicaaGreatDoor
