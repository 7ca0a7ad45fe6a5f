/-  -/
import Derived.Test.YtcankknlbljicaaGreatDoorYfe

set_option linter.unusedVariables false
set_option linter.unusedSimpArgs false
set_option linter.unusedSectionVars false
set_option maxRecDepth 100000
set_option maxHeartbeats 3200000

namespace Go.Proofs.YtcankknlbljicaaGreatDoor
open Go.RowKit Num

def ofN (fs gs:List Rat) (d:Rat):Nat→List Rat
 | 0=>[]
 | i + 1=>addQ (mulQ (ofN fs gs d i) gs) [fs.getD (fs.length - i - 1) 0 * (d ^ i * d)]
def comP (ps qs:List Rat):List Rat:=(cutQ (ofN (clq ps) (clq qs) (clr qs) (clq ps).length)).map fun q=>q / (clr ps * clr qs ^ (clq ps).length)
def cpsE (ps qs:List Rat):Int:=if 192 < ((cutn ps:Int) - 1) * ((cutn qs:Int) - 1) then 12 else 0
def cpsP (ps qs:List Rat):List Rat:=if 192 < ((cutn ps:Int) - 1) * ((cutn qs:Int) - 1) then [] else comP ps qs
def powN (fs:List Rat):Nat→List Rat
 | 0=>[((1:Int):Rat)]
 | i + 1=>mulQ (powN fs i) fs
def powB (ps:List Rat) (n:Int):Bool:=((decide (n < 0)) || (decide (48 < n))) || (decide (192 < n * ((cutn ps:Int) - 1)))
def powE (ps:List Rat) (n:Int):Int:=if powB ps n=true then 12 else 0
def powP (ps:List Rat) (n:Int):List Rat:=if powB ps n=true then [] else (cutQ (powN (clq ps) n.toNat)).map fun q=>q / (clr ps ^ n.toNat)
def sameQ (ps qs:List Rat):Bool:=decide (cutQ ps=cutQ qs)
theorem cmp0_eq {p q:Rat} (h:cmpQ p q=0):p=q:=by
 unfold cmpQ at h
 by_cases h1:p < q
 ·rw [if_pos h1] at h; omega
 ·by_cases h2:q < p
  ·rw [if_neg h1,if_pos h2] at h; omega
  ·exact Rat.le_antisymm (Rat.not_lt.1 h2) (Rat.not_lt.1 h1)
def encN (ps:List Rat) (p q:Rat):Nat→Rat × Rat
 | 0=>(mnQ ((0:Int):Rat) ((0:Int):Rat),mxQ ((0:Int):Rat) ((0:Int):Rat))
 | i + 1=>((mnQ (mn4 ((encN ps p q i).1 * p) ((encN ps p q i).1 * q) ((encN ps p q i).2 * p) ((encN ps p q i).2 * q)) (mx4 ((encN ps p q i).1 * p) ((encN ps p q i).1 * q) ((encN ps p q i).2 * p) ((encN ps p q i).2 * q))) + (mnQ (mnQ (ps.getD (ps.length - i - 1) 0) (ps.getD (ps.length - i - 1) 0)) (mxQ (ps.getD (ps.length - i - 1) 0) (ps.getD (ps.length - i - 1) 0))),
   (mxQ (mn4 ((encN ps p q i).1 * p) ((encN ps p q i).1 * q) ((encN ps p q i).2 * p) ((encN ps p q i).2 * q)) (mx4 ((encN ps p q i).1 * p) ((encN ps p q i).1 * q) ((encN ps p q i).2 * p) ((encN ps p q i).2 * q))) + (mxQ (mnQ (ps.getD (ps.length - i - 1) 0) (ps.getD (ps.length - i - 1) 0)) (mxQ (ps.getD (ps.length - i - 1) 0) (ps.getD (ps.length - i - 1) 0))))
theorem trm_t {n:Nat} {q:Rat} (h:(decide ((0:Int) < (n:Int)) && decide (sgnQ q=0))=true) : 1≤n∧q=0:=by
 simp only [Bool.and_eq_true,decide_eq_true_eq] at h
 exact ⟨by omega,sgnQ_zero.1 h.2⟩
theorem trm_end {qs:List Rat} {n:Nat} (h:n≤qs.length∧cutn qs=cutn (qs.take n)) (h2:(decide ((0:Int) < (n:Int)) && decide (sgnQ (qs.getD (n - 1) 0)=0))=false):cutQ qs=qs.take n:=by
 have h3:=deg_end h (by
  rw [← h2]
  congr 1
  exact decide_eq_decide.2 (by omega))
 injection h3 with h4 h5
 have h6:n=cutn qs:=by omega
 unfold cutQ
 rw [h6]
theorem take_snocQ {qs:List Rat} {i:Nat} (h:i < qs.length):qs.take i ++ [qs.getD i 0]=qs.take (i + 1):=(take_succ_getD h).symm
theorem trm_take {qs:List Rat} {n i:Nat} (h:n≤qs.length) (h2:i=n):(qs.take n).take i=qs.take n:=by
 rw [List.take_take,h2,Nat.min_self]
theorem sml_len {ps qs:List Rat} (h:decide ((ps.length:Int)≠(qs.length:Int))=true):decide (ps=qs)=false :=
 decide_eq_false fun h2=>of_decide_eq_true h (by rw [h2])
theorem sml_ne {ps qs:List Rat} {i:Nat} (h:(!(true && (decide (ps.getD i 0=qs.getD i 0))))=true):decide (ps=qs)=false :=
 decide_eq_false fun h2=>by rw [h2] at h; simp at h
theorem sml_next {ps qs:List Rat} {i n:Nat} (hp:i≤n∧∀ t:Nat,t < i→ps.getD t 0=qs.getD t 0) (hi:i + 1≤n) (h:(!(true && (decide (ps.getD i 0=qs.getD i 0))))=false):i + 1≤n∧∀ t:Nat,t < i + 1→ps.getD t 0=qs.getD t 0 :=
 ⟨hi,fun t ht=>by
  by_cases h1:t < i
  ·exact hp.2 t h1
  ·obtain rfl:t=i:=by omega
   simpa using h⟩
theorem sml_end {ps qs:List Rat} {i n:Nat} (h:decide ((ps.length:Int)≠(qs.length:Int))=false) (hp:i≤n∧∀ t:Nat,t < i→ps.getD t 0=qs.getD t 0) (hi:ps.length≤i):decide (ps=qs)=true:=by
 have hl:ps.length=qs.length:=by
  have:=Decidable.not_not.1 (of_decide_eq_false h)
  omega
 refine decide_eq_true (List.ext_getElem hl fun j h1 h2=>?_)
 have:=hp.2 j (by omega)
 rw [List.getD_eq_getElem?_getD,List.getD_eq_getElem?_getD,List.getElem?_eq_getElem h1,List.getElem?_eq_getElem h2] at this
 exact this
theorem at_out {qs:List Rat} {i:Nat} (h:((decide (((i:Nat):Int) < 0)) || (decide ((qs.length:Int)≤((i:Nat):Int))))=true):((0:Int):Rat)=qs.getD i 0:=by
 rw [Bool.or_eq_true,decide_eq_true_eq,decide_eq_true_eq] at h
 rw [getQ_out (by omega)]; rfl
theorem at_in {qs:List Rat} {i:Nat} (h:((decide (((i:Nat):Int) < 0)) || (decide ((qs.length:Int)≤((i:Nat):Int))))=false):i < qs.length:=by
 rw [Bool.or_eq_false_iff,decide_eq_false_iff_not,decide_eq_false_iff_not] at h
 omega
theorem or_lt_t {i n m:Nat} (h:((decide ((i:Int) < (n:Int))) || (decide ((i:Int) < (m:Int))))=true):i < max n m:=by
 rw [Bool.or_eq_true,decide_eq_true_eq,decide_eq_true_eq] at h
 omega
theorem or_lt_f {i n m:Nat} (h:((decide ((i:Int) < (n:Int))) || (decide ((i:Int) < (m:Int))))=false):max n m≤i:=by
 rw [Bool.or_eq_false_iff,decide_eq_false_iff_not,decide_eq_false_iff_not] at h
 omega
theorem add_snoc {ps qs:List Rat} {i:Nat} (h:i < max ps.length qs.length):(addQ ps qs).take i ++ [ps.getD i 0 + qs.getD i 0]=(addQ ps qs).take (i + 1):=by
 rw [← take_snocQ (by rw [addQ_len]; exact h),addQ_get]
theorem map_snoc {qs:List Rat} {f:Rat→Rat} {i:Nat} (h:i < qs.length):(qs.map f).take i ++ [f (qs.getD i 0)]=(qs.map f).take (i + 1):=by
 rw [← take_snocQ (by rw [List.length_map]; exact h),getD_map h]
theorem take_allQ {qs:List Rat} {i:Nat} (h:qs.length≤i):qs.take i=qs:=List.take_of_length_le h
def evN (qs:List Rat) (x:Rat):Nat→Rat
 | 0=>((0:Int):Rat)
 | t + 1=>evN qs x t * x + qs.getD (qs.length - t - 1) 0
def ratQ (t:Int):Rat:=Rat.divInt (t % 25 - 12) (1 + Int.tdiv t 25 % 8)
def polQ (ts:List Int) (n:Nat):List Rat:=cutQ ((ts.take (n + 1)).map ratQ)
theorem outQ_zero {ps qs:List Rat} (j:Nat):(outQ ps qs 0).getD j 0=0:=by
 unfold outQ
 simp [List.getD_eq_getElem?_getD,List.getElem?_replicate]
 split <;> rfl
theorem mulC_nil {ps qs:List Rat} (h:(decide ((ps.length:Int)=0) || decide ((qs.length:Int)=0))=true):cutQ (mulQ ps qs) = []:=by rw [mulQ_nil h]; rfl
def powR (ps:List Rat):Nat→List Rat
 | 0=>[((1:Int):Rat)]
 | i + 1=>cutQ (mulQ (cutQ (powR ps i)) (cutQ ps))
def pwrB (ps:List Rat) (n:Int):Bool:=((decide (n < 0)) || (decide (48 < n))) || (decide (192 < n * ((cutn ps - 1:Nat):Int)))
def pwrE (ps:List Rat) (n:Int):Int:=if pwrB ps n=true then 12 else 0
def pwrP (ps:List Rat) (n:Int):List Rat:=if pwrB ps n=true then [] else powR ps n.toNat
theorem st_endTT {fn:Func} {N:Nat} {O O0:Bs} {W0 w:World} {a:Act} {L:List (Nat × MP)} {X:List RX} {p q:Tmp} {m1 m2 m1' m2':MP} (S:St N O0 O W0 a w L X) (i j:Nat) (hi:L[i]?=some (p,m1)) (hj:L[j]?=some (q,m2)) (h1:∀ v,m1.S O0 w v→m1'.S O0 w v) (h2:∀ v,m2.S O0 w v→m2'.S O0 w v) (hf:fn.results = #[.tmp p,.tmp q]:=by rfl):bodyPost Tryz.prog fn (RetM (mT m1' m2') O0 W0) .ret a w :=
 ⟨S.d,_,results_tmp2 hf a.tmps Tryz.prog w,_,rfl,⟨_,_,rfl,h1 _ (m1.less _ _ _ _ S.o (S.sl i hi)),h2 _ (m2.less _ _ _ _ S.o (S.sl j hj))⟩,S.B⟩
end Go.Proofs.YtcankknlbljicaaGreatDoor

namespace Go.Proofs.YtcankknlbljicaaGreatDoor
open Go.RowKit Num

set_option maxRecDepth 100000
set_option maxHeartbeats 2000000
theorem pi_of {fs gs:List Rat} {k m e l:Nat} {c d:Rat} {LV K KP KD:Nat} {v0:Value} {v1:Value} {w:World} {O:Bs} (hn:fs.length≤9999) (hl:gs.length≤9999) (hk:k≤99990000) (hm:m≤99990000) (he:e≤333330000) (hl2:l≤99990000) (hlen:∀ i:Nat,i≤fs.length→(ofN fs gs d i).length≤LV) (hLV:LV≤9999) (hz:∀ i j:Nat,i≤fs.length→Sz ((ofN fs gs d i).getD j 0) K) (hd:∀ i:Nat,i≤fs.length→Sz (d ^ i) KD) (hK:LV * (K + m + 3) + 2≤KP) (hK2:KP≤333330000) (hK3:K≤99990000) (hKD:KD≤99990000) (pf0:(mI (lC fs (k)) (mC (c) (e))).S O w v0) (pf1:(mI (lC gs (m)) (mC (d) (l))).S O w v1) (hT:Tb w) (ho:OB O w) :
    Calls Tryz.prog 169 #[v0,v1] w (RetM (mI (lC (ofN fs gs d fs.length) (K)) (mC (c * d ^ fs.length) (e + KD + 3))) O w):=by
 refine st_start 46 Tryz.func169 [(mI (lC fs (k)) (mC (c) (e))),(mI (lC gs (m)) (mC (d) (l)))] ⟨pf0,pf1,trivial⟩ ho fun a S=>?_
 refine wp_seq ?_
 refine st_seq S 0 [] [(false,0),(false,1)] trivial (L':=[(0,?_),(1,?_)]) ?_ fun a1 w2 S3=>?_
 rotate_left 2
 · rfl
 refine t_box S3 0 rfl (fun h=>(mI_cv (fun _ h=>(isC.cv h)) h)) fun O a5 w6 g7 S8=>?_
 refine t_box S8 2 rfl (fun h=>(mI_cv (fun _ h=>(isC.cv h)) h)) fun O a9 w10 g11 S12=>?_
 refine t_alloc S12 zero_integral (fun _ _ _=>bx_integral) fun O a13 w14 g15 S16=>?_
 refine wpList_nil (then_normal ?_)
 refine wp_seq ?_
 refine st_seq S16 0 [] [(false,0),(false,1),(false,2)] trivial (L':=[(4,?_),(3,?_),(2,?_)]) ?_ fun a17 w18 S19=>?_
 rotate_left 3
 · rfl
 refine t_asgC S19 fun a21 S22=>?_
 refine wpList_nil (then_normal ?_)
 refine wp_seq ?_
 refine st_seq S22 1 [?_] [(true,0),(false,0),(false,1),(false,2),(false,3)] ⟨?_,trivial⟩ (L':=[(9,?_),(5,?_),(4,?_),(3,?_),(2,?_)]) ?_ fun a23 w24 S25=>?_
 rotate_left 6
 · exact opC S22.r rfl fun c B=>⟨_,args_0,(p_one (S22.obc c.wb))⟩
 · rfl
 refine t_alloc S25 zero_Rat (fun _ _ _=>bx_Rat) fun O a27 w28 g29 S30=>?_
 refine t_sto S30 0 1 0 rfl isC.cv (fun w31 S32=>?_) info_Rat
 refine wpList_nil (then_normal ?_)
 refine wp_seq ?_
 refine wp_seq ?_
 refine st_seq S32 4 [?_,?_,?_,?_] [(true,2),(true,3),(false,0),(false,2),(false,3),(false,4),(false,5)] ⟨?_,?_,?_,?_,trivial⟩ (L':=[(12,?_),(13,?_),(6,?_),(5,?_),(4,?_),(3,?_),(2,?_)]) ?_ fun a33 w34 S35=>?_
 rotate_left 11
 · exact opV S32.r fun c=>fa_integral_0 rfl (c.q 5 rfl)
 · exact opP S32.r fun c=>ld_I0 (c.bx 3 rfl) (c.e 0 rfl)
 · exact opV S32.r fun c=>len_L fs.length Tryz.underlying37 (c.h 0 rfl) (lC_len _ _)
 · exact opV S32.r fun c=>run_moveC rfl
 · rfl
 refine wpList_nil (then_normal ?_)
 refine wp_block ?_
 refine st_loop (τ:=Nat) (fun i=>[(12,(mV (.int .i64 ((fs.length:Nat):Int)))),(13,(mV (.int .i64 ((i:Nat):Int)))),(6,(mV (.pointer (some ⟨g29,0,none⟩)))),(5,(mSl 3 (lC (ofN fs gs d i) (K)))),(4,(mV (.pointer (some ⟨g15,0,none⟩)))),(3,(mV (.pointer (some ⟨g11,0,none⟩)))),(2,(mV (.pointer (some ⟨g7,0,none⟩))))]) (fun i=>[.box g29 26 3 (mC (d ^ i) (KD)),.box g15 102 4 mTop,.box g11 102 4 (mI (lC gs (m)) (mC (d) (l))),.box g7 102 4 (mI (lC fs (k)) (mC (c) (e)))]) (fun i=>i≤fs.length) (fun i=>fs.length - i) 0 (by omega) (S35.toX ⟨S35.sl 0 rfl,S35.sl 1 rfl,S35.sl 2 rfl,(nil_L rfl (S35.sl 3 rfl)),S35.sl 4 rfl,S35.sl 5 rfl,S35.sl 6 rfl,trivial⟩ ⟨(bx.imp (fun _ h=>isC.re (isC.of h pow0Q.symm) (hd 0 (Nat.zero_le _))) (S35.f 0 rfl)),S35.f 1 rfl,S35.f 2 rfl,S35.f 3 rfl,trivial⟩) ?_
 rintro i O a39 w40 hp41 S42
 try dsimp only at hp41 S42
 have hml:=mulQ_len (ofN fs gs d i) gs
 have hlv:=hlen i (by omega)
 refine wp_seq ?_
 refine st_seq S42 1 [?_] [(true,0),(false,0),(false,1),(false,2),(false,3),(false,4),(false,5),(false,6)] ⟨?_,trivial⟩ (L':=[(14,?_),(12,?_),(13,?_),(6,?_),(5,?_),(4,?_),(3,?_),(2,?_)]) ?_ fun a43 w44 S45=>?_
 rotate_left 9
 · exact opV S42.r fun c=>run_lss rfl (c.q 1 rfl) (c.q 0 rfl)
 · rfl
 refine wpList_nil (then_normal ?_)
 refine wp_seq ?_
 refine cond_b _ (ev (S45.sl 0 rfl)) (fun hb47=>?_) (fun hb47=>?_)
 ·have hb47p:=of_decide_eq_true hb47
  refine wp_skip (then_normal ?_)
  refine wp_seq ?_
  refine wp_block ?_
  refine wp_seq ?_
  refine st_seq S45 1 [?_] [(true,0),(false,1),(false,2),(false,3),(false,4),(false,5),(false,6),(false,7)] ⟨?_,trivial⟩ (L':=[(15,?_),(12,?_),(13,?_),(6,?_),(5,?_),(4,?_),(3,?_),(2,?_)]) ?_ fun a48 w49 S50=>?_
  rotate_left 9
  · exact opV S45.r fun c=>run_v (run_move rfl) (c.q 2 rfl)
  · rfl
  refine t_asg S50 0 fun a52 S53=>?_
  refine wpList_nil (then_normal ?_)
  refine wp_seq ?_
  refine st_seq S53 4 [?_,?_,?_,?_] [(true,3),(false,0),(false,2),(false,3),(false,4),(false,5),(false,6),(false,7),(false,8)] ⟨?_,?_,?_,?_,trivial⟩ (L':=[(19,?_),(7,?_),(12,?_),(13,?_),(6,?_),(5,?_),(4,?_),(3,?_),(2,?_)]) ?_ fun a54 w55 S56=>?_
  rotate_left 13
  · exact opL S53.r 0 Tryz.underlying26 info_Rat fun c=>(c.q 4 rfl)
  · exact opV S53.r fun c=>fa_integral_1 rfl (c.q 7 rfl)
  · exact opP S53.r fun c=>ld_part rfl (c.e 0 rfl) (ld_I1 (c.bx 2 rfl)) Tryz.underlying26 info_Rat
  · exact opC S53.r rfl fun c B=>⟨_,args_2 rfl rfl,(c_mul (by omega) (by omega) (isC.r (c.h 0 rfl)) (isC.r (c.h 1 rfl)) (hT.below B))⟩
  · rfl
  refine t_sto S56 4 0 0 rfl isC.cv (fun w58 S59=>?_) info_Rat
  refine wpList_nil (then_normal ?_)
  refine wp_seq ?_
  refine st_monoB S59 13 [?_,?_,?_,?_,?_,?_,?_,?_,?_,?_,?_,?_,?_] [(true,11),(false,2),(false,3),(false,4),(false,5),(false,6),(false,7),(false,8)] ⟨?_,?_,?_,?_,?_,?_,?_,?_,?_,?_,?_,?_,?_,trivial⟩ (L':=[(31,?_),(12,?_),(13,?_),(6,?_),(5,?_),(4,?_),(3,?_),(2,?_)]) ?_ fun O a60 w61 hw hO hX S62 A63=>?_
  rotate_left 21
  · exact opV S59.big fun c=>fa_integral_0 rfl (c.q 8 rfl)
  · exact opP S59.big fun c=>ld_I0 (c.bx 3 rfl) (c.e 0 rfl)
  · exact opV S59.big fun c=>fa_integral_0 rfl (c.q 8 rfl)
  · exact opP S59.big fun c=>ld_I0 (c.bx 3 rfl) (c.e 0 rfl)
  · exact opV S59.big fun c=>len_L fs.length Tryz.underlying37 (c.h 0 rfl) (lC_len _ _)
  · exact opV S59.big fun c=>run_sub rfl (c.e 0 rfl) rfl (by omega) (by omega)
  · exact opV S59.big fun c=>run_v (run_move rfl) (c.q 1 rfl)
  · exact opV S59.big fun c=>run_sub rfl (c.e 0 rfl) (c.e 1 rfl) (by omega) (by omega)
  · exact opP S59.big fun c=>ix_sl Tryz.underlying37 infoRz (c.h 0 rfl) (c.e 1 rfl) (i:=fs.length - i - 1) (by omega) (lC_get (by omega))
  · exact opP S59.big fun c=>ld_pt (c.h 0 rfl) Tryz.underlying26 info_Rat
  · exact opL S59.big 0 Tryz.underlying26 info_Rat fun c=>(c.q 4 rfl)
  · exact opC S59.big rfl fun c B=>⟨_,args_2 rfl rfl,(c_mul (by omega) (by omega) (isC.r (c.h 0 rfl)) (isC.r (c.h 1 rfl)) (hT.below B))⟩
  · exact opA S59.big zero_Rat fun _ _ _=>bx_Rat
  · rfl
  obtain ⟨g64,e66,e66a,e66b,e66x⟩:=A63.g 12 rfl rfl
  have S65:=(S62.add (q:=.box g64 26 3 mTop) (fun _ h=>by cases h; exact ⟨hO _ ⟨e66a,e66b⟩,Nat.le_trans hw e66a⟩) e66x (fun p hp x h=>by cases h; exact hX p hp _ e66a)).new e66
  refine t_sto S65 0 1 0 rfl isC.cv (fun w67 S68=>?_) info_Rat
  refine wpList_nil (then_normal ?_)
  refine st_mono S68 7 [?_,?_,?_,?_,?_,?_,?_] [(true,6),(false,2),(false,3),(false,4),(false,5),(false,6),(false,7),(false,8)] ⟨?_,?_,?_,?_,?_,?_,?_,trivial⟩ (L':=[(38,?_),(12,?_),(13,?_),(6,?_),(5,?_),(4,?_),(3,?_),(2,?_)]) ?_ fun a69 w70 S71=>?_
  rotate_left 15
  · exact opP S68.r fun c=>⟨_,run_move rfl,(c.o 5 rfl)⟩
  · exact opV S68.r fun c=>fa_integral_0 rfl (c.q 7 rfl)
  · exact opP S68.r fun c=>ld_I0 (c.bx 3 rfl) (c.e 0 rfl)
  · exact opC S68.r rfl fun c B=>⟨_,args_2 rfl rfl,(p_prod (L:=LV) (K:=KP) (by omega) (by omega) (by omega) (by omega) (by omega) (by omega) (by omega) (slC_r (c.h 0 rfl)) (slC_r (c.h 1 rfl)) (hT.below B) (S68.obc c.wb))⟩
  · exact opL S68.r 0 Tryz.underlying26 info_Rat fun c=>(c.q 0 rfl)
  · exact opN S68.r fun c=>lit1C (S68.obc c.wb) (c.h 0 rfl)
  · exact opC S68.r rfl fun c B=>⟨_,args_2 rfl rfl,(retL (p_sum (by omega) (by first | omega | exact Nat.le_of_ble_eq_true rfl) (by omega) (by omega) (slC_r (c.h 0 rfl)) (slC_r (c.h 1 rfl)) (hT.below B) (S68.obc c.wb)) (S68.obc c.wb))⟩
  · rfl
  refine t_asg S71 0 fun a73 S74=>?_
  refine wpList_nil (in_normal (then_normal ?_))
  refine st_seq S74 1 [?_] [(true,0),(false,0),(false,2),(false,3),(false,4),(false,5),(false,6),(false,7)] ⟨?_,trivial⟩ (L':=[(39,?_),(5,?_),(12,?_),(13,?_),(6,?_),(4,?_),(3,?_),(2,?_)]) ?_ fun a75 w76 S77=>?_
  rotate_left 9
  · exact opV S74.r fun c=>run_add rfl (c.q 3 rfl) rfl (by omega) (by omega)
  · rfl
  refine t_val S77 (run_v (run_move rfl) (S77.e 0 rfl)) fun a79 S80=>?_
  refine wpList_nil (then_normal ?_)
  exact ⟨i + 1,(by first | omega | (dsimp only; omega)),(by first | omega | (dsimp only; omega)),_,(S80.dropN 1).toX ⟨S80.sl 3 rfl,(S80.sl 0 rfl).trans (by first | rfl | exact congrArg _ (by omega)),S80.sl 4 rfl,(slC_re (fun l=>hz (i + 1) l (by omega)) (S80.sl 2 rfl)),S80.sl 5 rfl,S80.sl 6 rfl,S80.sl 7 rfl,trivial⟩ ⟨(bx.imp (fun _ h=>isC.re (isC.of h (Rat.pow_succ d i).symm) (hd (i + 1) (by omega))) (S80.f 1 rfl)),S80.f 2 rfl,S80.f 3 rfl,S80.f 4 rfl,trivial⟩⟩
 ·have hb47p:=of_decide_eq_false hb47
  refine wp_exit ?_
  repeat (first | refine exit_in ?_ | refine exit_then ?_ | refine exit_out (by decide) ?_)
  refine (then_normal ?_)
  refine wp_seq ?_
  refine st_seq S45 6 [?_,?_,?_,?_,?_,?_] [(true,5),(false,5)] ⟨?_,?_,?_,?_,?_,?_,trivial⟩ (L':=[(45,?_),(4,?_)]) ?_ fun a81 w82 S83=>?_
  rotate_left 8
  · exact opP S45.r fun c=>⟨_,run_move rfl,(c.o 4 rfl)⟩
  · exact opV S45.r fun c=>fa_integral_1 rfl (c.q 7 rfl)
  · exact opP S45.r fun c=>ld_part rfl (c.e 0 rfl) (ld_I1 (c.bx 3 rfl)) Tryz.underlying26 info_Rat
  · exact opL S45.r 0 Tryz.underlying26 info_Rat fun c=>(c.q 3 rfl)
  · exact opC S45.r rfl fun c B=>⟨_,args_2 rfl rfl,(c_mul (by omega) (by omega) (isC.r (c.h 0 rfl)) (isC.r (c.h 1 rfl)) (hT.below B))⟩
  · exact opP S45.r fun c=>bld_I rfl (c.h 0 rfl) (c.h 1 rfl) (isC.cv (c.h 1 rfl))
  · rfl
  refine t_sto S83 1 0 1 rfl (fun h=>(mI_cv (fun _ h=>(isC.cv h)) h)) (fun w85 S86=>?_) info_integral
  refine wpList_nil (then_normal ?_)
  refine wp_ret ?_
  exact st_end S86 1 1 rfl Tryz.underlying102 info_integral fun v h=>(by rw [show fs.length=i by omega]; exact h)
end Go.Proofs.YtcankknlbljicaaGreatDoor

namespace Go.Proofs.YtcankknlbljicaaGreatDoor
open Go.RowKit Num

set_option maxRecDepth 100000
set_option maxHeartbeats 2000000
theorem p_comp {ps qs:List Rat} {k m:Nat} {L K1 LV K KP KD KF:Nat} {v0:Value} {v1:Value} {w:World} {O:Bs} (hn:ps.length≤L) (hl:qs.length≤L) (hL:L≤9999) (hk:k≤9990000) (hm:m≤9990000) (hK1:L * (k + 2) + 2≤K1) (hL1:L * (m + 2) + 2≤K1) (hK:K1≤33330000) (hlen:∀ i:Nat,i≤(clq ps).length→(ofN (clq ps) (clq qs) (clr qs) i).length≤LV) (hLV:LV≤9999) (hz:∀ i j:Nat,i≤(clq ps).length→Sz ((ofN (clq ps) (clq qs) (clr qs) i).getD j 0) K) (hd:∀ i:Nat,i≤(clq ps).length→Sz (clr qs ^ i) KD) (hK2:LV * (K + (m + K1 + 3) + 3) + 2≤KP) (hK3:KP≤333330000) (hK4:K≤99990000) (hKD:KD≤99990000) (hf:∀ j,Sz ((comP ps qs).getD j 0) KF) (pf0:(mSl 3 (lR ps (k))).S O w v0) (pf1:(mSl 3 (lR qs (m))).S O w v1) (hT:Tb w) (ho:OB O w) :
    Calls Tryz.prog 102 #[v0,v1] w (RetM (mSl 3 (lC (comP ps qs) (KF))) O w):=by
 refine st_start 11 Tryz.func102 [(mSl 3 (lR ps (k))),(mSl 3 (lR qs (m)))] ⟨pf0,pf1,trivial⟩ ho fun a S=>?_
 have hc1:=clq_len ps
 have hc2:=clq_len qs
 have hlv:=hlen _ (Nat.le_refl _)
 refine wp_seq ?_
 refine st_seq S 0 [] [(false,0),(false,1)] trivial (L':=[(0,?_),(1,?_)]) ?_ fun a1 w2 S3=>?_
 rotate_left 2
 · rfl
 refine t_asgC S3 fun a5 S6=>?_
 refine wpList_nil (then_normal ?_)
 refine wp_seq ?_
 refine st_seq S6 6 [?_,?_,?_,?_,?_,?_] [(true,5),(false,0)] ⟨?_,?_,?_,?_,?_,?_,trivial⟩ (L':=[(10,?_),(4,?_)]) ?_ fun a7 w8 S9=>?_
 rotate_left 8
 · exact opP S6.r fun c=>⟨_,run_move rfl,(c.o 1 rfl)⟩
 · exact opC S6.r rfl fun c B=>⟨_,args_1 rfl,(p_cleared (L:=L) (K:=K1) (by omega) (by omega) (by omega) (by omega) (by omega) (c.h 0 rfl) (hT.below B) (S6.obc c.wb))⟩
 · exact opP S6.r fun c=>⟨_,run_move rfl,(c.o 2 rfl)⟩
 · exact opC S6.r rfl fun c B=>⟨_,args_1 rfl,(p_cleared (L:=L) (K:=K1) (by omega) (by omega) (by omega) (by omega) (by omega) (c.h 0 rfl) (hT.below B) (S6.obc c.wb))⟩
 · exact opC S6.r rfl fun c B=>⟨_,args_2 rfl rfl,(pi_of (LV:=LV) (K:=K) (KP:=KP) (KD:=KD) (by omega) (by omega) (by omega) (by omega) (by omega) (by omega) hlen (by omega) hz hd (by omega) (by omega) (by omega) (by omega) (c.h 0 rfl) (c.h 1 rfl) (hT.below B) (S6.obc c.wb))⟩
 · exact opC S6.r rfl fun c B=>⟨_,args_1 rfl,(pi_poly (by omega) (by omega) (by omega) (mul_ne0 (clr_ne _) (pow_ne0 (clr_ne _) _)) (c.h 0 rfl) (hT.below B) (S6.obc c.wb))⟩
 · rfl
 refine t_asg S9 0 fun a11 S12=>?_
 refine wpList_nil (then_normal ?_)
 refine wp_ret ?_
 exact st_endT S12 0 rfl fun v h=>slC_re hf h

theorem p_eval {ps:List Rat} {x:Rat} {k m:Nat} {L K1 LV K KP KD KF:Nat} {v0:Value} {v1:Value} {w:World} {O:Bs} (hL0 : 1≤L) (hn:ps.length≤L) (hL:L≤9999) (hk:k≤9990000) (hm:m≤9990000) (hK1:L * (k + 2) + 2≤K1) (hL1:L * (m + 2) + 2≤K1) (hK:K1≤33330000) (hlen:∀ i:Nat,i≤(clq ps).length→(ofN (clq ps) (clq [x]) (clr [x]) i).length≤LV) (hLV:LV≤9999) (hz:∀ i j:Nat,i≤(clq ps).length→Sz ((ofN (clq ps) (clq [x]) (clr [x]) i).getD j 0) K) (hd:∀ i:Nat,i≤(clq ps).length→Sz (clr [x] ^ i) KD) (hK2:LV * (K + (m + K1 + 3) + 3) + 2≤KP) (hK3:KP≤333330000) (hK4:K≤99990000) (hKD:KD≤99990000) (hKF:KF≤99990000) (hlc:(comP ps [x]).length≤99999) (hf:∀ j,Sz ((comP ps [x]).getD j 0) KF) (pf0:(mSl 3 (lR ps (k))).S O w v0) (pf1:(mR (x) (m)).S O w v1) (hT:Tb w) (ho:OB O w) :
    Calls Tryz.prog 32 #[v0,v1] w (RetM (mC ((comP ps [x]).getD 0 0) (KF + 1)) O w):=by
 refine st_start 11 Tryz.func32 [(mSl 3 (lR ps (k))),(mR (x) (m))] ⟨pf0,pf1,trivial⟩ ho fun a S=>?_
 refine wp_seq ?_
 refine st_seq S 0 [] [(false,0),(false,1)] trivial (L':=[(0,?_),(1,?_)]) ?_ fun a1 w2 S3=>?_
 rotate_left 2
 · rfl
 refine t_box S3 1 rfl isR.cv fun O a5 w6 g7 S8=>?_
 refine t_alloc S8 zero_Rat (fun _ _ _=>bx_Rat) fun O a9 w10 g11 S12=>?_
 refine wpList_nil (then_normal ?_)
 refine wp_seq ?_
 refine st_seq S12 6 [?_,?_,?_,?_,?_,?_] [(true,5),(false,0)] ⟨?_,?_,?_,?_,?_,?_,trivial⟩ (L':=[(10,?_),(4,?_)]) ?_ fun a13 w14 S15=>?_
 rotate_left 8
 · exact opP S12.r fun c=>⟨_,run_move rfl,(c.o 2 rfl)⟩
 · exact opL S12.r 1 Tryz.underlying26 info_Rat fun c=>(c.q 1 rfl)
 · exact opN S12.r fun c=>lit1R (S12.obc c.wb) (c.h 0 rfl)
 · exact opC S12.r rfl fun c B=>⟨_,args_2 rfl rfl,(p_comp (ps:=ps) (qs:=[x]) (L:=L) (K1:=K1) (LV:=LV) (K:=K) (KP:=KP) (KD:=KD) (by omega) hL0 (by omega) (by omega) (by omega) (by omega) (by omega) (by omega) hlen (by omega) hz hd (by omega) (by omega) (by omega) (by omega) hf (c.h 0 rfl) (c.h 1 rfl) (hT.below B) (S12.obc c.wb))⟩
 · exact opC S12.r rfl fun c B=>⟨_,args_2 rfl rfl,(p_coef (i:=0) (by omega) (by omega) (by omega) (slC_r (c.h 0 rfl)) (S12.obc c.wb))⟩
 · exact opC S12.r rfl fun c B=>⟨_,args_1 rfl,(c_trim (by omega) (c.h 0 rfl) (hT.below B))⟩
 · rfl
 refine t_sto S15 1 0 0 rfl isC.cv (fun w17 S18=>?_) info_Rat
 refine wpList_nil (then_normal ?_)
 refine wp_ret ?_
 exact st_end S18 1 0 rfl Tryz.underlying26 info_Rat fun v h=>h
end Go.Proofs.YtcankknlbljicaaGreatDoor

namespace Go.Proofs.YtcankknlbljicaaGreatDoor
open Go.RowKit Num

set_option maxRecDepth 100000
set_option maxHeartbeats 2000000
end Go.Proofs.YtcankknlbljicaaGreatDoor

namespace Go.Proofs.YtcankknlbljicaaGreatDoor
open Go.RowKit Num

set_option maxRecDepth 100000
set_option maxHeartbeats 2000000
end Go.Proofs.YtcankknlbljicaaGreatDoor
