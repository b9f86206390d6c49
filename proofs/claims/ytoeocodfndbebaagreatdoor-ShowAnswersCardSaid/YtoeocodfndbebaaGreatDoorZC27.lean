/- Shared texts, shaken for one claim. -/
import Derived.Test.YtoeocodfndbebaaGreatDoorZC6
import Derived.Test.YtoeocodfndbebaaGreatDoorZC26
set_option maxRecDepth 20000
set_option maxHeartbeats 16000000
namespace Go.Proofs.YtoeocodfndbebaaGreatDoor
section
open Go.RowKit
theorem rtext_empty (u:World) (lo hi:Int) (A A':Option Addr) (n c m c':Nat) :
 Calls Tryz.prog 19 #[.agg #[.int .i64 1,.slice A n c,.int .i64 lo,.int .i64 hi,.slice A' m c']] u (Rowed u u.heap.size 3 (ints .i64 [40,41])):=by
 go_enter Tryz.func19,Tryz.ntmps19
 go_wp2_with fail
 go_ret
 have o:=Own.ofLit (w:=u.alloc (.cells #[.int .i64 1,.slice A n c,.int .i64 lo,.int .i64 hi,.slice A' m c'] 25)) (B:=u.heap.size) (e:=3) #[.int .i64 40,.int .i64 41] (by simp) (by simp [maxLen])
 rw [World.size_alloc] at o
 exact rowed_ret o (below_then (below_alloc u _) (below_alloc _ _)) rfl
theorem rtext_start (u:World) (lo hi:Int) (A A':Option Addr) (n c m c':Nat) :
 Calls Tryz.prog 19 #[.agg #[.int .i64 6,.slice A n c,.int .i64 lo,.int .i64 hi,.slice A' m c']] u (Rowed u u.heap.size 3 (ints .i64 [94])):=by
 go_enter Tryz.func19,Tryz.ntmps19
 go_wp2_with fail
 go_ret
 have o:=Own.ofLit (w:=u.alloc (.cells #[.int .i64 6,.slice A n c,.int .i64 lo,.int .i64 hi,.slice A' m c'] 25)) (B:=u.heap.size) (e:=3) #[.int .i64 94] (by simp) (by simp [maxLen])
 rw [World.size_alloc] at o
 exact rowed_ret o (below_then (below_alloc u _) (below_alloc _ _)) rfl
theorem rtext_stop (u:World) (lo hi:Int) (A A':Option Addr) (n c m c':Nat) :
 Calls Tryz.prog 19 #[.agg #[.int .i64 7,.slice A n c,.int .i64 lo,.int .i64 hi,.slice A' m c']] u (Rowed u u.heap.size 3 (ints .i64 [36])):=by
 go_enter Tryz.func19,Tryz.ntmps19
 go_wp2_with fail
 go_ret
 have o:=Own.ofLit (w:=u.alloc (.cells #[.int .i64 7,.slice A n c,.int .i64 lo,.int .i64 hi,.slice A' m c'] 25)) (B:=u.heap.size) (e:=3) #[.int .i64 36] (by simp) (by simp [maxLen])
 rw [World.size_alloc] at o
 exact rowed_ret o (below_then (below_alloc u _) (below_alloc _ _)) rfl
theorem set_ahead (u:World) (lo hi:Int) (A A':Option Addr) (R:List (Int×Int)) (c m c':Nat) (h:Lies u u.heap.size A (prC R)) :
 ∃ ua,u.alloc (.cells #[.int .i64 2,.slice A R.length c,.int .i64 lo,.int .i64 hi,.slice A' m c'] 25)=ua∧Box ua u.heap.size #[.int .i64 2,.slice A R.length c,.int .i64 lo,.int .i64 hi,.slice A' m c'] 25∧Below u.heap.size u ua∧u.heap.size < ua.heap.size∧Lies ua ua.heap.size A (prC R) :=
 ⟨_,rfl,Box.new u _ _,below_alloc u _,(Box.new u _ _).lt,h.up (below_alloc u _)⟩
theorem rtext_char (u:World) (lo hi:Int) (A A':Option Addr) (x y:Int) (c m c':Nat) (h:Lies u u.heap.size A (prC [(x,y)])) (hxy:x=y) :
 Calls Tryz.prog 19 #[.agg #[.int .i64 2,.slice A 1 c,.int .i64 lo,.int .i64 hi,.slice A' m c']] u (Rowed u u.heap.size 3 (ints .i64 (quoC x))):=by
 obtain ⟨ua,hua,x0,b0,hz,hl⟩:=set_ahead u lo hi A A' [(x,y)] c m c' h
 simp only [List.length_cons,List.length_nil,Nat.zero_add] at hua x0
 have HUA:=qh hua
 have X0:=qh x0
 have B0:=qh b0
 obtain ⟨g,off,rfl,hg,hc⟩:=hl.plain (by rw [prC_length];simp)
 have c0:ua.cell? ⟨g,off,none⟩=some (.int .i64 x):=by have:=hc 0 (by rw [prC_length];simp);rw [Nat.add_zero] at this;rw [this];rfl
 have c1:ua.cell? ⟨g,off+1,none⟩=some (.int .i64 y):=by have:=hc 1 (by rw [prC_length];simp);rw [this];rfl
 have e1:ua.cell? ⟨u.heap.size,1,none⟩=some (.slice (some ⟨g,off,none⟩) 1 c):=X0.out.cell rfl
 have hpq:(x == y)=true:=by simpa using hxy
 have HC:=qh (fun z=>rquoteC_any z x)
 clear h hl hxy hc x0 b0 hua hz
 go_enter Tryz.func19,Tryz.ntmps19
 go_wp2_with fail
 rw [HUA.out]
 go_quiet (fail)
 go_wp2_with fail
 refine (HC.out _).mono ?_
 rintro e w1 ⟨v,rfl,o,b⟩
 have O:=qh o
 have B:=qh (below_then (by exact below_drawn B0.out _) b)
 have HZ:=qh B0.out.size
 clear o b
 go_wp2_with fail
 go_ret
 exact rowed_ret (O.out.weaken HZ.out) B.out rfl
theorem rtext_set_many (u:World) (lo hi:Int) (A A':Option Addr) (R:List (Int×Int)) (c m c':Nat) (h:Lies u u.heap.size A (prC R)) (hl:R.length≤1000) (h1:∀ r,R=[r]→¬ r.1=r.2) :
 Calls Tryz.prog 19 #[.agg #[.int .i64 2,.slice A R.length c,.int .i64 lo,.int .i64 hi,.slice A' m c']] u (Rowed u u.heap.size 3 (ints .i64 (setI R))):=by
 rw [setI_two h1]
 obtain ⟨ua,hua,x0,b0,hz,hl0⟩:=set_ahead u lo hi A A' R c m c' h
 have HUA:=qh hua
 have X0:=qh x0
 have BA:=qh b0
 have HZ:=qh hz
 have HL:=qh hl0
 have HTL:=qh (fun k=>itemsI_take_len R k hl)
 have HNX:=qh (fun k (hk:k < R.length)=>itemsI_next hk)
 have e1:ua.cell? ⟨u.heap.size,1,none⟩=some (.slice A R.length c):=X0.out.cell rfl
 have HTEST:Hid (∃ b:Bool,((R.length:Int) == 1)=b∧(b=true→∃ g off p1 p2,A=some ⟨g,off,none⟩∧R.length=1∧(p1 == p2)=false∧ua.cell? ⟨g,off,none⟩=some (.int .i64 p1)∧ua.cell? ⟨g,off+1,none⟩=some (.int .i64 p2))):=qh (by
  rcases hb:((R.length:Int) == 1) with _ | _
  ·exact ⟨false,rfl,fun h=>(by cases h)⟩
  ·obtain ⟨r,rfl⟩:∃ r,R=[r]:=List.length_eq_one_iff.1 (by have:=eq_of_beq hb;omega)
   refine ⟨true,rfl,fun _=>?_⟩
   obtain ⟨g,off,hA,hg,hc⟩:=hl0.plain (by rw [prC_length];simp)
   obtain ⟨p1,p2⟩:=r
   have c0:=hc 0 (by rw [prC_length];simp)
   have c1:=hc 1 (by rw [prC_length];simp)
   rw [Nat.add_zero] at c0
   exact ⟨g,off,p1,p2,hA,rfl,by simpa using h1 _ rfl,by rw [c0];rfl,by rw [c1];rfl⟩)
 obtain ⟨b,hb,hyes⟩:=HTEST.out
 clear h h1 x0 b0 hz hua hl0 HTEST
 rcases b with _ | _
 ·clear hyes
  go_enter Tryz.func19,Tryz.ntmps19
  go_wp2_with fail
  rw [HUA.out]
  go_quiet (fail)
  have BQ:Hid (Below ua.heap.size ua (ua.drewN nq)):=qh (below_drawn (Below.refl _ _) nq)
  obtain ⟨wq,hwq⟩:∃ x,ua.drewN nq=x:=⟨_,rfl⟩
  rw [hwq] at BQ ⊢
  have HO0:Hid (Own (wq.alloc (.cells #[.int .i64 91] 3)) ua.heap.size 3 (.slice (some ⟨wq.heap.size,0,none⟩) 1 1) (ints .i64 (91 :: itemsI (R.take 0)))):=qh (Own.ofLit (w:=wq) #[.int .i64 91] BQ.out.size (by simp [maxLen]))
  have HB0:=qh (BQ.out.alloc BQ.out.size (.cells #[.int .i64 91] 3))
  clear hwq
  go_wp2_with fail
  go_loopw [4,3] (fun iv ov wr=>∃ k:Nat,k≤R.length∧iv=.int .i64 k∧Hid (Own wr ua.heap.size 3 ov (ints .i64 (91 :: itemsI (R.take k))))∧Hid (Below ua.heap.size ua wr)) (fun iv _ _=>R.length - (intOf iv).toNat)
  case atStart=>exact ⟨0,by omega,rfl,HO0,HB0⟩
  case round =>
   obtain ⟨k,hk,rfl,HO,HB⟩:=hrel
   have e1:wr.cell? ⟨u.heap.size,1,none⟩=some (.slice A R.length c):=(X0.out.below HB.out HZ.out).cell rfl
   by_cases hlt:k < R.length
   ·have HN:=qh (HNX.out k hlt)
    have hdl:=HTL.out k
    obtain ⟨g,off,hA,hg,c0,c1⟩:=prC_at (HL.out.up HB.out) hlt
    have HCL:Hid (∀ z,Below ua.heap.size ua z→z.cell? ⟨g,off+k * 2,none⟩=some (.int .i64 R[k].1)∧z.cell? ⟨g,off+k * 2+1,none⟩=some (.int .i64 R[k].2)):=qh fun z hz=>by
     obtain ⟨g',off',hA',-,c0',c1'⟩:=prC_at (HL.out.up hz) hlt
     rw [hA] at hA'
     injection hA' with hA'
     injection hA' with e1 e2
     subst e1 e2
     exact ⟨c0',c1'⟩
    subst hA
    obtain ⟨p,hp⟩:∃ x,R[k]=x:=⟨_,rfl⟩
    rw [hp] at c0 c1 HN HCL
    obtain ⟨q1,q2⟩:=p
    simp only at c0 c1 HN HCL
    obtain ⟨D,hD⟩:∃ D,itemsI (R.take k)=D:=⟨_,rfl⟩
    rw [hD] at HO HN hdl
    have k0:(0:Int)≤(k:Int):=by omega
    have k1:(k:Int) < (R.length:Int):=by omega
    have hq1:=quoC_len q1
    have hq2:=quoC_len q2
    have HDL:=qh (And.intro hdl (And.intro hq1 hq2))
    have HQ1:=qh (fun z=>rquoteC_any z q1)
    have HQ2:=qh (fun z=>rquoteC_any z q2)
    have HSL:Hid (∀ z,Below ua.heap.size ua z→z.cell? ⟨u.heap.size,1,none⟩=some (.slice (some ⟨g,off,none⟩) R.length c)∧z.cell? ⟨g,off+k * 2+1,none⟩=some (.int .i64 q2)):=qh fun z hz=>⟨(X0.out.below hz HZ.out).cell rfl,(HCL.out z hz).2⟩
    have HSM:Hid (∀ z,Below ua.heap.size ua z→z.cell? ⟨u.heap.size,1,none⟩=some (.slice (some ⟨g,off,none⟩) R.length c)∧z.cell? ⟨g,off+k * 2+1,none⟩=some (.int .i64 q2)∧z.cell? ⟨g,off+k * 2,none⟩=some (.int .i64 q1)):=qh fun z hz=>⟨(X0.out.below hz HZ.out).cell rfl,(HCL.out z hz).2,(HCL.out z hz).1⟩
    clear hp hD hdl hq1 hq2
    go_wp2_with fail
    refine (HQ1.out _).mono ?_
    rintro e w2 ⟨v2,rfl,o2,b2⟩
    have O2:=qh (HO.out.below b2 (Nat.le_refl _))
    have B2:=qh (HB.out.trans (b2.mono HB.out.size))
    obtain ⟨A2,c2,rfl,l2,-,-⟩:=o2.form
    have L2:=qh l2
    clear o2 b2 l2 e1 c0 c1
    simp only [ints,List.length_map]
    obtain ⟨bq,hbq⟩:∃ b,(q2 != q1)=b:=⟨_,rfl⟩
    go_wp2_with (first
     | (at_builtin;refine app_src intsT ua w2 ua.heap.size w2.heap.size _ _ _ (ints .i64 (91 :: D)) (ints .i64 (quoC q1)) A2 _ c2 rfl rfl rfl rfl (by simp) O2.out L2.out (ints_one _ _) B2.out B2.out.size (by have:=HDL.out;unfold maxLen;simp;omega) (by have:=HDL.out;simp;omega) ?_;intro v3 w3 o3 b3 g3 e3
        have O3:=qh o3
        have B3:=qh b3
        obtain ⟨n1,n2,n3⟩:=HSM.out w3 b3
        clear o3 b3 g3 e3)
     | fail)
    rcases bq with _ | _
    ·have hq:q2=q1:=by simpa using hbq
     subst hq
     have HI:Hid (itemsI (R.take (k+1))=D++quoC q2):=qh (by rw [HN.out];simp)
     have O4:Hid (Own w3 ua.heap.size 3 v3 (ints .i64 (91 :: (D++quoC q2)))):=qh (by simpa [ints] using O3.out)
     go_quiet (fail)
     go_wp2_with fail
     go_roundw
     case rel=>exact ⟨k+1,by omega,by go_num,qh (by rw [HI.out];exact O4.out.same rfl),qh (below_drawn B3.out _)⟩
     case measure=>simp [intOf];omega
    ·have HI:Hid (itemsI (R.take (k+1))=D++quoC q1++(45 :: quoC q2)):=qh (by rw [HN.out,if_pos (by simpa using hbq)];simp)
     go_quiet (fail)
     have B4:Hid (Below ua.heap.size ua (w3.drewN nq)):=qh (below_drawn B3.out nq)
     have O4:Hid (Own (w3.drewN nq) ua.heap.size 3 v3 (ints .i64 (91 :: D)++ints .i64 (quoC q1))):=qh (O3.out.same rfl)
     obtain ⟨w4,hw4⟩:∃ x,w3.drewN nq=x:=⟨_,rfl⟩
     rw [hw4] at B4 O4 ⊢
     have O5:=qh (O4.out.alloc (.cells #[.int .i64 45] 3))
     have B5:=qh (B4.out.alloc B4.out.size (.cells #[.int .i64 45] 3))
     have L5:Hid (Lies (w4.alloc (.cells #[.int .i64 45] 3)) (w4.alloc (.cells #[.int .i64 45] 3)).heap.size (some ⟨w4.heap.size,0,none⟩) (ints .i64 [45])):=qh (Lies.litUp (w:=w4) (e:=3) #[.int .i64 45])
     clear hw4 hbq n1 n2 n3 e1
     go_wp2_with fail
     refine wp_region_held_drew (S:=fun z=>z.cell? ⟨u.heap.size,1,none⟩=some (.slice (some ⟨g,off,none⟩) R.length c)∧z.cell? ⟨g,off+k * 2+1,none⟩=some (.int .i64 q2)) (by kernel_rfl) (HSL.out _ (by exact below_same B4.out rfl rfl rfl rfl)) (fun hHeld=>?_)
     refine' hY 0 ?_
     try simp only [Act.put,ZA,ZB,ZD,ZE,ZF]
     refine' hY 3 ?_
     try simp only [Act.put,ZA,ZB,ZC,ZD,ZE,ZF]
     refine' hY 4 ?_
     try simp only [Act.put,ZA,ZB,ZC,ZD,ZE,ZF]
     refine' hY 5 ?_
     try simp only [Act.put,ZA,ZB,ZC,ZD,ZE,ZF]
     refine' hY 6 ?_
     try simp only [Act.put,ZA,ZB,ZC,ZD,ZE,ZF]
     refine' hY 7 ?_
     try simp only [Act.put,ZA,ZB,ZC,ZD,ZE,ZF]
     refine' hY 8 ?_
     try simp only [Act.put,ZA,ZB,ZC,ZD,ZE,ZF]
     refine hA 1 fun K hK=>?_
     go_simp
     go_wp2_with fail
     refine hK.out _ _ (HSL.out _ (by exact below_same B5.out rfl rfl rfl rfl)) (fun hHeld=>?_)
     clear hK K
     try simp only [Act.put,ZA,ZB,ZC,ZD,ZE,ZF]
     refine hA 2 fun K hK=>?_
     refine step_app intsT ua _ ua.heap.size _ (.tmp 73) (.tmp 74) v3 (ints .i64 (91 :: D)++ints .i64 (quoC q1)) (ints .i64 [45]) (some ⟨w4.heap.size,0,none⟩) 1 1 rfl rfl rfl rfl rfl (Own.same O5.out rfl) (Lies.sameHeap L5.out rfl) (ints_one _ _) (below_same B5.out rfl rfl rfl rfl) (by exact B5.out.size) (by have:=HDL.out;unfold maxLen;simp;omega) (by have:=HDL.out;simp;omega) ?_
     intro v6 w6 o6 b6 _ _
     have O6:=qh o6
     have B6:=qh b6
     clear o6 b6
     refine hK.out _ _ (HSL.out _ B6.out) (fun hHeld=>?_)
     clear hK K
     try simp only [Act.put,ZA,ZB,ZC,ZD,ZE,ZF]
     refine hA 9 fun K hK=>?_
     go_simp
     refine (HQ2.out _).mono ?_
     rintro e w7 ⟨v7,rfl,o7,b7⟩
     have O7:=qh (Own.below (by exact Own.same O6.out rfl) b7 (by exact Nat.le_refl _))
     have B7:Hid (Below ua.heap.size ua w7):=qh (Below.trans (by exact below_same B6.out rfl rfl rfl rfl) (b7.mono (by exact B6.out.size)))
     obtain ⟨A7,c7,rfl,l7,-,-⟩:=o7.form
     have L7:=qh l7
     clear o7 b7 l7
     simp only [ints,List.length_map]
     go_wp2_with fail
     refine hK.out _ _ (HSL.out _ (by exact below_same B7.out rfl rfl rfl rfl)) (fun hHeld=>?_)
     clear hK K
     try simp only [Act.put,ZA,ZB,ZC,ZD,ZE,ZF]
     refine hA 10 fun K hK=>?_
     refine step_app intsT ua _ ua.heap.size _ (.tmp 75) (.tmp 82) v6 (ints .i64 (91 :: D)++ints .i64 (quoC q1)++ints .i64 [45]) (ints .i64 (quoC q2)) A7 _ c7 rfl rfl rfl rfl (by simp) (Own.same O7.out rfl) (Lies.sameHeap L7.out rfl) (ints_one _ _) (below_same B7.out rfl rfl rfl rfl) (by exact B7.out.size) (by have:=HDL.out;unfold maxLen;simp;omega) (by have:=HDL.out;simp;omega) ?_
     intro v8 w8 o8 b8 _ _
     have O8:=qh o8
     have B8:=qh b8
     clear o8 b8
     refine hK.out _ _ (HSL.out _ B8.out) (fun hHeld=>?_)
     clear hK K
     try simp only [Act.put,ZA,ZB,ZC,ZD,ZE,ZF]
     refine' hY 11 ?_
     try simp only [Act.put,ZA,ZB,ZC,ZD,ZE,ZF]
     refine wpAnyH_done (by kernel_rfl) ?_ _
     go_wp2_with fail
     go_roundw
     case rel=>exact ⟨k+1,by omega,by go_num,qh (by rw [HI.out];exact Own.same (by simpa [ints] using O8.out) rfl),qh (by exact below_same B8.out rfl rfl rfl rfl)⟩
     case measure=>simp [intOf];omega
   ·obtain rfl:k=R.length:=by omega
    rw [List.take_length] at HO
    have hdl:=HTL.out R.length
    rw [List.take_length] at hdl
    go_wp2_with (first
     | (at_builtin;refine app_lit intsT ua wr ua.heap.size _ _ #[.int .i64 93] 1 _ _ rfl rfl rfl rfl HO.out (by simp [Value.oneCell']) HB.out HB.out.size (by unfold maxLen;simp;omega) (by simp;omega) ?_;intro v2 w2 o2 b2 _ _;have O2:=qh o2;have B2:=qh b2;clear o2 b2)
     | fail)
    go_ret
    exact rowed_ret (O2.out.weaken (by have:=HZ.out;omega)) (below_then BA.out B2.out) (by simp [ints])
 ·obtain ⟨g0,off0,p1,p2,rfl,hR1,hpq,c0,c1⟩:=hyes rfl
  have k0:(0:Int) < (R.length:Int):=by omega
  have HR1:=qh hR1
  clear hyes hR1
  go_enter Tryz.func19,Tryz.ntmps19
  go_wp2_with fail
  rw [HUA.out]
  go_quiet (fail)
  have BQ:Hid (Below ua.heap.size ua (ua.drewN nq)):=qh (below_drawn (Below.refl _ _) nq)
  obtain ⟨wq,hwq⟩:∃ x,ua.drewN nq=x:=⟨_,rfl⟩
  rw [hwq] at BQ ⊢
  have HO0:Hid (Own (wq.alloc (.cells #[.int .i64 91] 3)) ua.heap.size 3 (.slice (some ⟨wq.heap.size,0,none⟩) 1 1) (ints .i64 (91 :: itemsI (R.take 0)))):=qh (Own.ofLit (w:=wq) #[.int .i64 91] BQ.out.size (by simp [maxLen]))
  have HB0:=qh (BQ.out.alloc BQ.out.size (.cells #[.int .i64 91] 3))
  clear hwq
  go_wp2_with fail
  go_loopw [4,3] (fun iv ov wr=>∃ k:Nat,k≤R.length∧iv=.int .i64 k∧Hid (Own wr ua.heap.size 3 ov (ints .i64 (91 :: itemsI (R.take k))))∧Hid (Below ua.heap.size ua wr)) (fun iv _ _=>R.length - (intOf iv).toNat)
  case atStart=>exact ⟨0,by omega,rfl,HO0,HB0⟩
  case round =>
   obtain ⟨k,hk,rfl,HO,HB⟩:=hrel
   have e1:wr.cell? ⟨u.heap.size,1,none⟩=some (.slice (some ⟨g0,off0,none⟩) R.length c):=(X0.out.below HB.out HZ.out).cell rfl
   by_cases hlt:k < R.length
   ·have HN:=qh (HNX.out k hlt)
    have hdl:=HTL.out k
    obtain ⟨g,off,hA,hg,c0,c1⟩:=prC_at (HL.out.up HB.out) hlt
    have HCL:Hid (∀ z,Below ua.heap.size ua z→z.cell? ⟨g,off+k * 2,none⟩=some (.int .i64 R[k].1)∧z.cell? ⟨g,off+k * 2+1,none⟩=some (.int .i64 R[k].2)):=qh fun z hz=>by
     obtain ⟨g',off',hA',-,c0',c1'⟩:=prC_at (HL.out.up hz) hlt
     rw [hA] at hA'
     injection hA' with hA'
     injection hA' with e1 e2
     subst e1 e2
     exact ⟨c0',c1'⟩
    injection hA with hA
    injection hA with ea eb
    subst ea eb
    obtain ⟨p,hp⟩:∃ x,R[k]=x:=⟨_,rfl⟩
    rw [hp] at c0 c1 HN HCL
    obtain ⟨q1,q2⟩:=p
    simp only at c0 c1 HN HCL
    obtain ⟨D,hD⟩:∃ D,itemsI (R.take k)=D:=⟨_,rfl⟩
    rw [hD] at HO HN hdl
    have k0:(0:Int)≤(k:Int):=by omega
    have k1:(k:Int) < (R.length:Int):=by omega
    have hq1:=quoC_len q1
    have hq2:=quoC_len q2
    have HDL:=qh (And.intro hdl (And.intro hq1 hq2))
    have HQ1:=qh (fun z=>rquoteC_any z q1)
    have HQ2:=qh (fun z=>rquoteC_any z q2)
    have HSL:Hid (∀ z,Below ua.heap.size ua z→z.cell? ⟨u.heap.size,1,none⟩=some (.slice (some ⟨g0,off0,none⟩) R.length c)∧z.cell? ⟨g0,off0+k * 2+1,none⟩=some (.int .i64 q2)):=qh fun z hz=>⟨(X0.out.below hz HZ.out).cell rfl,(HCL.out z hz).2⟩
    have HSM:Hid (∀ z,Below ua.heap.size ua z→z.cell? ⟨u.heap.size,1,none⟩=some (.slice (some ⟨g0,off0,none⟩) R.length c)∧z.cell? ⟨g0,off0+k * 2+1,none⟩=some (.int .i64 q2)∧z.cell? ⟨g0,off0+k * 2,none⟩=some (.int .i64 q1)):=qh fun z hz=>⟨(X0.out.below hz HZ.out).cell rfl,(HCL.out z hz).2,(HCL.out z hz).1⟩
    clear hp hD hdl hq1 hq2
    go_wp2_with fail
    refine (HQ1.out _).mono ?_
    rintro e w2 ⟨v2,rfl,o2,b2⟩
    have O2:=qh (HO.out.below b2 (Nat.le_refl _))
    have B2:=qh (HB.out.trans (b2.mono HB.out.size))
    obtain ⟨A2,c2,rfl,l2,-,-⟩:=o2.form
    have L2:=qh l2
    clear o2 b2 l2 e1 c0 c1
    simp only [ints,List.length_map]
    obtain ⟨bq,hbq⟩:∃ b,(q2 != q1)=b:=⟨_,rfl⟩
    go_wp2_with (first
     | (at_builtin;refine app_src intsT ua w2 ua.heap.size w2.heap.size _ _ _ (ints .i64 (91 :: D)) (ints .i64 (quoC q1)) A2 _ c2 rfl rfl rfl rfl (by simp) O2.out L2.out (ints_one _ _) B2.out B2.out.size (by have:=HDL.out;unfold maxLen;simp;omega) (by have:=HDL.out;simp;omega) ?_;intro v3 w3 o3 b3 g3 e3
        have O3:=qh o3
        have B3:=qh b3
        obtain ⟨n1,n2,n3⟩:=HSM.out w3 b3
        clear o3 b3 g3 e3)
     | fail)
    rcases bq with _ | _
    ·have hq:q2=q1:=by simpa using hbq
     subst hq
     have HI:Hid (itemsI (R.take (k+1))=D++quoC q2):=qh (by rw [HN.out];simp)
     have O4:Hid (Own w3 ua.heap.size 3 v3 (ints .i64 (91 :: (D++quoC q2)))):=qh (by simpa [ints] using O3.out)
     go_quiet (fail)
     go_wp2_with fail
     go_roundw
     case rel=>exact ⟨k+1,by omega,by go_num,qh (by rw [HI.out];exact O4.out.same rfl),qh (below_drawn B3.out _)⟩
     case measure=>simp [intOf];omega
    ·have HI:Hid (itemsI (R.take (k+1))=D++quoC q1++(45 :: quoC q2)):=qh (by rw [HN.out,if_pos (by simpa using hbq)];simp)
     go_quiet (fail)
     have B4:Hid (Below ua.heap.size ua (w3.drewN nq)):=qh (below_drawn B3.out nq)
     have O4:Hid (Own (w3.drewN nq) ua.heap.size 3 v3 (ints .i64 (91 :: D)++ints .i64 (quoC q1))):=qh (O3.out.same rfl)
     obtain ⟨w4,hw4⟩:∃ x,w3.drewN nq=x:=⟨_,rfl⟩
     rw [hw4] at B4 O4 ⊢
     have O5:=qh (O4.out.alloc (.cells #[.int .i64 45] 3))
     have B5:=qh (B4.out.alloc B4.out.size (.cells #[.int .i64 45] 3))
     have L5:Hid (Lies (w4.alloc (.cells #[.int .i64 45] 3)) (w4.alloc (.cells #[.int .i64 45] 3)).heap.size (some ⟨w4.heap.size,0,none⟩) (ints .i64 [45])):=qh (Lies.litUp (w:=w4) (e:=3) #[.int .i64 45])
     clear hw4 hbq n1 n2 n3 e1
     go_wp2_with fail
     refine wp_region_held_drew (S:=fun z=>z.cell? ⟨u.heap.size,1,none⟩=some (.slice (some ⟨g0,off0,none⟩) R.length c)∧z.cell? ⟨g0,off0+k * 2+1,none⟩=some (.int .i64 q2)) (by kernel_rfl) (HSL.out _ (by exact below_same B4.out rfl rfl rfl rfl)) (fun hHeld=>?_)
     refine' hY 0 ?_
     try simp only [Act.put,ZA,ZB,ZD,ZE,ZF]
     refine' hY 3 ?_
     try simp only [Act.put,ZA,ZB,ZC,ZD,ZE,ZF]
     refine' hY 4 ?_
     try simp only [Act.put,ZA,ZB,ZC,ZD,ZE,ZF]
     refine' hY 5 ?_
     try simp only [Act.put,ZA,ZB,ZC,ZD,ZE,ZF]
     refine' hY 6 ?_
     try simp only [Act.put,ZA,ZB,ZC,ZD,ZE,ZF]
     refine' hY 7 ?_
     try simp only [Act.put,ZA,ZB,ZC,ZD,ZE,ZF]
     refine' hY 8 ?_
     try simp only [Act.put,ZA,ZB,ZC,ZD,ZE,ZF]
     refine hA 1 fun K hK=>?_
     go_simp
     go_wp2_with fail
     refine hK.out _ _ (HSL.out _ (by exact below_same B5.out rfl rfl rfl rfl)) (fun hHeld=>?_)
     clear hK K
     try simp only [Act.put,ZA,ZB,ZC,ZD,ZE,ZF]
     refine hA 2 fun K hK=>?_
     refine step_app intsT ua _ ua.heap.size _ (.tmp 73) (.tmp 74) v3 (ints .i64 (91 :: D)++ints .i64 (quoC q1)) (ints .i64 [45]) (some ⟨w4.heap.size,0,none⟩) 1 1 rfl rfl rfl rfl rfl (Own.same O5.out rfl) (Lies.sameHeap L5.out rfl) (ints_one _ _) (below_same B5.out rfl rfl rfl rfl) (by exact B5.out.size) (by have:=HDL.out;unfold maxLen;simp;omega) (by have:=HDL.out;simp;omega) ?_
     intro v6 w6 o6 b6 _ _
     have O6:=qh o6
     have B6:=qh b6
     clear o6 b6
     refine hK.out _ _ (HSL.out _ B6.out) (fun hHeld=>?_)
     clear hK K
     try simp only [Act.put,ZA,ZB,ZC,ZD,ZE,ZF]
     refine hA 9 fun K hK=>?_
     go_simp
     refine (HQ2.out _).mono ?_
     rintro e w7 ⟨v7,rfl,o7,b7⟩
     have O7:=qh (Own.below (by exact Own.same O6.out rfl) b7 (by exact Nat.le_refl _))
     have B7:Hid (Below ua.heap.size ua w7):=qh (Below.trans (by exact below_same B6.out rfl rfl rfl rfl) (b7.mono (by exact B6.out.size)))
     obtain ⟨A7,c7,rfl,l7,-,-⟩:=o7.form
     have L7:=qh l7
     clear o7 b7 l7
     simp only [ints,List.length_map]
     go_wp2_with fail
     refine hK.out _ _ (HSL.out _ (by exact below_same B7.out rfl rfl rfl rfl)) (fun hHeld=>?_)
     clear hK K
     try simp only [Act.put,ZA,ZB,ZC,ZD,ZE,ZF]
     refine hA 10 fun K hK=>?_
     refine step_app intsT ua _ ua.heap.size _ (.tmp 75) (.tmp 82) v6 (ints .i64 (91 :: D)++ints .i64 (quoC q1)++ints .i64 [45]) (ints .i64 (quoC q2)) A7 _ c7 rfl rfl rfl rfl (by simp) (Own.same O7.out rfl) (Lies.sameHeap L7.out rfl) (ints_one _ _) (below_same B7.out rfl rfl rfl rfl) (by exact B7.out.size) (by have:=HDL.out;unfold maxLen;simp;omega) (by have:=HDL.out;simp;omega) ?_
     intro v8 w8 o8 b8 _ _
     have O8:=qh o8
     have B8:=qh b8
     clear o8 b8
     refine hK.out _ _ (HSL.out _ B8.out) (fun hHeld=>?_)
     clear hK K
     try simp only [Act.put,ZA,ZB,ZC,ZD,ZE,ZF]
     refine' hY 11 ?_
     try simp only [Act.put,ZA,ZB,ZC,ZD,ZE,ZF]
     refine wpAnyH_done (by kernel_rfl) ?_ _
     go_wp2_with fail
     go_roundw
     case rel=>exact ⟨k+1,by omega,by go_num,qh (by rw [HI.out];exact Own.same (by simpa [ints] using O8.out) rfl),qh (by exact below_same B8.out rfl rfl rfl rfl)⟩
     case measure=>simp [intOf];omega
   ·obtain rfl:k=R.length:=by omega
    rw [List.take_length] at HO
    have hdl:=HTL.out R.length
    rw [List.take_length] at hdl
    go_wp2_with (first
     | (at_builtin;refine app_lit intsT ua wr ua.heap.size _ _ #[.int .i64 93] 1 _ _ rfl rfl rfl rfl HO.out (by simp [Value.oneCell']) HB.out HB.out.size (by unfold maxLen;simp;omega) (by simp;omega) ?_;intro v2 w2 o2 b2 _ _;have O2:=qh o2;have B2:=qh b2;clear o2 b2)
     | fail)
    go_ret
    exact rowed_ret (O2.out.weaken (by have:=HZ.out;omega)) (below_then BA.out B2.out) (by simp [ints])
theorem rtext_set (u:World) (lo hi:Int) (A A':Option Addr) (R:List (Int×Int)) (c m c':Nat) (h:Lies u u.heap.size A (prC R)) (hl:R.length≤1000) :
 Calls Tryz.prog 19 #[.agg #[.int .i64 2,.slice A R.length c,.int .i64 lo,.int .i64 hi,.slice A' m c']] u (Rowed u u.heap.size 3 (ints .i64 (setI R))):=by
 by_cases h1:∃ r,R=[r]∧r.1=r.2
 ·obtain ⟨⟨x,y⟩,rfl,he⟩:=h1
  have he:x=y:=he
  have hs:setI [(x,y)]=quoC x:=by unfold setI;simp [he]
  rw [hs]
  exact rtext_char u lo hi A A' x y c m c' h he
 ·exact rtext_set_many u lo hi A A' R c m c' h hl fun r hr he=>h1 ⟨r,hr,he⟩
end
section
open Go.RowKit
structure KidsD (w:World) (P:Nat→Prop) (A:Option Addr) (ks:List Nd) (vs:List (Array Value)):Prop where
 len:vs.length=ks.length
 lies:LiesP w P A (vs.flatMap Array.toList)
 kid:∀ (i:Nat) (h1:i < vs.length) (h2:i < ks.length),Treed w P ks[i] vs[i]∧WroteD w P ks[i] vs[i]
 room:ks.length≤9223372036854775807
theorem box_ahead (u:World) (V:Array Value) :
 ∃ ua,u.alloc (.cells V 25)=ua∧Box ua u.heap.size V 25∧Below u.heap.size u ua∧u.heap.size < ua.heap.size∧u.grownBy ua none :=
 ⟨_,rfl,Box.new u _ _,below_alloc u _,(Box.new u _ _).lt,grown_new u _ none⟩
theorem rtext_join {w:World} {P:Nat→Prop} {A':Option Addr} {ks:List Nd} {vs:List (Array Value)} (h:KidsD w P A' ks vs) (u:World) (hu:Agree w P u) (lo hi:Int) (A:Option Addr) (n c c':Nat) (hb:(sevI [] [3,4] ks).length≤10000) :
 Calls Tryz.prog 19 #[.agg #[.int .i64 3,.slice A n c,.int .i64 lo,.int .i64 hi,.slice A' ks.length c']] u (Rowed u u.heap.size 3 (ints .i64 (sevI [] [3,4] ks))):=by
 obtain ⟨ua,hua,x0,b0,hz,g0⟩:=box_ahead u #[.int .i64 3,.slice A n c,.int .i64 lo,.int .i64 hi,.slice A' ks.length c']
 have HUA:=qh hua
 have X0:=qh x0
 have BA:=qh b0
 have HZ:=qh hz
 have HK:=qh h
 have H5:Hid (∀ v∈vs,v.size=5):=qh fun v hv=>by
  obtain ⟨i,hi,rfl⟩:=List.getElem_of_mem hv
  exact (h.kid i hi (by have:=h.len;omega)).1.size
 have HU:=qh (hu.grown g0)
 have HLE:=qh (fun i=>Nat.le_trans (sevI_le (sep:=[]) (l:=[3,4]) ks i) hb)
 have HNX:=qh (fun i (hi:i < ks.length)=>sevI_next (sep:=[]) (l:=[3,4]) hi)
 have HPL:=qh (fun i (hi:i < ks.length)=>(show (textN ks[i]).length≤10000 by
  have h1:=Nat.le_trans (sevI_le (sep:=[]) (l:=[3,4]) ks (i+1)) hb
  rw [sevI_next hi,List.length_append,List.length_append,pieceI] at h1
  have h2:(textN ks[i]).length≤(inBr (([3,4]:List Int).contains (kindN ks[i])) (textN ks[i])).length:=by unfold inBr;split <;> simp <;> omega
  omega))
 have hkl:=h.room
 clear h hu hb hua x0 b0 hz g0
 go_enter Tryz.func19,Tryz.ntmps19
 go_wp2_with fail
 rw [HUA.out]
 go_loopw [5,3] (fun iv ov wr=>∃ i:Nat,i≤ks.length∧iv=.int .i64 i∧Hid (Own wr ua.heap.size 3 ov (ints .i64 (sevI [] [3,4] (ks.take i))))∧Hid (Below ua.heap.size ua wr)) (fun iv _ _=>ks.length - (intOf iv).toNat)
 case atStart=>exact ⟨0,by omega,rfl,qh (Own.empty _ _ _),qh (Below.refl _ _)⟩
 case round =>
  obtain ⟨i,hi',rfl,HO,HB⟩:=hrel
  have e4:wr.cell? ⟨u.heap.size,4,none⟩=some (.slice A' ks.length c'):=(X0.out.below HB.out HZ.out).cell rfl
  by_cases hlt:i < ks.length
  ·have hlv:i < vs.length:=by have:=HK.out.len;omega
   have HAG:Hid (Agree w P wr):=qh (HU.out.below HB.out)
   obtain ⟨g,off,hA,hg,hcell⟩:=kid_at HK.out.lies H5.out HAG.out.1 hlv
   obtain ⟨ht,hw⟩:=HK.out.kid i hlv hlt
   obtain ⟨Ar,nr,cr,lo1,hi1,Ak,nk,ck,hv⟩:=ht.kind
   have HCL:Hid (∀ z,Below ua.heap.size ua z→∀ j,j < 5→z.cell? ⟨g,off+i * 5+j,none⟩=vs[i][j]?):=qh fun z hz j hj=>by
    obtain ⟨g',off',hA',-,hc⟩:=kid_at HK.out.lies H5.out (HU.out.below hz).1 hlv
    rw [hA] at hA'
    injection hA' with hA'
    injection hA' with e1 e2
    subst e1 e2
    exact hc j hj
   subst hA
   have HWI:=qh (fun x (b:Below ua.heap.size ua x) (K:Option Addr) (kc:Nat) (hK:Lies x x.heap.size K (ints .i64 [3,4]))=>rwithin_any ht hw x (HU.out.below b) K [3,4] kc hK (by decide) (HPL.out i hlt))
   have HN:=qh (HNX.out i hlt)
   have HL1:=qh (HLE.out (i+1))
   rw [hv] at HWI HCL
   rw [show inBr (([3,4]:List Int).contains (kindN ks[i])) (textN ks[i])=pieceI [3,4] ks[i] from rfl] at HWI
   obtain ⟨k1,hk1⟩:∃ x,kindN ks[i]=x:=⟨_,rfl⟩
   obtain ⟨pc,hpc⟩:∃ x,pieceI [3,4] ks[i]=x:=⟨_,rfl⟩
   obtain ⟨D,hD⟩:∃ D,sevI [] [3,4] (ks.take i)=D:=⟨_,rfl⟩
   rw [hk1] at HCL HWI
   rw [hpc] at HWI HN
   rw [hD] at HO HN
   rw [HN.out] at HL1
   have b0:(0:Int)≤(i:Int):=by omega
   have b1:(i:Int) < (ks.length:Int):=by omega
   clear hcell hv ht hw hk1 hpc hD hg
   have HN2:Hid (sevI [] [3,4] (ks.take (i+1))=D++pc):=qh (by rw [HN.out];split <;> simp)
   have HL2:Hid (D.length+pc.length≤10000):=qh (by have:=HL1.out;simp only [List.length_append] at this;omega)
   have r0:wr.cell? ⟨g,off+i * 5,none⟩=some (.int .i64 k1):=HCL.out _ HB.out 0 (by decide)
   have r1:wr.cell? ⟨g,off+i * 5+1,none⟩=some (.slice Ar nr cr):=HCL.out _ HB.out 1 (by decide)
   have r2:wr.cell? ⟨g,off+i * 5+2,none⟩=some (.int .i64 lo1):=HCL.out _ HB.out 2 (by decide)
   have r3:wr.cell? ⟨g,off+i * 5+3,none⟩=some (.int .i64 hi1):=HCL.out _ HB.out 3 (by decide)
   have r4:wr.cell? ⟨g,off+i * 5+4,none⟩=some (.slice Ak nk ck):=HCL.out _ HB.out 4 (by decide)
   have LK:Hid (Lies (wr.alloc (.cells #[.int .i64 3,.int .i64 4] 3)) (wr.alloc (.cells #[.int .i64 3,.int .i64 4] 3)).heap.size (some ⟨wr.heap.size,0,none⟩) (ints .i64 [3,4])):=qh (Lies.litUp (w:=wr) (e:=3) #[.int .i64 3,.int .i64 4])
   have O0:=qh (HO.out.alloc (.cells #[.int .i64 3,.int .i64 4] 3))
   have B0:=qh (HB.out.alloc HB.out.size (.cells #[.int .i64 3,.int .i64 4] 3))
   go_wp2_with fail
   refine (HWI.out _ B0.out _ 2 LK.out).mono ?_
   rintro e w2 ⟨v2,rfl,o2,b2⟩
   have O2:=qh (O0.out.below b2 (Nat.le_refl _))
   have B2:=qh (B0.out.trans (b2.mono B0.out.size))
   obtain ⟨A2,c2,rfl,l2,-,-⟩:=o2.form
   have L2:=qh l2
   clear o2 b2 l2 r0 r1 r2 r3 r4 e4
   simp only [ints,List.length_map]
   go_wp2_with (first
    | (at_builtin;refine app_src intsT ua w2 ua.heap.size w2.heap.size _ _ _ (ints .i64 D) (ints .i64 pc) A2 _ c2 rfl rfl rfl rfl (by simp) O2.out L2.out (ints_one _ _) B2.out B2.out.size (by have:=HL2.out;unfold maxLen;simp;omega) (by have:=HL2.out;simp;omega) ?_;intro v3 w3 o3 b3 _ _;have O3:=qh o3;have B3:=qh b3;clear o3 b3)
    | fail)
   go_roundw
   case rel=>exact ⟨i+1,by omega,by go_num,qh (by rw [HN2.out];simpa [ints] using O3.out),B3⟩
   case measure=>simp [intOf];omega
  ·obtain rfl:i=ks.length:=by omega
   rw [List.take_length] at HO
   go_wp2_with fail
   go_ret
   exact rowed_ret (HO.out.weaken (by have:=HZ.out;omega)) (below_then BA.out HB.out) rfl
theorem rtext_or {w:World} {P:Nat→Prop} {A':Option Addr} {ks:List Nd} {vs:List (Array Value)} (h:KidsD w P A' ks vs) (u:World) (hu:Agree w P u) (lo hi:Int) (A:Option Addr) (n c c':Nat) (hb:(sevI [124] [4] ks).length≤10000) :
 Calls Tryz.prog 19 #[.agg #[.int .i64 4,.slice A n c,.int .i64 lo,.int .i64 hi,.slice A' ks.length c']] u (Rowed u u.heap.size 3 (ints .i64 (sevI [124] [4] ks))):=by
 obtain ⟨ua,hua,x0,b0,hz,g0⟩:=box_ahead u #[.int .i64 4,.slice A n c,.int .i64 lo,.int .i64 hi,.slice A' ks.length c']
 have HUA:=qh hua
 have X0:=qh x0
 have BA:=qh b0
 have HZ:=qh hz
 have HK:=qh h
 have H5:Hid (∀ v∈vs,v.size=5):=qh fun v hv=>by
  obtain ⟨i,hi,rfl⟩:=List.getElem_of_mem hv
  exact (h.kid i hi (by have:=h.len;omega)).1.size
 have HU:=qh (hu.grown g0)
 have HLE:=qh (fun i=>Nat.le_trans (sevI_le (sep:=[124]) (l:=[4]) ks i) hb)
 have HNX:=qh (fun i (hi:i < ks.length)=>sevI_next (sep:=[124]) (l:=[4]) hi)
 have HPL:=qh (fun i (hi:i < ks.length)=>(show (textN ks[i]).length≤10000 by
  have h1:=Nat.le_trans (sevI_le (sep:=[124]) (l:=[4]) ks (i+1)) hb
  rw [sevI_next hi,List.length_append,List.length_append,pieceI] at h1
  have h2:(textN ks[i]).length≤(inBr (([4]:List Int).contains (kindN ks[i])) (textN ks[i])).length:=by unfold inBr;split <;> simp <;> omega
  omega))
 have hkl:=h.room
 clear h hu hb hua x0 b0 hz g0
 go_enter Tryz.func19,Tryz.ntmps19
 go_wp2_with fail
 rw [HUA.out]
 go_loopw [6,3] (fun iv ov wr=>∃ i:Nat,i≤ks.length∧iv=.int .i64 i∧Hid (Own wr ua.heap.size 3 ov (ints .i64 (sevI [124] [4] (ks.take i))))∧Hid (Below ua.heap.size ua wr)) (fun iv _ _=>ks.length - (intOf iv).toNat)
 case atStart=>exact ⟨0,by omega,rfl,qh (Own.empty _ _ _),qh (Below.refl _ _)⟩
 case round =>
  obtain ⟨i,hi',rfl,HO,HB⟩:=hrel
  have e4:wr.cell? ⟨u.heap.size,4,none⟩=some (.slice A' ks.length c'):=(X0.out.below HB.out HZ.out).cell rfl
  by_cases hlt:i < ks.length
  ·have hlv:i < vs.length:=by have:=HK.out.len;omega
   have HAG:Hid (Agree w P wr):=qh (HU.out.below HB.out)
   obtain ⟨g,off,hA,hg,hcell⟩:=kid_at HK.out.lies H5.out HAG.out.1 hlv
   obtain ⟨ht,hw⟩:=HK.out.kid i hlv hlt
   obtain ⟨Ar,nr,cr,lo1,hi1,Ak,nk,ck,hv⟩:=ht.kind
   have HCL:Hid (∀ z,Below ua.heap.size ua z→∀ j,j < 5→z.cell? ⟨g,off+i * 5+j,none⟩=vs[i][j]?):=qh fun z hz j hj=>by
    obtain ⟨g',off',hA',-,hc⟩:=kid_at HK.out.lies H5.out (HU.out.below hz).1 hlv
    rw [hA] at hA'
    injection hA' with hA'
    injection hA' with e1 e2
    subst e1 e2
    exact hc j hj
   subst hA
   have HWI:=qh (fun x (b:Below ua.heap.size ua x) (K:Option Addr) (kc:Nat) (hK:Lies x x.heap.size K (ints .i64 [4]))=>rwithin_any ht hw x (HU.out.below b) K [4] kc hK (by decide) (HPL.out i hlt))
   have HN:=qh (HNX.out i hlt)
   have HL1:=qh (HLE.out (i+1))
   rw [hv] at HWI HCL
   rw [show inBr (([4]:List Int).contains (kindN ks[i])) (textN ks[i])=pieceI [4] ks[i] from rfl] at HWI
   obtain ⟨k1,hk1⟩:∃ x,kindN ks[i]=x:=⟨_,rfl⟩
   obtain ⟨pc,hpc⟩:∃ x,pieceI [4] ks[i]=x:=⟨_,rfl⟩
   obtain ⟨D,hD⟩:∃ D,sevI [124] [4] (ks.take i)=D:=⟨_,rfl⟩
   rw [hk1] at HCL HWI
   rw [hpc] at HWI HN
   rw [hD] at HO HN
   rw [HN.out] at HL1
   have b0:(0:Int)≤(i:Int):=by omega
   have b1:(i:Int) < (ks.length:Int):=by omega
   clear hcell hv ht hw hk1 hpc hD hg
   rcases Nat.eq_zero_or_pos i with hi0 | hi0
   ·have d0:decide (0 < i)=false:=by simp [hi0]
    have HN2:Hid (sevI [124] [4] (ks.take (i+1))=D++pc):=qh (by rw [HN.out,if_neg (by omega)];simp)
    have HL2:Hid (D.length+pc.length≤10000):=qh (by have:=HL1.out;simp only [List.length_append] at this;omega)
    clear hi0
    have r0:wr.cell? ⟨g,off+i * 5,none⟩=some (.int .i64 k1):=HCL.out _ HB.out 0 (by decide)
    have r1:wr.cell? ⟨g,off+i * 5+1,none⟩=some (.slice Ar nr cr):=HCL.out _ HB.out 1 (by decide)
    have r2:wr.cell? ⟨g,off+i * 5+2,none⟩=some (.int .i64 lo1):=HCL.out _ HB.out 2 (by decide)
    have r3:wr.cell? ⟨g,off+i * 5+3,none⟩=some (.int .i64 hi1):=HCL.out _ HB.out 3 (by decide)
    have r4:wr.cell? ⟨g,off+i * 5+4,none⟩=some (.slice Ak nk ck):=HCL.out _ HB.out 4 (by decide)
    have LK:Hid (Lies (wr.alloc (.cells #[.int .i64 4] 3)) (wr.alloc (.cells #[.int .i64 4] 3)).heap.size (some ⟨wr.heap.size,0,none⟩) (ints .i64 [4])):=qh (Lies.litUp (w:=wr) (e:=3) #[.int .i64 4])
    have O0:=qh (HO.out.alloc (.cells #[.int .i64 4] 3))
    have B0:=qh (HB.out.alloc HB.out.size (.cells #[.int .i64 4] 3))
    go_wp2_with fail
    refine (HWI.out _ B0.out _ 1 LK.out).mono ?_
    rintro e w2 ⟨v2,rfl,o2,b2⟩
    have O2:=qh (O0.out.below b2 (Nat.le_refl _))
    have B2:=qh (B0.out.trans (b2.mono B0.out.size))
    obtain ⟨A2,c2,rfl,l2,-,-⟩:=o2.form
    have L2:=qh l2
    clear o2 b2 l2 r0 r1 r2 r3 r4 e4
    simp only [ints,List.length_map]
    go_wp2_with (first
     | (at_builtin;refine app_src intsT ua w2 ua.heap.size w2.heap.size _ _ _ (ints .i64 D) (ints .i64 pc) A2 _ c2 rfl rfl rfl rfl (by simp) O2.out L2.out (ints_one _ _) B2.out B2.out.size (by have:=HL2.out;unfold maxLen;simp;omega) (by have:=HL2.out;simp;omega) ?_;intro v3 w3 o3 b3 _ _;have O3:=qh o3;have B3:=qh b3;clear o3 b3)
     | fail)
    go_roundw
    case rel=>exact ⟨i+1,by omega,by go_num,qh (by rw [HN2.out];simpa [ints] using O3.out),B3⟩
    case measure=>simp [intOf];omega
   ·have d0:decide (0 < i)=true:=by simp [hi0]
    have HN2:Hid (sevI [124] [4] (ks.take (i+1))=D++[124]++pc):=qh (by rw [HN.out,if_pos hi0];simp)
    have HL2:Hid (D.length+pc.length≤9999):=qh (by have:=HL1.out;simp only [List.length_append,if_pos hi0,List.length_cons,List.length_nil] at this;omega)
    clear hi0
    go_wp2_with (first
     | (at_builtin;refine app_lit intsT ua wr ua.heap.size _ _ #[.int .i64 124] 1 _ _ rfl rfl rfl rfl HO.out (by simp [Value.oneCell']) HB.out HB.out.size (by have:=HL2.out;unfold maxLen;simp;omega) (by have:=HL2.out;simp;omega) ?_
        intro vp wp op bp _ _
        have OP:=qh op
        have BP:=qh bp
        have e4p:wp.cell? ⟨u.heap.size,4,none⟩=some (.slice (some ⟨g,off,none⟩) ks.length c'):=(X0.out.below bp HZ.out).cell rfl
        have r0:wp.cell? ⟨g,off+i * 5,none⟩=some (.int .i64 k1):=HCL.out _ bp 0 (by decide)
        have r1:wp.cell? ⟨g,off+i * 5+1,none⟩=some (.slice Ar nr cr):=HCL.out _ bp 1 (by decide)
        have r2:wp.cell? ⟨g,off+i * 5+2,none⟩=some (.int .i64 lo1):=HCL.out _ bp 2 (by decide)
        have r3:wp.cell? ⟨g,off+i * 5+3,none⟩=some (.int .i64 hi1):=HCL.out _ bp 3 (by decide)
        have r4:wp.cell? ⟨g,off+i * 5+4,none⟩=some (.slice Ak nk ck):=HCL.out _ bp 4 (by decide)
        clear op bp e4)
     | fail)
    have LK:Hid (Lies (wp.alloc (.cells #[.int .i64 4] 3)) (wp.alloc (.cells #[.int .i64 4] 3)).heap.size (some ⟨wp.heap.size,0,none⟩) (ints .i64 [4])):=qh (Lies.litUp (w:=wp) (e:=3) #[.int .i64 4])
    have O0:=qh (OP.out.alloc (.cells #[.int .i64 4] 3))
    have B0:=qh (BP.out.alloc BP.out.size (.cells #[.int .i64 4] 3))
    go_wp2_with fail
    refine (HWI.out _ B0.out _ 1 LK.out).mono ?_
    rintro e w2 ⟨v2,rfl,o2,b2⟩
    have O2:=qh (O0.out.below b2 (Nat.le_refl _))
    have B2:=qh (B0.out.trans (b2.mono B0.out.size))
    obtain ⟨A2,c2,rfl,l2,-,-⟩:=o2.form
    have L2:=qh l2
    clear o2 b2 l2 r0 r1 r2 r3 r4 e4p
    simp only [ints,List.length_map]
    go_wp2_with (at_builtin;trace_state;refine app_src intsT ua w2 ua.heap.size w2.heap.size _ _ _ (_) (ints .i64 pc) A2 _ c2 rfl rfl rfl rfl (by simp) O2.out L2.out (ints_one _ _) B2.out B2.out.size (by have:=HL2.out;unfold maxLen;simp;omega) (by have:=HL2.out;simp;omega) ?_;intro v3 w3 o3 b3 _ _;have O3:=qh o3;have B3:=qh b3;clear o3 b3)
    go_roundw
    case rel=>exact ⟨i+1,by omega,by go_num,qh (by rw [HN2.out];simpa [ints] using O3.out),B3⟩
    case measure=>simp [intOf];omega
  ·obtain rfl:i=ks.length:=by omega
   rw [List.take_length] at HO
   go_wp2_with fail
   go_ret
   exact rowed_ret (HO.out.weaken (by have:=HZ.out;omega)) (below_then BA.out HB.out) rfl
end
end Go.Proofs.YtoeocodfndbebaaGreatDoor
