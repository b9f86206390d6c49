/- P17.1, ShowAnswers: Pattern, Neat and Right answer as the document does. Any tree, any pattern, any flags. -/
import Derived.Test.YtoeocodfndbebaaGreatDoorZC12
import Derived.Test.YtoeocodfndbebaaGreatDoorZC41
import Derived.Test.YtoeocodfndbebaaGreatDoorZC42
set_option maxRecDepth 20000
set_option maxHeartbeats 16000000
namespace Go.Proofs.YtoeocodfndbebaaGreatDoor.lawAnswers
open Go.ChangeShapes Go.WideShapes Go.ChangeAt Go.RowKit
theorem patI_len (n:Nd):(patI n).1.length≤200:=by
 unfold patI
 split
 ·simp
 ·split
  ·simp
  ·show (textN n).length≤200
   omega
theorem neatI_len (l:List Int) (f:Int):(neatI l f).1.length≤200:=by
 unfold neatI
 split
 ·simp
 ·exact patI_len _
theorem walk (w:World) (hT:Tabs4 w) (n:Nd) (V:Array Value) (tn:Treed w (fun x=>x < w.heap.size) n V) (A:Option Addr) (l:List Int) (c:Nat) (hc:l.length≤c) (hm:c≤maxLen) (h:Lies w w.heap.size A (ints .i64 l)) (wf:∀ x∈l,(Lit.int .i64 x).wf=true) (f:Int) (_:(Lit.int .i64 f).wf=true) :
 Calls Tryz.prog 3 #[.agg V,.slice A l.length c,.int .i64 f] w fun e w'=>e=.returned (.bool true)∧Below w.heap.size w w':=by
 obtain ⟨A1,m1,c1,lo1,hi1,K1,n1,d1,hva⟩:=tn.kind
 obtain ⟨kn,hkn⟩:∃ x,kindN n=x:=⟨_,rfl⟩
 rw [hkn] at hva
 subst hva
 have hll:l.length≤9223372036854775807:=by unfold maxLen at hm;omega
 have B0:Hid (Below w.heap.size w (w.alloc (.cells #[.int .i64 kn,.slice A1 m1 c1,.int .i64 lo1,.int .i64 hi1,.slice K1 n1 d1] 25))):=qh (below_alloc w _)
 have X0:Hid (Box (w.alloc (.cells #[.int .i64 kn,.slice A1 m1 c1,.int .i64 lo1,.int .i64 hi1,.slice K1 n1 d1] 25)) w.heap.size #[.int .i64 kn,.slice A1 m1 c1,.int .i64 lo1,.int .i64 hi1,.slice K1 n1 d1] 25):=qh (Box.new w _ _)
 have HAG:Hid (∀ u,Below w.heap.size w u→Agree w (fun x=>x < w.heap.size) u):=qh fun u hb=>⟨fun x hx _=>hb.block x hx,hb.size⟩
 have HWA:=fun u (hb:Below w.heap.size w u)=>rweight_any tn u 0 (HAG.out u hb).1 (HAG.out u hb).2 (by decide) (by decide)
 have HPA:=fun u (hb:Below w.heap.size w u)=>shpattern_any tn u (HAG.out u hb) (hT.below hb).pow
 have HPR:=fun (he:¬ 1000 < wN n 0) u (hb:Below w.heap.size w u)=>rpattern_any tn u (HAG.out u hb) (right_same he)
 have HRA:=fun u (hb:Below w.heap.size w u)=>shright_any tn u (HAG.out u hb).1 (HAG.out u hb).2
 have HRR:=fun (he:¬ 1000 < wN n 0) u (hb:Below w.heap.size w u)=>(right_same he)▸rright_any tn u (HAG.out u hb).1 (HAG.out u hb).2
 have hpl:=patI_len n
 have hnl:=neatI_len l f
 have HNA:=fun u (hb:Below w.heap.size w u)=>neat_any u (hT.below hb).fo (hT.below hb).pow A l c f (h.up hb) hc
 have HNR:=fun u (hb:Below w.heap.size w u)=>rneat_any u A l c f (h.up hb) wf
 obtain ⟨r,hr⟩:∃ x,rightN n=x:=⟨_,rfl⟩
 obtain ⟨pa,hpa⟩:∃ x,patI n=x:=⟨_,rfl⟩
 obtain ⟨na,hna⟩:∃ x,neatI l f=x:=⟨_,rfl⟩
 obtain ⟨z1,hz1⟩:∃ x,wN n 0=x:=⟨_,rfl⟩
 rw [hpa] at HPA HPR hpl
 rw [hna] at HNA HNR hnl
 rw [hr] at HRA HRR
 rw [hz1] at HWA HPR HRR
 obtain ⟨px,pe⟩:=pa
 obtain ⟨qx,qp,qe⟩:=na
 simp only at HPA HPR hpl hnl
 have QW:=qh HWA
 have QA:=qh HPA
 have QR:=qh HPR
 have TA:=qh HRA
 have TR:=qh HRR
 have NA:=qh HNA
 have NR:=qh HNR
 have HLN:=qh (And.intro hpl hnl)
 have HLV:=qh (live_any (w.alloc (.cells #[.int .i64 kn,.slice A1 m1 c1,.int .i64 lo1,.int .i64 hi1,.slice K1 n1 d1] 25)) (hT.below B0.out))
 have HSS:Hid (∀ u,Box u w.heap.size #[.int .i64 kn,.slice A1 m1 c1,.int .i64 lo1,.int .i64 hi1,.slice K1 n1 d1] 25→(fun z=>z.cell? ⟨w.heap.size,0,none⟩=some (.int .i64 kn)∧z.cell? ⟨w.heap.size,1,none⟩=some (.slice A1 m1 c1)∧z.cell? ⟨w.heap.size,2,none⟩=some (.int .i64 lo1)∧z.cell? ⟨w.heap.size,3,none⟩=some (.int .i64 hi1)∧z.cell? ⟨w.heap.size,4,none⟩=some (.slice K1 n1 d1)) u):=qh fun u b=>⟨b.cell rfl,b.cell rfl,b.cell rfl,b.cell rfl,b.cell rfl⟩
 clear hT tn hkn hpa hna hr hz1 HPA HPR HRA HRR HNA HNR HWA hpl hnl hc hm h wf
 go_enter Tryz.func3,Tryz.ntmps3
 go_wp2_with fail
 refine HLV.out.mono ?_
 rintro e w1 ⟨rfl,b1⟩
 have B1:=qh (below_then B0.out b1)
 have X1:=qh (X0.out.below b1 X0.out.lt)
 clear b1
 have a0:w1.cell? ⟨w.heap.size,0,none⟩=some (.int .i64 kn):=X1.out.cell rfl
 have a1:w1.cell? ⟨w.heap.size,1,none⟩=some (.slice A1 m1 c1):=X1.out.cell rfl
 have a2:w1.cell? ⟨w.heap.size,2,none⟩=some (.int .i64 lo1):=X1.out.cell rfl
 have a3:w1.cell? ⟨w.heap.size,3,none⟩=some (.int .i64 hi1):=X1.out.cell rfl
 have a4:w1.cell? ⟨w.heap.size,4,none⟩=some (.slice K1 n1 d1):=X1.out.cell rfl
 go_wp2_with fail
 refine (QW.out _ B1.out).mono ?_
 rintro e w2 ⟨rfl,g2⟩
 have B2:=qh (below_then B1.out (below_row_none g2 (Nat.le_refl _)))
 have X2:=qh (X1.out.kept g2 (by simp))
 clear g2 a0 a1 a2 a3 a4
 rcases hz1:decide (1000 < z1) with _ | _
 case true =>
  have hz1':decide (z1 > 1000)=true:=hz1
  go_wp2_with fail
  go_ret
  exact ⟨rfl,B2.out⟩
 have hz1':decide (z1 > 1000)=false:=hz1
 by_cases hl:300 < l.length
 case pos =>
  have e1:decide (300 < (l.length:Int))=true:=decide_eq_true (by omega)
  have e2:decide ((l.length:Int) > 300)=true:=e1
  have e3:decide (300 < l.length)=true:=decide_eq_true hl
  clear hl
  go_wp2_with fail
  go_ret
  exact ⟨rfl,B2.out⟩
 have e1:decide (300 < (l.length:Int))=false:=decide_eq_false (by omega)
 have e2:decide ((l.length:Int) > 300)=false:=e1
 have e3:decide (300 < l.length)=false:=decide_eq_false (by omega)
 have hz:¬ 1000 < z1:=by simpa using hz1
 have PR:=qh (QR.out (by omega))
 have RR:=qh (TR.out (by omega))
 clear hl hz QR TR
 have a0:w2.cell? ⟨w.heap.size,0,none⟩=some (.int .i64 kn):=X2.out.cell rfl
 have a1:w2.cell? ⟨w.heap.size,1,none⟩=some (.slice A1 m1 c1):=X2.out.cell rfl
 have a2:w2.cell? ⟨w.heap.size,2,none⟩=some (.int .i64 lo1):=X2.out.cell rfl
 have a3:w2.cell? ⟨w.heap.size,3,none⟩=some (.int .i64 hi1):=X2.out.cell rfl
 have a4:w2.cell? ⟨w.heap.size,4,none⟩=some (.slice K1 n1 d1):=X2.out.cell rfl
 go_wp2_with fail
 refine (QA.out _ B2.out).mono ?_
 rintro e w4 ⟨v4,rfl,o4,b4⟩
 obtain ⟨A4,c4,rfl,l4,-,-⟩:=o4.form
 have L4:=qh l4
 have B4:=qh (below_then B2.out b4)
 have X4:=qh (X2.out.below b4 X2.out.lt)
 clear o4 l4 b4 a0 a1 a2 a3 a4
 simp only [ints,List.length_map]
 have a0:w4.cell? ⟨w.heap.size,0,none⟩=some (.int .i64 kn):=X4.out.cell rfl
 have a1:w4.cell? ⟨w.heap.size,1,none⟩=some (.slice A1 m1 c1):=X4.out.cell rfl
 have a2:w4.cell? ⟨w.heap.size,2,none⟩=some (.int .i64 lo1):=X4.out.cell rfl
 have a3:w4.cell? ⟨w.heap.size,3,none⟩=some (.int .i64 hi1):=X4.out.cell rfl
 have a4:w4.cell? ⟨w.heap.size,4,none⟩=some (.slice K1 n1 d1):=X4.out.cell rfl
 go_wp2_with fail
 refine (PR.out _ B4.out).mono ?_
 rintro e w5 ⟨v5,rfl,o5,b5⟩
 obtain ⟨A5,c5,rfl,l5,-,-⟩:=o5.form
 have L5:=qh l5
 have L45:=qh (L4.out.up b5)
 have B5:=qh (below_then B4.out b5)
 have X5:=qh (X4.out.below b5 X4.out.lt)
 clear o5 l5 b5 a0 a1 a2 a3 a4
 simp only [ints,List.length_map]
 go_wp2_with fail
 refine (NA.out _ B5.out).mono ?_
 rintro e w6 ⟨v6,rfl,o6,b6⟩
 obtain ⟨A6,c6,rfl,l6,-,-⟩:=o6.form
 have L6:=qh l6
 have L46:=qh (L45.out.up b6)
 have L56:=qh (L5.out.up b6)
 have B6:=qh (below_then B5.out b6)
 have X6:=qh (X5.out.below b6 X5.out.lt)
 clear o6 l6 b6
 simp only [ints,List.length_map]
 go_wp2_with fail
 refine (NR.out _ B6.out).mono ?_
 rintro e w7 ⟨v7,rfl,o7,b7⟩
 obtain ⟨A7,c7,rfl,l7,-,-⟩:=o7.form
 have L7:=qh l7
 have L47:=qh (L46.out.up b7)
 have L57:=qh (L56.out.up b7)
 have L67:=qh (L6.out.up b7)
 have B7:=qh (below_then B6.out b7)
 have X7:=qh (X6.out.below b7 X6.out.lt)
 clear o7 l7 b7
 simp only [ints,List.length_map]
 go_wp2_with fail
 refine wp_region_held_drew (S:=fun z=>z.cell? ⟨w.heap.size,0,none⟩=some (.int .i64 kn)∧z.cell? ⟨w.heap.size,1,none⟩=some (.slice A1 m1 c1)∧z.cell? ⟨w.heap.size,2,none⟩=some (.int .i64 lo1)∧z.cell? ⟨w.heap.size,3,none⟩=some (.int .i64 hi1)∧z.cell? ⟨w.heap.size,4,none⟩=some (.slice K1 n1 d1)) (by kernel_rfl) (HSS.out _ (by exact X7.out.same rfl)) (fun hHeld=>?_)
 refine' hY 0 ?_
 try simp only [Act.put,ZA,ZB,ZD,ZE,ZF]
 refine' hY 1 ?_
 try simp only [Act.put,ZA,ZB,ZC,ZD,ZE,ZF]
 refine hA 2 fun K hK=>?_
 go_simp
 refine (ints_ok A4 A5 px c4 c5 _ (by exact Lies.sameHeap L47.out rfl) (by exact Lies.sameHeap L57.out rfl) (by have:=HLN.out.1;omega)).mono ?_
 rintro e w8 ⟨rfl,b8⟩
 have B8:Hid (Below w.heap.size w w8):=qh (below_then (by exact below_same B7.out rfl rfl rfl rfl) b8)
 have X8:Hid (Box w8 w.heap.size #[.int .i64 kn,.slice A1 m1 c1,.int .i64 lo1,.int .i64 hi1,.slice K1 n1 d1] 25):=qh (Box.below (by exact X7.out.same rfl) b8 (by exact X7.out.lt))
 have L68:=qh (Lies.up (by exact Lies.sameHeap L67.out rfl) b8)
 have L78:=qh (Lies.up (by exact Lies.sameHeap L7.out rfl) b8)
 clear b8
 go_wp2_with fail
 refine hK.out _ _ (HSS.out _ (by exact X8.out.same rfl)) (fun hHeld=>?_)
 clear hK K
 try simp only [Act.put,ZA,ZB,ZC,ZD,ZE,ZF]
 refine' hY 3 ?_
 try simp only [Act.put,ZA,ZB,ZC,ZD,ZE,ZF]
 refine' hY 4 ?_
 try simp only [Act.put,ZA,ZB,ZC,ZD,ZE,ZF]
 refine' hY 5 ?_
 try simp only [Act.put,ZA,ZB,ZC,ZD,ZE,ZF]
 refine' hY 6 ?_
 try simp only [Act.put,ZA,ZB,ZC,ZD,ZE,ZF]
 try simp only [beq_self_eq_true]
 refine' hY 7 ?_
 try simp only [Act.put,ZA,ZB,ZC,ZD,ZE,ZF]
 refine' hY 8 ?_
 try simp only [Act.put,ZA,ZB,ZC,ZD,ZE,ZF]
 refine' hY 9 ?_
 try simp only [Act.put,ZA,ZB,ZC,ZD,ZE,ZF]
 refine' hY 10 ?_
 try simp only [Act.put,ZA,ZB,ZC,ZD,ZE,ZF]
 refine hA 11 fun K hK=>?_
 go_simp
 refine (ints_ok A6 A7 qx c6 c7 _ (by exact Lies.sameHeap L68.out rfl) (by exact Lies.sameHeap L78.out rfl) (by have:=HLN.out.2;omega)).mono ?_
 rintro e w9 ⟨rfl,b9⟩
 have B9:Hid (Below w.heap.size w w9):=qh (below_then (by exact below_same B8.out rfl rfl rfl rfl) b9)
 have X9:Hid (Box w9 w.heap.size #[.int .i64 kn,.slice A1 m1 c1,.int .i64 lo1,.int .i64 hi1,.slice K1 n1 d1] 25):=qh (Box.below (by exact X8.out.same rfl) b9 (by exact X8.out.lt))
 clear b9
 go_wp2_with fail
 refine hK.out _ _ (HSS.out _ (by exact X9.out.same rfl)) (fun hHeld=>?_)
 clear hK K
 try simp only [Act.put,ZA,ZB,ZC,ZD,ZE,ZF]
 refine' hY 12 ?_
 try simp only [Act.put,ZA,ZB,ZC,ZD,ZE,ZF]
 refine' hY 13 ?_
 try simp only [Act.put,ZA,ZB,ZC,ZD,ZE,ZF]
 refine' hY 14 ?_
 try simp only [Act.put,ZA,ZB,ZC,ZD,ZE,ZF]
 refine' hY 15 ?_
 try simp only [Act.put,ZA,ZB,ZC,ZD,ZE,ZF]
 refine' hY 16 ?_
 try simp only [Act.put,ZA,ZB,ZC,ZD,ZE,ZF]
 try simp only [beq_self_eq_true]
 refine' hY 17 ?_
 try simp only [Act.put,ZA,ZB,ZC,ZD,ZE,ZF]
 refine' hY 18 ?_
 try simp only [Act.put,ZA,ZB,ZC,ZD,ZE,ZF]
 refine' hY 19 ?_
 try simp only [Act.put,ZA,ZB,ZC,ZD,ZE,ZF]
 refine' hY 20 ?_
 try simp only [Act.put,ZA,ZB,ZC,ZD,ZE,ZF]
 refine' hY 21 ?_
 try simp only [Act.put,ZA,ZB,ZC,ZD,ZE,ZF]
 try simp only [beq_self_eq_true]
 refine' hY 22 ?_
 try simp only [Act.put,ZA,ZB,ZC,ZD,ZE,ZF]
 refine' hY 23 ?_
 try simp only [Act.put,ZA,ZB,ZC,ZD,ZE,ZF]
 refine' hY 24 ?_
 try simp only [Act.put,ZA,ZB,ZC,ZD,ZE,ZF]
 refine' hY 26 ?_
 try simp only [Act.put,ZA,ZB,ZC,ZD,ZE,ZF]
 refine hA 25 fun K hK=>?_
 go_simp
 refine (TA.out _ (by exact below_same B9.out rfl rfl rfl rfl)).mono ?_
 rintro e w10 ⟨rfl,g10⟩
 have B10:Hid (Below w.heap.size w w10):=qh (below_then (by exact below_same B9.out rfl rfl rfl rfl) (below_row_none g10 (Nat.le_refl _)))
 have X10:Hid (Box w10 w.heap.size #[.int .i64 kn,.slice A1 m1 c1,.int .i64 lo1,.int .i64 hi1,.slice K1 n1 d1] 25):=qh (Box.kept (by exact X9.out.same rfl) g10 (by simp))
 clear g10
 go_wp2_with fail
 refine hK.out _ _ (HSS.out _ (by exact X10.out.same rfl)) (fun hHeld=>?_)
 clear hK K
 try simp only [Act.put,ZA,ZB,ZC,ZD,ZE,ZF]
 refine hA 27 fun K hK=>?_
 go_simp
 refine (RR.out _ (by exact below_same B10.out rfl rfl rfl rfl)).mono ?_
 rintro e w11 ⟨rfl,g11⟩
 have B11:Hid (Below w.heap.size w w11):=qh (below_then (by exact below_same B10.out rfl rfl rfl rfl) (below_row_none g11 (Nat.le_refl _)))
 have X11:Hid (Box w11 w.heap.size #[.int .i64 kn,.slice A1 m1 c1,.int .i64 lo1,.int .i64 hi1,.slice K1 n1 d1] 25):=qh (Box.kept (by exact X10.out.same rfl) g11 (by simp))
 clear g11
 go_wp2_with fail
 refine hK.out _ _ (HSS.out _ (by exact X11.out.same rfl)) (fun hHeld=>?_)
 clear hK K
 try simp only [Act.put,ZA,ZB,ZC,ZD,ZE,ZF]
 refine' hY 28 ?_
 try simp only [Act.put,ZA,ZB,ZC,ZD,ZE,ZF]
 try simp only [beq_self_eq_true]
 refine' hY 29 ?_
 try simp only [Act.put,ZA,ZB,ZC,ZD,ZE,ZF]
 refine' hY 30 ?_
 try simp only [Act.put,ZA,ZB,ZC,ZD,ZE,ZF]
 refine wpAnyH_done (by kernel_rfl) ?_ _
 go_wp2_with fail
 go_ret
 exact ⟨by simp,by exact below_same B11.out rfl rfl rfl rfl⟩
-- WRAP
theorem spec:LawSpec Rows.showAnswersSpec 3:=⟨rfl,fun H ds h=>by
 match ds,h with
 | [d0,d1,d2],_=>rfl⟩
theorem params_ok:∀ t∈Tryz.f3.params.toList,Tryz.prog.readableRec t=true∧t < Tryz.prog.types.size:=by
 rw [Tryz.params3]
 intro t ht
 simp only [List.mem_cons,List.mem_nil_iff,or_false] at ht
 rcases ht with rfl | rfl | rfl
 all_goals exact ⟨by kernel_rfl,of_decide_eq_true (by kernel_rfl)⟩
set_option maxRecDepth 100000 in
theorem contract (H:Type) (enc:TypeId×Value→H) (W:World) (base:Nat) (args:Array Value) (ds gs:List (DataW H)) (before:List MemPlace)
 (hval:∀ (j:Nat) t v,Tryz.f3.params[j]?=some t→args[j]?=some v→Value.okWide Tryz.prog W .any base t v)
 (hW:DataW.Whole enc Tryz.prog Tryz.f3.params.toList Rows.showAnswersSpec.vars false W args.toList ds gs before) (hL:laidMetH Tryz.prog laidList4 W) :
 Calls Tryz.prog 3 args W fun e W'=>∃ v,e=.returned v∧Rows.showAnswersSpec.post enc Tryz.prog Tryz.f3 false true false false W args v W':=by
 have hW':=hW
 obtain ⟨p,q,hA0,hV,rfl,hfz,hnd⟩:=hW
 have hA:DataW.TrodAll enc Tryz.prog W 0 (fun _=>true) true Tryz.f3.params.toList args.toList ds p:=hA0
 rw [Tryz.params3] at hA hval
 obtain ⟨v0,vs0,d0,ds0,p0,q0,hargs,rfl,rfl,h0,r0⟩:=trodAll_cons hA
 obtain ⟨v1,vs1,d1,ds1,p1,q1,rfl,rfl,rfl,h1,r1⟩:=trodAll_cons r0
 obtain ⟨v2,vs2,d2,ds2,p2,q2,rfl,rfl,rfl,h2,r2⟩:=trodAll_cons r1
 obtain ⟨rfl,rfl,rfl⟩:=trodAll_nil r2
 obtain rfl:args=#[v0,v1,v2]:=by cases args;simp_all
 obtain ⟨n0,V0,rfl,t0⟩:=open_node (hval 0 25 v0 rfl rfl) h0
 obtain ⟨A1,l1,c1,rfl,hc1,hm1,hl1,wf1⟩:=open_list Tryz.underlying26 Tryz.underlying3 (by kernel_rfl) (hval 1 26 v1 rfl rfl) h1
 obtain ⟨a2,rfl,rfl,rfl,w2⟩:=open_int Tryz.underlying3 (hval 2 3 v2 rfl rfl) h2
 exact (walk W (tabs_of4 hL) n0 V0 t0 A1 l1 c1 hc1 hm1 hl1 wf1 a2 w2).mono fun e W' ⟨he,hg⟩=>⟨_,he,law_post spec (by rw [Tryz.params3];rfl) (by kernel_rfl) params_ok (by kernel_rfl) Tryz.underlying4 hW' hg⟩
set_option maxRecDepth 100000 in
theorem laid_met (os:Os):laidMet Tryz.prog Rows.showAnswersRow.laid ((laidWorld4 os #[.agg #[.int .i64 0,.slice none 0 0,.int .i64 0,.int .i64 0,.slice none 0 0],.slice none 0 0,.int .i64 0]).forCall (fun _ _=>0) ⟨#[],#[.agg #[.int .i64 0,.slice none 0 0,.int .i64 0,.int .i64 0,.slice none 0 0],.slice none 0 0,.int .i64 0],[]⟩).memory :=
 laidMet_of_run' 8 (by kernel_rfl) (by kernel_rfl)
set_option maxRecDepth 100000 in
theorem reads (os:Os) {H:Type} (enc:TypeId×Value→H):∃ places,DataW.whole enc Tryz.prog ((laidWorld4 os #[.agg #[.int .i64 0,.slice none 0 0,.int .i64 0,.int .i64 0,.slice none 0 0],.slice none 0 0,.int .i64 0]).forCall (fun _ _=>0) ⟨#[],#[.agg #[.int .i64 0,.slice none 0 0,.int .i64 0,.int .i64 0,.slice none 0 0],.slice none 0 0,.int .i64 0],[]⟩).memory Tryz.f3.params.toList Rows.showAnswersSpec.vars false #[.agg #[.int .i64 0,.slice none 0 0,.int .i64 0,.int .i64 0,.slice none 0 0],.slice none 0 0,.int .i64 0].toList 8=some ([.agg [.lit (.int .i64 0),.nil,.lit (.int .i64 0),.lit (.int .i64 0),.nil],.nil,.lit (.int .i64 0)],[],places) :=
 ⟨[],by kernel_rfl⟩
set_option maxRecDepth 100000 in
theorem lifted (os:Os) (started:os.Started) (H:Type) (enc:TypeId×Value→H) (F:Stop.Interp) :
 ReturnsInHanded {} Tryz.checked os 3 .any ((OpenSpec.ofChange Rows.showAnswersSpec).preRow enc Tryz.prog Tryz.f3 Rows.showAnswersRow.domain false Rows.showAnswersRow.laid) (((OpenSpec.ofChange Rows.showAnswersSpec).at F).post enc Tryz.prog Tryz.f3 false true false false):=by
 obtain ⟨places,hx⟩:=reads os enc
 refine returnsInHanded_of_row (C:=Tryz.checked) (s:=OpenSpec.ofChange Rows.showAnswersSpec) own started (by kernel_rfl) Tryz.func3
  (witness_row_at (enc:=enc) (C:=Tryz.checked) false (laidWorld4 os #[.agg #[.int .i64 0,.slice none 0 0,.int .i64 0,.int .i64 0,.slice none 0 0],.slice none 0 0,.int .i64 0]) #[.agg #[.int .i64 0,.slice none 0 0,.int .i64 0,.int .i64 0,.slice none 0 0],.slice none 0 0,.int .i64 0] rfl (by kernel_rfl) (by kernel_rfl) (by kernel_rfl)
   (OpenSpec.preRow_of_cond 8 hx (by kernel_rfl) (fun k hk=>by cases hk) (by kernel_rfl) (laid_met os))) ?_
 intro W base args ds gs before hval hW _ _ _ hL _ _
 exact contract H enc W base args ds gs before hval hW hL
set_option maxRecDepth 100000 in
theorem said:Rows.ShowAnswersSaid :=
 OpenClaim.holds_of_cond 3 Tryz.f3 rfl rfl rfl rfl rfl rfl rfl ⟨rfl,rfl,rfl,rfl,rfl⟩ rfl rfl rfl rfl rfl (by kernel_rfl) Tryz.func3 (by kernel_rfl)
  (of_decide_eq_true (by kernel_rfl)) (by unfold Func.isWrapper;first | (rw [if_pos (by decide +kernel)];kernel_rfl) | (rw [if_neg (by decide +kernel)];exact ⟨rfl,rfl⟩))
  (fun os started H enc _ F=>by rw [OpenClaim.pre_eq_preRow];exact lifted os started H enc F)
set_option maxRecDepth 100000 in
theorem card:Rows.ShowAnswersCardSaid :=
 Claim7.holds_tied_plain_at .later [] _ _ _ _ said (fun _ h=>by cases h) (by kernel_rfl) (fun _ h=>by cases h) showAnswers_row_tie rfl ⟨rfl,rfl⟩ (by kernel_rfl) rfl
  (plainOf "ductus/ductuslaw17.ShowAnswers" 3 Tryz.f3 (by kernel_rfl) Tryz.func3 (by kernel_rfl) (fun j t ht=>by
   rw [Tryz.params3] at ht
   have hm:=Array.mem_of_getElem? ht
   simp only [List.mem_toArray,List.mem_cons,List.mem_nil_iff,or_false] at hm
   rcases hm with rfl | rfl | rfl
   all_goals (show Tryz.prog.wantsStandIn _=false;kernel_rfl))) (by kernel_rfl)
end Go.Proofs.YtoeocodfndbebaaGreatDoor.lawAnswers
