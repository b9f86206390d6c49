/- Shared texts, shaken for one claim. -/
import Derived.Stop.LaidErr
import Derived.Test.YtoeocodfndbebaaGreatDoorZC12
import Derived.Test.YtoeocodfndbebaaGreatDoorZC22
import Derived.Test.YtoeocodfndbebaaGreatDoorZC28
import Derived.Test.YtoeocodfndbebaaGreatDoorZC29
import Derived.Test.YtoeocodfndbebaaGreatDoorZC30
import Derived.Test.YtoeocodfndbebaaGreatDoorZC34
import Derived.Test.YtoeocodfndbebaaGreatDoorZC40
set_option maxRecDepth 20000
set_option maxHeartbeats 16000000
namespace Go.Proofs.YtoeocodfndbebaaGreatDoor
section
open Go.RowKit
section
variable {b E q:Nat} {f deep:Int}
theorem gatom_any (inner:Option (List Tok→DR)) (hd:(inner=none→20≤deep)∧∀ g,inner=some g→deep < 20∧0≤deep∧∀ (u:World) (T:List Tok),NE (g T)→IsG u b T E f 0 0→Calls Tryz.prog 25 #[.pointer (some ⟨b,0,none⟩),.int .i64 (deep+1)] u (NdG u b E f (g T)))
 (u:World) (T:List Tok) (hne:¬ T=[]) (hk:kindIs T [5,4]=false) (hn:NE (dAtom inner f E T)) (h:IsG u b T E f 0 0) :
 Calls Tryz.prog 69 #[.pointer (some ⟨b,0,none⟩),.int .i64 deep] u (NdG u b E f (dAtom inner f E T)):=by
 rcases T with _ | ⟨t,R⟩
 ·exact absurd rfl hne
 unfold dAtom at hn ⊢
 simp only at hn ⊢
 by_cases h3:t.k=3
 ·rw [if_pos h3] at hn ⊢
  rcases hi:inner with _ | g
  ·rw [hi] at hd
   exact gatom_deep u b t R E f deep h h3 (hd.1 rfl)
  ·rw [hi] at hn hd
   obtain ⟨hd1,hd2,hor⟩:=hd.2 g rfl
   simp only at hn ⊢
   refine gatom_open u b t R E f deep h h3 hd2 hd1 (g R) (fun p hp=>hn p (by rw [hp])) fun u' hu=>hor u' R (fun p hp=>hn p (by rw [hp])) hu
 rw [if_neg h3] at hn ⊢
 by_cases h10:t.k=10
 ·rw [if_pos h10]
  exact (gatom_start u b t R E f deep h h10).mono fun _ _ x=>x.ok
 rw [if_neg h10] at hn ⊢
 by_cases h11:t.k=11
 ·rw [if_pos h11]
  exact (gatom_stop u b t R E f deep h h11).mono fun _ _ x=>x.ok
 rw [if_neg h11] at hn ⊢
 by_cases h6:t.k=6
 ·rw [if_pos h6]
  exact gatom_repeat u b t R E f deep h h6
 rw [if_neg h6] at hn ⊢
 unfold setT at hn ⊢
 by_cases h2:t.k=2
 ·rw [if_pos h2]
  exact (gatom_dot u b t R E f deep h h2).mono fun _ _ x=>x.ok
 rw [if_neg h2] at hn ⊢
 by_cases h7:t.k=7
 ·rw [if_pos h7] at hn ⊢
  rcases hc:classL f R with _ | ⟨rs,R'⟩
  ·rw [hc] at hn
   exact absurd rfl (hn 0)
  ·obtain ⟨C,e,rfl,he,hC,rfl⟩:=classL_form hc
   have hl:C.length≤200:=by have:=h.few;simp at this;omega
   simp only
   rw [← dClass_is f _ C hl]
   exact (gatom_class u b t C e R' E f deep h h7 he hC).mono fun _ _ x=>x.ok
 ·rw [if_neg h7]
  simp only
  rw [← dPart_is]
  exact (gatom_part u b t R E f deep h ⟨h7,h3,h10,h11,h2,h6⟩).mono fun _ _ x=>x.ok
end
theorem gor_any (b E q:Nat) (f:Int):∀ (d:Nat) (deep:Int),0≤deep→deep+d=20→∀ (w:World) (T:List Tok),NE (dOr f E q d T)→IsG w b T E f 0 0→Calls Tryz.prog 25 #[.pointer (some ⟨b,0,none⟩),.int .i64 deep] w (NdG w b E f (dOr f E q d T))
 | 0,deep,_,hd,w,T,hn,h=>gor_step (inner:=none) (fun g h=>by cases h) (fun u T hn h=>gjoin_any (inner:=none) (fun g h=>by cases h) (fun u T h1 h2 h3 h4=>gatom_any none ⟨fun _=>by omega,fun g h=>by cases h⟩ u T h1 h2 h3 h4) u T h hn) w T h hn
 | d+1,deep,h0,hd,w,T,hn,h=>by
  have hs:∀ g,some (dOr f E q d)=some g→ShrD g:=fun g h=>by injection h with h;subst h;exact dOr_shr f E q d
  refine gor_step (inner:=some (dOr f E q d)) hs (fun u T hn h=>gjoin_any (inner:=some (dOr f E q d)) hs (fun u T h1 h2 h3 h4=>gatom_any (some (dOr f E q d)) ⟨fun h=>(by cases h),fun g h=>?_⟩ u T h1 h2 h3 h4) u T h hn) w T h hn
  injection h with h
  subst h
  exact ⟨by omega,h0,fun u T hn h=>gor_any b E q f d (deep+1) (by omega) (by omega) u T hn h⟩
theorem or_ne {l:List Int} {T:List Tok} (f:Int) (ho:ofT l=.ok T):NE (dOr f l.length 201 20 T):=by
 intro p h
 have hd:dP f l.length 201 T=.error (p,0):=by unfold dP;rw [h]
 rcases of_same f ho with ⟨n,h1,-,-⟩ | ⟨h1,h2⟩
 ·rw [hd] at h1;cases h1
 ·rw [hd] at h1
  injection h1 with h1
  rw [← h1] at h2
  exact h2 rfl
theorem gparse_flag (w:World) (A:Option Addr) (l:List Int) (c:Nat) (f:Int) (hf:f < 0∨7 < f):Calls Tryz.prog 16 #[.slice A l.length c,.int .i64 f] w (Wronged w 0 11):=by
 have X0:Hid (Box (w.alloc (.cells #[.int .i64 0,.slice none 0 0,.int .i64 0,.int .i64 0,.slice none 0 0] 25)) w.heap.size ndZero 25):=qh (Box.new w _ _)
 have hw:decide (f < 0)=true∨(decide (f < 0)=false∧decide (7 < f)=true∧decide (f > 7)=true):=by
  by_cases h:f < 0
  ·exact .inl (decide_eq_true h)
  ·exact .inr ⟨decide_eq_false h,decide_eq_true (by omega),decide_eq_true (by omega)⟩
 clear hf
 rcases hw with d0 | ⟨d0,d1,d2⟩
 all_goals
  go_enter Tryz.func16,Tryz.ntmps16
  go_wp2_with (first
   | (refine store_nd _ _ _ w.heap.size ndZero ndZero rfl rfl rfl rfl rfl X0.out rfl rfl (by simp [ndZero,Value.oneCell']) ?_;intro w1 x1 g1;have X1:=qh x1;have G1:=qh (grown_two (grown_new w _ none) g1 (Nat.le_refl _));clear x1 g1)
   | fail)
  (try simp only [Exit.inBlock,Exit.then])
  exact bodyPost_ret (results_box2 rfl _ _ w.heap.size 25 _ _ rfl X1.out Tryz.underlying25 rfl (ndInfo rfl)) rfl ⟨rfl,below_row_none G1.out (Nat.le_refl _)⟩
theorem gparse_wrong (w:World) (A:Option Addr) (l:List Int) (c:Nat) (f:Int) (hf:0≤f∧f≤7) (h:Lies w w.heap.size A (ints .i64 l)) (hwf:∀ x∈l,(Lit.int .i64 x).wf=true) (p:Nat) (x:Int) (hx:x≠0) (ho:ofT l=.error (p,x)) :
 Calls Tryz.prog 16 #[.slice A l.length c,.int .i64 f] w (Wronged w p x):=by
 have d0:decide (f < 0)=false:=decide_eq_false (by omega)
 have d1:decide (7 < f)=false:=decide_eq_false (by omega)
 have d2:decide (f > 7)=false:=decide_eq_false (by omega)
 have d3:(x != 0)=true:=by simpa using hx
 obtain ⟨w0,hw0⟩:∃ u,w.alloc (.cells #[.int .i64 0,.slice none 0 0,.int .i64 0,.int .i64 0,.slice none 0 0] 25)=u:=⟨_,rfl⟩
 have G0:Hid (w.grownBy w0 none):=qh (hw0▸grown_new w _ none)
 have X0:Hid (Box w0 w.heap.size ndZero 25):=qh (hw0▸Box.new w _ _)
 have HW0:=qh hw0
 have HC:=qh (rof15_any w0 c A l (h.up (below_row_none G0.out (Nat.le_refl _))) hwf)
 rw [ho] at HC
 have d4:(x == 0)=false:=by simpa using hx
 clear hf hx hw0 h ho hwf
 go_enter Tryz.func16,Tryz.ntmps16
 go_wp2_with fail
 rw [HW0.out]
 refine HC.out.mono ?_
 rintro e w2 ⟨rfl,b2⟩
 have X2:=qh (X0.out.kept (grown_of_below b2 none) (by simp))
 have G2:=qh (G0.out.trans (grown_of_below b2 none))
 clear b2
 go_wp2_with (first
  | (refine store_nd w2 _ _ w.heap.size ndZero ndZero rfl rfl rfl rfl rfl X2.out rfl rfl (by simp [ndZero,Value.oneCell']) ?_;intro w3 x3 g3;have X3:=qh x3;have G3:=qh (grown_two G2.out g3 (Nat.le_refl _));clear x3 g3)
  | fail)
 (try simp only [Exit.inBlock,Exit.then])
 exact bodyPost_ret (results_box2 rfl _ _ w.heap.size 25 _ _ rfl X3.out Tryz.underlying25 rfl (ndInfo rfl)) rfl ⟨rfl,below_row_none G3.out (Nat.le_refl _)⟩
theorem gparse_tree (w:World) (A:Option Addr) (l:List Int) (c:Nat) (f:Int) (hf:0≤f∧f≤7) (h:Lies w w.heap.size A (ints .i64 l)) (hwf:∀ x∈l,(Lit.int .i64 x).wf=true) (T:List Tok) (ho:ofT l=.ok T) :
 Calls Tryz.prog 16 #[.slice A l.length c,.int .i64 f] w (ParseTo w (match dP f l.length 201 T with | .error e=>.error e | .ok n=>if 400 < sizeI n then .error (0,10) else .ok n)):=by
 have d0:decide (f < 0)=false:=decide_eq_false (by omega)
 have d1:decide (7 < f)=false:=decide_eq_false (by omega)
 have d2:decide (f > 7)=false:=decide_eq_false (by omega)
 have hn:T.length≤200:=by have:=of_length ho;have:=(of_fits ho).2;omega
 have hne:=or_ne f ho
 obtain ⟨RS,hRS⟩:∃ z,(match dP f l.length 201 T with | .error e=>(.error e:Except (Int×Int) Nd) | .ok n=>if 400 < sizeI n then .error (0,10) else .ok n)=z:=⟨_,rfl⟩
 rw [hRS]
 unfold dP at hRS
 obtain ⟨DX,hDX⟩:∃ z,dOr f l.length 201 20 T=z:=⟨_,rfl⟩
 rw [hDX] at hRS
 have HRS:=qh hRS
 obtain ⟨w0,hw0⟩:∃ u,w.alloc (.cells #[.int .i64 0,.slice none 0 0,.int .i64 0,.int .i64 0,.slice none 0 0] 25)=u:=⟨_,rfl⟩
 have G0:Hid (w.grownBy w0 none):=qh (hw0▸grown_new w _ none)
 have X0:Hid (Box w0 w.heap.size ndZero 25):=qh (hw0▸Box.new w _ _)
 have HW0:=qh hw0
 have HC:=qh (rof15_any w0 c A l (h.up (below_row_none G0.out (Nat.le_refl _))) hwf)
 rw [ho] at HC
 have HOR:Hid (∀ (b:Nat) (u:World),IsG u b T l.length f 0 0→Calls Tryz.prog 25 #[.pointer (some ⟨b,0,none⟩),.int .i64 0] u (NdG u b l.length f DX)):=qh fun b u hu=>hDX▸gor_any b l.length 201 f 20 0 (by decide) (by decide) u T hne hu
 have HNE:Hid (∀ p,DX≠.error (p,0)):=qh fun p h=>hne p (hDX.trans h)
 have HN:=qh hn
 clear hf hw0 h ho hwf hne hRS hDX hn
 go_enter Tryz.func16,Tryz.ntmps16
 go_wp2_with fail
 rw [HW0.out]
 refine HC.out.mono ?_
 rintro e w1 ⟨⟨tv,rfl,o1⟩,b1⟩
 obtain ⟨A1,c1,rfl,l1,hc1,-⟩:=o1.form
 have X1:=qh (X0.out.kept (grown_of_below b1 none) (by simp))
 have G1:=qh (G0.out.trans (grown_of_below b1 none))
 obtain ⟨w2,hw2⟩:∃ u,w1.alloc (.cells #[.slice A1 T.length c1,.int .i64 (l.length:Int),.int .i64 f,.int .i64 0,.int .i64 0] 52)=u:=⟨_,rfl⟩
 have N2:w1.grownBy w2 none:=hw2▸grown_new w1 _ none
 have R2:Hid (IsG w2 w1.heap.size T l.length f 0 0):=qh ⟨⟨A1,c1,hw2▸Box.new w1 _ _,l1.same (fun q hq=>World.cell?_of_block (N2.block q.block hq (by simp))),hc1⟩,HN.out⟩
 have X2:=qh (X1.out.kept N2 (by simp))
 have G2:=qh (G1.out.trans N2)
 have HOC:=qh (HOR.out w1.heap.size w2 R2.out)
 have HW2:=qh hw2
 have HLT:Hid (w.heap.size < w1.heap.size):=qh X1.out.lt
 clear o1 b1 l1 hc1 hw2 N2
 go_wp2_with fail
 rw [HW2.out]
 refine HOC.out.mono ?_
 rintro e w3 ⟨g3,hm⟩
 have X3:=qh (X2.out.kept g3 (by have:=HLT.out;simp;omega))
 have G3:=qh (grown_two G2.out g3 (by have:=HLT.out;omega))
 have HZ2:=qh R2.out.lt
 rcases DX with ⟨p,x⟩ | ⟨n,_ | ⟨s,S⟩⟩
 ·have hx:x≠0:=fun e=>HNE.out p (by rw [e])
  have dx:(x != 0)=true:=by simpa using hx
  have HX:=qh hx
  have hrs:(Except.error (p,x):Except (Int×Int) Nd)=RS:=HRS.out
  subst hrs
  obtain ⟨v,R',rfl,hfv,r3⟩:=hm
  obtain ⟨k1,Ar,nr,cr,lo1,hi1,Ak,nk,ck,rfl⟩:=hfv
  rcases R' with _ | ⟨s,S⟩
  ·have RU:=qh (r3.up (grown_new w3 (.cells #[.int .i64 k1,.slice Ar nr cr,.int .i64 lo1,.int .i64 hi1,.slice Ak nk ck] 25) none))
   have XU:=qh (X3.out.kept (grown_new w3 (.cells #[.int .i64 k1,.slice Ar nr cr,.int .i64 lo1,.int .i64 hi1,.slice Ak nk ck] 25) none) (by simp))
   have GU:=qh (G3.out.trans (grown_new w3 (.cells #[.int .i64 k1,.slice Ar nr cr,.int .i64 lo1,.int .i64 hi1,.slice Ak nk ck] 25) none))
   obtain ⟨A5,c5,hb5,-,-⟩:=RU.out.box
   have b0:=(hb5.cell (i:=0) rfl:(w3.alloc (.cells #[.int .i64 k1,.slice Ar nr cr,.int .i64 lo1,.int .i64 hi1,.slice Ak nk ck] 25)).cell? ⟨w1.heap.size,0,none⟩=some (.slice A5 ([]:List Tok).length c5))
   simp only [List.length_nil] at b0
   clear hb5 r3 g3 hx
   obtain ⟨A9,c9,hbx,-,-⟩:=RU.out.box
   have HCE:Hid (∀ z:World,(w3.alloc (.cells #[.int .i64 k1,.slice Ar nr cr,.int .i64 lo1,.int .i64 hi1,.slice Ak nk ck] 25)).grownBy z (some w.heap.size)→z.cell? ⟨w1.heap.size,3,none⟩=some (.int .i64 p)∧z.cell? ⟨w1.heap.size,4,none⟩=some (.int .i64 x)):=qh fun z hz=>⟨(hbx.kept hz (by have:=HLT.out;simp;omega)).cell rfl,(hbx.kept hz (by have:=HLT.out;simp;omega)).cell rfl⟩
   have e4:=(HCE.out _ (grown_refl _ _)).2
   clear hbx
   go_wp2_with fail
   clear e4
   refine wp_region_E (S:=fun z=>z.cell? ⟨w1.heap.size,3,none⟩=some (.int .i64 p)∧z.cell? ⟨w1.heap.size,4,none⟩=some (.int .i64 x)) [11] (by kernel_rfl) (HCE.out _ (grown_draw (grown_refl _ _))) (fun hHeld hZ=>?_)
   refine' eY 0 hHeld hZ fun hZ=>?_
   try simp only [Act.put,ZA,ZB,ZD,ZE,ZF]
   refine' eY 1 hHeld hZ fun hZ=>?_
   try simp only [Act.put,ZA,ZB,ZC,ZD,ZE,ZF]
   refine' eY 2 hHeld hZ fun hZ=>?_
   try simp only [Act.put,ZA,ZB,ZC,ZD,ZE,ZF]
   refine' eY 3 hHeld hZ fun hZ=>?_
   try simp only [Act.put,ZA,ZB,ZC,ZD,ZE,ZF]
   refine' eY 4 hHeld hZ fun hZ=>?_
   try simp only [Act.put,ZA,ZB,ZC,ZD,ZE,ZF]
   refine' eY 5 hHeld hZ fun hZ=>?_
   try simp only [Act.put,ZA,ZB,ZC,ZD,ZE,ZF]
   refine' eY 6 hHeld hZ fun hZ=>?_
   try simp only [Act.put,ZA,ZB,ZC,ZD,ZE,ZF]
   refine' eY 7 hHeld hZ fun hZ=>?_
   try simp only [Act.put,ZA,ZB,ZC,ZD,ZE,ZF]
   refine' eY 8 hHeld hZ fun hZ=>?_
   try simp only [Act.put,ZA,ZB,ZC,ZD,ZE,ZF]
   refine eA 9 fun K hK=>?_
   refine step_box (w3.alloc (.cells #[.int .i64 k1,.slice Ar nr cr,.int .i64 lo1,.int .i64 hi1,.slice Ak nk ck] 25)).drew _ _ w.heap.size ndZero ndZero rfl rfl rfl rfl rfl (by exact XU.out.same rfl) rfl (ndInfo rfl) (by simp [ndZero,Value.oneCell']) ?_
   intro w8 x8 g8
   have X8:=qh x8
   have G8:=qh (grown_two (grown_draw GU.out) g8 (Nat.le_refl _))
   refine eB hK hZ (HCE.out _ ((grown_draw (grown_refl _ _)).trans g8)) fun hHeld hZ=>?_
   clear hK K
   try simp only [Act.put,ZA,ZB,ZC,ZD,ZE,ZF]
   refine' eX 10 hZ fun hZ=>?_
   try simp only [Act.put,ZA,ZB,ZC,ZD,ZE,ZF]
   refine' eX 11 hZ fun hZ=>?_
   try simp only [Act.put,ZA,ZB,ZC,ZD,ZE,ZF]
   refine wpAnyE_done (by kernel_rfl) ?_ _
   clear hZ
   clear x8 g8
   go_wp2_with fail
   (try simp only [Exit.inBlock,Exit.then])
   exact bodyPost_ret (results_box2 rfl _ _ w.heap.size 25 _ _ rfl X8.out Tryz.underlying25 rfl (ndInfo rfl)) rfl ⟨rfl,below_row_none G8.out (Nat.le_refl _)⟩
  ·have RU:=qh (r3.up (grown_new w3 (.cells #[.int .i64 k1,.slice Ar nr cr,.int .i64 lo1,.int .i64 hi1,.slice Ak nk ck] 25) none))
   have XU:=qh (X3.out.kept (grown_new w3 (.cells #[.int .i64 k1,.slice Ar nr cr,.int .i64 lo1,.int .i64 hi1,.slice Ak nk ck] 25) none) (by simp))
   have GU:=qh (G3.out.trans (grown_new w3 (.cells #[.int .i64 k1,.slice Ar nr cr,.int .i64 lo1,.int .i64 hi1,.slice Ak nk ck] 25) none))
   obtain ⟨g5,off5,c5,m5,A5,hA5,hm5,hm51,hmc5,hg5,hb5,v0,v1,v2,v3,v4,keep5⟩:=RU.out.next
   have b0:=(hb5.cell (i:=0) rfl:(w3.alloc (.cells #[.int .i64 k1,.slice Ar nr cr,.int .i64 lo1,.int .i64 hi1,.slice Ak nk ck] 25)).cell? ⟨w1.heap.size,0,none⟩=some (.slice (some ⟨g5,off5,none⟩) (m5+1) c5))
   have q0:(0:Int) < ((m5:Int)+1):=by omega
   have q1:(0:Int) < ((m5+1:Nat):Int):=by omega
   have HFO:=qh (gfail_old (w3.alloc (.cells #[.int .i64 k1,.slice Ar nr cr,.int .i64 lo1,.int .i64 hi1,.slice Ak nk ck] 25)) w1.heap.size (s :: S) l.length f p x RU.out HX.out s.pos 5)
   obtain ⟨ps,hps⟩:∃ z,s.pos=z:=⟨_,rfl⟩
   rw [hps] at v4 HFO
   clear hb5 r3 g3 hx hm5 hmc5 hg5 v0 v1 v2 v3 keep5 hps hA5
   go_wp2_with fail
   refine HFO.out.mono ?_
   rintro e1 w9 ⟨rfl,rfl⟩
   clear b0 v4
   obtain ⟨A9,c9,hbx,-,-⟩:=RU.out.box
   have HCE:Hid (∀ z:World,(w3.alloc (.cells #[.int .i64 k1,.slice Ar nr cr,.int .i64 lo1,.int .i64 hi1,.slice Ak nk ck] 25)).grownBy z (some w.heap.size)→z.cell? ⟨w1.heap.size,3,none⟩=some (.int .i64 p)∧z.cell? ⟨w1.heap.size,4,none⟩=some (.int .i64 x)):=qh fun z hz=>⟨(hbx.kept hz (by have:=HLT.out;simp;omega)).cell rfl,(hbx.kept hz (by have:=HLT.out;simp;omega)).cell rfl⟩
   have e4:=(HCE.out _ (grown_refl _ _)).2
   clear hbx
   go_wp2_with fail
   clear e4
   refine wp_region_E (S:=fun z=>z.cell? ⟨w1.heap.size,3,none⟩=some (.int .i64 p)∧z.cell? ⟨w1.heap.size,4,none⟩=some (.int .i64 x)) [11] (by kernel_rfl) (HCE.out _ (grown_draw (grown_refl _ _))) (fun hHeld hZ=>?_)
   refine' eY 0 hHeld hZ fun hZ=>?_
   try simp only [Act.put,ZA,ZB,ZD,ZE,ZF]
   refine' eY 1 hHeld hZ fun hZ=>?_
   try simp only [Act.put,ZA,ZB,ZC,ZD,ZE,ZF]
   refine' eY 2 hHeld hZ fun hZ=>?_
   try simp only [Act.put,ZA,ZB,ZC,ZD,ZE,ZF]
   refine' eY 3 hHeld hZ fun hZ=>?_
   try simp only [Act.put,ZA,ZB,ZC,ZD,ZE,ZF]
   refine' eY 4 hHeld hZ fun hZ=>?_
   try simp only [Act.put,ZA,ZB,ZC,ZD,ZE,ZF]
   refine' eY 5 hHeld hZ fun hZ=>?_
   try simp only [Act.put,ZA,ZB,ZC,ZD,ZE,ZF]
   refine' eY 6 hHeld hZ fun hZ=>?_
   try simp only [Act.put,ZA,ZB,ZC,ZD,ZE,ZF]
   refine' eY 7 hHeld hZ fun hZ=>?_
   try simp only [Act.put,ZA,ZB,ZC,ZD,ZE,ZF]
   refine' eY 8 hHeld hZ fun hZ=>?_
   try simp only [Act.put,ZA,ZB,ZC,ZD,ZE,ZF]
   refine eA 9 fun K hK=>?_
   refine step_box (w3.alloc (.cells #[.int .i64 k1,.slice Ar nr cr,.int .i64 lo1,.int .i64 hi1,.slice Ak nk ck] 25)).drew _ _ w.heap.size ndZero ndZero rfl rfl rfl rfl rfl (by exact XU.out.same rfl) rfl (ndInfo rfl) (by simp [ndZero,Value.oneCell']) ?_
   intro w8 x8 g8
   have X8:=qh x8
   have G8:=qh (grown_two (grown_draw GU.out) g8 (Nat.le_refl _))
   refine eB hK hZ (HCE.out _ ((grown_draw (grown_refl _ _)).trans g8)) fun hHeld hZ=>?_
   clear hK K
   try simp only [Act.put,ZA,ZB,ZC,ZD,ZE,ZF]
   refine' eX 10 hZ fun hZ=>?_
   try simp only [Act.put,ZA,ZB,ZC,ZD,ZE,ZF]
   refine' eX 11 hZ fun hZ=>?_
   try simp only [Act.put,ZA,ZB,ZC,ZD,ZE,ZF]
   refine wpAnyE_done (by kernel_rfl) ?_ _
   clear hZ
   clear x8 g8
   go_wp2_with fail
   (try simp only [Exit.inBlock,Exit.then])
   exact bodyPost_ret (results_box2 rfl _ _ w.heap.size 25 _ _ rfl X8.out Tryz.underlying25 rfl (ndInfo rfl)) rfl ⟨rfl,below_row_none G8.out (Nat.le_refl _)⟩
 ·obtain ⟨v,rfl,t3,r3⟩:=hm
  obtain ⟨k1,Ar,nr,cr,lo1,hi1,Ak,nk,ck,hv⟩:=t3.form
  subst hv
  have RU:=qh (r3.up (grown_new w3 (.cells #[.int .i64 k1,.slice Ar nr cr,.int .i64 lo1,.int .i64 hi1,.slice Ak nk ck] 25) none))
  have XU:=qh (X3.out.kept (grown_new w3 (.cells #[.int .i64 k1,.slice Ar nr cr,.int .i64 lo1,.int .i64 hi1,.slice Ak nk ck] 25) none) (by simp))
  have GU:=qh (G3.out.trans (grown_new w3 (.cells #[.int .i64 k1,.slice Ar nr cr,.int .i64 lo1,.int .i64 hi1,.slice Ak nk ck] 25) none))
  have YU:Hid (Box (w3.alloc (.cells #[.int .i64 k1,.slice Ar nr cr,.int .i64 lo1,.int .i64 hi1,.slice Ak nk ck] 25)) w3.heap.size #[.int .i64 k1,.slice Ar nr cr,.int .i64 lo1,.int .i64 hi1,.slice Ak nk ck] 25):=qh (Box.new w3 _ _)
  have TU:=qh (t3.grown (grown_new w3 (.cells #[.int .i64 k1,.slice Ar nr cr,.int .i64 lo1,.int .i64 hi1,.slice Ak nk ck] 25) none) (fun x hx e=>by cases e))
  have HZU:Hid (w3.heap.size≤(w3.alloc (.cells #[.int .i64 k1,.slice Ar nr cr,.int .i64 lo1,.int .i64 hi1,.slice Ak nk ck] 25)).heap.size):=qh (grown_new w3 (.cells #[.int .i64 k1,.slice Ar nr cr,.int .i64 lo1,.int .i64 hi1,.slice Ak nk ck] 25) none).size
  obtain ⟨A5,c5,hb5,-,-⟩:=RU.out.box
  have b0:=(hb5.cell (i:=0) rfl:(w3.alloc (.cells #[.int .i64 k1,.slice Ar nr cr,.int .i64 lo1,.int .i64 hi1,.slice Ak nk ck] 25)).cell? ⟨w1.heap.size,0,none⟩=some (.slice A5 ([]:List Tok).length c5))
  have b4:=(hb5.cell (i:=4) rfl:(w3.alloc (.cells #[.int .i64 k1,.slice Ar nr cr,.int .i64 lo1,.int .i64 hi1,.slice Ak nk ck] 25)).cell? ⟨w1.heap.size,4,none⟩=some (.int .i64 0))
  simp only [List.length_nil] at b0
  have HSZ:=rsize16_any TU.out (w3.alloc (.cells #[.int .i64 k1,.slice Ar nr cr,.int .i64 lo1,.int .i64 hi1,.slice Ak nk ck] 25)) (fun _ _ _=>rfl) (Nat.le_refl _)
  obtain ⟨sz,hsz⟩:∃ z,sizeI n=z:=⟨_,rfl⟩
  rw [hsz] at HSZ
  have HSZ:=qh HSZ
  clear hb5 r3 g3 t3
  go_wp2_with fail
  refine HSZ.out.mono ?_
  rintro e1 w6 ⟨rfl,g6⟩
  have X6:=qh (XU.out.kept g6 (by simp))
  have G6:=qh (GU.out.trans g6)
  have Y6:=qh (YU.out.kept g6 (by simp))
  have T6:=qh (TU.out.grown g6 (fun x hx e=>by cases e))
  have Z6:=qh g6.size
  clear g6 b0 b4
  by_cases hs:400 < sz
  ·have d5:decide (400 < sz)=true:=decide_eq_true hs
   have d6:decide (sz > 400)=true:=decide_eq_true (by omega)
   have hrs:(Except.error (0,10):Except (Int×Int) Nd)=RS:=by have h:=HRS.out;change (if 400 < sizeI n then (.error (0,10):Except (Int×Int) Nd) else .ok n)=RS at h;rw [hsz,if_pos hs] at h;exact h
   subst hrs
   clear hs
   go_wp2_with (first
    | (refine store_nd w6 _ _ w.heap.size ndZero ndZero rfl rfl rfl rfl rfl X6.out rfl rfl (by simp [ndZero,Value.oneCell']) ?_;intro w8 x8 g8;have X8:=qh x8;have G8:=qh (grown_two G6.out g8 (Nat.le_refl _));clear x8 g8)
    | fail)
   (try simp only [Exit.inBlock,Exit.then])
   exact bodyPost_ret (results_box2 rfl _ _ w.heap.size 25 _ _ rfl X8.out Tryz.underlying25 rfl (ndInfo rfl)) rfl ⟨rfl,below_row_none G8.out (Nat.le_refl _)⟩
  ·have d5:decide (400 < sz)=false:=decide_eq_false hs
   have d6:decide (sz > 400)=false:=decide_eq_false (by omega)
   have hrs:(Except.ok n:Except (Int×Int) Nd)=RS:=by have h:=HRS.out;change (if 400 < sizeI n then (.error (0,10):Except (Int×Int) Nd) else .ok n)=RS at h;rw [hsz,if_neg hs] at h;exact h
   subst hrs
   clear hs
   go_wp2_with (first
    | (refine load_nd _ w3.heap.size #[.int .i64 k1,.slice Ar nr cr,.int .i64 lo1,.int .i64 hi1,.slice Ak nk ck] rfl rfl rfl Y6.out rfl ?_)
    | (refine store_nd w6 _ _ w.heap.size ndZero #[.int .i64 k1,.slice Ar nr cr,.int .i64 lo1,.int .i64 hi1,.slice Ak nk ck] rfl rfl rfl rfl rfl X6.out rfl rfl (by simp [Value.oneCell']) ?_;intro w8 x8 g8;have X8:=qh x8;have G8:=qh (grown_two G6.out g8 (Nat.le_refl _));have T8:=qh (T6.out.grown g8 (fun x hx e=>by injection e with e;have:=hx.1;have:=X2.out.lt;omega));have Z8:=qh g8.size;clear x8 g8)
    | fail)
   (try simp only [Exit.inBlock,Exit.then])
   exact bodyPost_ret (results_box2 rfl _ _ w.heap.size 25 _ _ rfl X8.out Tryz.underlying25 rfl (ndInfo rfl)) rfl ⟨_,rfl,T8.out.mono fun x hx=>⟨by have:=hx.1;have:=X2.out.lt;omega,by have:=hx.2;have:=HZU.out;have:=Z6.out;have:=Z8.out;omega⟩,below_row_none G8.out (Nat.le_refl _)⟩
 ·have hrs:(Except.error (s.pos,5):Except (Int×Int) Nd)=RS:=HRS.out
  subst hrs
  obtain ⟨v,rfl,t3,r3⟩:=hm
  obtain ⟨k1,Ar,nr,cr,lo1,hi1,Ak,nk,ck,hv⟩:=t3.form
  subst hv
  have RU:=qh (r3.up (grown_new w3 (.cells #[.int .i64 k1,.slice Ar nr cr,.int .i64 lo1,.int .i64 hi1,.slice Ak nk ck] 25) none))
  have XU:=qh (X3.out.kept (grown_new w3 (.cells #[.int .i64 k1,.slice Ar nr cr,.int .i64 lo1,.int .i64 hi1,.slice Ak nk ck] 25) none) (by simp))
  have GU:=qh (G3.out.trans (grown_new w3 (.cells #[.int .i64 k1,.slice Ar nr cr,.int .i64 lo1,.int .i64 hi1,.slice Ak nk ck] 25) none))
  obtain ⟨g5,off5,c5,m5,A5,hA5,hm5,hm51,hmc5,hg5,hb5,v0,v1,v2,v3,v4,keep5⟩:=RU.out.next
  have b0:=(hb5.cell (i:=0) rfl:(w3.alloc (.cells #[.int .i64 k1,.slice Ar nr cr,.int .i64 lo1,.int .i64 hi1,.slice Ak nk ck] 25)).cell? ⟨w1.heap.size,0,none⟩=some (.slice (some ⟨g5,off5,none⟩) (m5+1) c5))
  have q0:(0:Int) < ((m5:Int)+1):=by omega
  have q1:(0:Int) < ((m5+1:Nat):Int):=by omega
  have HFN:=gfail_new (w3.alloc (.cells #[.int .i64 k1,.slice Ar nr cr,.int .i64 lo1,.int .i64 hi1,.slice Ak nk ck] 25)) w1.heap.size (s :: S) l.length f 0 RU.out s.pos 5
  have HFN:=qh HFN
  clear hb5 r3 g3 hm5 hmc5 hg5 v0 v1 v2 v3 keep5 hA5 t3
  go_wp2_with fail
  refine HFN.out.mono ?_
  rintro e1 w6 ⟨rfl,r6,g6⟩
  have R6:=qh r6
  have X6:=qh (XU.out.kept g6 (by have:=HLT.out;simp;omega))
  have G6:=qh (grown_two GU.out g6 (by have:=HLT.out;omega))
  clear r6 g6 b0 v4
  obtain ⟨A9,c9,hbx,-,-⟩:=R6.out.box
  have HCE:Hid (∀ z:World,w6.grownBy z (some w.heap.size)→z.cell? ⟨w1.heap.size,3,none⟩=some (.int .i64 s.pos)∧z.cell? ⟨w1.heap.size,4,none⟩=some (.int .i64 5)):=qh fun z hz=>⟨(hbx.kept hz (by have:=HLT.out;simp;omega)).cell rfl,(hbx.kept hz (by have:=HLT.out;simp;omega)).cell rfl⟩
  have e4:=(HCE.out _ (grown_refl _ _)).2
  clear hbx
  go_wp2_with fail
  clear e4
  refine wp_region_E (S:=fun z=>z.cell? ⟨w1.heap.size,3,none⟩=some (.int .i64 s.pos)∧z.cell? ⟨w1.heap.size,4,none⟩=some (.int .i64 5)) [11] (by kernel_rfl) (HCE.out _ (grown_draw (grown_refl _ _))) (fun hHeld hZ=>?_)
  refine' eY 0 hHeld hZ fun hZ=>?_
  try simp only [Act.put,ZA,ZB,ZD,ZE,ZF]
  refine' eY 1 hHeld hZ fun hZ=>?_
  try simp only [Act.put,ZA,ZB,ZC,ZD,ZE,ZF]
  refine' eY 2 hHeld hZ fun hZ=>?_
  try simp only [Act.put,ZA,ZB,ZC,ZD,ZE,ZF]
  refine' eY 3 hHeld hZ fun hZ=>?_
  try simp only [Act.put,ZA,ZB,ZC,ZD,ZE,ZF]
  refine' eY 4 hHeld hZ fun hZ=>?_
  try simp only [Act.put,ZA,ZB,ZC,ZD,ZE,ZF]
  refine' eY 5 hHeld hZ fun hZ=>?_
  try simp only [Act.put,ZA,ZB,ZC,ZD,ZE,ZF]
  refine' eY 6 hHeld hZ fun hZ=>?_
  try simp only [Act.put,ZA,ZB,ZC,ZD,ZE,ZF]
  refine' eY 7 hHeld hZ fun hZ=>?_
  try simp only [Act.put,ZA,ZB,ZC,ZD,ZE,ZF]
  refine' eY 8 hHeld hZ fun hZ=>?_
  try simp only [Act.put,ZA,ZB,ZC,ZD,ZE,ZF]
  refine eA 9 fun K hK=>?_
  refine step_box w6.drew _ _ w.heap.size ndZero ndZero rfl rfl rfl rfl rfl (by exact X6.out.same rfl) rfl (ndInfo rfl) (by simp [ndZero,Value.oneCell']) ?_
  intro w8 x8 g8
  have X8:=qh x8
  have G8:=qh (grown_two (grown_draw G6.out) g8 (Nat.le_refl _))
  refine eB hK hZ (HCE.out _ ((grown_draw (grown_refl _ _)).trans g8)) fun hHeld hZ=>?_
  clear hK K
  try simp only [Act.put,ZA,ZB,ZC,ZD,ZE,ZF]
  refine' eX 10 hZ fun hZ=>?_
  try simp only [Act.put,ZA,ZB,ZC,ZD,ZE,ZF]
  refine' eX 11 hZ fun hZ=>?_
  try simp only [Act.put,ZA,ZB,ZC,ZD,ZE,ZF]
  refine wpAnyE_done (by kernel_rfl) ?_ _
  clear hZ
  clear x8 g8
  go_wp2_with fail
  (try simp only [Exit.inBlock,Exit.then])
  exact bodyPost_ret (results_box2 rfl _ _ w.heap.size 25 _ _ rfl X8.out Tryz.underlying25 rfl (ndInfo rfl)) rfl ⟨rfl,below_row_none G8.out (Nat.le_refl _)⟩
theorem rparse16_any (w:World) (A:Option Addr) (l:List Int) (c:Nat) (f:Int) (h:Lies w w.heap.size A (ints .i64 l)) (hwf:∀ x∈l,(Lit.int .i64 x).wf=true) :
 Calls Tryz.prog 16 #[.slice A l.length c,.int .i64 f] w (ParseTo w (parseD l f)):=by
 unfold parseD
 by_cases hf:f < 0∨7 < f
 ·rw [if_pos hf]
  exact gparse_flag w A l c f hf
 ·rw [if_neg hf]
  have hf:0≤f∧f≤7:=by omega
  rcases ho:ofT l with ⟨p,x⟩ | T
  ·exact gparse_wrong w A l c f hf h hwf p x (of_bad ho).2.2.1 ho
  ·exact gparse_tree w A l c f hf h hwf T ho
end
section
open Go.RowKit
mutual
theorem cnt_size:∀ n:Nd,sizeI n≤400→(cntN n:Int)≤sizeI n
 | .mk k lo hi rs ks,h=>by
  have ht:=times_pos k lo hi
  have hs:=sumI_nn ks
  rw [sizeI] at h ⊢
  rw [cntN]
  have hm:sumI ks≤sumI ks * min (timesI k lo hi) 1000000:=by
   have:=Int.mul_le_mul_of_nonneg_left (show (1:Int)≤min (timesI k lo hi) 1000000 by omega) hs
   omega
  unfold finI at h ⊢
  generalize sumI ks * min (timesI k lo hi) 1000000=m at hm h ⊢
  have h2:=cnt_sizes ks
  split at h
  ·omega
  ·rename_i hc
   rw [if_neg hc]
   have:=h2 (by omega)
   omega
theorem cnt_sizes:∀ ns:List Nd,sumI ns≤400→(cntL ns:Int)≤sumI ns
 | [],_=>by rw [cntL,sumI];omega
 | n :: ns,h=>by
  rw [sumI] at h ⊢
  rw [cntL]
  have h1:=sizeI_in n
  have h2:=sumI_nn ns
  have h3:=cnt_size n (by omega)
  have h4:=cnt_sizes ns (by omega)
  omega
end
mutual
theorem rng_cnt:∀ n:Nd,allN n=true→rngN n≤500 * cntN n∧deepN n≤cntN n
 | .mk k lo hi rs ks,h=>by
  rw [allN,Bool.and_eq_true] at h
  have h1:=few_rs h.1
  have h2:=rng_cnts ks h.2
  rw [rngN,cntN,deepN]
  omega
theorem rng_cnts:∀ ns:List Nd,allL ns=true→rngL ns≤500 * cntL ns∧deepL ns≤cntL ns
 | [],_=>by rw [rngL,cntL,deepL];omega
 | n :: ns,h=>by
  rw [allL,Bool.and_eq_true] at h
  have h1:=rng_cnt n h.1
  have h2:=rng_cnts ns h.2
  rw [rngL,cntL,deepL]
  omega
end
theorem right_small {n:Nd} (h:sizeI n≤400):rightC n=rightN n:=by
 unfold rightC rightN
 rcases ha:allN n with _ | _
 ·simp
 ·have h0:=cnt_size n h
  have h1:=rng_cnt n ha
  have h2:=cI_is n (by omega) (by omega) (by omega)
  rw [h2]
  simp only
  have e1:decide ((cntN n:Int)≤400)=decide (cntN n≤400):=by rw [Bool.eq_iff_iff];simp;omega
  have e2:decide ((rngN n:Int)≤400)=decide (rngN n≤400):=by rw [Bool.eq_iff_iff];simp;omega
  have e3:decide ((deepN n:Int)≤100)=decide (deepN n≤100):=by rw [Bool.eq_iff_iff];simp;omega
  rw [e1,e2,e3]
theorem rtext_any {w:World} {P:Nat→Prop} {n:Nd} {v:Array Value} (h:Treed w P n v):allN n=true→cntN n≤400∧rngN n≤400→WroteD w P n v:=by
 induction h with
 | @mk k lo hi rs ks A A' c c' vs h1 hc h0 h2 hc' hk ih =>
  intro ha hb u hu
  rw [allN,Bool.and_eq_true] at ha
  rw [cntN,rngN] at hb
  obtain ⟨hkk,hz,hr,hks,h34,h5,hset⟩:=node_plain ha.1
  have HK:KidsD w P A' ks vs:=⟨h0,h2,fun i i1 i2=>⟨hk i i1 i2,ih i i1 i2 (all_mem ha.2 _ (List.getElem_mem i2)) (by have:=cntN_at i i2;omega)⟩,by have a:=hc'.1;have b:=hc'.2;unfold maxLen at b;omega⟩
  rw [textN_form]
  rcases hkk with rfl | rfl | rfl | rfl | rfl | rfl | rfl
  ·rw [if_pos rfl];exact rtext_empty u lo hi A A' rs.length c ks.length c'
  ·rw [if_neg (by decide),if_neg (by decide),if_neg (by decide),if_pos rfl]
   exact rtext_set u lo hi A A' rs c ks.length c' ((h1.keep hu.1 hu.2).lies) (by omega)
  ·rw [if_neg (by decide),if_neg (by decide),if_neg (by decide),if_neg (by decide),if_pos rfl,join_sev]
   exact rtext_join HK u hu lo hi A rs.length c c' (joinTx_le ha.2 (by omega))
  ·rw [if_neg (by decide),if_neg (by decide),if_neg (by decide),if_neg (by decide),if_neg (by decide),if_pos rfl,or_sev]
   exact rtext_or HK u hu lo hi A rs.length c c' (orTx_le ha.2 (by omega))
  ·rw [if_neg (by decide),if_neg (by decide),if_neg (by decide),if_neg (by decide),if_neg (by decide),if_neg (by decide)]
   have h5:=h5 rfl
   obtain ⟨m,rfl⟩:∃ m,ks=[m]:=by
    rcases ks with _ | ⟨a,_ | ⟨b,ks⟩⟩
    ·simp at h5
    ·exact ⟨a,rfl⟩
    ·simp at h5
   obtain ⟨v1,rfl⟩:∃ v1,vs=[v1]:=by
    rcases vs with _ | ⟨a,_ | ⟨b,vs⟩⟩
    ·simp at h0
    ·exact ⟨a,rfl⟩
    ·simp at h0
   have hn:=ha.1
   simp [nodeI] at hn
   have ha2:=ha.2
   rw [allL,Bool.and_eq_true] at ha2
   have hl:=textN_len m ha2.1
   rw [cntL,rngL,cntL,rngL] at hb
   exact rtext_repeat HK u hu lo hi A rs.length c c' (by omega) (by omega) (by omega) (by omega)
  ·rw [if_neg (by decide),if_pos rfl];exact rtext_start u lo hi A A' rs.length c ks.length c'
  ·rw [if_neg (by decide),if_neg (by decide),if_pos rfl];exact rtext_stop u lo hi A A' rs.length c ks.length c'
theorem rpattern_any {w:World} {P:Nat→Prop} {n:Nd} {v:Array Value} (h:Treed w P n v) (u:World) (hu:Agree w P u) (he:rightC n=rightN n) :
 Calls Tryz.prog 10 #[.agg v] u (Rowed2 u u.heap.size 3 (ints .i64 (patI n).1) (patI n).2):=by
 obtain ⟨A,m,c,lo,hi,A',m',c',hv⟩:=h.kind
 obtain ⟨kn,hkn⟩:∃ x,kindN n=x:=⟨_,rfl⟩
 rw [hkn] at hv
 subst hv
 have X0:Hid (Box (u.alloc (.cells #[.int .i64 kn,.slice A m c,.int .i64 lo,.int .i64 hi,.slice A' m' c'] 25)) u.heap.size #[.int .i64 kn,.slice A m c,.int .i64 lo,.int .i64 hi,.slice A' m' c'] 25):=qh (Box.new u _ _)
 have G0:Hid (u.grownBy (u.alloc (.cells #[.int .i64 kn,.slice A m c,.int .i64 lo,.int .i64 hi,.slice A' m' c'] 25)) none):=qh (grown_new u _ none)
 have hR:=rright_any h _ (hu.grown G0.out).1 (hu.grown G0.out).2
 rw [he] at hR
 have HR:=qh hR
 have HW:Hid (rightN n=true→∀ x,u.grownBy x none→Calls Tryz.prog 19 #[.agg #[.int .i64 kn,.slice A m c,.int .i64 lo,.int .i64 hi,.slice A' m' c']] x (Rowed x x.heap.size 3 (ints .i64 (textN n)))):=qh fun hr x g=>by
  unfold rightN at hr
  simp only [Bool.and_eq_true,decide_eq_true_eq] at hr
  exact rtext_any h hr.2 ⟨hr.1.1.1,hr.1.1.2⟩ x (hu.grown g)
 have HS:=qh (fun hr=>text_short (n:=n) hr)
 obtain ⟨r,hr⟩:∃ r,rightN n=r:=⟨_,rfl⟩
 obtain ⟨tx,htx⟩:∃ t,textN n=t:=⟨_,rfl⟩
 have HPI:Hid (patI n=if r=false then ([],1) else if 200 < tx.length then ([],10) else (tx,0)):=qh (by unfold patI;rw [hr,htx])
 rw [hr] at HR HW HS
 rw [htx] at HW HS
 rw [HPI.out]
 clear h hu he hR hkn hr htx
 rcases r with _ | _
 ·rw [if_pos rfl]
  go_enter Tryz.func10,Tryz.ntmps10
  go_wp2_with fail
  refine HR.out.mono ?_
  rintro e w1 ⟨rfl,g1⟩
  have G1:=qh (G0.out.trans g1)
  clear g1
  go_wp2_with fail
  go_ret2
  exact ⟨_,rfl,Own.empty _ _ _,below_row_none G1.out (Nat.le_refl _)⟩
 ·rw [if_neg (by simp)]
  have hs:=HS.out rfl
  rcases hd:decide (200 < (tx.length:Int)) with _ | _
  ·have hl:¬ 200 < tx.length:=by simp at hd;omega
   rw [if_neg hl]
   have HL:=qh hl
   clear hl
   go_enter Tryz.func10,Tryz.ntmps10
   go_wp2_with fail
   refine HR.out.mono ?_
   rintro e w1 ⟨rfl,g1⟩
   have X1:=qh (X0.out.kept g1 (by simp))
   have G1:=qh (G0.out.trans g1)
   clear g1
   have e0:w1.cell? ⟨u.heap.size,0,none⟩=some (.int .i64 kn):=X1.out.cell rfl
   have e1:w1.cell? ⟨u.heap.size,1,none⟩=some (.slice A m c):=X1.out.cell rfl
   have e2:w1.cell? ⟨u.heap.size,2,none⟩=some (.int .i64 lo):=X1.out.cell rfl
   have e3:w1.cell? ⟨u.heap.size,3,none⟩=some (.int .i64 hi):=X1.out.cell rfl
   have e4:w1.cell? ⟨u.heap.size,4,none⟩=some (.slice A' m' c'):=X1.out.cell rfl
   go_wp2_with fail
   refine (HW.out (by trivial) _ G1.out).mono ?_
   rintro e w2 ⟨v2,rfl,o2,b2⟩
   obtain ⟨A2,c2,rfl,-,-,-⟩:=o2.form
   have O2:=qh o2
   have B2:=qh (below_then (below_row_none G1.out (Nat.le_refl _)) b2)
   have HZ:=qh G1.out.size
   clear o2 b2 e0 e1 e2 e3 e4
   simp only [ints,List.length_map]
   go_wp2_with fail
   go_ret2
   exact ⟨_,rfl,by simpa [ints] using O2.out.weaken HZ.out,B2.out⟩
  ·have hl:200 < tx.length:=by simp at hd;omega
   rw [if_pos hl]
   have HL:=qh hl
   clear hl
   go_enter Tryz.func10,Tryz.ntmps10
   go_wp2_with fail
   refine HR.out.mono ?_
   rintro e w1 ⟨rfl,g1⟩
   have X1:=qh (X0.out.kept g1 (by simp))
   have G1:=qh (G0.out.trans g1)
   clear g1
   have e0:w1.cell? ⟨u.heap.size,0,none⟩=some (.int .i64 kn):=X1.out.cell rfl
   have e1:w1.cell? ⟨u.heap.size,1,none⟩=some (.slice A m c):=X1.out.cell rfl
   have e2:w1.cell? ⟨u.heap.size,2,none⟩=some (.int .i64 lo):=X1.out.cell rfl
   have e3:w1.cell? ⟨u.heap.size,3,none⟩=some (.int .i64 hi):=X1.out.cell rfl
   have e4:w1.cell? ⟨u.heap.size,4,none⟩=some (.slice A' m' c'):=X1.out.cell rfl
   go_wp2_with fail
   refine (HW.out (by trivial) _ G1.out).mono ?_
   rintro e w2 ⟨v2,rfl,o2,b2⟩
   obtain ⟨A2,c2,rfl,-,-,-⟩:=o2.form
   have B2:=qh (below_then (below_row_none G1.out (Nat.le_refl _)) b2)
   clear o2 b2 e0 e1 e2 e3 e4
   simp only [ints,List.length_map]
   go_wp2_with fail
   go_ret2
   exact ⟨_,rfl,Own.empty _ _ _,B2.out⟩
theorem rneat_any (w:World) (A:Option Addr) (l:List Int) (c:Nat) (f:Int) (h:Lies w w.heap.size A (ints .i64 l)) (hwf:∀ x∈l,(Lit.int .i64 x).wf=true) :
 Calls Tryz.prog 12 #[.slice A l.length c,.int .i64 f] w (Neat3 w (neatI l f)):=by
 have HC:=qh (rparse16_any w A l c f h hwf)
 unfold neatI
 rcases hp:parseD l f with ⟨p,x⟩ | n
 ·have hx:=parse_err hp
  rw [hp] at HC
  have d0:(x != 0)=true:=by simpa using hx
  clear h hwf hp hx
  go_enter Tryz.func12,Tryz.ntmps12
  go_wp2_with fail
  refine HC.out.mono ?_
  rintro e w1 ⟨rfl,b1⟩
  have B1:=qh b1
  clear b1
  unfold ndZero
  go_wp2_with fail
  go_ret3
  exact ⟨_,rfl,Own.empty _ _ _,below_then B1.out (below_alloc w1 _)⟩
 ·rw [hp] at HC
  obtain ⟨pt,hpt⟩:∃ x,patI n=x:=⟨_,rfl⟩
  have HPT:=qh hpt
  have HSZ:=qh (right_small (parsed_small hp).1)
  clear h hwf hp hpt
  go_enter Tryz.func12,Tryz.ntmps12
  go_wp2_with fail
  refine HC.out.mono ?_
  rintro e w1 ⟨v,rfl,t1,b1⟩
  obtain ⟨k,Ar,m,c1,lo,hi,A',m',c',hv⟩:=t1.form
  subst hv
  have B1:=qh b1
  have B2:Hid (Below w.heap.size w (w1.alloc (.cells #[.int .i64 k,.slice Ar m c1,.int .i64 lo,.int .i64 hi,.slice A' m' c'] 25))):=qh (below_then b1 (below_alloc w1 _))
  have HCP:=rpattern_any t1 (w1.alloc (.cells #[.int .i64 k,.slice Ar m c1,.int .i64 lo,.int .i64 hi,.slice A' m' c'] 25)) ⟨fun b _ hl=>(grown_new w1 _ none).block b hl (by simp),(grown_new w1 _ none).size⟩ HSZ.out
  rw [HPT.out] at HCP
  obtain ⟨px,pe⟩:=pt
  have HCQ:=qh HCP
  clear t1 b1 HCP
  go_wp2_with fail
  refine HCQ.out.mono ?_
  rintro e w2 ⟨v2,rfl,o2,b2⟩
  have O2:=qh o2
  have B3:=qh (below_then B2.out b2)
  have HZ:=qh B2.out.size
  clear o2 b2
  go_wp2_with fail
  go_ret3
  unfold Neat3
  rw [HPT.out]
  exact ⟨_,rfl,O2.out.weaken HZ.out,B3.out⟩
end
section
open Go.RowKit
def liveL:List Int:=[40,97,124,91,98,99,93,41,123,48,44,125,92,46]
def liveR:List Int:=[40,97,124,91,98,45,99,93,41,42,92,46]
def liveT:List Tok:=[⟨3,0,0,0,0⟩,⟨1,97,0,0,1⟩,⟨5,0,0,0,2⟩,⟨7,0,0,0,3⟩,⟨1,98,0,0,4⟩,⟨1,99,0,0,5⟩,⟨8,0,0,0,6⟩,⟨4,0,0,0,7⟩,⟨6,0,0,-1,8⟩,⟨1,46,0,0,12⟩]
def liveN:Nd:=.mk 3 0 0 [] [.mk 5 0 (-1) [] [.mk 4 0 0 [] [.mk 2 0 0 [(97,97)] [],.mk 2 0 0 [(98,99)] []]],.mk 2 0 0 [(46,46)] []]
theorem live_of:ofT liveL=.ok liveT:=by rfl
theorem live_fault:faultT liveL.length liveT 0 3=(0,0):=by decide
theorem live_char {c p lo hi:Int} (h0:0≤c) (h1:c≤topR):partR 0 ⟨1,c,lo,hi,p⟩=[(c,c)]:=by
 unfold partR
 rw [if_neg (by simp),if_pos rfl]
 exact part_zero h0 (Int.le_refl _) h1
theorem live_set:classR false [(98,98),(99,99)]=[(98,99)]:=by
 unfold classR
 rw [if_neg (by simp)]
 refine setP_is (by simp [Canon,topR]) fun c h0 h1=>?_
 rw [Bool.eq_iff_iff]
 simp [hasR,inR]
 omega
theorem live_pat:patT 0 201 21 liveT=some (liveN,[]):=by
 have e97:partR 0 ⟨1,97,0,0,1⟩=[(97,97)]:=live_char (by decide) (by decide)
 have e98:partR 0 ⟨1,98,0,0,4⟩=[(98,98)]:=live_char (by decide) (by decide)
 have e99:partR 0 ⟨1,99,0,0,5⟩=[(99,99)]:=live_char (by decide) (by decide)
 have e46:partR 0 ⟨1,46,0,0,12⟩=[(46,46)]:=live_char (by decide) (by decide)
 have es:=live_set
 simp [patT,liveT,joinT,joinL,orL,rpT,oneT,setT,classL,e97,e98,e99,e46,es,kindIs,dropIs,lazyT,togT,liveN]
theorem live_size:sizeI liveN≤400:=by
 have:sizeI liveN=6:=by
  simp [liveN,sizeI,sumI,finI,timesI]
  try decide
 omega
theorem live_dP:dP 0 liveL.length 201 liveT=.ok liveN:=by
 rcases of_same 0 live_of with ⟨n,h1,h2,h3⟩ | ⟨h1,h2⟩
 ·rw [live_pat] at h3
  injection h3 with h3
  injection h3 with h3
  rw [h1,h3]
 ·rw [live_fault] at h2;exact absurd rfl h2
theorem live_parse:parseD liveL 0=.ok liveN:=by
 unfold parseD
 rw [if_neg (by decide),live_of]
 simp only
 rw [live_dP]
 simp only
 rw [if_neg (by have:=live_size;omega)]
theorem set_is {R:List (Int×Int)} (h:Canon 0 R) (hl:R.length≤500):setR R=R:=by
 rw [setR_small (by omega)]
 exact setP_is h fun _ _ _=>rfl
theorem live_right:rightN liveN=true:=by
 have s1:setR [(97,97)]=[(97,97)]:=set_is (by simp [Canon,topR]) (by decide)
 have s2:setR [(98,99)]=[(98,99)]:=set_is (by simp [Canon,topR]) (by decide)
 have s3:setR [(46,46)]=[(46,46)]:=set_is (by simp [Canon,topR]) (by decide)
 simp [rightN,liveN,cntN,cntL,rngN,rngL,deepN,deepL,allN,allL,nodeI,s1,s2,s3]
theorem live_text:textN liveN=liveR:=by
 simp [liveN,textN,joinTx,orTx,setI,itemsI,quoC,signI,inBr,kindN,timesT,liveR]
theorem live_neat:neatI liveL 0=(liveR,0,0):=by
 unfold neatI
 rw [live_parse]
 simp only
 have:patI liveN=(liveR,0):=by
  unfold patI
  rw [live_right,live_text,if_neg (by simp),if_neg (by decide)]
 rw [this]
theorem live_nine:patI (.mk 9 0 0 [] [])=([],1):=by
 have:rightN (.mk 9 0 0 [] [])=false:=by simp [rightN,allN,nodeI]
 unfold patI
 rw [this,if_pos rfl]
theorem live_empty:rightN (.mk 1 0 0 [] [])=true:=by
 simp [rightN,cntN,cntL,rngN,rngL,deepN,deepL,allN,allL,nodeI]
end
section
open Go.ChangeShapes Go.WideShapes Go.ChangeAt Go.RowKit
abbrev laidList4:List (String×DataW Unit):=[("math/bits.deBruijn32tab",Rows.laid_math_bits_deBruijn32tab),("math/bits.deBruijn64tab",Rows.laid_math_bits_deBruijn64tab),("internal/strconv.uint64pow10",Rows.laid_internal_strconv_uint64pow10),("ductus/fold.folded",Rows.laid_ductus_fold_folded)]
theorem pow_data:(Rows.laid_internal_strconv_uint64pow10:DataW Unit)=Lib.tabData .u64 Lib.pow10Tab:=by kernel_rfl
theorem gPowT:(Tryz.prog.globals[0]?).map (·.type)=some 137:=by kernel_rfl
structure Tabs4 (W:World):Prop where
 fo:FoTabs W
 pow:PowT W
theorem tabs_of4 {W:World} (h:laidMetH Tryz.prog laidList4 W):Tabs4 W:=by
 have hm:laidMet Tryz.prog laidList4 W:=h
 have h3:Lib.VarReads Tryz.prog W "internal/strconv.uint64pow10" _:=Lib.laidMet.reads hm (d:=Rows.laid_internal_strconv_uint64pow10) (by simp [laidList4])
 rw [pow_data] at h3
 obtain ⟨g,t,cs,fuel,p,hg,hty,hvar,hd⟩:=h3
 obtain rfl:=Option.some.inj (gPow.symm.trans hg)
 obtain rfl:=Option.some.inj (gPowT.symm.trans hty)
 have ht:Lib.TabIs Tryz.prog W "internal/strconv.uint64pow10" .u64 Lib.pow10Tab:=by
  unfold Lib.TabIs
  rw [hvar,← Lib.cells_of_tab Tryz.underlying137 Tryz.underlying118 (by kernel_rfl) (by kernel_rfl) hd]
 have hc:=ht.cell gPow 0 (by rw [Lib.pow10Tab_length];decide)
 exact ⟨tabs_of (laidMet.tail (laidMet.tail (laidMet.tail hm))),World.block_lt_of_cell? W _ hc,ht⟩
def b32Cells:List Value:=[0,1,28,2,29,14,24,3,30,22,20,15,25,17,4,8,31,27,13,23,21,19,16,7,26,12,18,6,11,5,10,9].map (Value.int .u8)
def b64Cells:List Value:=[0,1,56,2,57,49,28,3,61,58,42,50,38,29,17,4,62,47,59,36,45,43,51,22,53,39,33,30,24,18,12,5,63,55,48,27,60,41,37,16,46,35,44,21,52,32,23,11,54,26,40,15,34,20,31,10,25,14,19,9,13,8,7,6].map (Value.int .u8)
def powCells:List Value:=Lib.pow10Tab.map (Value.int .u64)
noncomputable def laidWorld4 (os:Os) (args:Array Value):World :=
 { World.holding Tryz.prog os ⟨#[],args,[]⟩ with heap:=((((World.holding Tryz.prog os ⟨#[],args,[]⟩).heap.modify 3 (withCells rowCells)).modify 0 (withCells powCells)).modify 1 (withCells b32Cells)).modify 2 (withCells b64Cells) }
end
end Go.Proofs.YtoeocodfndbebaaGreatDoor
