/- Shared texts, shaken for one claim. -/
import Derived.Test.YtoeocodfndbebaaGreatDoorZC17
import Derived.Test.YtoeocodfndbebaaGreatDoorZC18
import Derived.Test.YtoeocodfndbebaaGreatDoorZC22
import Derived.Test.YtoeocodfndbebaaGreatDoorZC25
import Derived.Test.YtoeocodfndbebaaGreatDoorZC27
set_option maxRecDepth 20000
set_option maxHeartbeats 16000000
namespace Go.Proofs.YtoeocodfndbebaaGreatDoor
section
open Go.RowKit
theorem rtext_repeat {w:World} {P:Nat→Prop} {A':Option Addr} {n1:Nd} {v1:Array Value} (h:KidsD w P A' [n1] [v1]) (u:World) (hu:Agree w P u) (lo hi:Int) (A:Option Addr) (n c c':Nat) (h0:0≤lo) (h1:lo≤20) (h2:hi=-1∨lo≤hi∧hi≤20) (hb:(textN n1).length≤9000) :
 Calls Tryz.prog 19 #[.agg #[.int .i64 5,.slice A n c,.int .i64 lo,.int .i64 hi,.slice A' 1 c']] u (Rowed u u.heap.size 3 (ints .i64 (pieceI [3,4,5] n1++timesT lo hi))):=by
 obtain ⟨ht,hw⟩:=h.kid 0 (by simp) (by simp)
 simp only [List.getElem_cons_zero] at ht hw
 obtain ⟨g,off,rfl,hg,-⟩:=kid_at h.lies (fun v hv=>by simp at hv;rw [hv];exact ht.size) (fun _ _ _=>rfl) (i:=0) (by simp)
 obtain ⟨Ar,nr,cr,lo1,hi1,Ak,nk,ck,hv⟩:=ht.kind
 obtain ⟨ua,hua,x0,b0,hz,g0⟩:=box_ahead u #[.int .i64 5,.slice A n c,.int .i64 lo,.int .i64 hi,.slice (some ⟨g,off,none⟩) 1 c']
 have hcells:∀ x,Agree w P x→∀ j,j < 5→x.cell? ⟨g,off+j,none⟩=v1[j]?:=fun x hx j hj=>by
  obtain ⟨g',off',hA,-,hc⟩:=kid_at h.lies (fun v hv=>by simp at hv;rw [hv];exact ht.size) hx.1 (i:=0) (by simp)
  injection hA with hA
  injection hA with e1 e2
  subst e1 e2
  simpa using hc j hj
 have HUA:=qh hua
 have X0:=qh x0
 have BA:=qh b0
 have HZ:=qh hz
 have HU:=qh (hu.grown g0)
 have HWI:=qh (fun x (b:Below ua.heap.size ua x) (K:Option Addr) (kc:Nat) (hK:Lies x x.heap.size K (ints .i64 [3,4,5]))=>rwithin_any ht hw x (HU.out.below b) K [3,4,5] kc hK (by simp) (by omega))
 have hcu:=hcells _ HU.out
 rw [hv] at HWI hcu
 rw [show inBr (([3,4,5]:List Int).contains (kindN n1)) (textN n1)=pieceI [3,4,5] n1 from rfl] at HWI
 obtain ⟨k1,hk1⟩:∃ x,kindN n1=x:=⟨_,rfl⟩
 rw [hk1] at HWI hcu
 have hpl:(pieceI [3,4,5] n1).length≤9002:=by have:=inBr_len (([3,4,5]:List Int).contains (kindN n1)) (textN n1);unfold pieceI;omega
 obtain ⟨pc,hpc⟩:∃ x,pieceI [3,4,5] n1=x:=⟨_,rfl⟩
 rw [hpc] at HWI hpl ⊢
 have r0:ua.cell? ⟨g,off,none⟩=some (.int .i64 k1):=by have:=hcu 0 (by decide);rw [Nat.add_zero] at this;exact this
 have r1:ua.cell? ⟨g,off+1,none⟩=some (.slice Ar nr cr):=hcu 1 (by decide)
 have r2:ua.cell? ⟨g,off+2,none⟩=some (.int .i64 lo1):=hcu 2 (by decide)
 have r3:ua.cell? ⟨g,off+3,none⟩=some (.int .i64 hi1):=hcu 3 (by decide)
 have r4:ua.cell? ⟨g,off+4,none⟩=some (.slice Ak nk ck):=hcu 4 (by decide)
 have e4:ua.cell? ⟨u.heap.size,4,none⟩=some (.slice (some ⟨g,off,none⟩) 1 c'):=X0.out.cell rfl
 have HPL:=qh hpl
 have HDL:=qh (fun z=>rdigits_any z lo h0 h1)
 have hdl:=digI_len lo.toNat (by omega)
 have HDLL:=qh hdl
 have HF:=qh (fun z (b:Below ua.heap.size ua z)=>And.intro (show z.cell? ⟨u.heap.size,2,none⟩=some (.int .i64 lo) from (X0.out.below b HZ.out).cell rfl) (show z.cell? ⟨u.heap.size,3,none⟩=some (.int .i64 hi) from (X0.out.below b HZ.out).cell rfl))
 have HH:=qh h2
 have HLO:=qh (And.intro h0 h1)
 have LK:Hid (Lies (ua.alloc (.cells #[.int .i64 3,.int .i64 4,.int .i64 5] 3)) (ua.alloc (.cells #[.int .i64 3,.int .i64 4,.int .i64 5] 3)).heap.size (some ⟨u.heap.size+1,0,none⟩) (ints .i64 [3,4,5])):=qh (by
  have hsz:ua.heap.size=u.heap.size+1:=by rw [← HUA.out,World.size_alloc]
  rw [← hsz]
  exact Lies.litUp (w:=ua) (e:=3) #[.int .i64 3,.int .i64 4,.int .i64 5])
 have B0:=qh (below_alloc ua (.cells #[.int .i64 3,.int .i64 4,.int .i64 5] 3))
 obtain ⟨T,hT⟩:∃ T,timesT lo hi=T:=⟨_,rfl⟩
 rw [hT]
 have HT:=qh hT
 rw [← HUA.out] at r0 r1 r2 r3 r4 e4
 clear h ht hw hg hcells hcu hv hk1 hpc hpl hdl hua x0 b0 hz g0 hu hb h0 h1 h2 hT
 go_enter Tryz.func19,Tryz.ntmps19
 go_wp2_with fail
 rw [HUA.out]
 refine (HWI.out _ B0.out _ 3 LK.out).mono ?_
 rintro e w1 ⟨v1,rfl,o1,b1⟩
 have O1:=qh (o1.weaken B0.out.size)
 have B1:=qh (B0.out.trans (b1.mono B0.out.size))
 obtain ⟨e2,e3⟩:=HF.out w1 B1.out
 clear o1 b1 r0 r1 r2 r3 r4 e4
 obtain ⟨b0,hb0⟩:∃ b,(lo == 0)=b:=⟨_,rfl⟩
 obtain ⟨b1,hb1⟩:∃ b,(lo == 1)=b:=⟨_,rfl⟩
 obtain ⟨b2,hb2⟩:∃ b,(hi == 1)=b:=⟨_,rfl⟩
 obtain ⟨b3,hb3⟩:∃ b,(hi == -1)=b:=⟨_,rfl⟩
 by_cases hA:lo=0∧hi=1
 ·obtain ⟨rfl,rfl⟩:=hA
  simp at hb0 hb1 hb2 hb3
  subst hb0 hb1 hb2 hb3
  have hz:([63]:List Int)=T:=by rw [← HT.out,timesT];simp
  subst hz
  go_wp2_with (first
   | (at_builtin;refine app_lit intsT ua w1 ua.heap.size _ _ #[.int .i64 63] 1 _ _ rfl rfl rfl rfl O1.out (by simp [Value.oneCell']) B1.out B1.out.size (by have:=HPL.out;unfold maxLen;simp;omega) (by have:=HPL.out;simp;omega) ?_;intro v2 w2 o2 b2 _ _;have O2:=qh o2;have B2:=qh b2;clear o2 b2)
   | fail)
  go_ret
  exact rowed_ret (O2.out.weaken (by have:=HZ.out;omega)) (below_then BA.out B2.out) (by simp [ints])
 by_cases hB:lo=0∧hi=-1
 ·obtain ⟨rfl,rfl⟩:=hB
  simp at hb0 hb1 hb2 hb3
  subst hb0 hb1 hb2 hb3
  have hz:([42]:List Int)=T:=by rw [← HT.out,timesT];simp
  subst hz
  go_wp2_with (first
   | (at_builtin;refine app_lit intsT ua w1 ua.heap.size _ _ #[.int .i64 42] 1 _ _ rfl rfl rfl rfl O1.out (by simp [Value.oneCell']) B1.out B1.out.size (by have:=HPL.out;unfold maxLen;simp;omega) (by have:=HPL.out;simp;omega) ?_;intro v2 w2 o2 b2 _ _;have O2:=qh o2;have B2:=qh b2;clear o2 b2)
   | fail)
  go_ret
  exact rowed_ret (O2.out.weaken (by have:=HZ.out;omega)) (below_then BA.out B2.out) (by simp [ints])
 by_cases hC:lo=1∧hi=-1
 ·obtain ⟨rfl,rfl⟩:=hC
  simp at hb0 hb1 hb2 hb3
  subst hb0 hb1 hb2 hb3
  have hz:([43]:List Int)=T:=by rw [← HT.out,timesT];simp
  subst hz
  go_wp2_with (first
   | (at_builtin;refine app_lit intsT ua w1 ua.heap.size _ _ #[.int .i64 43] 1 _ _ rfl rfl rfl rfl O1.out (by simp [Value.oneCell']) B1.out B1.out.size (by have:=HPL.out;unfold maxLen;simp;omega) (by have:=HPL.out;simp;omega) ?_;intro v2 w2 o2 b2 _ _;have O2:=qh o2;have B2:=qh b2;clear o2 b2)
   | fail)
  go_ret
  exact rowed_ret (O2.out.weaken (by have:=HZ.out;omega)) (below_then BA.out B2.out) (by simp [ints])
 have HZ0:Hid (123 :: (digI lo.toNat++(if hi≠lo then 44 :: (if 0≤hi then digI hi.toNat else []) else [])++[125])=T):=qh (by
  rw [← HT.out,timesT,if_neg hA,if_neg hB,if_neg hC])
 have HP:Hid ((b0=true→b2=false∧b3=false)∧(b1=true→b3=false)):=qh (by
  subst hb0 hb1 hb2 hb3
  simp
  omega)
 clear hA hB hC HT
 obtain ⟨b4,hb4⟩:∃ b,(hi != lo)=b:=⟨_,rfl⟩
 obtain ⟨b5,hb5⟩:∃ b,decide (hi ≥ 0)=b:=⟨_,rfl⟩
 have hb5':decide (0≤hi)=b5:=hb5
 have HDH:Hid (b5=true→∀ z,Calls Tryz.prog 37 #[.int .i64 hi] z (Rowed z z.heap.size 3 (ints .i64 (digI hi.toNat)))):=qh fun hp z=>rdigits_any z hi (by rw [hp] at hb5;simpa using hb5) (by have:=HH.out;have:=HLO.out;omega)
 have HDHL:Hid (b5=true→(digI hi.toNat).length≤2):=qh fun _=>digI_len _ (by have:=HH.out;have:=HLO.out;omega)
 have HE:Hid ((if hi≠lo then 44 :: (if 0≤hi then digI hi.toNat else []) else [])=(if b4=true then 44 :: (if b5=true then digI hi.toNat else []) else [])):=qh (by subst hb4 hb5;simp)
 have HZT:Hid (123 :: (digI lo.toNat++(if b4=true then 44 :: (if b5=true then digI hi.toNat else []) else [])++[125])=T):=qh (by rw [← HE.out];exact HZ0.out)
 clear HZ0
 obtain ⟨D,hD⟩:∃ D,digI lo.toNat=D:=⟨_,rfl⟩
 obtain ⟨D2,hD2⟩:∃ D,digI hi.toNat=D:=⟨_,rfl⟩
 rw [hD] at HZT HDL HDLL
 rw [hD2] at HZT HDH HDHL
 clear hD hD2
 have HB1:Hid (b1=false∨b1=true∧b3=false):=qh (by have h:=HP.out.2;cases b1 <;> simp_all)
 have HB2:Hid (b0=true→b1=false):=qh (by subst hb0 hb1;simp;omega)
 have HMID:Hid (b0=true∨b0=false):=qh (by cases b0 <;> simp)
 have HMID2:Hid (b0=false∨b1=false):=qh (by subst hb0 hb1;simp;omega)
 clear HMID HMID2 HE HH HLO HWI LK B0
 rcases b0 with _ | _
 ·clear HP HB2
  rcases HB1.out with rfl | ⟨rfl,rfl⟩
  ·clear HB1
   go_wp2_with fail
   have O2:=qh (O1.out.alloc (.cells #[.int .i64 123] 3))
   have B2:=qh (B1.out.alloc B1.out.size (.cells #[.int .i64 123] 3))
   have L2:Hid (Lies (w1.alloc (.cells #[.int .i64 123] 3)) (w1.alloc (.cells #[.int .i64 123] 3)).heap.size (some ⟨w1.heap.size,0,none⟩) (ints .i64 [123])):=qh (Lies.litUp (w:=w1) (e:=3) #[.int .i64 123])
   refine wp_region_held_drew (S:=fun z=>z.cell? ⟨u.heap.size,2,none⟩=some (.int .i64 lo)∧z.cell? ⟨u.heap.size,3,none⟩=some (.int .i64 hi)) (by kernel_rfl) (HF.out _ (by exact below_same B1.out rfl rfl rfl rfl)) (fun hHeld=>?_)
   refine' hY 0 ?_
   try simp only [Act.put,ZA,ZB,ZD,ZE,ZF]
   refine' hY 3 ?_
   try simp only [Act.put,ZA,ZB,ZC,ZD,ZE,ZF]
   refine' hY 4 ?_
   try simp only [Act.put,ZA,ZB,ZC,ZD,ZE,ZF]
   refine hA 1 fun K hK=>?_
   go_simp
   go_wp2_with fail
   refine hK.out _ _ (HF.out _ (by exact below_same B2.out rfl rfl rfl rfl)) (fun hHeld=>?_)
   clear hK K
   try simp only [Act.put,ZA,ZB,ZC,ZD,ZE,ZF]
   refine hA 2 fun K hK=>?_
   refine step_app intsT ua _ ua.heap.size _ (.tmp 172) (.tmp 173) v1 (ints .i64 pc) (ints .i64 [123]) (some ⟨w1.heap.size,0,none⟩) 1 1 rfl rfl rfl rfl rfl (Own.same O2.out rfl) (Lies.sameHeap L2.out rfl) (ints_one _ _) (below_same B2.out rfl rfl rfl rfl) (by exact B2.out.size) (by have:=HPL.out;unfold maxLen;simp;omega) (by have:=HPL.out;simp;omega) ?_
   intro v3 w3 o3 b3 _ _
   have O3:=qh o3
   have B3:=qh b3
   clear o3 b3
   refine hK.out _ _ (HF.out _ B3.out) (fun hHeld=>?_)
   clear hK K
   try simp only [Act.put,ZA,ZB,ZC,ZD,ZE,ZF]
   refine hA 5 fun K hK=>?_
   go_simp
   refine (HDL.out _).mono ?_
   rintro e w4 ⟨v4,rfl,o4,b4⟩
   have O4:=qh (Own.below (by exact Own.same O3.out rfl) b4 (by exact Nat.le_refl _))
   have B4:Hid (Below ua.heap.size ua w4):=qh (Below.trans (by exact below_same B3.out rfl rfl rfl rfl) (b4.mono (by exact B3.out.size)))
   obtain ⟨A4,c4,rfl,l4,-,-⟩:=o4.form
   have L4:=qh l4
   clear o4 b4 l4
   simp only [ints,List.length_map]
   go_wp2_with fail
   refine hK.out _ _ (HF.out _ (by exact below_same B4.out rfl rfl rfl rfl)) (fun hHeld=>?_)
   clear hK K
   try simp only [Act.put,ZA,ZB,ZC,ZD,ZE,ZF]
   refine hA 6 fun K hK=>?_
   refine step_app intsT ua _ ua.heap.size _ (.tmp 174) (.tmp 177) v3 (ints .i64 pc++ints .i64 [123]) (ints .i64 D) A4 _ c4 rfl rfl rfl rfl (by simp) (Own.same O4.out rfl) (Lies.sameHeap L4.out rfl) (ints_one _ _) (below_same B4.out rfl rfl rfl rfl) (by exact B4.out.size) (by have:=HPL.out;have:=HDLL.out;unfold maxLen;simp;omega) (by have:=HPL.out;have:=HDLL.out;simp;omega) ?_
   intro v5 w5 o5 b5 _ _
   have O5:=qh o5
   have B5:=qh b5
   clear o5 b5
   refine hK.out _ _ (HF.out _ B5.out) (fun hHeld=>?_)
   clear hK K
   try simp only [Act.put,ZA,ZB,ZC,ZD,ZE,ZF]
   refine' hY 7 ?_
   try simp only [Act.put,ZA,ZB,ZC,ZD,ZE,ZF]
   refine wpAnyH_done (by kernel_rfl) ?_ _
   have B5D:=qh B5.out
   have O5D:Hid (Own w5 ua.heap.size 3 v5 (ints .i64 (pc++123 :: D))):=qh (by simpa [ints] using O5.out)
   obtain ⟨w6,hw6⟩:∃ x,w5=x:=⟨_,rfl⟩
   subst hw6
   clear e2 e3
   obtain ⟨e2,e3⟩:=HF.out w5 B5D.out
   clear O5 B5
   rcases b4 with _ | _
   ·have hz:123 :: (D++[125])=T:=by have h:=HZT.out;simpa using h
    subst hz
    go_wp2_with (first
     | (at_builtin;refine app_lit intsT ua w5 ua.heap.size _ _ #[.int .i64 125] 1 _ _ rfl rfl rfl rfl O5D.out (by simp [Value.oneCell']) B5D.out B5D.out.size (by have:=HPL.out;have:=HDLL.out;unfold maxLen;simp;omega) (by have:=HPL.out;have:=HDLL.out;simp;omega) ?_;intro v7 w7 o7 b7 _ _;have O7:=qh o7;have B7:=qh b7;clear o7 b7)
     | fail)
    go_ret
    exact rowed_ret (O7.out.weaken (by have:=HZ.out;omega)) (below_then BA.out B7.out) (by simp [ints])
   rcases b5 with _ | _
   ·have hz:123 :: (D++[44]++[125])=T:=by have h:=HZT.out;simpa using h
    subst hz
    go_wp2_with (first
     | (at_builtin;refine app_lit intsT ua w5 ua.heap.size _ _ #[.int .i64 44] 1 _ _ rfl rfl rfl rfl O5D.out (by simp [Value.oneCell']) B5D.out B5D.out.size (by have:=HPL.out;have:=HDLL.out;unfold maxLen;simp;omega) (by have:=HPL.out;have:=HDLL.out;simp;omega) ?_
        intro v7 w7 o7 b7 _ _
        have O7:=qh o7
        have B7:=qh b7
        obtain ⟨f2,f3⟩:=HF.out w7 b7
        clear o7 b7)
     | (at_builtin;refine app_lit intsT ua w7 ua.heap.size _ _ #[.int .i64 125] 1 _ _ rfl rfl rfl rfl O7.out (by simp [Value.oneCell']) B7.out B7.out.size (by have:=HPL.out;have:=HDLL.out;unfold maxLen;simp;omega) (by have:=HPL.out;have:=HDLL.out;simp;omega) ?_;intro v8 w8 o8 b8 _ _;have O8:=qh o8;have B8:=qh b8;clear o8 b8)
     | fail)
    go_ret
    exact rowed_ret (O8.out.weaken (by have:=HZ.out;omega)) (below_then BA.out B8.out) (by simp [ints])
   ·have hz:123 :: (D++44 :: D2++[125])=T:=by have h:=HZT.out;simpa using h
    subst hz
    have HDQ:=qh (HDH.out rfl)
    have HDK:=qh (HDHL.out rfl)
    go_wp2_with (first
     | (at_builtin;refine app_lit intsT ua w5 ua.heap.size _ _ #[.int .i64 44] 1 _ _ rfl rfl rfl rfl O5D.out (by simp [Value.oneCell']) B5D.out B5D.out.size (by have:=HPL.out;have:=HDLL.out;unfold maxLen;simp;omega) (by have:=HPL.out;have:=HDLL.out;simp;omega) ?_
        intro v7 w7 o7 b7 _ _
        have O7:=qh o7
        have B7:=qh b7
        obtain ⟨f2,f3⟩:=HF.out w7 b7
        clear o7 b7)
     | fail)
    refine (HDQ.out _).mono ?_
    rintro e w8 ⟨v8,rfl,o8,b8⟩
    have O8:=qh (O7.out.below b8 (Nat.le_refl _))
    have B8:=qh (B7.out.trans (b8.mono B7.out.size))
    obtain ⟨A8,c8,rfl,l8,-,-⟩:=o8.form
    have L8:=qh l8
    clear o8 b8 l8 f2 f3
    simp only [ints,List.length_map]
    go_wp2_with (first
     | (at_builtin;refine app_src intsT ua w8 ua.heap.size w8.heap.size _ _ _ _ (ints .i64 D2) A8 _ c8 rfl rfl rfl rfl (by simp) O8.out L8.out (ints_one _ _) B8.out B8.out.size (by have:=HPL.out;have:=HDLL.out;have:=HDK.out;unfold maxLen;simp;omega) (by have:=HPL.out;have:=HDLL.out;have:=HDK.out;simp;omega) ?_;intro v9 w9 o9 b9 _ _;have O9:=qh o9;have B9:=qh b9;clear o9 b9)
     | (at_builtin;refine app_lit intsT ua w9 ua.heap.size _ _ #[.int .i64 125] 1 _ _ rfl rfl rfl rfl O9.out (by simp [Value.oneCell']) B9.out B9.out.size (by have:=HPL.out;have:=HDLL.out;have:=HDK.out;unfold maxLen;simp;omega) (by have:=HPL.out;have:=HDLL.out;have:=HDK.out;simp;omega) ?_;intro v10 w10 o10 b10 _ _;have O10:=qh o10;have B10:=qh b10;clear o10 b10)
     | fail)
    go_ret
    exact rowed_ret (O10.out.weaken (by have:=HZ.out;omega)) (below_then BA.out B10.out) (by simp [ints])
  ·clear HB1
   go_wp2_with fail
   have O2:=qh (O1.out.alloc (.cells #[.int .i64 123] 3))
   have B2:=qh (B1.out.alloc B1.out.size (.cells #[.int .i64 123] 3))
   have L2:Hid (Lies (w1.alloc (.cells #[.int .i64 123] 3)) (w1.alloc (.cells #[.int .i64 123] 3)).heap.size (some ⟨w1.heap.size,0,none⟩) (ints .i64 [123])):=qh (Lies.litUp (w:=w1) (e:=3) #[.int .i64 123])
   refine wp_region_held_drew (S:=fun z=>z.cell? ⟨u.heap.size,2,none⟩=some (.int .i64 lo)∧z.cell? ⟨u.heap.size,3,none⟩=some (.int .i64 hi)) (by kernel_rfl) (HF.out _ (by exact below_same B1.out rfl rfl rfl rfl)) (fun hHeld=>?_)
   refine' hY 0 ?_
   try simp only [Act.put,ZA,ZB,ZD,ZE,ZF]
   refine' hY 3 ?_
   try simp only [Act.put,ZA,ZB,ZC,ZD,ZE,ZF]
   refine' hY 4 ?_
   try simp only [Act.put,ZA,ZB,ZC,ZD,ZE,ZF]
   refine hA 1 fun K hK=>?_
   go_simp
   go_wp2_with fail
   refine hK.out _ _ (HF.out _ (by exact below_same B2.out rfl rfl rfl rfl)) (fun hHeld=>?_)
   clear hK K
   try simp only [Act.put,ZA,ZB,ZC,ZD,ZE,ZF]
   refine hA 2 fun K hK=>?_
   refine step_app intsT ua _ ua.heap.size _ (.tmp 172) (.tmp 173) v1 (ints .i64 pc) (ints .i64 [123]) (some ⟨w1.heap.size,0,none⟩) 1 1 rfl rfl rfl rfl rfl (Own.same O2.out rfl) (Lies.sameHeap L2.out rfl) (ints_one _ _) (below_same B2.out rfl rfl rfl rfl) (by exact B2.out.size) (by have:=HPL.out;unfold maxLen;simp;omega) (by have:=HPL.out;simp;omega) ?_
   intro v3 w3 o3 b3 _ _
   have O3:=qh o3
   have B3:=qh b3
   clear o3 b3
   refine hK.out _ _ (HF.out _ B3.out) (fun hHeld=>?_)
   clear hK K
   try simp only [Act.put,ZA,ZB,ZC,ZD,ZE,ZF]
   refine hA 5 fun K hK=>?_
   go_simp
   refine (HDL.out _).mono ?_
   rintro e w4 ⟨v4,rfl,o4,b4⟩
   have O4:=qh (Own.below (by exact Own.same O3.out rfl) b4 (by exact Nat.le_refl _))
   have B4:Hid (Below ua.heap.size ua w4):=qh (Below.trans (by exact below_same B3.out rfl rfl rfl rfl) (b4.mono (by exact B3.out.size)))
   obtain ⟨A4,c4,rfl,l4,-,-⟩:=o4.form
   have L4:=qh l4
   clear o4 b4 l4
   simp only [ints,List.length_map]
   go_wp2_with fail
   refine hK.out _ _ (HF.out _ (by exact below_same B4.out rfl rfl rfl rfl)) (fun hHeld=>?_)
   clear hK K
   try simp only [Act.put,ZA,ZB,ZC,ZD,ZE,ZF]
   refine hA 6 fun K hK=>?_
   refine step_app intsT ua _ ua.heap.size _ (.tmp 174) (.tmp 177) v3 (ints .i64 pc++ints .i64 [123]) (ints .i64 D) A4 _ c4 rfl rfl rfl rfl (by simp) (Own.same O4.out rfl) (Lies.sameHeap L4.out rfl) (ints_one _ _) (below_same B4.out rfl rfl rfl rfl) (by exact B4.out.size) (by have:=HPL.out;have:=HDLL.out;unfold maxLen;simp;omega) (by have:=HPL.out;have:=HDLL.out;simp;omega) ?_
   intro v5 w5 o5 b5 _ _
   have O5:=qh o5
   have B5:=qh b5
   clear o5 b5
   refine hK.out _ _ (HF.out _ B5.out) (fun hHeld=>?_)
   clear hK K
   try simp only [Act.put,ZA,ZB,ZC,ZD,ZE,ZF]
   refine' hY 7 ?_
   try simp only [Act.put,ZA,ZB,ZC,ZD,ZE,ZF]
   refine wpAnyH_done (by kernel_rfl) ?_ _
   have B5D:=qh B5.out
   have O5D:Hid (Own w5 ua.heap.size 3 v5 (ints .i64 (pc++123 :: D))):=qh (by simpa [ints] using O5.out)
   obtain ⟨w6,hw6⟩:∃ x,w5=x:=⟨_,rfl⟩
   subst hw6
   clear e2 e3
   obtain ⟨e2,e3⟩:=HF.out w5 B5D.out
   clear O5 B5
   rcases b4 with _ | _
   ·have hz:123 :: (D++[125])=T:=by have h:=HZT.out;simpa using h
    subst hz
    go_wp2_with (first
     | (at_builtin;refine app_lit intsT ua w5 ua.heap.size _ _ #[.int .i64 125] 1 _ _ rfl rfl rfl rfl O5D.out (by simp [Value.oneCell']) B5D.out B5D.out.size (by have:=HPL.out;have:=HDLL.out;unfold maxLen;simp;omega) (by have:=HPL.out;have:=HDLL.out;simp;omega) ?_;intro v7 w7 o7 b7 _ _;have O7:=qh o7;have B7:=qh b7;clear o7 b7)
     | fail)
    go_ret
    exact rowed_ret (O7.out.weaken (by have:=HZ.out;omega)) (below_then BA.out B7.out) (by simp [ints])
   rcases b5 with _ | _
   ·have hz:123 :: (D++[44]++[125])=T:=by have h:=HZT.out;simpa using h
    subst hz
    go_wp2_with (first
     | (at_builtin;refine app_lit intsT ua w5 ua.heap.size _ _ #[.int .i64 44] 1 _ _ rfl rfl rfl rfl O5D.out (by simp [Value.oneCell']) B5D.out B5D.out.size (by have:=HPL.out;have:=HDLL.out;unfold maxLen;simp;omega) (by have:=HPL.out;have:=HDLL.out;simp;omega) ?_
        intro v7 w7 o7 b7 _ _
        have O7:=qh o7
        have B7:=qh b7
        obtain ⟨f2,f3⟩:=HF.out w7 b7
        clear o7 b7)
     | (at_builtin;refine app_lit intsT ua w7 ua.heap.size _ _ #[.int .i64 125] 1 _ _ rfl rfl rfl rfl O7.out (by simp [Value.oneCell']) B7.out B7.out.size (by have:=HPL.out;have:=HDLL.out;unfold maxLen;simp;omega) (by have:=HPL.out;have:=HDLL.out;simp;omega) ?_;intro v8 w8 o8 b8 _ _;have O8:=qh o8;have B8:=qh b8;clear o8 b8)
     | fail)
    go_ret
    exact rowed_ret (O8.out.weaken (by have:=HZ.out;omega)) (below_then BA.out B8.out) (by simp [ints])
   ·have hz:123 :: (D++44 :: D2++[125])=T:=by have h:=HZT.out;simpa using h
    subst hz
    have HDQ:=qh (HDH.out rfl)
    have HDK:=qh (HDHL.out rfl)
    go_wp2_with (first
     | (at_builtin;refine app_lit intsT ua w5 ua.heap.size _ _ #[.int .i64 44] 1 _ _ rfl rfl rfl rfl O5D.out (by simp [Value.oneCell']) B5D.out B5D.out.size (by have:=HPL.out;have:=HDLL.out;unfold maxLen;simp;omega) (by have:=HPL.out;have:=HDLL.out;simp;omega) ?_
        intro v7 w7 o7 b7 _ _
        have O7:=qh o7
        have B7:=qh b7
        obtain ⟨f2,f3⟩:=HF.out w7 b7
        clear o7 b7)
     | fail)
    refine (HDQ.out _).mono ?_
    rintro e w8 ⟨v8,rfl,o8,b8⟩
    have O8:=qh (O7.out.below b8 (Nat.le_refl _))
    have B8:=qh (B7.out.trans (b8.mono B7.out.size))
    obtain ⟨A8,c8,rfl,l8,-,-⟩:=o8.form
    have L8:=qh l8
    clear o8 b8 l8 f2 f3
    simp only [ints,List.length_map]
    go_wp2_with (first
     | (at_builtin;refine app_src intsT ua w8 ua.heap.size w8.heap.size _ _ _ _ (ints .i64 D2) A8 _ c8 rfl rfl rfl rfl (by simp) O8.out L8.out (ints_one _ _) B8.out B8.out.size (by have:=HPL.out;have:=HDLL.out;have:=HDK.out;unfold maxLen;simp;omega) (by have:=HPL.out;have:=HDLL.out;have:=HDK.out;simp;omega) ?_;intro v9 w9 o9 b9 _ _;have O9:=qh o9;have B9:=qh b9;clear o9 b9)
     | (at_builtin;refine app_lit intsT ua w9 ua.heap.size _ _ #[.int .i64 125] 1 _ _ rfl rfl rfl rfl O9.out (by simp [Value.oneCell']) B9.out B9.out.size (by have:=HPL.out;have:=HDLL.out;have:=HDK.out;unfold maxLen;simp;omega) (by have:=HPL.out;have:=HDLL.out;have:=HDK.out;simp;omega) ?_;intro v10 w10 o10 b10 _ _;have O10:=qh o10;have B10:=qh b10;clear o10 b10)
     | fail)
    go_ret
    exact rowed_ret (O10.out.weaken (by have:=HZ.out;omega)) (below_then BA.out B10.out) (by simp [ints])
 ·obtain ⟨rfl,rfl⟩:=HP.out.1 rfl
  obtain rfl:=HB2.out rfl
  clear HP
  go_wp2_with fail
  have O2:=qh (O1.out.alloc (.cells #[.int .i64 123] 3))
  have B2:=qh (B1.out.alloc B1.out.size (.cells #[.int .i64 123] 3))
  have L2:Hid (Lies (w1.alloc (.cells #[.int .i64 123] 3)) (w1.alloc (.cells #[.int .i64 123] 3)).heap.size (some ⟨w1.heap.size,0,none⟩) (ints .i64 [123])):=qh (Lies.litUp (w:=w1) (e:=3) #[.int .i64 123])
  refine wp_region_held_drew (S:=fun z=>z.cell? ⟨u.heap.size,2,none⟩=some (.int .i64 lo)∧z.cell? ⟨u.heap.size,3,none⟩=some (.int .i64 hi)) (by kernel_rfl) (HF.out _ (by exact below_same B1.out rfl rfl rfl rfl)) (fun hHeld=>?_)
  refine' hY 0 ?_
  try simp only [Act.put,ZA,ZB,ZD,ZE,ZF]
  refine' hY 3 ?_
  try simp only [Act.put,ZA,ZB,ZC,ZD,ZE,ZF]
  refine' hY 4 ?_
  try simp only [Act.put,ZA,ZB,ZC,ZD,ZE,ZF]
  refine hA 1 fun K hK=>?_
  go_simp
  go_wp2_with fail
  refine hK.out _ _ (HF.out _ (by exact below_same B2.out rfl rfl rfl rfl)) (fun hHeld=>?_)
  clear hK K
  try simp only [Act.put,ZA,ZB,ZC,ZD,ZE,ZF]
  refine hA 2 fun K hK=>?_
  refine step_app intsT ua _ ua.heap.size _ (.tmp 172) (.tmp 173) v1 (ints .i64 pc) (ints .i64 [123]) (some ⟨w1.heap.size,0,none⟩) 1 1 rfl rfl rfl rfl rfl (Own.same O2.out rfl) (Lies.sameHeap L2.out rfl) (ints_one _ _) (below_same B2.out rfl rfl rfl rfl) (by exact B2.out.size) (by have:=HPL.out;unfold maxLen;simp;omega) (by have:=HPL.out;simp;omega) ?_
  intro v3 w3 o3 b3 _ _
  have O3:=qh o3
  have B3:=qh b3
  clear o3 b3
  refine hK.out _ _ (HF.out _ B3.out) (fun hHeld=>?_)
  clear hK K
  try simp only [Act.put,ZA,ZB,ZC,ZD,ZE,ZF]
  refine hA 5 fun K hK=>?_
  go_simp
  refine (HDL.out _).mono ?_
  rintro e w4 ⟨v4,rfl,o4,b4⟩
  have O4:=qh (Own.below (by exact Own.same O3.out rfl) b4 (by exact Nat.le_refl _))
  have B4:Hid (Below ua.heap.size ua w4):=qh (Below.trans (by exact below_same B3.out rfl rfl rfl rfl) (b4.mono (by exact B3.out.size)))
  obtain ⟨A4,c4,rfl,l4,-,-⟩:=o4.form
  have L4:=qh l4
  clear o4 b4 l4
  simp only [ints,List.length_map]
  go_wp2_with fail
  refine hK.out _ _ (HF.out _ (by exact below_same B4.out rfl rfl rfl rfl)) (fun hHeld=>?_)
  clear hK K
  try simp only [Act.put,ZA,ZB,ZC,ZD,ZE,ZF]
  refine hA 6 fun K hK=>?_
  refine step_app intsT ua _ ua.heap.size _ (.tmp 174) (.tmp 177) v3 (ints .i64 pc++ints .i64 [123]) (ints .i64 D) A4 _ c4 rfl rfl rfl rfl (by simp) (Own.same O4.out rfl) (Lies.sameHeap L4.out rfl) (ints_one _ _) (below_same B4.out rfl rfl rfl rfl) (by exact B4.out.size) (by have:=HPL.out;have:=HDLL.out;unfold maxLen;simp;omega) (by have:=HPL.out;have:=HDLL.out;simp;omega) ?_
  intro v5 w5 o5 b5 _ _
  have O5:=qh o5
  have B5:=qh b5
  clear o5 b5
  refine hK.out _ _ (HF.out _ B5.out) (fun hHeld=>?_)
  clear hK K
  try simp only [Act.put,ZA,ZB,ZC,ZD,ZE,ZF]
  refine' hY 7 ?_
  try simp only [Act.put,ZA,ZB,ZC,ZD,ZE,ZF]
  refine wpAnyH_done (by kernel_rfl) ?_ _
  have B5D:=qh B5.out
  have O5D:Hid (Own w5 ua.heap.size 3 v5 (ints .i64 (pc++123 :: D))):=qh (by simpa [ints] using O5.out)
  obtain ⟨w6,hw6⟩:∃ x,w5=x:=⟨_,rfl⟩
  subst hw6
  clear e2 e3
  obtain ⟨e2,e3⟩:=HF.out w5 B5D.out
  clear O5 B5
  rcases b4 with _ | _
  ·have hz:123 :: (D++[125])=T:=by have h:=HZT.out;simpa using h
   subst hz
   go_wp2_with (first
    | (at_builtin;refine app_lit intsT ua w5 ua.heap.size _ _ #[.int .i64 125] 1 _ _ rfl rfl rfl rfl O5D.out (by simp [Value.oneCell']) B5D.out B5D.out.size (by have:=HPL.out;have:=HDLL.out;unfold maxLen;simp;omega) (by have:=HPL.out;have:=HDLL.out;simp;omega) ?_;intro v7 w7 o7 b7 _ _;have O7:=qh o7;have B7:=qh b7;clear o7 b7)
    | fail)
   go_ret
   exact rowed_ret (O7.out.weaken (by have:=HZ.out;omega)) (below_then BA.out B7.out) (by simp [ints])
  rcases b5 with _ | _
  ·have hz:123 :: (D++[44]++[125])=T:=by have h:=HZT.out;simpa using h
   subst hz
   go_wp2_with (first
    | (at_builtin;refine app_lit intsT ua w5 ua.heap.size _ _ #[.int .i64 44] 1 _ _ rfl rfl rfl rfl O5D.out (by simp [Value.oneCell']) B5D.out B5D.out.size (by have:=HPL.out;have:=HDLL.out;unfold maxLen;simp;omega) (by have:=HPL.out;have:=HDLL.out;simp;omega) ?_
       intro v7 w7 o7 b7 _ _
       have O7:=qh o7
       have B7:=qh b7
       obtain ⟨f2,f3⟩:=HF.out w7 b7
       clear o7 b7)
    | (at_builtin;refine app_lit intsT ua w7 ua.heap.size _ _ #[.int .i64 125] 1 _ _ rfl rfl rfl rfl O7.out (by simp [Value.oneCell']) B7.out B7.out.size (by have:=HPL.out;have:=HDLL.out;unfold maxLen;simp;omega) (by have:=HPL.out;have:=HDLL.out;simp;omega) ?_;intro v8 w8 o8 b8 _ _;have O8:=qh o8;have B8:=qh b8;clear o8 b8)
    | fail)
   go_ret
   exact rowed_ret (O8.out.weaken (by have:=HZ.out;omega)) (below_then BA.out B8.out) (by simp [ints])
  ·have hz:123 :: (D++44 :: D2++[125])=T:=by have h:=HZT.out;simpa using h
   subst hz
   have HDQ:=qh (HDH.out rfl)
   have HDK:=qh (HDHL.out rfl)
   go_wp2_with (first
    | (at_builtin;refine app_lit intsT ua w5 ua.heap.size _ _ #[.int .i64 44] 1 _ _ rfl rfl rfl rfl O5D.out (by simp [Value.oneCell']) B5D.out B5D.out.size (by have:=HPL.out;have:=HDLL.out;unfold maxLen;simp;omega) (by have:=HPL.out;have:=HDLL.out;simp;omega) ?_
       intro v7 w7 o7 b7 _ _
       have O7:=qh o7
       have B7:=qh b7
       obtain ⟨f2,f3⟩:=HF.out w7 b7
       clear o7 b7)
    | fail)
   refine (HDQ.out _).mono ?_
   rintro e w8 ⟨v8,rfl,o8,b8⟩
   have O8:=qh (O7.out.below b8 (Nat.le_refl _))
   have B8:=qh (B7.out.trans (b8.mono B7.out.size))
   obtain ⟨A8,c8,rfl,l8,-,-⟩:=o8.form
   have L8:=qh l8
   clear o8 b8 l8 f2 f3
   simp only [ints,List.length_map]
   go_wp2_with (first
    | (at_builtin;refine app_src intsT ua w8 ua.heap.size w8.heap.size _ _ _ _ (ints .i64 D2) A8 _ c8 rfl rfl rfl rfl (by simp) O8.out L8.out (ints_one _ _) B8.out B8.out.size (by have:=HPL.out;have:=HDLL.out;have:=HDK.out;unfold maxLen;simp;omega) (by have:=HPL.out;have:=HDLL.out;have:=HDK.out;simp;omega) ?_;intro v9 w9 o9 b9 _ _;have O9:=qh o9;have B9:=qh b9;clear o9 b9)
    | (at_builtin;refine app_lit intsT ua w9 ua.heap.size _ _ #[.int .i64 125] 1 _ _ rfl rfl rfl rfl O9.out (by simp [Value.oneCell']) B9.out B9.out.size (by have:=HPL.out;have:=HDLL.out;have:=HDK.out;unfold maxLen;simp;omega) (by have:=HPL.out;have:=HDLL.out;have:=HDK.out;simp;omega) ?_;intro v10 w10 o10 b10 _ _;have O10:=qh o10;have B10:=qh b10;clear o10 b10)
    | fail)
   go_ret
   exact rowed_ret (O10.out.weaken (by have:=HZ.out;omega)) (below_then BA.out B10.out) (by simp [ints])
end
section
open Go.RowKit
mutual
def wN:Nd→Int→Int
 | .mk _ _ _ rs ks,d=>if 100 < d then 3000 else wL ks (d+1) (IntKind.i64.wrap (1+(rs.length:Int)))
def wL:List Nd→Int→Int→Int
 | [],_,s=>s
 | n :: ns,d,s=>if s≤2000 then wL ns d (IntKind.i64.wrap (s+wN n d)) else s
end
theorem wL_stop {ns:List Nd} {d s:Int} (h:¬ s≤2000):wL ns d s=s:=by
 cases ns with
 | nil=>rw [wL]
 | cons n ns=>rw [wL,if_neg h]
theorem few_rs {k lo hi:Int} {rs:List (Int×Int)} {ks:List Nd} (h:nodeI (.mk k lo hi rs ks)=true):rs.length≤500:=by
 obtain ⟨-,-,hr,-,-,-,h2⟩:=node_plain h
 by_cases h2k:k=2
 ·have:=(setR_le rs).1
  rw [h2 h2k] at this
  exact this
 ·rw [hr h2k];simp
mutual
theorem wN_in:∀ (n:Nd) (d:Int),allN n=true→0≤d→1≤wN n d∧wN n d≤3000+2000 * max 0 (101 - d)∧(wN n d≤1000→((cntN n+rngN n:Nat):Int)≤wN n d∧(deepN n:Int)≤101 - d)
 | .mk k lo hi rs ks,d,ha,hd=>by
  rw [allN,Bool.and_eq_true] at ha
  have hf:=few_rs ha.1
  rw [wN]
  by_cases h:100 < d
  ·rw [if_pos h];omega
  ·rw [if_neg h,show IntKind.i64.wrap (1+(rs.length:Int))=1+(rs.length:Int) from IntWalk.i64_in _ (by omega)]
   obtain ⟨h1,h2,h3⟩:=wL_in ks (d+1) (1+(rs.length:Int)) ha.2 (by omega) (by omega) (by omega)
   refine ⟨by omega,by omega,fun hw=>?_⟩
   obtain ⟨h4,h5⟩:=h3 hw
   rw [cntN,rngN,deepN]
   omega
theorem wL_in:∀ (ns:List Nd) (d s:Int),allL ns=true→0≤d→1≤s→s≤600000→s≤wL ns d s∧wL ns d s≤max s (2000+(3000+2000 * max 0 (101 - d)))∧(wL ns d s≤1000→((cntL ns+rngL ns:Nat):Int)+s≤wL ns d s∧(deepL ns:Int)≤max 0 (101 - d))
 | [],d,s,_,hd,hs,_=>by
  rw [wL,cntL,rngL,deepL]
  omega
 | n :: ns,d,s,ha,hd,hs,hb=>by
  rw [allL,Bool.and_eq_true] at ha
  obtain ⟨g1,g2,g3⟩:=wN_in n d ha.1 hd
  rw [wL]
  by_cases h:s≤2000
  ·rw [if_pos h,show IntKind.i64.wrap (s+wN n d)=s+wN n d from IntWalk.i64_in _ (by omega)]
   obtain ⟨h1,h2,h3⟩:=wL_in ns d (s+wN n d) ha.2 hd (by omega) (by omega)
   refine ⟨by omega,by omega,fun hw=>?_⟩
   obtain ⟨h4,h5⟩:=h3 hw
   obtain ⟨h6,h7⟩:=g3 (by omega)
   rw [cntL,rngL,deepL]
   omega
  ·rw [if_neg h]
   omega
end
mutual
def cI:Nd→Int×Int×Int
 | .mk _ _ _ rs ks=>((cL ks (1,(rs.length:Int),0)).1,(cL ks (1,(rs.length:Int),0)).2.1,IntKind.i64.wrap ((cL ks (1,(rs.length:Int),0)).2.2+1))
def cL:List Nd→Int×Int×Int→Int×Int×Int
 | [],s=>s
 | n :: ns,s=>cL ns (IntKind.i64.wrap (s.1+(cI n).1),IntKind.i64.wrap (s.2.1+(cI n).2.1),max s.2.2 (cI n).2.2)
end
mutual
theorem cI_is:∀ n,cntN n≤1000000→rngN n≤1000000→deepN n≤1000000→cI n=((cntN n:Int),(rngN n:Int),(deepN n:Int))
 | .mk k lo hi rs ks,h1,h2,h3=>by
  rw [cntN] at h1
  rw [rngN] at h2
  rw [deepN] at h3
  have:=cL_is ks 1 (rs.length:Int) 0 (by omega) (by omega) (by omega) (by omega) (by omega) (by omega)
  rw [cI,this,cntN,rngN,deepN]
  simp only
  rw [show IntKind.i64.wrap (max (0:Int) (deepL ks:Int)+1)=((deepL ks+1:Nat):Int) by rw [IntWalk.i64_in _ (by omega)];omega]
  congr 1
theorem cL_is:∀ (ns:List Nd) (a b c:Int),0≤a→0≤b→0≤c→a+cntL ns≤1000000→b+rngL ns≤1000000→deepL ns≤1000000→cL ns (a,b,c)=(a+cntL ns,b+rngL ns,max c (deepL ns:Int))
 | [],a,b,c,_,_,hc,_,_,_=>by
  rw [cL,cntL,rngL,deepL]
  congr 1
  ·omega
  ·congr 1 <;> omega
 | n :: ns,a,b,c,ha,hb,hc,h1,h2,h3=>by
  rw [cntL] at h1
  rw [rngL] at h2
  rw [deepL] at h3
  have h4:=cI_is n (by omega) (by omega) (by omega)
  rw [cL,h4]
  simp only
  rw [IntWalk.i64_in _ (by omega),IntWalk.i64_in _ (by omega),cL_is ns _ _ _ (by omega) (by omega) (by omega) (by omega) (by omega) (by omega),cntL,rngL,deepL]
  congr 1
  ·omega
  ·congr 1 <;> omega
end
def rightC (n:Nd):Bool:=decide ((cI n).1≤400) && decide ((cI n).2.1≤400) && decide ((cI n).2.2≤100) && allN n
theorem right_same {n:Nd} (h:¬ 1000 < wN n 0):rightC n=rightN n:=by
 unfold rightC rightN
 rcases ha:allN n with _ | _
 ·simp
 ·have h1:=(wN_in n 0 ha (by omega)).2.2 (by omega)
  have h2:=cI_is n (by omega) (by omega) (by omega)
  rw [h2]
  simp only
  have e1:decide ((cntN n:Int)≤400)=decide (cntN n≤400):=by rw [Bool.eq_iff_iff];simp;omega
  have e2:decide ((rngN n:Int)≤400)=decide (rngN n≤400):=by rw [Bool.eq_iff_iff];simp;omega
  have e3:decide ((deepN n:Int)≤100)=decide (deepN n≤100):=by rw [Bool.eq_iff_iff];simp;omega
  rw [e1,e2,e3]
end
section
open Go.RowKit
theorem rweight_any {w:World} {P:Nat→Prop} {n:Nd} {v:Array Value} (h:Treed w P n v):∀ (u:World) (d:Int),(∀ b,P b→b < w.heap.size→u.heap[b]?=w.heap[b]?)→w.heap.size≤u.heap.size→0≤d→d≤101 →
 Calls Tryz.prog 8 #[.agg v,.int .i64 d] u fun e u'=>e=.returned (.int .i64 (wN n d))∧u.grownBy u' none:=by
 induction h with
 | @mk k lo hi rs ks A A' c c' vs h1 hc h0 h2 hc' hk ih =>
  intro u d hu hs hd0 hd1
  have HU:=qh hu
  have HIH:=qh ih
  have H2:=qh h2
  have H5:Hid (∀ v∈vs,v.size=5):=qh fun v hv=>by
   obtain ⟨i,hi,rfl⟩:=List.getElem_of_mem hv
   exact (hk i hi (by omega)).size
  have HFO:=qh (fun (i:Nat) (hi:i < vs.length)=>(hk i hi (by omega)).form)
  have HN0:=qh h0
  have HS:=qh hs
  have hkl:ks.length≤9223372036854775807:=by have h1:=hc'.1;have h2:=hc'.2;unfold maxLen at h2;omega
  have X0:Hid (Box (u.alloc (.cells #[.int .i64 k,.slice A rs.length c,.int .i64 lo,.int .i64 hi,.slice A' ks.length c'] 25)) u.heap.size #[.int .i64 k,.slice A rs.length c,.int .i64 lo,.int .i64 hi,.slice A' ks.length c'] 25):=qh (Box.new u _ _)
  obtain ⟨W,hW⟩:∃ y:Int,wN (.mk k lo hi rs ks) d=y:=⟨_,rfl⟩
  rw [hW]
  rw [wN] at hW
  obtain ⟨s0,hs0⟩:∃ y:Int,IntKind.i64.wrap (1+(rs.length:Int))=y:=⟨_,rfl⟩
  rw [hs0] at hW
  have hw1:IntKind.i64.wrap (d+1)=d+1:=IntWalk.i64_in _ (by omega)
  have HD:=qh (And.intro hd0 hd1)
  by_cases hd:100 < d
  ·have t0:decide (100 < d)=true:=decide_eq_true hd
   rw [if_pos hd] at hW
   subst hW
   clear h1 h2 hc hc' h0 hk ih hu hs hd hd0 hd1
   go_enter Tryz.func8,Tryz.ntmps8
   go_wp2_with fail
   go_ret
   exact ⟨rfl,grown_new u _ none⟩
  ·have t0:decide (100 < d)=false:=decide_eq_false hd
   have HDL:Hid (d+1≤101):=qh (by omega)
   rw [if_neg hd] at hW
   have HW0:Hid (wL (ks.drop 0) (d+1) s0=W):=qh hW
   clear hW
   clear h1 h2 hc hc' h0 hk ih hu hs hd hd0 hd1
   go_enter Tryz.func8,Tryz.ntmps8
   go_wp2_with fail
   go_loopw [6,5] (fun iv sv wr=>∃ (i:Nat) (s:Int),i≤ks.length∧iv=.int .i64 i∧sv=.int .i64 s∧Hid (wL (ks.drop i) (d+1) s=W)∧Hid (u.grownBy wr none)∧Hid (Box wr u.heap.size #[.int .i64 k,.slice A rs.length c,.int .i64 lo,.int .i64 hi,.slice A' ks.length c'] 25)) (fun iv _ _=>ks.length - (intOf iv).toNat)
   case atStart=>exact ⟨0,_,by omega,rfl,rfl,HW0,qh (grown_new u _ none),X0⟩
   case round =>
    obtain ⟨i,s,hi',rfl,rfl,HW,HG,HX⟩:=hrel
    have e4:wr.cell? ⟨u.heap.size,4,none⟩=some (.slice A' ks.length c'):=HX.out.cell rfl
    rcases hsd:decide (s≤2000) with _ | _
    ·have hz:s=W:=by rw [← HW.out,wL_stop (by simpa using hsd)]
     subst hz
     by_cases hlt:i < ks.length
     ·have b1:(i:Int) < (ks.length:Int):=by omega
      go_wp2_with fail
      go_ret
      exact ⟨rfl,HG.out⟩
     ·obtain rfl:i=ks.length:=by omega
      go_wp2_with fail
      go_ret
      exact ⟨rfl,HG.out⟩
    by_cases hlt:i < ks.length
    ·have hlv:i < vs.length:=by have:=HN0.out;omega
     have hagree:∀ b,P b→b < w.heap.size→wr.heap[b]?=w.heap[b]?:=fun b hb hl=>(HG.out.block b (by have:=HS.out;omega) (by simp)).trans (HU.out b hb hl)
     obtain ⟨g,off,rfl,hg,hcell⟩:=kid_at H2.out H5.out hagree hlv
     obtain ⟨k1,Ar,nr,cr,lo1,hi1,Ak,nk,ck,hv⟩:=HFO.out i hlv
     have q0:wr.cell? ⟨g,off+i * 5,none⟩=vs[i][0]?:=hcell 0 (by decide)
     have q1:=hcell 1 (by decide)
     have q2:=hcell 2 (by decide)
     have q3:=hcell 3 (by decide)
     have q4:=hcell 4 (by decide)
     rw [hv] at q0 q1 q2 q3 q4
     have hrec:=HIH.out i hlv hlt wr (d+1) hagree (Nat.le_trans HS.out HG.out.size) (by have:=HD.out;omega) HDL.out
     rw [hv] at hrec
     obtain ⟨y,hy⟩:∃ y,wN ks[i] (d+1)=y:=⟨_,rfl⟩
     obtain ⟨s2,hs2⟩:∃ z:Int,IntKind.i64.wrap (s+y)=z:=⟨_,rfl⟩
     have HWN:Hid (wL (ks.drop (i+1)) (d+1) s2=W):=qh (by
      have h:=HW.out
      rw [List.drop_eq_getElem_cons hlt,wL,if_pos (by simpa using hsd),hy,hs2] at h
      exact h)
     rw [hy] at hrec
     clear hy
     have HRC:=qh hrec
     have b0:(0:Int)≤(i:Int):=by omega
     have b1:(i:Int) < (ks.length:Int):=by omega
     clear hcell hv hrec hagree
     simp only [List.getElem?_toArray,List.getElem?_cons_zero,List.getElem?_cons_succ] at q0 q1 q2 q3 q4
     go_wp2_with fail
     refine HRC.out.mono ?_
     rintro e w2 ⟨rfl,g2⟩
     have HG2:=qh (HG.out.trans g2)
     have HX2:=qh (HX.out.kept g2 (by simp))
     clear g2
     go_wp2_with fail
     go_roundw
     case rel=>exact ⟨i+1,s2,by omega,by go_num,rfl,HWN,HG2,HX2⟩
     case measure=>simp [intOf];omega
    ·obtain rfl:i=ks.length:=by omega
     have hz:s=W:=by have h:=HW.out;rw [List.drop_length,wL] at h;exact h
     subst hz
     go_wp2_with fail
     go_ret
     exact ⟨rfl,HG.out⟩
theorem rcount_any {w:World} {P:Nat→Prop} {n:Nd} {v:Array Value} (h:Treed w P n v):∀ (u:World),(∀ b,P b→b < w.heap.size→u.heap[b]?=w.heap[b]?)→w.heap.size≤u.heap.size →
 Calls Tryz.prog 22 #[.agg v] u fun e u'=>e=.returned (.tuple #[.int .i64 (cI n).1,.int .i64 (cI n).2.1,.int .i64 (cI n).2.2])∧u.grownBy u' none:=by
 induction h with
 | @mk k lo hi rs ks A A' c c' vs h1 hc h0 h2 hc' hk ih =>
  intro u hu hs
  have HU:=qh hu
  have HIH:=qh ih
  have H2:=qh h2
  have H5:Hid (∀ v∈vs,v.size=5):=qh fun v hv=>by
   obtain ⟨i,hi,rfl⟩:=List.getElem_of_mem hv
   exact (hk i hi (by omega)).size
  have HFO:=qh (fun (i:Nat) (hi:i < vs.length)=>(hk i hi (by omega)).form)
  have HN0:=qh h0
  have HS:=qh hs
  have hkl:ks.length≤9223372036854775807:=by have h1:=hc'.1;have h2:=hc'.2;unfold maxLen at h2;omega
  have X0:Hid (Box (u.alloc (.cells #[.int .i64 k,.slice A rs.length c,.int .i64 lo,.int .i64 hi,.slice A' ks.length c'] 25)) u.heap.size #[.int .i64 k,.slice A rs.length c,.int .i64 lo,.int .i64 hi,.slice A' ks.length c'] 25):=qh (Box.new u _ _)
  obtain ⟨Z,hZ⟩:∃ z,cL ks (1,(rs.length:Int),0)=z:=⟨_,rfl⟩
  have HZ0:Hid (cL (ks.drop 0) (1,(rs.length:Int),0)=Z):=qh hZ
  have HCI:Hid (cI (.mk k lo hi rs ks)=(Z.1,Z.2.1,IntKind.i64.wrap (Z.2.2+1))):=qh (by rw [cI,hZ])
  rw [HCI.out]
  obtain ⟨n0,hn0⟩:∃ y,rs.length=y:=⟨_,rfl⟩
  rw [hn0] at HZ0 X0 ⊢
  simp only
  clear h1 h2 hc hc' hk ih hu hs hZ hn0
  go_enter Tryz.func22,Tryz.ntmps22
  go_wp2_with fail
  go_quiet (fail)
  go_wp2_with fail
  go_loopw [8,5,6,7] (fun iv av bv cv wr=>∃ (i:Nat) (a b c1:Int),i≤ks.length∧iv=.int .i64 i∧av=.int .i64 a∧bv=.int .i64 b∧cv=.int .i64 c1∧Hid (cL (ks.drop i) (a,b,c1)=Z)∧Hid (u.grownBy wr none)∧Hid (Box wr u.heap.size #[.int .i64 k,.slice A n0 c,.int .i64 lo,.int .i64 hi,.slice A' ks.length c'] 25)) (fun iv _ _ _ _=>ks.length - (intOf iv).toNat)
  case atStart=>exact ⟨0,1,(n0:Int),0,by omega,rfl,rfl,rfl,rfl,HZ0,qh (grown_draws (grown_new u _ none) _),qh (X0.out.same rfl)⟩
  case round =>
   obtain ⟨i,a,b,c1,hi',rfl,rfl,rfl,rfl,HC,HG,HX⟩:=hrel
   have e4:wr.cell? ⟨u.heap.size,4,none⟩=some (.slice A' ks.length c'):=HX.out.cell rfl
   by_cases hlt:i < ks.length
   ·have hlv:i < vs.length:=by have:=HN0.out;omega
    have hagree:∀ b,P b→b < w.heap.size→wr.heap[b]?=w.heap[b]?:=fun b hb hl=>(HG.out.block b (by have:=HS.out;omega) (by simp)).trans (HU.out b hb hl)
    obtain ⟨g,off,rfl,hg,hcell⟩:=kid_at H2.out H5.out hagree hlv
    obtain ⟨k1,Ar,nr,cr,lo1,hi1,Ak,nk,ck,hv⟩:=HFO.out i hlv
    have q0:wr.cell? ⟨g,off+i * 5,none⟩=vs[i][0]?:=hcell 0 (by decide)
    have q1:=hcell 1 (by decide)
    have q2:=hcell 2 (by decide)
    have q3:=hcell 3 (by decide)
    have q4:=hcell 4 (by decide)
    rw [hv] at q0 q1 q2 q3 q4
    have hrec:=HIH.out i hlv hlt wr hagree (Nat.le_trans HS.out HG.out.size)
    rw [hv] at hrec
    obtain ⟨y,hy⟩:∃ y,cI ks[i]=y:=⟨_,rfl⟩
    obtain ⟨y1,y2,y3⟩:=y
    obtain ⟨a2,ha2⟩:∃ z:Int,IntKind.i64.wrap (a+y1)=z:=⟨_,rfl⟩
    obtain ⟨b2,hb2⟩:∃ z:Int,IntKind.i64.wrap (b+y2)=z:=⟨_,rfl⟩
    obtain ⟨c2,hc2⟩:∃ z:Int,max c1 y3=z:=⟨_,rfl⟩
    have HCN:Hid (cL (ks.drop (i+1)) (a2,b2,c2)=Z):=qh (by
     have h:=HC.out
     rw [List.drop_eq_getElem_cons hlt,cL,hy] at h
     simp only at h
     rw [ha2,hb2,hc2] at h
     exact h)
    rw [hy] at hrec
    have HRC:=qh hrec
    have b0:(0:Int)≤(i:Int):=by omega
    have b1:(i:Int) < (ks.length:Int):=by omega
    have m1:(if c1 < y3 then y3 else c1)=c2:=by rw [← hc2];split <;> omega
    have m2:(if y3 > c1 then y3 else c1)=c2:=m1
    clear hcell hv hrec hagree hy
    simp only [List.getElem?_toArray,List.getElem?_cons_zero,List.getElem?_cons_succ] at q0 q1 q2 q3 q4
    go_wp2_with fail
    refine HRC.out.mono ?_
    rintro e w2 ⟨rfl,g2⟩
    have HG2:=qh (HG.out.trans g2)
    have HX2:=qh (HX.out.kept g2 (by simp))
    clear g2
    go_wp2_with fail
    go_roundw
    case rel=>exact ⟨i+1,a2,b2,c2,by omega,by go_num,rfl,rfl,rfl,HCN,HG2,HX2⟩
    case measure=>simp [intOf];omega
   ·obtain rfl:i=ks.length:=by omega
    have hz:=HC.out
    rw [List.drop_length,cL] at hz
    subst hz
    obtain ⟨c9,hc9⟩:∃ z:Int,IntKind.i64.wrap (c1+1)=z:=⟨_,rfl⟩
    go_wp2_with fail
    go_ret3
    exact ⟨rfl,HG.out⟩
end
end Go.Proofs.YtoeocodfndbebaaGreatDoor
