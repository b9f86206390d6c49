/- Shared texts, shaken for one claim. -/
import Derived.Test.YtoeocodfndbebaaGreatDoorZC17
import Derived.Test.YtoeocodfndbebaaGreatDoorZC30
set_option maxRecDepth 20000
set_option maxHeartbeats 16000000
namespace Go.Proofs.YtoeocodfndbebaaGreatDoor
section
open Go.RowKit
section
variable {w w':World} {b E:Nat} {T R:List Tok} {t:Tok} {f p x:Int}
theorem IsG.left (h:IsG w b T E f p x):leftAt b w=T.length:=by
 obtain ⟨A,c,hb,-,-⟩:=h.box
 unfold leftAt
 rw [hb.cell (i:=0) (u:=.slice A T.length c) rfl]
theorem IsG.below {B:Nat} (h:IsG w b T E f p x) (hb:Below B w w') (hB:b < B):IsG w' b T E f p x:=by
 obtain ⟨A,c,hx,hl,hc⟩:=h.box
 exact ⟨⟨A,c,hx.below hb hB,hl.same (fun q hq=>hb.cell (by omega)),hc⟩,h.few⟩
theorem IsG.next (h:IsG w b (t :: R) E f p x):∃ g off c n A',(if c=1 then some ⟨g,off,none⟩ else some ⟨g,off+5,none⟩)=A'∧R.length=n∧n≤1000∧n+1≤c∧g < b∧Box w b #[.slice (some ⟨g,off,none⟩) (n+1) c,.int .i64 (E:Int),.int .i64 f,.int .i64 p,.int .i64 x] 52 ∧
 w.cell? ⟨g,off,none⟩=some (.int .i64 t.k)∧w.cell? ⟨g,off+1,none⟩=some (.int .i64 t.c)∧w.cell? ⟨g,off+2,none⟩=some (.int .i64 t.lo)∧w.cell? ⟨g,off+3,none⟩=some (.int .i64 t.hi)∧w.cell? ⟨g,off+4,none⟩=some (.int .i64 t.pos) ∧
 ∀ w3:World,(∀ q,q < b→w3.heap[q]?=w.heap[q]?)→Box w3 b #[.slice A' n (c - 1),.int .i64 (E:Int),.int .i64 f,.int .i64 p,.int .i64 x] 52→IsG w3 b R E f p x:=by
 obtain ⟨A,c,hb,hl,hc⟩:=h.box
 obtain ⟨g,off,rfl,hg,t0,t1,t2,t3,t4,hrest⟩:=tok_lies hl
 have hfew:R.length≤200:=by have:=h.few;simp at this;omega
 refine ⟨g,off,c,R.length,_,rfl,rfl,by omega,hc,hg,hb,t0,t1,t2,t3,t4,fun w3 g3 h3=>⟨⟨_,_,h3,?_,by simp at hc;omega⟩,hfew⟩⟩
 split
 ·have:R=[]:=List.eq_nil_of_length_eq_zero (by simp at hc;omega)
  subst this
  exact Lies.empty
 ·exact hrest.same fun q hq=>World.cell?_of_block (g3 q.block hq)
theorem under {r:Nat} (h:w.grownBy w' (some r)) (hr:r≤w.heap.size):∀ q,q < r→w'.heap[q]?=w.heap[q]?:=fun q hq=>h.block q (by omega) (fun e=>by injection e with e;omega)
end
theorem gset_any (w:World) (A:Option Addr) (m c:Nat):Calls Tryz.prog 85 #[.slice A m c] w fun e w'=>e=.returned (.agg #[.int .i64 2,.slice A m c,.int .i64 0,.int .i64 0,.slice none 0 0])∧w.grownBy w' none:=by
 have X0:Hid (Box (w.alloc (.cells #[.int .i64 0,.slice none 0 0,.int .i64 0,.int .i64 0,.slice none 0 0] 25)) w.heap.size ndZero 25):=qh (Box.new w _ _)
 have G0:Hid (w.grownBy (w.alloc (.cells #[.int .i64 0,.slice none 0 0,.int .i64 0,.int .i64 0,.slice none 0 0] 25)) none):=qh (grown_new w _ none)
 go_enter Tryz.func85,Tryz.ntmps85
 go_wp2_with (first
  | (refine store_nd _ _ _ w.heap.size ndZero #[.int .i64 2,.slice A m c,.int .i64 0,.int .i64 0,.slice none 0 0] rfl rfl rfl rfl rfl X0.out rfl rfl (by simp [Value.oneCell']) ?_;intro w1 x1 g1;have X1:=qh x1;have G1:=qh (grown_two G0.out g1 (Nat.le_refl _));clear x1 g1)
  | fail)
 (try simp only [Exit.inBlock,Exit.then])
 exact bodyPost_ret (v:=.agg _) (ret_nd rfl _ _ w.heap.size _ rfl rfl X1.out) rfl ⟨rfl,G1.out⟩
def NgTo (w:World) (b:Nat) (n:Nd) (R:List Tok) (E:Nat) (f p x:Int) (ed:Ending) (w':World):Prop :=
 ∃ v,ed=.returned (.agg v)∧Treed w' (Fresh w w') n v∧IsG w' b R E f p x∧w.grownBy w' (some b)
theorem gclass_any (w:World) (b:Nat) (t:Tok) (C:List Tok) (e:Tok) (R:List Tok) (E:Nat) (f p x:Int) (h:IsG w b (t :: (C++e :: R)) E f p x) (he:e.k=8) (hC:∀ s∈C,¬ s.k=8) :
 Calls Tryz.prog 84 #[.pointer (some ⟨b,0,none⟩)] w (NgTo w b (.mk 2 0 0 (dClass f (t.c == 1) C) []) R E f p x):=by
 have HLT:=qh h.lt
 have G0:Hid (w.grownBy (w.alloc (.cells #[.int .i64 0,.slice none 0 0,.int .i64 0,.int .i64 0,.slice none 0 0] 25)) (some b)):=qh (grown_new w _ _)
 have X0:Hid (Box (w.alloc (.cells #[.int .i64 0,.slice none 0 0,.int .i64 0,.int .i64 0,.slice none 0 0] 25)) w.heap.size ndZero 25):=qh (Box.new w _ _)
 obtain ⟨GA,hGA⟩:∃ G,dGather f C []=G:=⟨_,rfl⟩
 have HGA:=qh hGA
 have HHE:=qh he
 have HCC:=qh hC
 obtain ⟨g,off,c1,n,A',hA',hn,hn1,hc1,hg,hb,t0,t1,t2,t3,t4,keep⟩:=(h.up (grown_new w (.cells #[.int .i64 0,.slice none 0 0,.int .i64 0,.int .i64 0,.slice none 0 0] 25) none)).next
 have HB:=qh hb
 have HKP:=qh keep
 have b0:=(hb.cell (i:=0) rfl:(w.alloc (.cells #[.int .i64 0,.slice none 0 0,.int .i64 0,.int .i64 0,.slice none 0 0] 25)).cell? ⟨b,0,none⟩=some (.slice (some ⟨g,off,none⟩) (n+1) c1))
 have p0:(0:Int) < ((n:Int)+1):=by omega
 have p1:(0:Int) < ((n+1:Nat):Int):=by omega
 obtain ⟨RS,hRS⟩:∃ z,dClass f (t.c == 1) C=z:=⟨_,rfl⟩
 rw [hRS]
 unfold dClass at hRS
 rw [hGA] at hRS
 obtain ⟨tc,htc⟩:∃ z,t.c=z:=⟨_,rfl⟩
 rw [htc] at t1 hRS
 obtain ⟨rd,hrd⟩:∃ z,(tc == 1)=z:=⟨_,rfl⟩
 rw [hrd] at hRS
 have HRS:Hid ((rd=true→turnR GA=RS)∧(rd=false→setR GA=RS)):=qh ⟨fun e=>by rw [e,if_pos rfl] at hRS;exact hRS,fun e=>by rw [e,if_neg (by simp)] at hRS;exact hRS⟩
 clear h he hC hGA hn hg hb keep t0 t2 t3 t4 htc hRS
 go_enter Tryz.func84,Tryz.ntmps84
 go_wp2_with (first
  | (refine store_in _ _ _ b 0 (.slice A' n (c1 - 1)) _ rfl rfl rfl tokensInfo rfl rfl rfl HB.out (by simp) (by simp [maxLen]) ?_;intro w1 x1 g1;have R1:=qh (HKP.out w1 (under g1 (by have:=HLT.out;simp;omega)) x1);have X1:=qh (X0.out.kept g1 (by have:=HLT.out;simp;omega));have G1:=qh (G0.out.trans g1);clear x1 g1)
  | fail)
 go_loopw [4] (fun av wr=>∃ (C':List Tok) (S:List (Int×Int)),Hid (IsG wr b (C'++e :: R) E f p x)∧Hid (OwnN wr (w.heap.size+1) 66 2 av S.length (prC S))∧Hid (dGather f C' S=GA)∧Hid (w.grownBy wr (some b))∧Hid (Box wr w.heap.size ndZero 25)∧Hid (S.length≤500)∧Hid (∀ s∈C',¬ s.k=8)) (fun _ wr=>leftAt b wr)
 case atStart=>exact ⟨C,[],R1,qh (OwnN.empty _ _ _ _),HGA,G1,X1,qh (by simp),HCC⟩
 case round =>
  clear b0 t1 p0 p1 hn1 hc1 HB HKP G0 X0 R1 X1 G1 HGA HCC hrd hA'
  obtain ⟨C',S,Rr,O,HG,G,X,SL,HC⟩:=hrel
  rcases C' with _ | ⟨s,C'⟩
  ·have Rr:Hid (IsG wr b (e :: R) E f p x):=qh Rr.out
   have HK:=gkind_any wr b (e :: R) E f p x Rr.out
   rw [show kd (e :: R)=8 from HHE.out] at HK
   have HKK:=qh HK
   have HSG:Hid (S=GA):=qh HG.out
   obtain ⟨g,off,c1,n,A',hA',hn,hn1,hc1,hg,hb,t0,t1,t2,t3,t4,keep⟩:=Rr.out.next
   have HB:=qh hb
   have HKP:=qh keep
   have b0:=(hb.cell (i:=0) rfl:wr.cell? ⟨b,0,none⟩=some (.slice (some ⟨g,off,none⟩) (n+1) c1))
   have p0:(0:Int) < ((n:Int)+1):=by omega
   have p1:(0:Int) < ((n+1:Nat):Int):=by omega
   have hsg:=HSG.out
   subst hsg
   obtain ⟨AO,co,rfl,-,-,-⟩:=O.out.form
   clear HK hn hg hb keep t0 t1 t2 t3 t4 HG HSG HC
   rcases rd with _ | _
   ·have hrs:=HRS.out.2 rfl
    subst hrs
    go_wp2_with fail
    refine HKK.out.mono ?_
    rintro e1 w2 ⟨rfl,rfl⟩
    go_wp2_with (first
     | (refine store_in _ _ _ b 0 (.slice A' n (c1 - 1)) _ rfl rfl rfl tokensInfo rfl rfl rfl HB.out (by simp) (by simp [maxLen]) ?_;intro w3 x3 g3;have R3:=qh (HKP.out w3 (under g3 (Nat.le_of_lt HB.out.lt)) x3);have X3:=qh (X.out.kept g3 (by have:=HLT.out;simp;omega));have G3:=qh (G.out.trans g3);have O3:=qh (O.out.keep g3 (.inr fun e2=>by have:=(O.out.inside b e2).1;have:=HLT.out;omega));clear x3 g3)
     | fail)
    obtain ⟨A3',c3',hv3,l3,-,-⟩:=O3.out.form
    injection hv3 with hA3 _ hc3
    subst hA3 hc3
    have L3:=qh l3
    clear l3
    refine (rset16_any w3 AO S co L3.out).mono ?_
    rintro e1 w4 ⟨v4,rfl,o4,b4⟩
    obtain ⟨A4,c4,rfl,t4⟩:=treed_set o4
    have T4:=qh t4
    have R4:=qh (R3.out.below b4 R3.out.lt)
    have X4:=qh (X3.out.below b4 X3.out.lt)
    have G4:=qh (G3.out.trans (grown_of_below b4 (some b)))
    have Z4:=qh b4.size
    have Z3:=qh G3.out.size
    clear o4 b4 t4
    go_wp2_with fail
    refine (gset_any w4 A4 _ c4).mono ?_
    rintro e1 w5 ⟨rfl,g5⟩
    have T5:=qh (T4.out.grown g5 (fun x hx e=>by cases e))
    have R5:=qh (R4.out.up g5)
    have X5:=qh (X4.out.kept g5 (by simp))
    have G5:=qh (G4.out.trans (grownBy_none g5 (some b)))
    have Z5:=qh g5.size
    clear g5
    go_wp2_with (first
     | (refine store_nd w5 _ _ w.heap.size ndZero #[.int .i64 2,.slice A4 (setR S).length c4,.int .i64 0,.int .i64 0,.slice none 0 0] rfl rfl rfl rfl rfl X5.out rfl rfl (by simp [Value.oneCell']) ?_;intro w6 x6 g6;have X6:=qh x6;have R6:=qh (R5.out.grown g6 (fun g e=>by injection e with e;have:=HLT.out;omega));have G6:=qh (grown_two G5.out g6 (Nat.le_refl _));have T6:=qh (T5.out.grown g6 (fun x hx e=>by injection e with e;have:=hx.1;have:=X3.out.lt;omega));have Z6:=qh g6.size;clear x6 g6)
     | fail)
    (try simp only [Exit.inBlock,Exit.then])
    exact bodyPost_ret (v:=.agg _) (ret_nd rfl _ _ w.heap.size _ rfl rfl X6.out) rfl ⟨_,rfl,T6.out.mono fun x hx=>⟨by have:=hx.1;have:=Z3.out;omega,by have:=hx.2;have:=Z5.out;have:=Z6.out;omega⟩,R6.out,G6.out⟩
   ·have hrs:=HRS.out.1 rfl
    subst hrs
    go_wp2_with fail
    refine HKK.out.mono ?_
    rintro e1 w2 ⟨rfl,rfl⟩
    go_wp2_with (first
     | (refine store_in _ _ _ b 0 (.slice A' n (c1 - 1)) _ rfl rfl rfl tokensInfo rfl rfl rfl HB.out (by simp) (by simp [maxLen]) ?_;intro w3 x3 g3;have R3:=qh (HKP.out w3 (under g3 (Nat.le_of_lt HB.out.lt)) x3);have X3:=qh (X.out.kept g3 (by have:=HLT.out;simp;omega));have G3:=qh (G.out.trans g3);have O3:=qh (O.out.keep g3 (.inr fun e2=>by have:=(O.out.inside b e2).1;have:=HLT.out;omega));clear x3 g3)
     | fail)
    obtain ⟨A3',c3',hv3,l3,-,-⟩:=O3.out.form
    injection hv3 with hA3 _ hc3
    subst hA3 hc3
    have L3:=qh l3
    clear l3
    refine (rturn16_any w3 AO S co L3.out).mono ?_
    rintro e1 w4 ⟨v4,rfl,o4,b4⟩
    obtain ⟨A4,c4,rfl,t4⟩:=treed_set o4
    have T4:=qh t4
    have R4:=qh (R3.out.below b4 R3.out.lt)
    have X4:=qh (X3.out.below b4 X3.out.lt)
    have G4:=qh (G3.out.trans (grown_of_below b4 (some b)))
    have Z4:=qh b4.size
    have Z3:=qh G3.out.size
    clear o4 b4 t4
    go_wp2_with fail
    refine (gset_any w4 A4 _ c4).mono ?_
    rintro e1 w5 ⟨rfl,g5⟩
    have T5:=qh (T4.out.grown g5 (fun x hx e=>by cases e))
    have R5:=qh (R4.out.up g5)
    have X5:=qh (X4.out.kept g5 (by simp))
    have G5:=qh (G4.out.trans (grownBy_none g5 (some b)))
    have Z5:=qh g5.size
    clear g5
    go_wp2_with (first
     | (refine store_nd w5 _ _ w.heap.size ndZero #[.int .i64 2,.slice A4 (turnR S).length c4,.int .i64 0,.int .i64 0,.slice none 0 0] rfl rfl rfl rfl rfl X5.out rfl rfl (by simp [Value.oneCell']) ?_;intro w6 x6 g6;have X6:=qh x6;have R6:=qh (R5.out.grown g6 (fun g e=>by injection e with e;have:=HLT.out;omega));have G6:=qh (grown_two G5.out g6 (Nat.le_refl _));have T6:=qh (T5.out.grown g6 (fun x hx e=>by injection e with e;have:=hx.1;have:=X3.out.lt;omega));have Z6:=qh g6.size;clear x6 g6)
     | fail)
    (try simp only [Exit.inBlock,Exit.then])
    exact bodyPost_ret (v:=.agg _) (ret_nd rfl _ _ w.heap.size _ rfl rfl X6.out) rfl ⟨_,rfl,T6.out.mono fun x hx=>⟨by have:=hx.1;have:=Z3.out;omega,by have:=hx.2;have:=Z5.out;have:=Z6.out;omega⟩,R6.out,G6.out⟩
  ·have Rr:Hid (IsG wr b (s :: (C'++e :: R)) E f p x):=qh Rr.out
   have HK:=gkind_any wr b (s :: (C'++e :: R)) E f p x Rr.out
   obtain ⟨g,off,c1,n,A',hA',hn,hn1,hc1,hg,hb,t0,t1,t2,t3,t4,keep⟩:=Rr.out.next
   have hs8:¬ s.k=8:=HC.out s (by simp)
   have HC2:Hid (∀ s∈C',¬ s.k=8):=qh fun s hs=>HC.out s (by simp [hs])
   have HG2:Hid (dGather f C' (setR (S++dPart f s))=GA):=qh HG.out
   have HPL:(dPart f s).length≤501:=by rw [dPart_is];exact part_few f s
   have HPC:=fun u=>rpart16_any u s f
   have HLF:Hid (leftAt b wr=n+1+0):=qh (by rw [Rr.out.left,List.length_cons,hn])
   have HNN:=qh hn
   obtain ⟨P,hP⟩:∃ P,dPart f s=P:=⟨_,rfl⟩
   rw [hP] at HPL HPC HG2
   obtain ⟨k,ch,lo,hi,pos⟩:=s
   simp only at t0 t1 t2 t3 t4 hs8
   have HPCC:Hid (∀ u,Calls Tryz.prog 88 #[.agg #[.int .i64 k,.int .i64 ch,.int .i64 lo,.int .i64 hi,.int .i64 pos],.int .i64 f] u (RowedRg u P)):=qh HPC
   have hkd:(k != 8)=true:=by simpa using hs8
   have HKK:Hid (Calls Tryz.prog 46 #[.pointer (some ⟨b,0,none⟩)] wr fun e w'=>e=.returned (.int .i64 k)∧wr=w'):=qh HK
   have HB:=qh hb
   have HKP:=qh keep
   have b0:=(hb.cell (i:=0) rfl:wr.cell? ⟨b,0,none⟩=some (.slice (some ⟨g,off,none⟩) (n+1) c1))
   have b2:=(hb.cell (i:=2) rfl:wr.cell? ⟨b,2,none⟩=some (.int .i64 f))
   have p0:(0:Int) < ((n:Int)+1):=by omega
   have p1:(0:Int) < ((n+1:Nat):Int):=by omega
   have HCE:Hid (∀ u:World,Below (w.heap.size+1) wr u→u.cell? ⟨b,0,none⟩=some (.slice (some ⟨g,off,none⟩) (n+1) c1)∧u.cell? ⟨b,2,none⟩=some (.int .i64 f)∧u.cell? ⟨g,off,none⟩=some (.int .i64 k)∧u.cell? ⟨g,off+1,none⟩=some (.int .i64 ch)∧u.cell? ⟨g,off+2,none⟩=some (.int .i64 lo)∧u.cell? ⟨g,off+3,none⟩=some (.int .i64 hi)∧u.cell? ⟨g,off+4,none⟩=some (.int .i64 pos)):=qh fun u hu=>by
    have hbl:=HLT.out
    rw [hu.cell (p:=⟨b,0,none⟩) (by show b < _;omega),hu.cell (p:=⟨b,2,none⟩) (by show b < _;omega),hu.cell (p:=⟨g,off,none⟩) (by show g < _;omega),hu.cell (p:=⟨g,off+1,none⟩) (by show g < _;omega),hu.cell (p:=⟨g,off+2,none⟩) (by show g < _;omega),hu.cell (p:=⟨g,off+3,none⟩) (by show g < _;omega),hu.cell (p:=⟨g,off+4,none⟩) (by show g < _;omega)]
    exact ⟨b0,b2,t0,t1,t2,t3,t4⟩
   have Z:Hid (w.heap.size+1≤wr.heap.size):=qh X.out.lt
   obtain ⟨ns,hns⟩:∃ m,S.length=m:=⟨_,rfl⟩
   have hsl:=SL.out
   rw [hns] at O hsl
   obtain ⟨np,hnp⟩:∃ m,P.length=m:=⟨_,rfl⟩
   rw [hnp] at HPL
   obtain ⟨mm,hmm⟩:∃ m,ns+np=m:=⟨_,rfl⟩
   have HMM:Hid ((S++P).length=mm):=qh (by rw [List.length_append,hns,hnp,hmm])
   have HSN:=qh hmm
   have HNP:=qh hnp
   have HLIM:=qh (And.intro hsl HPL)
   obtain ⟨AO,co,rfl,-,-,-⟩:=O.out.form
   clear HK HPC hn hg hb keep HG HC hs8 hns hnp hmm hP hsl HPL t0 t1 t2 t3 t4
   go_wp2_with fail
   refine HKK.out.mono ?_
   rintro e1 w2 ⟨rfl,rfl⟩
   clear b0 b2
   go_wp2_with fail
   refine wp_region_E (S:=fun u=>u.cell? ⟨b,0,none⟩=some (.slice (some ⟨g,off,none⟩) (n+1) c1)∧u.cell? ⟨b,2,none⟩=some (.int .i64 f)∧u.cell? ⟨g,off,none⟩=some (.int .i64 k)∧u.cell? ⟨g,off+1,none⟩=some (.int .i64 ch)∧u.cell? ⟨g,off+2,none⟩=some (.int .i64 lo)∧u.cell? ⟨g,off+3,none⟩=some (.int .i64 hi)∧u.cell? ⟨g,off+4,none⟩=some (.int .i64 pos)) [13] (by kernel_rfl) (HCE.out _ (by exact below_same (Below.refl _ wr) rfl rfl rfl rfl)) (fun hHeld hZ=>?_)
   refine' eY 0 hHeld hZ fun hZ=>?_
   try simp only [Act.put,ZA,ZB,ZD,ZE,ZF]
   refine' eY 1 hHeld hZ fun hZ=>?_
   try simp only [Act.put,ZA,ZB,ZC,ZD,ZE,ZF]
   refine' eY 2 hHeld hZ fun hZ=>?_
   try simp only [Act.put,ZA,ZB,ZC,ZD,ZE,ZF]
   refine' eY 3 hHeld hZ fun hZ=>?_
   try simp only [Act.put,ZA,ZB,ZC,ZD,ZE,ZF]
   refine' eY 4 hHeld hZ fun hZ=>?_
   try simp only [Act.put,ZA,ZB,ZC,ZD,ZE,ZF]
   refine' eY 5 hHeld hZ fun hZ=>?_
   try simp only [Act.put,ZA,ZB,ZC,ZD,ZE,ZF]
   refine' eY 6 hHeld hZ fun hZ=>?_
   try simp only [Act.put,ZA,ZB,ZC,ZD,ZE,ZF]
   refine' eY 7 hHeld hZ fun hZ=>?_
   try simp only [Act.put,ZA,ZB,ZC,ZD,ZE,ZF]
   refine' eY 8 hHeld hZ fun hZ=>?_
   try simp only [Act.put,ZA,ZB,ZC,ZD,ZE,ZF]
   refine' eY 9 hHeld hZ fun hZ=>?_
   try simp only [Act.put,ZA,ZB,ZC,ZD,ZE,ZF]
   refine' eY 10 hHeld hZ fun hZ=>?_
   try simp only [Act.put,ZA,ZB,ZC,ZD,ZE,ZF]
   refine eA 11 fun K hK=>?_
   go_simp
   refine (HPCC.out _).mono ?_
   rintro e1 w3 ⟨v3,rfl,o3,b3⟩
   obtain ⟨A3,c3,rfl,l3,-,-⟩:=o3.form
   have B3:Hid (Below wr.heap.size wr w3):=qh (below_then_drew b3)
   have L3:=qh l3
   have O3:=qh (O.out.keep (grown_of_below B3.out none) (own_none _))
   rw [HNP.out]
   clear o3 b3 l3
   refine eB hK hZ (HCE.out _ (B3.out.mono Z.out)) fun hHeld hZ=>?_
   clear hK K
   try simp only [Act.put,ZA,ZB,ZC,ZD,ZE,ZF]
   refine eA 12 fun K hK=>?_
   refine step_appN rgT wr _ (w.heap.size+1) _ (.tmp 24) (.tmp 35) (.slice AO ns co) ns np (prC S) (prC P) _ _ rfl rfl rfl rfl (by exact OwnN.same O3.out rfl) (by exact Lies.sameHeap L3.out rfl) (by rw [prC_length,HNP.out]) (prC_one _) (by exact below_same (B3.out.mono Z.out) rfl rfl rfl rfl) (by have:=B3.out.size;have:=Z.out;omega) (by have:=HLIM.out;unfold maxLen;omega) (by have:=HLIM.out;omega) ?_
   intro v4 w4 o4 b4 g4 e4
   rw [← prC_append,HSN.out] at o4
   obtain ⟨A4,c4,rfl,l4,-,-⟩:=o4.form
   have O4:=qh o4
   have L4:=qh l4
   have B4:=qh b4
   have HSE:=qh (fun u h=>(HMM.out▸rset16_any u A4 (S++P) c4 h:Calls Tryz.prog 63 #[.slice A4 mm c4] u (RowedRg u (setR (S++P)))))
   clear o4 l4 b4 g4 e4
   refine eB hK hZ (HCE.out _ B4.out) fun hHeld hZ=>?_
   clear hK K
   try simp only [Act.put,ZA,ZB,ZC,ZD,ZE,ZF]
   refine' eX 13 hZ fun hZ=>?_
   try simp only [Act.put,ZA,ZB,ZC,ZD,ZE,ZF]
   refine wpAnyE_done (by kernel_rfl) ?_ _
   clear hZ
   go_wp2_with fail
   refine (HSE.out _ L4.out).mono ?_
   rintro e1 w5 ⟨v5,rfl,o5,b5⟩
   have B5:=qh (B4.out.trans (b5.mono (by have:=B4.out.size;have:=Z.out;omega)))
   have O5:=qh (o5.weaken (by have:=B4.out.size;have:=Z.out;omega:w.heap.size+1≤w4.heap.size))
   have HB5:=qh (HB.out.below B5.out (by have:=HLT.out;omega))
   have X5:=qh (X.out.below B5.out (Nat.lt_succ_self _))
   have b0:=(HB5.out.cell (i:=0) rfl:w5.cell? ⟨b,0,none⟩=some (.slice (some ⟨g,off,none⟩) (n+1) c1))
   clear o5 b5
   go_wp2_with (first
    | (refine store_in _ _ _ b 0 (.slice A' n (c1 - 1)) _ rfl rfl rfl tokensInfo rfl rfl rfl HB5.out (by simp) (by simp [maxLen]) ?_;intro w6 x6 g6;have R6:=qh (HKP.out w6 (fun q hq=>(under g6 (Nat.le_of_lt HB5.out.lt) q hq).trans (B5.out.block q (by have:=HLT.out;omega))) x6);have O6:=qh (O5.out.keep g6 (.inr fun e2=>by have:=(O5.out.inside b e2).1;have:=HLT.out;omega));have G6:=qh ((grown_below G.out B5.out (Nat.le_succ _)).trans g6);have X6:=qh (X5.out.kept g6 (by have:=HLT.out;simp;omega));clear x6 g6)
    | fail)
   go_roundw
   case rel=>exact ⟨C',setR (S++P),R6,O6,HG2,G6,X6,qh (setR_le _).1,HC2⟩
   case measure=>have h1:=R6.out.left;have h2:=HLF.out;have h3:=HNN.out;omega
end
end Go.Proofs.YtoeocodfndbebaaGreatDoor
