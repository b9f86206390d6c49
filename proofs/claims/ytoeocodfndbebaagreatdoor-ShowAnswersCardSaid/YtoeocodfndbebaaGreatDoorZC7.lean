/- Shared texts, shaken for one claim. -/
import Derived.Deep.DeepCutAuto
import Derived.Test.YtoeocodfndbebaaGreatDoorZC1
import Derived.Test.YtoeocodfndbebaaGreatDoorZC5
import Derived.Test.YtoeocodfndbebaaGreatDoorZC6
set_option maxRecDepth 20000
set_option maxHeartbeats 16000000
namespace Go.Proofs.YtoeocodfndbebaaGreatDoor
section
open Go.RowKit
def addA (S:List (Int×Int)) (L:List Int):List (Int×Int):=(L.filter fun t=>hasR S t).map fun t=>(fo t,fo t)
def addB (S:List (Int×Int)) (L:List Int):List (Int×Int):=(L.filter fun t=>hasR S (fo t)).map fun t=>(t,t)
def addM (S:List (Int×Int)) (L:List Int):List (Int×Int):=(L.filter fun t=>isM t && hasR S t).map fun t=>(mir t,mir t)
def upN (k:Nat):List Int:=(List.range k).map Int.ofNat
def closeA (S:List (Int×Int)):List (Int×Int):=setR (S++addA S (turnedN 7936))
def closeB (S:List (Int×Int)):List (Int×Int):=setR (S++addB S (turnedN 7936))
def closeM (S:List (Int×Int)):List (Int×Int):=setR (S++addM S (upN 12544))
def closeF (b:Bool) (R:List (Int×Int)):List (Int×Int):=if b=true then closeB (closeA (setR R)) else setR R
def closeG (b:Bool) (S:List (Int×Int)):List (Int×Int):=if b=true then closeM S else S
def closeR (b1 b2:Bool) (R:List (Int×Int)):List (Int×Int):=closeG b2 (closeF b1 R)
theorem addA_next {S:List (Int×Int)} {L:List Int} {i:Nat} (h:i < L.length):addA S (L.take (i+1))=addA S (L.take i)++(if hasR S L[i]=true then [(fo L[i],fo L[i])] else []):=by
 unfold addA;rw [List.take_succ_eq_append_getElem h,List.filter_append,List.map_append];congr 1
 by_cases hh:hasR S L[i]=true <;> simp [hh]
theorem addB_next {S:List (Int×Int)} {L:List Int} {i:Nat} (h:i < L.length):addB S (L.take (i+1))=addB S (L.take i)++(if hasR S (fo L[i])=true then [(L[i],L[i])] else []):=by
 unfold addB;rw [List.take_succ_eq_append_getElem h,List.filter_append,List.map_append];congr 1
 by_cases hh:hasR S (fo L[i])=true <;> simp [hh]
theorem addM_next {S:List (Int×Int)} {i:Nat}:addM S (upN (i+1))=addM S (upN i)++(if (isM i && hasR S i)=true then [(mir i,mir i)] else []):=by
 unfold addM upN;rw [List.range_succ,List.map_append,List.filter_append,List.map_append];congr 1
 by_cases hh:(isM i && hasR S i)=true <;> simp [hh]
theorem addA_len (S:List (Int×Int)) (L:List Int):(addA S L).length≤L.length:=by unfold addA;rw [List.length_map];exact List.length_filter_le _ _
theorem addB_len (S:List (Int×Int)) (L:List Int):(addB S L).length≤L.length:=by unfold addB;rw [List.length_map];exact List.length_filter_le _ _
theorem addM_len (S:List (Int×Int)) (k:Nat):(addM S (upN k)).length≤k:=by
 unfold addM upN;rw [List.length_map]
 refine Nat.le_trans (List.length_filter_le _ _) ?_
 simp
theorem rclose16_any (w:World) (A:Option Addr) (R:List (Int×Int)) (c:Nat) (f:Int) (h:Lies w w.heap.size A (prC R)) :
 Calls Tryz.prog 96 #[.slice A R.length c,.int .i64 f] w (RowedRg w (closeR (bits .and .i64 f 1 == 1) (bits .and .i64 f 2 == 2) R)):=by
 have HL:=qh h
 obtain ⟨f1,hf1⟩:∃ b,(bits .and .i64 f 1 == 1)=b:=⟨_,rfl⟩
 obtain ⟨f2,hf2⟩:∃ b,(bits .and .i64 f 2 == 2)=b:=⟨_,rfl⟩
 rw [hf1,hf2,closeR]
 obtain ⟨S,hS⟩:∃ S,setR R=S:=⟨_,rfl⟩
 have hsn:=(setR_le R).1
 have HC0:=qh (rset16_any w A R c h)
 have HF1:Hid (closeF f1 R=if f1=true then closeB (closeA S) else S):=qh (by unfold closeF;rw [hS])
 rw [hS] at HC0 hsn
 obtain ⟨S1,hS1⟩:∃ S1,closeF f1 R=S1:=⟨_,rfl⟩
 rw [hS1] at HF1 ⊢
 obtain ⟨Z,hZ⟩:∃ Z,closeG f2 S1=Z:=⟨_,rfl⟩
 have HG:=qh hZ
 rw [hZ]
 have hs1n:S1.length≤500:=by
  rw [HF1.out]
  split
  ·exact (setR_le _).1
  ·exact hsn
 clear h hS hS1 hZ
 go_enter Tryz.func96,Tryz.ntmps96
 go_wp2_with fail
 refine HC0.out.mono ?_
 rintro e w1 ⟨v1,rfl,o1,b1⟩
 obtain ⟨n0,hn0⟩:∃ n,S.length=n:=⟨_,rfl⟩
 have SN:=qh hn0
 rw [hn0] at o1 hsn
 have O1:=qh o1
 obtain ⟨A1,c1,rfl,l1,-,-⟩:=o1.form
 have L1:=qh l1
 have B1:=qh b1
 clear o1 l1 b1 hn0
 go_upto_if 16 with fail
 go_cut [5] (fun v wx=>Hid (OwnN wx w.heap.size 66 2 v S1.length (prC S1))∧Hid (Below w.heap.size w wx))
 case first =>
  rcases f1 with _ | _
  ·have HE:Hid (S1=S):=qh (by rw [HF1.out];rfl)
   go_wp2_with fail
   go_meet
   exact ⟨qh (by rw [HE.out,SN.out];exact O1.out),B1⟩
  ·have HE:Hid (S1=closeB (closeA S)):=qh (by rw [HF1.out];rfl)
   go_wp2_with fail
   refine (rturned_any w1).mono ?_
   rintro e w2 ⟨v2,rfl,o2,b2⟩
   obtain ⟨T,hT⟩:∃ T,turnedN 7936=T:=⟨_,rfl⟩
   have TN:Hid (T.length=131):=qh (by rw [← hT];exact turned_few)
   have HTT:=qh hT
   rw [hT] at o2
   obtain ⟨A2,c2,rfl,l2,-,-⟩:=o2.form
   rw [ints,List.length_map,TN.out]
   have B2:=qh (below_then B1.out b2)
   have L2:=qh l2
   have L1':=qh (L1.out.up b2)
   clear o2 l2 b2 hT
   have Ew2:=qh (OwnN.ofLit (w:=w2) (B:=w2.heap.size) (e:=66) (size:=2) (n:=0) #[] (Nat.le_refl _) (by simp [maxLen]) rfl)
   go_wp2_with (first
    | (at_builtin;refine appN_at rgT w2 _ w2.heap.size _ _ _ (.slice (some ⟨w2.heap.size,0,none⟩) 0 0) 0 n0 [] (prC S) _ _ rfl rfl rfl rfl Ew2.out (L1'.out.alloc (Nat.le_refl _) _) (by rw [prC_length];exact congrArg (· * 2) SN.out) (prC_one _) (below_alloc _ _) (by simp) (by unfold maxLen;omega) (by omega) ?_;intro vm wm om bm _ _;have OM:Hid (OwnN wm w2.heap.size 66 2 vm S.length (prC S)):=qh (by rw [SN.out];simpa using om);have BM:=qh bm;clear om bm)
    | fail)
   go_loopw [8,7] (fun iv ov wr=>∃ i:Nat,i≤131∧iv=.int .i64 i∧Hid (OwnN wr w2.heap.size 66 2 ov (S++addA S (T.take i)).length (prC (S++addA S (T.take i))))∧Hid (Below w2.heap.size w2 wr)) (fun iv _ _=>131 - (intOf iv).toNat)
   case atStart=>exact ⟨0,by omega,rfl,qh (by rw [List.take_zero,show addA S []=[] from rfl,List.append_nil];exact OM.out),BM⟩
   case round =>
    obtain ⟨i,hi,rfl,HO,HB⟩:=hrel
    have hqn:(S++addA S (T.take i)).length≤700:=by
     have h1:=addA_len S (T.take i)
     have h2:=SN.out
     rw [List.length_append]
     simp at h1
     omega
    obtain ⟨AO,co,rfl,-,-,-⟩:=HO.out.form
    obtain ⟨Q,hQ⟩:∃ Q,S++addA S (T.take i)=Q:=⟨_,rfl⟩
    have HQ:=qh hQ
    obtain ⟨no,hno⟩:∃ n,Q.length=n:=⟨_,rfl⟩
    have HQN:=qh hno
    rw [hQ] at hqn HO ⊢
    rw [hno] at hqn HO ⊢
    have HBZ:Hid (w2.heap.size≤wr.heap.size):=qh HB.out.size
    clear hQ hno
    by_cases hlt:i < 131
    ·have hltT:i < T.length:=by rw [TN.out];exact hlt
     obtain ⟨p,rfl,hpb,hcx⟩:=(L2.out.below HB.out).int hltT
     have HNX:=qh (addA_next (S:=S) hltT)
     obtain ⟨x,hx⟩:∃ x,T[i]=x:=⟨_,rfl⟩
     rw [hx] at hcx HNX
     have HSL:=qh ((L1'.out.below HB.out).wider HB.out.size)
     have k0:(0:Int)≤(i:Int):=by omega
     have k1:(i:Int) < 131:=by omega
     have HCX:Hid (∀ u:World,Below wr.heap.size wr u→u.cell? (p.add i)=some (.int .i64 x)):=qh fun u hu=>by rw [hu.cell (by rw [add_block];have:=HBZ.out;omega)];exact hcx
     clear hx hltT hpb
     rcases hh:hasR S x with _ | _
     ·have HE:Hid (S++addA S (T.take (i+1))=Q):=qh (by rw [HNX.out,hh,← HQ.out];simp)
      have HH:=qh hh
      clear hh
      go_wp2_with fail
      have HAS:=rhas16_any wr _ A1 S c1 x HSL.out (by have:=SN.out;omega)
      rw [SN.out,HH.out] at HAS
      refine HAS.mono ?_
      clear HAS
      rintro e wq ⟨rfl,rfl⟩
      go_wp2_with fail
      go_roundw
      case rel=>exact ⟨i+1,by omega,by go_num,by rw [HE.out,HQN.out];exact HO,HB⟩
      case measure=>simp [intOf];omega
     ·have HE:Hid (S++addA S (T.take (i+1))=Q++[(fo x,fo x)]):=qh (by rw [HNX.out,hh,← HQ.out];simp)
      have HH:=qh hh
      clear hh
      go_wp2_with fail
      have HAS:=rhas16_any wr _ A1 S c1 x HSL.out (by have:=SN.out;omega)
      rw [SN.out,HH.out] at HAS
      refine HAS.mono ?_
      clear HAS
      rintro e wq ⟨rfl,rfl⟩
      go_wp2_with fail
      refine (rof_any x wr).mono ?_
      rintro e wq ⟨rfl,rfl⟩
      go_wp2_with fail
      refine (rone16_any (fo x) wr).mono ?_
      rintro e wx ⟨rfl,bx⟩
      have BX:=qh bx
      have HLIT:=qh (rg_lit wx (fo x,fo x))
      clear bx
      go_wp2_with (first
       | (at_builtin;refine appN_at rgT wr _ w2.heap.size _ _ _ (.slice AO no co) no 1 (prC Q) (prC [(fo x,fo x)]) _ _ rfl rfl rfl rfl ((HO.out.below BX.out (Nat.le_refl _)).alloc _) HLIT.out rfl (prC_one _) (((BX.out.mono HBZ.out)).alloc (by have:=BX.out.size;have:=HBZ.out;omega) _) (by have:=BX.out.size;have:=HBZ.out;simp;omega) (by unfold maxLen;omega) (by omega) ?_;intro v9 w9 o9 b9 _ _;have O9:Hid (OwnN w9 w2.heap.size 66 2 v9 (Q++[(fo x,fo x)]).length (prC (Q++[(fo x,fo x)]))):=qh (by rw [prC_append,List.length_append,HQN.out];exact o9);have B9:=qh (HB.out.trans b9);clear o9 b9)
       | fail)
      go_roundw
      case rel=>exact ⟨i+1,by omega,by go_num,by rw [HE.out];exact O9,B9⟩
      case measure=>simp [intOf];omega
    ·obtain rfl:i=131:=by omega
     have HQ2:Hid (S++addA S T=Q):=qh (by have:=HQ.out;rwa [List.take_of_length_le (by rw [TN.out];exact Nat.le_refl _)] at this)
     obtain ⟨AO',co',hvo,lo,-,-⟩:=HO.out.form
     injection hvo with hA _ hco
     subst hA hco
     have HC:=qh (rset16_any wr AO Q co lo)
     rw [HQN.out,← HQ2.out] at HC
     clear lo
     obtain ⟨U,hU⟩:∃ U,setR (S++addA S T)=U:=⟨_,rfl⟩
     have hun:U.length≤500:=by rw [← hU];exact (setR_le _).1
     have HUU:Hid (closeA S=U):=qh (by rw [← hU,← HTT.out];rfl)
     rw [hU] at HC
     obtain ⟨nu,hnu⟩:∃ n,U.length=n:=⟨_,rfl⟩
     have UN:=qh hnu
     rw [hnu] at hun
     clear hU hnu
     go_wp2_with fail
     refine HC.out.mono ?_
     rintro e w4 ⟨v4,rfl,o4,b4⟩
     rw [UN.out] at o4
     obtain ⟨A4,c4,rfl,l4,-,-⟩:=o4.form
     have L4:=qh l4
     have B4:=qh (below_then B2.out (below_then HB.out b4))
     have L2':=qh ((L2.out.up HB.out).up b4)
     clear o4 l4 b4 HC HO HQ HQ2 HQN
     have Ew4:=qh (OwnN.ofLit (w:=w4) (B:=w4.heap.size) (e:=66) (size:=2) (n:=0) #[] (Nat.le_refl _) (by simp [maxLen]) rfl)
     go_wp2_with (first
      | (at_builtin;refine appN_at rgT w4 _ w4.heap.size _ _ _ (.slice (some ⟨w4.heap.size,0,none⟩) 0 0) 0 nu [] (prC U) _ _ rfl rfl rfl rfl Ew4.out (L4.out.alloc (Nat.le_refl _) _) (by rw [prC_length];exact congrArg (· * 2) UN.out) (prC_one _) (below_alloc _ _) (by simp) (by unfold maxLen;omega) (by omega) ?_;intro vm wm om bm _ _;have OM:Hid (OwnN wm w4.heap.size 66 2 vm U.length (prC U)):=qh (by rw [UN.out];simpa using om);have BM:=qh bm;clear om bm)
      | fail)
     go_loopw [9,7] (fun iv ov wr=>∃ i:Nat,i≤131∧iv=.int .i64 i∧Hid (OwnN wr w4.heap.size 66 2 ov (U++addB U (T.take i)).length (prC (U++addB U (T.take i))))∧Hid (Below w4.heap.size w4 wr)) (fun iv _ _=>131 - (intOf iv).toNat)
     case atStart=>exact ⟨0,by omega,rfl,qh (by rw [List.take_zero,show addB U []=[] from rfl,List.append_nil];exact OM.out),BM⟩
     case round =>
      obtain ⟨i,hi,rfl,HO,HB⟩:=hrel
      have hqn:(U++addB U (T.take i)).length≤700:=by
       have h1:=addB_len U (T.take i)
       have h2:=UN.out
       rw [List.length_append]
       simp at h1
       omega
      obtain ⟨AO,co,rfl,-,-,-⟩:=HO.out.form
      obtain ⟨Q,hQ⟩:∃ Q,U++addB U (T.take i)=Q:=⟨_,rfl⟩
      have HQ:=qh hQ
      obtain ⟨no,hno⟩:∃ n,Q.length=n:=⟨_,rfl⟩
      have HQN:=qh hno
      rw [hQ] at hqn HO ⊢
      rw [hno] at hqn HO ⊢
      have HBZ:Hid (w4.heap.size≤wr.heap.size):=qh HB.out.size
      clear hQ hno
      by_cases hlt:i < 131
      ·have hltT:i < T.length:=by rw [TN.out];exact hlt
       obtain ⟨p,rfl,hpb,hcx⟩:=(L2'.out.below HB.out).int hltT
       have HNX:=qh (addB_next (S:=U) hltT)
       obtain ⟨x,hx⟩:∃ x,T[i]=x:=⟨_,rfl⟩
       rw [hx] at hcx HNX
       have HSL:=qh ((L4.out.below HB.out).wider HB.out.size)
       have k0:(0:Int)≤(i:Int):=by omega
       have k1:(i:Int) < 131:=by omega
       have HCX:Hid (∀ u:World,Below wr.heap.size wr u→u.cell? (p.add i)=some (.int .i64 x)):=qh fun u hu=>by rw [hu.cell (by rw [add_block];have:=HBZ.out;omega)];exact hcx
       clear hx hltT hpb
       rcases hh:hasR U (fo x) with _ | _
       ·have HE:Hid (U++addB U (T.take (i+1))=Q):=qh (by rw [HNX.out,hh,← HQ.out];simp)
        have HH:=qh hh
        clear hh
        go_wp2_with fail
        refine (rof_any x wr).mono ?_
        rintro e wq ⟨rfl,rfl⟩
        go_wp2_with fail
        have HAS:=rhas16_any wr _ A4 U c4 (fo x) HSL.out (by have:=UN.out;omega)
        rw [UN.out,HH.out] at HAS
        refine HAS.mono ?_
        clear HAS
        rintro e wq ⟨rfl,rfl⟩
        go_wp2_with fail
        go_roundw
        case rel=>exact ⟨i+1,by omega,by go_num,by rw [HE.out,HQN.out];exact HO,HB⟩
        case measure=>simp [intOf];omega
       ·have HE:Hid (U++addB U (T.take (i+1))=Q++[(x,x)]):=qh (by rw [HNX.out,hh,← HQ.out];simp)
        have HH:=qh hh
        clear hh
        go_wp2_with fail
        refine (rof_any x wr).mono ?_
        rintro e wq ⟨rfl,rfl⟩
        go_wp2_with fail
        have HAS:=rhas16_any wr _ A4 U c4 (fo x) HSL.out (by have:=UN.out;omega)
        rw [UN.out,HH.out] at HAS
        refine HAS.mono ?_
        clear HAS
        rintro e wq ⟨rfl,rfl⟩
        go_wp2_with fail
        refine (rone16_any (x) wr).mono ?_
        rintro e wx ⟨rfl,bx⟩
        have BX:=qh bx
        have HLIT:=qh (rg_lit wx (x,x))
        clear bx
        go_wp2_with (first
         | (at_builtin;refine appN_at rgT wr _ w4.heap.size _ _ _ (.slice AO no co) no 1 (prC Q) (prC [(x,x)]) _ _ rfl rfl rfl rfl ((HO.out.below BX.out (Nat.le_refl _)).alloc _) HLIT.out rfl (prC_one _) (((BX.out.mono HBZ.out)).alloc (by have:=BX.out.size;have:=HBZ.out;omega) _) (by have:=BX.out.size;have:=HBZ.out;simp;omega) (by unfold maxLen;omega) (by omega) ?_;intro v9 w9 o9 b9 _ _;have O9:Hid (OwnN w9 w4.heap.size 66 2 v9 (Q++[(x,x)]).length (prC (Q++[(x,x)]))):=qh (by rw [prC_append,List.length_append,HQN.out];exact o9);have B9:=qh (HB.out.trans b9);clear o9 b9)
         | fail)
        go_roundw
        case rel=>exact ⟨i+1,by omega,by go_num,by rw [HE.out];exact O9,B9⟩
        case measure=>simp [intOf];omega
      ·obtain rfl:i=131:=by omega
       have HQ2:Hid (U++addB U T=Q):=qh (by have:=HQ.out;rwa [List.take_of_length_le (by rw [TN.out];exact Nat.le_refl _)] at this)
       obtain ⟨AO',co',hvo,lo,-,-⟩:=HO.out.form
       injection hvo with hA _ hco
       subst hA hco
       have HC:=qh (rset16_any wr AO Q co lo)
       rw [HQN.out,← HQ2.out] at HC
       clear lo
       have HV:Hid (setR (U++addB U T)=S1):=qh (by rw [HE.out,HUU.out,← HTT.out];rfl)
       rw [HV.out] at HC
       go_wp2_with fail
       refine HC.out.mono ?_
       rintro e w6 ⟨v6,rfl,o6,b6⟩
       have O6:=qh (o6.weaken (Nat.le_trans B4.out.size HB.out.size))
       have B6:=qh (below_then B4.out (below_then HB.out b6))
       clear o6 b6
       go_wp2_with fail
       go_meet
       exact ⟨O6,B6⟩
 case rest =>
  obtain ⟨HO5,HB5⟩:=hcut
  obtain ⟨n1,hn1⟩:∃ n,S1.length=n:=⟨_,rfl⟩
  have S1N:=qh hn1
  rw [hn1] at HO5 hs1n
  obtain ⟨A5,c5,rfl,l5,-,-⟩:=HO5.out.form
  have L5:=qh l5
  clear l5 hn1
  rcases f2 with _ | _
  ·have HE:Hid (S1=Z):=qh HG.out
   go_wp2_with fail
   go_ret
   refine ⟨_,rfl,?_,HB5.out⟩
   rw [← HE.out,S1N.out]
   exact HO5.out
  ·have HE:Hid (closeM S1=Z):=qh HG.out
   have Ewc:=qh (OwnN.ofLit (w:=wc) (B:=wc.heap.size) (e:=66) (size:=2) (n:=0) #[] (Nat.le_refl _) (by simp [maxLen]) rfl)
   go_wp2_with (first
    | (at_builtin;refine appN_at rgT wc _ wc.heap.size _ _ _ (.slice (some ⟨wc.heap.size,0,none⟩) 0 0) 0 n1 [] (prC S1) _ _ rfl rfl rfl rfl Ewc.out (L5.out.alloc (Nat.le_refl _) _) (by rw [prC_length];exact congrArg (· * 2) S1N.out) (prC_one _) (below_alloc _ _) (by simp) (by unfold maxLen;omega) (by omega) ?_;intro vm wm om bm _ _;have OM:Hid (OwnN wm wc.heap.size 66 2 vm S1.length (prC S1)):=qh (by rw [S1N.out];simpa using om);have BM:=qh bm;clear om bm)
    | fail)
   go_loopw [11,10] (fun iv ov wr=>∃ i:Nat,i≤12544∧iv=.int .i64 i∧Hid (OwnN wr wc.heap.size 66 2 ov (S1++addM S1 (upN i)).length (prC (S1++addM S1 (upN i))))∧Hid (Below wc.heap.size wc wr)) (fun iv _ _=>12544 - (intOf iv).toNat)
   case atStart=>exact ⟨0,by omega,rfl,qh (by rw [show addM S1 (upN 0)=[] from rfl,List.append_nil];exact OM.out),BM⟩
   case round =>
    obtain ⟨i,hi,rfl,HO,HB⟩:=hrel
    have hqn:(S1++addM S1 (upN i)).length≤13100:=by
     have h1:=addM_len S1 i
     have h2:=S1N.out
     rw [List.length_append]
     omega
    obtain ⟨AO,co,rfl,-,-,-⟩:=HO.out.form
    obtain ⟨Q,hQ⟩:∃ Q,S1++addM S1 (upN i)=Q:=⟨_,rfl⟩
    have HQ:=qh hQ
    obtain ⟨no,hno⟩:∃ n,Q.length=n:=⟨_,rfl⟩
    have HQN:=qh hno
    rw [hQ] at hqn HO ⊢
    rw [hno] at hqn HO ⊢
    have HBZ:Hid (wc.heap.size≤wr.heap.size):=qh HB.out.size
    clear hQ hno
    by_cases hlt:i < 12544
    ·have HNX:=qh (addM_next (S:=S1) (i:=i))
     have HSL:=qh ((L5.out.below HB.out).wider HB.out.size)
     have k0:(0:Int)≤(i:Int):=by omega
     have k1:(i:Int) < 12544:=by omega
     rcases hm:isM (i:Int) with _ | _
     ·have HE2:Hid (S1++addM S1 (upN (i+1))=Q):=qh (by rw [HNX.out,hm,← HQ.out];simp)
      have HM:=qh hm
      clear hm
      go_wp2_with fail
      refine (rmirrored_any (i:Int) wr).mono ?_
      rintro e wm ⟨rfl,bm⟩
      rw [HM.out]
      have BM2:=qh bm
      clear bm
      go_wp2_with fail
      go_roundw
      case rel=>exact ⟨i+1,by omega,by go_num,by rw [HE2.out,HQN.out];exact qh (HO.out.below BM2.out (Nat.le_refl _)),qh (below_then HB.out BM2.out)⟩
      case measure=>simp [intOf];omega
     ·rcases hh:hasR S1 (i:Int) with _ | _
      ·have HE2:Hid (S1++addM S1 (upN (i+1))=Q):=qh (by rw [HNX.out,hm,hh,← HQ.out];simp)
       have HM:=qh hm
       have HH:=qh hh
       clear hm hh
       go_wp2_with fail
       refine (rmirrored_any (i:Int) wr).mono ?_
       rintro e wm ⟨rfl,bm⟩
       rw [HM.out]
       have BM2:=qh bm
       have HSM:=qh (HSL.out.up bm)
       clear bm
       go_wp2_with fail
       have HAS:=rhas16_any wm _ A5 S1 c5 (i:Int) HSM.out (by have:=S1N.out;omega)
       rw [S1N.out,HH.out] at HAS
       refine HAS.mono ?_
       clear HAS
       rintro e wq ⟨rfl,rfl⟩
       go_wp2_with fail
       go_roundw
       case rel=>exact ⟨i+1,by omega,by go_num,by rw [HE2.out,HQN.out];exact qh (HO.out.below BM2.out (Nat.le_refl _)),qh (below_then HB.out BM2.out)⟩
       case measure=>simp [intOf];omega
      ·have HE2:Hid (S1++addM S1 (upN (i+1))=Q++[(mir i,mir i)]):=qh (by rw [HNX.out,hm,hh,← HQ.out];simp)
       have HM:=qh hm
       have HH:=qh hh
       clear hm hh
       go_wp2_with fail
       refine (rmirrored_any (i:Int) wr).mono ?_
       rintro e wm ⟨rfl,bm⟩
       rw [HM.out]
       have BM2:=qh bm
       have HSM:=qh (HSL.out.up bm)
       clear bm
       go_wp2_with fail
       have HAS:=rhas16_any wm _ A5 S1 c5 (i:Int) HSM.out (by have:=S1N.out;omega)
       rw [S1N.out,HH.out] at HAS
       refine HAS.mono ?_
       clear HAS
       rintro e wq ⟨rfl,rfl⟩
       go_wp2_with fail
       refine (rmirror_any (i:Int) wm).mono ?_
       rintro e wk ⟨rfl,bk⟩
       have BK:=qh (below_then BM2.out bk)
       obtain ⟨mi,hmi⟩:∃ m,mir (i:Int)=m:=⟨_,rfl⟩
       rw [hmi] at HE2 ⊢
       clear bk hmi
       go_wp2_with fail
       refine (rone16_any mi wk).mono ?_
       rintro e wx ⟨rfl,bx⟩
       have BX:=qh (below_then BK.out bx)
       have HLIT:=qh (rg_lit wx (mi,mi))
       clear bx
       go_wp2_with (first
        | (at_builtin;refine appN_at rgT wr _ wc.heap.size _ _ _ (.slice AO no co) no 1 (prC Q) (prC [(mi,mi)]) _ _ rfl rfl rfl rfl ((HO.out.below BX.out (Nat.le_refl _)).alloc _) HLIT.out rfl (prC_one _) (((BX.out.mono HBZ.out)).alloc (by have:=BX.out.size;have:=HBZ.out;omega) _) (by have:=BX.out.size;have:=HBZ.out;simp;omega) (by unfold maxLen;omega) (by omega) ?_;intro v9 w9 o9 b9 _ _;have O9:Hid (OwnN w9 wc.heap.size 66 2 v9 (Q++[(mi,mi)]).length (prC (Q++[(mi,mi)]))):=qh (by rw [prC_append,List.length_append,HQN.out];exact o9);have B9:=qh (HB.out.trans b9);clear o9 b9)
        | fail)
       go_roundw
       case rel=>exact ⟨i+1,by omega,by go_num,by rw [HE2.out];exact O9,B9⟩
       case measure=>simp [intOf];omega
    ·obtain rfl:i=12544:=by omega
     have HQ2:Hid (closeM S1=setR Q):=qh (by rw [closeM,HQ.out])
     obtain ⟨AO',co',hvo,lo,-,-⟩:=HO.out.form
     injection hvo with hA _ hco
     subst hA hco
     have HC:=qh (rset16_any wr AO Q co lo)
     rw [HQN.out,← HQ2.out,HE.out] at HC
     clear lo
     go_wp2_with fail
     refine HC.out.mono ?_
     rintro e w6 ⟨v6,rfl,o6,b6⟩
     have O6:=qh (o6.weaken (Nat.le_trans HB5.out.size HB.out.size))
     have B6:=qh (below_then HB5.out (below_then HB.out b6))
     clear o6 b6
     go_wp2_with fail
     go_ret
     exact ⟨_,rfl,O6.out,B6.out⟩
end
section
open Go.RowKit Go.Maps
def inTop (c:Int):Prop:=0≤c∧c≤topR
theorem hasR_of {L:List Int} {g:Int→Int} {c:Int}:hasR (L.map fun t=>(g t,g t)) c=true↔∃ t∈L,g t=c:=by
 rw [hasR_iff]
 constructor
 ·rintro ⟨r,hr,h1,h2⟩
  rw [List.mem_map] at hr
  obtain ⟨t,ht,rfl⟩:=hr
  exact ⟨t,ht,by dsimp only at h1 h2;omega⟩
 ·rintro ⟨t,ht,rfl⟩
  exact ⟨_,List.mem_map.2 ⟨t,ht,rfl⟩,Int.le_refl _,Int.le_refl _⟩
theorem mem_up {x:Int} {k:Nat}:x∈upN k↔0≤x∧x < k:=by
 unfold upN
 rw [List.mem_map]
 constructor
 ·rintro ⟨a,ha,rfl⟩
  rw [List.mem_range] at ha
  show 0≤(a:Int)∧(a:Int) < k
  omega
 ·rintro ⟨h1,h2⟩
  exact ⟨x.toNat,by rw [List.mem_range];omega,by show ((x.toNat:Nat):Int)=x;omega⟩
theorem addA_has {S:List (Int×Int)} {L:List Int} {c:Int}:hasR (addA S L) c=true↔∃ t,t∈L∧hasR S t=true∧fo t=c:=by
 unfold addA
 rw [hasR_of]
 simp [List.mem_filter,and_assoc]
theorem addB_has {S:List (Int×Int)} {L:List Int} {c:Int}:hasR (addB S L) c=true↔c∈L∧hasR S (fo c)=true:=by
 unfold addB
 rw [hasR_of (g:=fun t=>t)]
 simp [List.mem_filter]
theorem addM_has {S:List (Int×Int)} {k:Nat} {c:Int}:hasR (addM S (upN k)) c=true↔∃ t,t∈upN k∧isM t=true∧hasR S t=true∧mir t=c:=by
 unfold addM
 rw [hasR_of]
 simp [List.mem_filter,and_assoc]
theorem isM_facts (c:Int):isM c=true→0≤c∧c < 12544∧fo c=c∧froms c=[]:=by
 refine all_mrs (Q:=fun c=>isM c=true→0≤c∧c < 12544∧fo c=c∧froms c=[]) (fun c h hm=>?_) (by decide +kernel) c
 rw [isM,othM,h] at hm
 simp at hm
theorem isM_iff {c:Int}:isM c=true↔mir c≠c:=by rw [← isM_ne];simp
theorem isM_alone {c k:Int} (h:isM k=true) (hf:fo c=fo k):c=k:=by
 obtain ⟨-,-,h1,h2⟩:=isM_facts k h
 false_or_by_contra
 rename_i hne
 have:c∈froms k:=mem_froms.2 ⟨by rw [hf,h1],hne⟩
 rw [h2] at this
 simp at this
set_option maxRecDepth 100000 in
theorem up_few:((upN 12544).filter isM).length=26:=by decide +kernel
theorem addM_few (S:List (Int×Int)):(addM S (upN 12544)).length≤26:=by
 unfold addM
 rw [List.length_map,← up_few,show (fun t=>isM t && hasR S t)=fun t=>hasR S t && isM t from funext fun t=>Bool.and_comm _ _,← List.filter_filter]
 exact List.length_filter_le _ _
theorem fo_in {c:Int} (h:inTop c):inTop (fo c):=by
 obtain ⟨h1,h2⟩:=h
 unfold inTop topR at *
 have:=fo_spec c
 omega
theorem mir_in {c:Int} (h:inTop (mir c)):inTop c:=by
 by_cases he:mir c=c
 ·rwa [he] at h
 ·have:=isM_facts c (isM_iff.2 he)
  unfold inTop topR
  omega
theorem closeA_len (S:List (Int×Int)):(closeA S).length≤S.length+131:=by
 have h:=(setR_le (S++addA S (turnedN 7936))).2
 have h2:=addA_len S (turnedN 7936)
 rw [turned_few] at h2
 rw [List.length_append] at h
 unfold closeA
 omega
theorem closeB_len (S:List (Int×Int)):(closeB S).length≤S.length+131:=by
 have h:=(setR_le (S++addB S (turnedN 7936))).2
 have h2:=addB_len S (turnedN 7936)
 rw [turned_few] at h2
 rw [List.length_append] at h
 unfold closeB
 omega
theorem closeA_has {S:List (Int×Int)} (hl:S.length≤369) (c:Int):hasR (closeA S) c=true↔inTop c∧(hasR S c=true∨∃ t,fo t≠t∧hasR S t=true∧fo t=c):=by
 have h2:=addA_len S (turnedN 7936)
 rw [turned_few] at h2
 unfold closeA
 rw [setR_has (by rw [List.length_append];omega),hasR_append]
 simp only [Bool.and_eq_true,Bool.or_eq_true,decide_eq_true_eq,addA_has,mem_turned,inTop]
theorem closeB_has {S:List (Int×Int)} (hl:S.length≤369) (c:Int):hasR (closeB S) c=true↔inTop c∧(hasR S c=true∨fo c≠c∧hasR S (fo c)=true):=by
 have h2:=addB_len S (turnedN 7936)
 rw [turned_few] at h2
 unfold closeB
 rw [setR_has (by rw [List.length_append];omega),hasR_append]
 simp only [Bool.and_eq_true,Bool.or_eq_true,decide_eq_true_eq,addB_has,mem_turned,inTop]
theorem closeM_has {S:List (Int×Int)} (hl:S.length≤474) (c:Int):hasR (closeM S) c=true↔inTop c∧(hasR S c=true∨hasR S (mir c)=true):=by
 have h2:=addM_few S
 unfold closeM
 rw [setR_has (by rw [List.length_append];omega),hasR_append]
 simp only [Bool.and_eq_true,Bool.or_eq_true,decide_eq_true_eq,addM_has,inTop]
 constructor
 ·rintro ⟨hc,h | ⟨t,-,h1,h2,rfl⟩⟩
  ·exact ⟨hc,.inl h⟩
  ·exact ⟨hc,.inr (by rw [mir_twice];exact h2)⟩
 ·rintro ⟨hc,h | h⟩
  ·exact ⟨hc,.inl h⟩
  ·refine ⟨hc,?_⟩
   by_cases he:mir c=c
   ·rw [he] at h
    exact .inl h
   ·have hm:isM (mir c)=true:=isM_iff.2 (by rw [mir_twice];exact fun e=>he e.symm)
    obtain ⟨f1,f2,-⟩:=isM_facts _ hm
    exact .inr ⟨mir c,mem_up.2 ⟨f1,f2⟩,hm,h,mir_twice c⟩
theorem fold_has {S:List (Int×Int)} (hl:S.length≤238) (c:Int):hasR (closeB (closeA S)) c=true↔inTop c∧∃ k,fo k=fo c∧hasR S k=true:=by
 have hA:=closeA_len S
 rw [closeB_has (by omega),closeA_has (by omega),closeA_has (by omega)]
 constructor
 ·rintro ⟨hc,h⟩
  refine ⟨hc,?_⟩
  rcases h with ⟨-,h | ⟨t,h1,h2,h3⟩⟩ | ⟨h0,-,h | ⟨t,h1,h2,h3⟩⟩
  ·exact ⟨c,rfl,h⟩
  ·exact ⟨t,by rw [← h3,fo_twice],h2⟩
  ·exact ⟨fo c,fo_twice c,h⟩
  ·exact ⟨t,h3,h2⟩
 ·rintro ⟨hc,k,hk,h⟩
  refine ⟨hc,?_⟩
  by_cases hfc:fo c=c
  ·refine .inl ⟨hc,?_⟩
   by_cases hfk:fo k=k
   ·have hkc:k=c:=by rw [← hfk,hk,hfc]
    rw [hkc] at h
    exact .inl h
   ·exact .inr ⟨k,hfk,h,by rw [hk,hfc]⟩
  ·refine .inr ⟨hfc,fo_in hc,?_⟩
   by_cases hfk:fo k=k
   ·rw [← hk,hfk]
    exact .inl h
   ·exact .inr ⟨k,hfk,h,hk⟩
theorem setR_is {S:List (Int×Int)} (hS:Canon 0 S) (hl:S.length≤500):setR S=S:=by
 rw [setR_small hl]
 exact setP_is hS fun _ _ _=>rfl
def Folded (S:List (Int×Int)):Prop:=∀ c k,inTop c→fo k=fo c→hasR S k=true→hasR S c=true
theorem close_none (R:List (Int×Int)):closeR false false R=setR R:=by unfold closeR closeG closeF;simp
theorem close_10 (R:List (Int×Int)):closeR true false R=closeB (closeA (setR R)):=by unfold closeR closeG closeF;simp
theorem close_01 (R:List (Int×Int)):closeR false true R=closeM (setR R):=by unfold closeR closeG closeF;simp
theorem close_11 (R:List (Int×Int)):closeR true true R=closeM (closeR true false R):=by unfold closeR closeG closeF;simp
theorem close_fold {R:List (Int×Int)} (hl:R.length≤238) (c:Int):hasR (closeR true false R) c=true↔inTop c∧∃ k,fo k=fo c∧hasR (setR R) k=true:=by
 rw [close_10]
 exact fold_has (Nat.le_trans (setR_le R).2 hl) c
theorem close_canon (b1 b2:Bool) (R:List (Int×Int)):Canon 0 (closeR b1 b2 R):=by
 cases b2
 ·cases b1
  ·rw [close_none];exact setR_canon _
  ·rw [close_10,closeB];exact setR_canon _
 ·unfold closeR closeG
  rw [if_pos rfl,closeM]
  exact setR_canon _
theorem closeR_le (b1 b2:Bool) (R:List (Int×Int)):(closeR b1 b2 R).length≤500:=by
 cases b2
 ·cases b1
  ·rw [close_none];exact (setR_le _).1
  ·rw [close_10,closeB];exact (setR_le _).1
 ·unfold closeR closeG
  rw [if_pos rfl,closeM]
  exact (setR_le _).1
theorem close_fold_len (R:List (Int×Int)):(closeR true false R).length≤R.length+262:=by
 have h1:=closeB_len (closeA (setR R))
 have h2:=closeA_len (setR R)
 have h3:=(setR_le R).2
 rw [close_10]
 omega
theorem has_in {R:List (Int×Int)} (b1 b2:Bool) {c:Int} (h:hasR (closeR b1 b2 R) c=true):inTop c:=(close_canon b1 b2 R).has h
theorem close_mirror {R:List (Int×Int)} (hl:R.length≤474) (c:Int):hasR (closeR false true R) c=(hasR (setR R) c || hasR (setR R) (mir c)):=by
 rw [close_01]
 rw [Bool.eq_iff_iff,closeM_has (Nat.le_trans (setR_le R).2 hl),Bool.or_eq_true]
 refine ⟨fun h=>h.2,fun h=>⟨?_,h⟩⟩
 rcases h with h | h
 ·exact (setR_canon R).has h
 ·exact mir_in ((setR_canon R).has h)
theorem close_both {R:List (Int×Int)} (hl:R.length≤200) (c:Int):hasR (closeR true true R) c=(hasR (closeR true false R) c || hasR (closeR true false R) (mir c)):=by
 have hn:=close_fold_len R
 rw [close_11]
 rw [Bool.eq_iff_iff,closeM_has (by omega),Bool.or_eq_true]
 refine ⟨fun h=>h.2,fun h=>⟨?_,h⟩⟩
 rcases h with h | h
 ·exact has_in _ _ h
 ·exact mir_in (has_in _ _ h)
end
section
open Go.RowKit Go.Maps
theorem and_two (n:Nat):n &&& 2=0∨n &&& 2=2:=by
 have h1:n &&& 2≤2:=Nat.and_le_right
 have h2:(n &&& 2).testBit 0=false:=by rw [Nat.testBit_and];simp
 rw [Nat.testBit_zero] at h2
 have h3:=of_decide_eq_false h2
 omega
theorem bit_one (f:Int):(bits .and .i64 f 1 != 0)=(bits .and .i64 f 1 == 1):=by
 have h:bits .and .i64 f 1=0∨bits .and .i64 f 1=1:=by
  show IntKind.i64.wrap ((BitVec.ofInt 64 f &&& BitVec.ofInt 64 1).toNat:Int)=0∨IntKind.i64.wrap ((BitVec.ofInt 64 f &&& BitVec.ofInt 64 1).toNat:Int)=1
  rw [BitVec.toNat_and,show (BitVec.ofInt 64 1).toNat=1 by decide,Nat.and_one_is_mod]
  rcases Nat.mod_two_eq_zero_or_one (BitVec.ofInt 64 f).toNat with h | h <;> rw [h]
  ·exact .inl (by decide)
  ·exact .inr (by decide)
 rcases h with h | h <;> rw [h] <;> rfl
theorem bit_two (f:Int):(bits .and .i64 f 2 != 0)=(bits .and .i64 f 2 == 2):=by
 have h:bits .and .i64 f 2=0∨bits .and .i64 f 2=2:=by
  show IntKind.i64.wrap ((BitVec.ofInt 64 f &&& BitVec.ofInt 64 2).toNat:Int)=0∨IntKind.i64.wrap ((BitVec.ofInt 64 f &&& BitVec.ofInt 64 2).toNat:Int)=2
  rw [BitVec.toNat_and,show (BitVec.ofInt 64 2).toNat=2 by decide]
  rcases and_two (BitVec.ofInt 64 f).toNat with h | h <;> rw [h]
  ·exact .inl (by decide)
  ·exact .inr (by decide)
 rcases h with h | h <;> rw [h] <;> rfl
def mayM (c:Int):Bool:=decide (c≤187) || (decide (8804≤c) && decide (c≤9002)) || decide (12296≤c)
def toldI (f1 f2:Bool) (c:Int):List Int:=(if f1=true then kin (fo c) else [])++(if (f2 && mayM c)=true then [mir c] else [])
def lowW (r:Int×Int):Int:=max r.1 0
def highW (r:Int×Int):Int:=min r.2 12305
def widW (r:Int×Int):Nat:=(highW r - lowW r+1).toNat
def addC (R:List (Int×Int)) (l:List Int):List (Int×Int):=(l.filter fun t=>!hasR R t).map fun t=>(t,t)
def addW (R:List (Int×Int)) (f1 f2:Bool) (a:Int) (n:Nat):List (Int×Int):=(List.range n).flatMap fun i:Nat=>addC R (toldI f1 f2 (a+(i:Int)))
def addQ (R:List (Int×Int)) (f1 f2:Bool) (Q:List (Int×Int)):List (Int×Int):=Q.flatMap fun r=>addW R f1 f2 (lowW r) (widW r)
def behR (f1 f2:Bool) (R:List (Int×Int)):List (Int×Int):=setP (hasR (R++addQ R f1 f2 R))
theorem addC_next {R:List (Int×Int)} {l:List Int} {i:Nat} (h:i < l.length):addC R (l.take (i+1))=addC R (l.take i)++(if (!hasR R l[i])=true then [(l[i],l[i])] else []):=by
 unfold addC;rw [List.take_succ_eq_append_getElem h,List.filter_append,List.map_append];congr 1
 by_cases hh:(!hasR R l[i])=true <;> simp [hh]
theorem addW_next (R:List (Int×Int)) (f1 f2:Bool) (a:Int) (n:Nat):addW R f1 f2 a (n+1)=addW R f1 f2 a n++addC R (toldI f1 f2 (a+n)):=by
 unfold addW;rw [List.range_succ,List.flatMap_append];simp
theorem addQ_next {R Q:List (Int×Int)} {f1 f2:Bool} {k:Nat} (h:k < Q.length):addQ R f1 f2 (Q.take (k+1))=addQ R f1 f2 (Q.take k)++addW R f1 f2 (lowW Q[k]) (widW Q[k]):=by
 unfold addQ;rw [List.take_succ_eq_append_getElem h,List.flatMap_append];simp
theorem toldI_len (f1 f2:Bool) (c:Int):(toldI f1 f2 c).length≤5:=by
 have:=kin_few (fo c)
 unfold toldI
 rw [List.length_append]
 split <;> split <;> simp <;> omega
theorem addC_len (R:List (Int×Int)) (l:List Int):(addC R l).length≤l.length:=by
 unfold addC;rw [List.length_map];exact List.length_filter_le _ _
theorem addW_len (R:List (Int×Int)) (f1 f2:Bool) (a:Int):∀ n,(addW R f1 f2 a n).length≤5 * n
 | 0=>by simp [addW]
 | n+1=>by
  have:=addW_len R f1 f2 a n
  have h1:=addC_len R (toldI f1 f2 (a+(n:Int)))
  have h2:=toldI_len f1 f2 (a+(n:Int))
  rw [addW_next,List.length_append];omega
def totW (Q:List (Int×Int)):Nat:=(Q.map widW).sum
theorem addQ_len (R:List (Int×Int)) (f1 f2:Bool):∀ Q,(addQ R f1 f2 Q).length≤5 * totW Q
 | []=>by simp [addQ]
 | q :: Q=>by
  have:=addQ_len R f1 f2 Q
  have h1:=addW_len R f1 f2 (lowW q) (widW q)
  rw [show addQ R f1 f2 (q :: Q)=addW R f1 f2 (lowW q) (widW q)++addQ R f1 f2 Q from rfl,List.length_append,show totW (q :: Q)=widW q+totW Q from rfl]
  omega
theorem totW_at:∀ {Q:List (Int×Int)} {k:Nat} (h:k < Q.length),totW (Q.take k)+widW Q[k]≤totW Q
 | q :: Q,0,_=>by
  show totW []+widW q≤widW q+totW Q
  simp [totW]
 | q :: Q,k+1,h=>by
  have:=totW_at (Q:=Q) (k:=k) (by simpa using h)
  have hk:k < Q.length:=by simpa using h
  show widW q+totW (Q.take k)+widW (Q[k]'hk)≤widW q+totW Q
  omega
theorem addC_has {R:List (Int×Int)} {l:List Int} {c:Int}:hasR (addC R l) c=true↔c∈l∧hasR R c=false:=by
 unfold addC
 rw [hasR_of (g:=fun t=>t)]
 simp [List.mem_filter]
theorem addQ_has {R Q:List (Int×Int)} {f1 f2:Bool} {c:Int}:hasR (addQ R f1 f2 Q) c=true↔∃ r∈Q,∃ t,lowW r≤t∧t≤highW r∧c∈toldI f1 f2 t∧hasR R c=false:=by
 have hflat:∀ {α:Type} (L:List α) (g:α→List (Int×Int)),hasR (L.flatMap g) c=true↔∃ x∈L,hasR (g x) c=true:=by
  intro α L g
  simp only [hasR_iff,List.mem_flatMap]
  constructor
  ·rintro ⟨r,⟨x,hx,hr⟩,h⟩;exact ⟨x,hx,r,hr,h⟩
  ·rintro ⟨x,hx,r,hr,h⟩;exact ⟨r,⟨x,hx,hr⟩,h⟩
 unfold addQ
 rw [hflat]
 constructor
 ·rintro ⟨r,hr,h⟩
  unfold addW at h
  rw [hflat] at h
  obtain ⟨i,hi,h⟩:=h
  rw [List.mem_range] at hi
  rw [addC_has] at h
  unfold widW at hi
  exact ⟨r,hr,lowW r+i,by omega,by omega,h.1,h.2⟩
 ·rintro ⟨r,hr,t,h1,h2,h3,h4⟩
  refine ⟨r,hr,?_⟩
  unfold addW
  rw [hflat]
  refine ⟨(t - lowW r).toNat,?_,?_⟩
  ·rw [List.mem_range];unfold widW;omega
  ·rw [addC_has,show lowW r+((t - lowW r).toNat:Int)=t by omega]
   exact ⟨h3,h4⟩
theorem isM_may (c:Int):isM c=true→c≤12305∧mayM c=true:=by
 refine all_mrs (Q:=fun c=>isM c=true→c≤12305∧mayM c=true) (fun c h hm=>?_) (by decide +kernel) c
 rw [isM,othM,h] at hm
 simp at hm
theorem mem_told {f1 f2:Bool} {t c:Int}:c∈toldI f1 f2 t↔(f1=true∧fo c=fo t)∨(f2=true∧mayM t=true∧c=mir t):=by
 unfold toldI
 rw [List.mem_append]
 cases f1 <;> cases f2 <;> cases hm:mayM t <;> simp [mem_kin]
theorem beh_has {R:List (Int×Int)} {f1 f2:Bool} {c:Int} (hc:inTop c):hasR (R++addQ R f1 f2 R) c=true↔hasR R c=true∨(f1=true∧∃ k,inTop k∧fo k=fo c∧hasR R k=true)∨(f2=true∧hasR R (mir c)=true∧inTop (mir c)):=by
 rw [hasR_append,Bool.or_eq_true,addQ_has]
 have hcc:=hc
 unfold inTop at hcc
 constructor
 ·rintro (h | ⟨r,hr,t,h1,h2,h3,h4⟩)
  ·exact .inl h
  ·have hh:hasR R t=true:=hasR_iff.2 ⟨r,hr,by unfold lowW at h1;omega,by unfold highW at h2;omega⟩
   have ht:inTop t:=by unfold lowW at h1;unfold highW at h2;unfold inTop topR;omega
   rw [mem_told] at h3
   rcases h3 with ⟨e,h3⟩ | ⟨e,-,h3⟩
   ·exact .inr (.inl ⟨e,t,ht,h3.symm,hh⟩)
   ·refine .inr (.inr ⟨e,?_,?_⟩)
    ·rw [h3,mir_twice];exact hh
    ·rw [h3,mir_twice];exact ht
 ·intro h
  by_cases hR:hasR R c=true
  ·exact .inl hR
  ·have hRf:hasR R c=false:=by simpa using hR
   refine .inr ?_
   rcases h with h | ⟨e,k,hk,hf,h⟩ | ⟨e,h,hi⟩
   ·exact absurd h hR
   ·have hkc:k≠c:=fun e=>hR (by rw [← e];exact h)
    have h5:=fo_spec k
    have h6:=fo_spec c
    have hle:k≤12305:=by omega
    obtain ⟨r,hr,g1,g2⟩:=hasR_iff.1 h
    unfold inTop at hk
    refine ⟨r,hr,k,by unfold lowW;omega,by unfold highW;omega,mem_told.2 (.inl ⟨e,hf.symm⟩),hRf⟩
   ·have hne:mir c≠c:=fun e=>hR (by rw [← e];exact h)
    have hm:isM (mir c)=true:=isM_iff.2 (by rw [mir_twice];exact fun e=>hne e.symm)
    obtain ⟨g3,g4⟩:=isM_may _ hm
    obtain ⟨r,hr,g1,g2⟩:=hasR_iff.1 h
    unfold inTop at hi
    refine ⟨r,hr,mir c,by unfold lowW;omega,by unfold highW;omega,mem_told.2 (.inr ⟨e,g4,(mir_twice c).symm⟩),hRf⟩
theorem set_in {R:List (Int×Int)} {c:Int} (h:hasR (setR R) c=true):inTop c:=(setR_canon R).has h
theorem beh_close (f1 f2:Bool) {R:List (Int×Int)} (hl:R.length≤60):behR f1 f2 (setR R)=closeR f1 f2 R:=by
 refine canon_ext (setP_canon _) (close_canon f1 f2 R) fun c h0 h1=>?_
 have hc:inTop c:=⟨h0,h1⟩
 unfold behR
 rw [setP_has,show decide (0≤c)=true from decide_eq_true h0,show decide (c≤topR)=true from decide_eq_true h1,Bool.true_and,Bool.true_and,Bool.eq_iff_iff,beh_has hc]
 cases f1
 ·cases f2
  ·rw [close_none];simp
  ·rw [close_mirror (by omega),Bool.or_eq_true]
   constructor
   ·rintro (h | ⟨h,-⟩ | ⟨-,h,-⟩)
    ·exact .inl h
    ·cases h
    ·exact .inr h
   ·rintro (h | h)
    ·exact .inl h
    ·exact .inr (.inr ⟨rfl,h,set_in h⟩)
 ·have hF:∀ d,hasR (closeR true false R) d=true↔inTop d∧∃ k,fo k=fo d∧hasR (setR R) k=true:=fun d=>close_fold (by omega) d
  cases f2
  ·rw [hF]
   constructor
   ·rintro (h | ⟨-,k,hk,hf,h⟩ | ⟨h,-⟩)
    ·exact ⟨hc,c,rfl,h⟩
    ·exact ⟨hc,k,hf,h⟩
    ·cases h
   ·rintro ⟨-,k,hf,h⟩
    exact .inr (.inl ⟨rfl,k,set_in h,hf,h⟩)
  ·rw [close_both (by omega),Bool.or_eq_true,hF,hF]
   constructor
   ·rintro (h | ⟨-,k,hk,hf,h⟩ | ⟨-,h,hi⟩)
    ·exact .inl ⟨hc,c,rfl,h⟩
    ·exact .inl ⟨hc,k,hf,h⟩
    ·exact .inr ⟨hi,_,rfl,h⟩
   ·rintro (⟨-,k,hf,h⟩ | ⟨hi,k,hf,h⟩)
    ·exact .inr (.inl ⟨rfl,k,set_in h,hf,h⟩)
    ·by_cases he:mir c=c
     ·rw [he] at hf
      exact .inr (.inl ⟨rfl,k,set_in h,hf,h⟩)
     ·have hm:isM (mir c)=true:=isM_iff.2 (by rw [mir_twice];exact fun e=>he e.symm)
      have:=isM_alone hm hf
      rw [this] at h
      exact .inr (.inr ⟨rfl,h,hi⟩)
end
section
def flag1 (f:Int):Bool:=bits .and .i64 f 1 == 1
def flag2 (f:Int):Bool:=bits .and .i64 f 2 == 2
def pairUp:List Int→List (Int×Int)
 | a :: b :: r=>(a,b) :: pairUp r
 | _=>[]
def groupL (c:Int):List Int :=
 if c=100∨c=68 then [48,57]
 else if c=115∨c=83 then [9,13,32,32,133,133,160,160,8232,8233]
 else [48,57,65,90,95,95,97,122,192,214,216,246,248,591,880,1023,1024,1279,1488,1514,1568,1610,1632,1641]
def groupR (c:Int):List (Int×Int):=pairUp (groupL c)
def partR (f:Int) (t:Tok):List (Int×Int) :=
 if t.k=9 then behR (flag1 f) (flag2 f) [(t.lo,t.hi)]
 else if t.k=1 then behR (flag1 f) (flag2 f) [(t.c,t.c)]
 else if ([68,83,87]:List Int).contains t.c=true then setP fun c=>!hasR (behR (flag1 f) (flag2 f) (groupR t.c)) c
 else behR (flag1 f) (flag2 f) (groupR t.c)
def flag4 (f:Int):Bool:=bits .and .i64 f 4 != 0
def dotR (f:Int):List (Int×Int):=setP fun c=>!hasR (if flag4 f=true then [] else [(10,10)]) c
def classL (f:Int):List Tok→Option (List (Int×Int)×List Tok)
 | []=>none
 | t :: T=>if t.k=8 then some ([],T) else match classL f T with
  | none=>none
  | some (rs,R)=>some (partR f t++rs,R)
def classR (round:Bool) (rs:List (Int×Int)):List (Int×Int):=if round=true then setP fun c=>!hasR (setP (hasR rs)) c else setP (hasR rs)
theorem classL_shr {f:Int}:∀ {T:List Tok} {rs:List (Int×Int)} {R:List Tok},classL f T=some (rs,R)→R.length < T.length
 | [],_,_,h=>by cases h
 | t :: T,rs,R,h=>by
  rw [classL] at h
  by_cases h8:t.k=8
  ·rw [if_pos h8] at h
   injection h with h
   injection h with h1 h2
   subst h2
   simp
  ·rw [if_neg h8] at h
   rcases hc:classL f T with _ | ⟨rs',R'⟩
   ·rw [hc] at h;cases h
   ·rw [hc] at h
    injection h with h
    injection h with h1 h2
    subst h2
    have:=classL_shr hc
    simp;omega
def setT (f:Int) (t:Tok) (R:List Tok):Option (List (Int×Int)×List Tok) :=
 if t.k=2 then some (dotR f,R)
 else if t.k=7 then (match classL f R with
  | none=>none
  | some (rs,R')=>some (classR (t.c == 1) rs,R'))
 else some (partR f t,R)
end
end Go.Proofs.YtoeocodfndbebaaGreatDoor
