/- Shared texts, shaken for one claim. -/
import Derived.Deep.MidRow
import Derived.Test.YtoeocodfndbebaaGreatDoorZC1
import Derived.Test.YtoeocodfndbebaaGreatDoorZC2
import Derived.Test.YtoeocodfndbebaaGreatDoorZC4
set_option maxRecDepth 20000
set_option maxHeartbeats 16000000
namespace Go.Proofs.YtoeocodfndbebaaGreatDoor
section
open Go.RowKit
def RowedRg (w:World) (S:List (Int×Int)) (ed:Ending) (w':World):Prop:=∃ v,ed=.returned v∧OwnN w' w.heap.size 66 2 v S.length (prC S)∧Below w.heap.size w w'
theorem rg_lit (u:World) (p:Int×Int):Lies (u.alloc (.cells #[.int .i64 p.1,.int .i64 p.2] 66)) (u.heap.size+1) (some ⟨u.heap.size,0,none⟩) (prC [p]) :=
 Lies.lit (w:=u) (e:=66) #[.int .i64 p.1,.int .i64 p.2]
theorem low_next {R:List (Int×Int)} {k:Nat} (a:Int) (hk:k < R.length):(R.take (k+1)).foldl (lowF a) 1114112=lowF a ((R.take k).foldl (lowF a) 1114112) R[k]:=by
 rw [List.take_succ_eq_append_getElem hk,List.foldl_append];rfl
theorem hi_next {R:List (Int×Int)} {k:Nat} (h:Int) (hk:k < R.length):(R.take (k+1)).foldl hiF h=hiF ((R.take k).foldl hiF h) R[k]:=by
 rw [List.take_succ_eq_append_getElem hk,List.foldl_append];rfl
theorem hi_bound (R:List (Int×Int)) (k:Nat) {h:Int} (hh:h≤1114111):h≤(R.take k).foldl hiF h∧(R.take k).foldl hiF h≤1114111:=passR_ge (R.take k) h hh
theorem rset16_ok (w:World) (A:Option Addr) (R:List (Int×Int)) (c:Nat) (h:Lies w w.heap.size A (prC R)) (hl:R.length≤500) :
 Calls Tryz.prog 63 #[.slice A R.length c] w (RowedRg w (setP (hasR R))):=by
 have HL:=qh h
 have d1:decide (500 < (R.length:Int))=false:=decide_eq_false (by omega)
 have HSL:=qh (setR_length R)
 clear h
 go_enter Tryz.func63,Tryz.ntmps63
 go_wp2_with fail
 go_loopw [4,3] (fun av ov wr=>∃ (a:Nat) (S:List (Int×Int)),a≤1114112∧av=.int .i64 a∧Hid (S++tailR (hasR R) a=setP (hasR R))∧Hid (OwnN wr w.heap.size 66 2 ov S.length (prC S))∧Hid (Below w.heap.size w wr)) (fun av _ _=>1114112 - (intOf av).toNat)
 case atStart=>exact ⟨0,[],by omega,rfl,qh rfl,qh (OwnN.empty _ _ _ _),qh (Below.refl _ _)⟩
 case round =>
  obtain ⟨a,S,ha,rfl,HS,HO,HB⟩:=hrel
  have hsn:S.length≤500:=by
   have h1:=congrArg List.length HS.out
   rw [List.length_append] at h1
   have:=HSL.out;omega
  obtain ⟨AO,co,rfl,-,-,-⟩:=HO.out.form
  obtain ⟨ns,hns⟩:∃ ns,S.length=ns:=⟨_,rfl⟩
  have HNS:=qh hns
  rw [hns] at HO hsn ⊢
  have HLW:=qh (HL.out.up HB.out)
  clear hns
  by_cases hat:a≤1114111
  ·have d2:decide ((a:Int)≤1114111)=true:=decide_eq_true (by omega)
   have HSP:=qh (lowR_spec (R:=R) (a:=(a:Int)) (by omega))
   clear hat
   go_wp2_with fail
   go_loopw [6,5] (fun iv lv wx=>∃ k m:Nat,k≤R.length∧iv=.int .i64 k∧lv=.int .i64 ((R.take k).foldl (lowF a) 1114112)∧wx=wr.drewN m) (fun iv _ _=>R.length - (intOf iv).toNat)
   case atStart=>exact ⟨0,0,by omega,rfl,rfl,rfl⟩
   case round =>
    obtain ⟨k,m,hk,rfl,rfl,rfl⟩:=hrel
    by_cases hlt:k < R.length
    ·obtain ⟨g,off,rfl,-,c0,c1⟩:=prC_at HLW.out hlt
     have HNX:=qh (low_next (a:Int) hlt)
     obtain ⟨z,hz⟩:∃ z,(R.take k).foldl (lowF (a:Int)) 1114112=z:=⟨_,rfl⟩
     rw [hz] at HNX ⊢
     obtain ⟨p,hp⟩:∃ x,R[k]=x:=⟨_,rfl⟩
     rw [hp] at c0 c1 HNX
     obtain ⟨lo,hi⟩:=p
     simp only at c0 c1
     have k0:(0:Int)≤(k:Int):=by omega
     have k1:(k:Int) < (R.length:Int):=by omega
     clear hz hp
     by_cases e1:(a:Int)≤hi
     ·have f1:decide ((a:Int)≤hi)=true:=decide_eq_true e1
      by_cases e2:lo≤hi
      ·have f2:decide (lo≤hi)=true:=decide_eq_true e2
       by_cases e3:lo < (a:Int)
       ·by_cases e4:(a:Int) < z
        ·have f4:decide ((a:Int) < z)=true:=decide_eq_true e4
         have HV:Hid (lowF (a:Int) z (lo,hi)=(a:Int)):=qh (by unfold lowF;rw [if_pos ⟨e1,e2,by simp only;omega⟩];simp only;omega)
         go_wp2_with fail
         go_quiet (fail)
         go_wp2_with fail
         go_roundw
         case rel=>exact ⟨k+1,m+nq,by omega,by go_num,by rw [HNX.out,HV.out],rfl⟩
         case measure=>simp [intOf];omega
        ·have f4:decide ((a:Int) < z)=false:=decide_eq_false e4
         have HV:Hid (lowF (a:Int) z (lo,hi)=z):=qh (by unfold lowF;rw [if_neg (fun h=>by have:=h.2.2;simp only at this;omega)])
         go_wp2_with fail
         go_quiet (fail)
         go_wp2_with fail
         go_roundw
         case rel=>exact ⟨k+1,m+nq,by omega,by go_num,by rw [HNX.out,HV.out],rfl⟩
         case measure=>simp [intOf];omega
       ·by_cases e4:lo < z
        ·have f4:decide (lo < z)=true:=decide_eq_true e4
         have HV:Hid (lowF (a:Int) z (lo,hi)=lo):=qh (by unfold lowF;rw [if_pos ⟨e1,e2,by simp only;omega⟩];simp only;omega)
         go_wp2_with fail
         go_quiet (fail)
         go_wp2_with fail
         go_roundw
         case rel=>exact ⟨k+1,m+nq,by omega,by go_num,by rw [HNX.out,HV.out],rfl⟩
         case measure=>simp [intOf];omega
        ·have f4:decide (lo < z)=false:=decide_eq_false e4
         have HV:Hid (lowF (a:Int) z (lo,hi)=z):=qh (by unfold lowF;rw [if_neg (fun h=>by have:=h.2.2;simp only at this;omega)])
         go_wp2_with fail
         go_quiet (fail)
         go_wp2_with fail
         go_roundw
         case rel=>exact ⟨k+1,m+nq,by omega,by go_num,by rw [HNX.out,HV.out],rfl⟩
         case measure=>simp [intOf];omega
      ·have f2:decide (lo≤hi)=false:=decide_eq_false e2
       have HV:Hid (lowF (a:Int) z (lo,hi)=z):=qh (by unfold lowF;rw [if_neg (fun h=>e2 h.2.1)])
       go_wp2_with fail
       go_quiet (fail)
       go_wp2_with fail
       go_roundw
       case rel=>exact ⟨k+1,m+nq,by omega,by go_num,by rw [HNX.out,HV.out],rfl⟩
       case measure=>simp [intOf];omega
     ·have f1:decide ((a:Int)≤hi)=false:=decide_eq_false e1
      have HV:Hid (lowF (a:Int) z (lo,hi)=z):=qh (by unfold lowF;rw [if_neg (fun h=>e1 h.1)])
      go_wp2_with fail
      go_quiet (fail)
      go_wp2_with fail
      go_roundw
      case rel=>exact ⟨k+1,m+nq,by omega,by go_num,by rw [HNX.out,HV.out],rfl⟩
      case measure=>simp [intOf];omega
    ·obtain rfl:k=R.length:=by omega
     have hlow:(R.take R.length).foldl (lowF (a:Int)) 1114112=lowR R a:=by rw [List.take_length];rfl
     rw [hlow]
     obtain ⟨z,hz⟩:∃ z,lowR R (a:Int)=z:=⟨_,rfl⟩
     rw [hz] at HSP ⊢
     clear hlow hz
     by_cases hzt:z≤1114111
     ·have d3:decide (1114111 < z)=false:=decide_eq_false (by omega)
      obtain ⟨s1,s2,s3,s4⟩:=HSP.out
      have HIS:=qh (itR_spec (s3 (by omega)) hzt)
      have HIT:=qh (fun n=>itR_ge R hzt n)
      have HZ4:=qh s4
      have z0:(a:Int)≤z:=s1
      clear s1 s2 s3 s4 HSP
      go_wp2_with fail
      go_loopw [8,7] (fun nv hv wx=>∃ j:Nat,j≤R.length+1∧nv=.int .i64 j∧hv=.int .i64 (itR R z j)∧wx=wr.drewN m) (fun nv _ _=>R.length+1 - (intOf nv).toNat)
      case atStart=>exact ⟨0,by omega,rfl,rfl,rfl⟩
      case round =>
       obtain ⟨j,hj,rfl,rfl,rfl⟩:=hrel
       have hjb:=HIT.out j
       by_cases hjl:j≤R.length
       ·have d4:decide ((j:Int)≤(R.length:Int))=true:=decide_eq_true (by omega)
        have d5:(j:Int)≤(R.length:Int):=by omega
        have d6:decide (j≤R.length)=true:=decide_eq_true hjl
        obtain ⟨y,hy⟩:∃ y,itR R z j=y:=⟨_,rfl⟩
        have HJN:Hid (itR R z (j+1)=(R.take R.length).foldl hiF y):=qh (by rw [List.take_length,← hy];rfl)
        rw [hy] at hjb ⊢
        have HHB:=qh (fun i=>hi_bound R i hjb.2)
        have hy0:z≤y:=hjb.1
        clear hjl hy hjb
        go_wp2_with fail
        go_loopw [9,7] (fun iv hv wx=>∃ i:Nat,i≤R.length∧iv=.int .i64 i∧hv=.int .i64 ((R.take i).foldl hiF y)∧wx=wr.drewN m) (fun iv _ _=>R.length - (intOf iv).toNat)
        case atStart=>exact ⟨0,by omega,rfl,rfl,rfl⟩
        case round =>
         obtain ⟨i,hi,rfl,rfl,rfl⟩:=hrel
         have hhb:=HHB.out i
         by_cases hlt:i < R.length
         ·obtain ⟨g,off,rfl,-,c0,c1⟩:=prC_at HLW.out hlt
          have HNX:=qh (hi_next y hlt)
          obtain ⟨v,hv⟩:∃ v,(R.take i).foldl hiF y=v:=⟨_,rfl⟩
          rw [hv] at HNX hhb ⊢
          obtain ⟨p,hp⟩:∃ x,R[i]=x:=⟨_,rfl⟩
          rw [hp] at c0 c1 HNX
          obtain ⟨lo,hi'⟩:=p
          simp only at c0 c1
          have k0:(0:Int)≤(i:Int):=by omega
          have k1:(i:Int) < (R.length:Int):=by omega
          have hw:IntKind.i64.wrap (v+1)=v+1:=IntWalk.i64_in _ (by omega)
          have hv1:v≤1114111:=hhb.2
          clear hv hp hhb
          by_cases e1:lo≤v+1
          ·have f1:decide (lo≤v+1)=true:=decide_eq_true e1
           by_cases e2:v < hi'
           ·have f2:decide (v < hi')=true:=decide_eq_true e2
            by_cases e3:hi' < 1114111
            ·have HV:Hid (hiF v (lo,hi')=hi'):=qh (by unfold hiF;rw [if_pos ⟨e1,e2⟩];simp only;omega)
             go_wp2_with fail
             go_roundw
             case rel=>exact ⟨i+1,by omega,by go_num,by rw [HNX.out,HV.out],trivial⟩
             case measure=>simp [intOf];omega
            ·have HV:Hid (hiF v (lo,hi')=1114111):=qh (by unfold hiF;rw [if_pos ⟨e1,e2⟩];simp only;omega)
             go_wp2_with fail
             go_roundw
             case rel=>exact ⟨i+1,by omega,by go_num,by rw [HNX.out,HV.out],trivial⟩
             case measure=>simp [intOf];omega
           ·have f2:decide (v < hi')=false:=decide_eq_false e2
            have HV:Hid (hiF v (lo,hi')=v):=qh (by unfold hiF;rw [if_neg (fun h=>e2 h.2)])
            go_wp2_with fail
            go_roundw
            case rel=>exact ⟨i+1,by omega,by go_num,by rw [HNX.out,HV.out],trivial⟩
            case measure=>simp [intOf];omega
          ·have f1:decide (lo≤v+1)=false:=decide_eq_false e1
           have HV:Hid (hiF v (lo,hi')=v):=qh (by unfold hiF;rw [if_neg (fun h=>e1 h.1)])
           go_wp2_with fail
           go_roundw
           case rel=>exact ⟨i+1,by omega,by go_num,by rw [HNX.out,HV.out],trivial⟩
           case measure=>simp [intOf];omega
         ·obtain rfl:i=R.length:=by omega
          rw [← HJN.out]
          go_wp2_with fail
          go_roundw
          case rel=>exact ⟨j+1,by omega,by go_num,rfl,trivial⟩
          case measure=>simp [intOf];omega
       ·obtain rfl:j=R.length+1:=by omega
        have d4:decide (((R.length+1:Nat):Int)≤(R.length:Int))=false:=decide_eq_false (by omega)
        obtain ⟨y,hy⟩:∃ y,itR R z (R.length+1)=y:=⟨_,rfl⟩
        rw [hy] at HIS hjb ⊢
        have hy1:y≤1114111:=hjb.2
        have hy0:z≤y:=hjb.1
        obtain ⟨zn,hzn⟩:∃ n:Nat,z=(n:Int):=⟨z.toNat,by omega⟩
        obtain ⟨yn,hyn⟩:∃ n:Nat,y=(n:Int):=⟨y.toNat,by omega⟩
        have HST:Hid ((S++[(z,y)])++tailR (hasR R) (yn+1)=setP (hasR R)):=qh (by
         obtain ⟨s1,s2,s3,s4⟩:=HIS.out
         rw [hzn,hyn,List.append_assoc,List.singleton_append,← tailR_run (p:=hasR R) (a:=a) (lo:=zn) (hi:=yn) (by omega) (by omega) (by omega) (fun c h1 h2=>HZ4.out c h1 (by rw [hzn];exact h2)) (fun c h1 h2=>s3 c (by rw [hzn];exact h1) (by rw [hyn];exact h2)) (by
          rcases s4 with s4 | s4
          ·left;omega
          ·right;rw [← hyn];exact s4)]
         exact HS.out)
        have hw:IntKind.i64.wrap (y+1)=((yn+1:Nat):Int):=by rw [IntWalk.i64_in _ (by omega)];omega
        have HLIT:=qh (rg_lit (wr.drewN m) (z,y))
        have hyb:yn≤1114111:=by omega
        have hya:a≤yn:=by omega
        clear hy hzn hyn hjl
        go_wp2_with (first
         | (at_builtin;refine appN_at rgT w _ w.heap.size _ _ _ (.slice AO ns co) ns 1 (prC S) (prC [(z,y)]) _ _ rfl rfl rfl rfl (((HO.out.same (w':=wr.drewN m) rfl)).alloc _) HLIT.out rfl (prC_one _) ((below_drawn HB.out m).alloc HB.out.size _) (by have:=HB.out.size;simp;omega) (by unfold maxLen;omega) (by omega) ?_;intro v2 w2 o2 b2 _ _;have O2:Hid (OwnN w2 w.heap.size 66 2 v2 (S++[(z,y)]).length (prC (S++[(z,y)]))):=qh (by rw [prC_append,List.length_append,HNS.out];exact o2);have B2:=qh b2;clear o2 b2)
         | fail)
        go_roundw
        case rel=>exact ⟨yn+1,S++[(z,y)],by omega,rfl,HST,O2,B2⟩
        case measure=>simp [intOf];omega
     ·have d3:decide (1114111 < z)=true:=decide_eq_true (by omega)
      have HE:Hid (S=setP (hasR R)):=qh (by
       have h1:=HS.out
       rw [tailR_none ha (fun c h1 h2=>HSP.out.2.2.2 c h1 (by unfold topR at h2;omega)),List.append_nil] at h1
       exact h1)
      go_wp2_with fail
      go_ret
      refine ⟨_,rfl,?_,below_drawn HB.out _⟩
      rw [← HE.out,HNS.out]
      exact HO.out.same rfl
  ·have d2:decide ((a:Int)≤1114111)=false:=decide_eq_false (by omega)
   have HE:Hid (S=setP (hasR R)):=qh (by
    have h1:=HS.out
    rw [tailR_none ha (fun c h1 h2=>by unfold topR at h2;omega),List.append_nil] at h1
    exact h1)
   go_wp2_with fail
   go_ret
   refine ⟨_,rfl,?_,HB.out⟩
   rw [← HE.out,HNS.out]
   exact HO.out
theorem rset16_any (w:World) (A:Option Addr) (R:List (Int×Int)) (c:Nat) (h:Lies w w.heap.size A (prC R)) :
 Calls Tryz.prog 63 #[.slice A R.length c] w (RowedRg w (setR R)):=by
 by_cases hl:500 < R.length
 ·have e:setR R=[]:=by unfold setR;rw [if_pos hl]
  have d1:decide (500 < (R.length:Int))=true:=decide_eq_true (by omega)
  rw [e]
  clear h hl e
  go_enter Tryz.func63,Tryz.ntmps63
  go_wp2_with fail
  go_ret
  exact ⟨_,rfl,OwnN.empty _ _ _ _,Below.refl _ _⟩
 ·rw [setR_small (by omega)]
  exact rset16_ok w A R c h (by omega)
end
section
open Go.RowKit
theorem tailR_skip {p:Int→Bool} {a b:Nat} (h0:a≤b) (h1:b≤1114112) (hn:∀ c:Int,(a:Int)≤c→c < b→p c=false):tailR p a=tailR p b :=
 canon_ext (tailR_canon p (by omega)) ((tailR_canon p h1).weaken (by omega)) fun c h2 h3=>by
  rw [tailR_has p (by omega),tailR_has p h1]
  by_cases hc:c < b
  ·rw [hn c h2 hc];simp
  ·rw [show decide ((a:Int)≤c)=true by simpa using h2,show decide ((b:Int)≤c)=true by simp;omega]
structure TurnAt (S:List (Int×Int)) (a i:Nat) (T:List (Int×Int)):Prop where
 tail:T++tailR (fun c=>!hasR S c) a=setP fun c=>!hasR S c
 canon:Canon a (S.drop i)
 same:∀ c:Int,(a:Int)≤c→hasR S c=hasR (S.drop i) c
 le:a≤1114112
 len:T.length≤i
theorem TurnAt.start {S:List (Int×Int)} (h:Canon 0 S):TurnAt S 0 0 []:=⟨rfl,h,fun _ _=>rfl,by omega,by simp⟩
theorem TurnAt.next {S T:List (Int×Int)} {a i lo hi:Nat} (h:TurnAt S a i T) (hi':i < S.length) (he:S[i]=((lo:Int),(hi:Int))) :
 a≤lo∧lo≤hi∧hi≤1114111∧TurnAt S (hi+1) (i+1) (if a < lo then T++[((a:Int),(lo:Int) - 1)] else T):=by
 have hd:S.drop i=((lo:Int),(hi:Int)) :: S.drop (i+1):=by rw [List.drop_eq_getElem_cons hi',he]
 have hc:=h.canon
 rw [hd] at hc
 obtain ⟨h1,h2,h3,h4⟩:=hc
 simp only at h1 h2 h3 h4
 unfold topR at h3
 have hq:∀ c:Int,(a:Int)≤c→c < lo→hasR S c=false:=fun c g1 g2=>by
  rw [h.same c g1,hd,hasR_cons,show inR ((lo:Int),(hi:Int)) c=false by simp [inR] <;> omega,Bool.false_or]
  rcases hh:hasR (S.drop (i+1)) c with _ | _
  ·rfl
  ·have:=h4.has hh;omega
 have hy:∀ c:Int,(lo:Int)≤c→c < ((hi+1:Nat):Int)→hasR S c=true:=fun c g1 g2=>by
  rw [h.same c (by omega),hd,hasR_cons,show inR ((lo:Int),(hi:Int)) c=true by simp [inR] <;> omega];rfl
 have hsk:tailR (fun c=>!hasR S c) lo=tailR (fun c=>!hasR S c) (hi+1):=tailR_skip (by omega) (by omega) fun c g1 g2=>by simp only [hy c g1 g2];rfl
 refine ⟨by omega,by omega,by omega,?_,h4.weaken (by omega),fun c g=>?_,by omega,?_⟩
 ·have ht:=h.tail
  split
  ·rename_i hlt
   obtain ⟨m,rfl⟩:∃ m,lo=m+1:=⟨lo - 1,by omega⟩
   rw [tailR_run (a:=a) (lo:=a) (hi:=m) (Nat.le_refl _) (by omega) (by omega) (fun c g1 g2=>by omega) (fun c g1 g2=>by simp only [hq c g1 (by omega)];rfl) (.inr (by simp only [hy ((m:Int)+1) (by omega) (by omega)];rfl)),hsk] at ht
   rw [List.append_assoc,show (((m+1:Nat):Int) - 1)=(m:Int) by omega]
   exact ht
  ·have:a=lo:=by omega
   subst this
   rw [← hsk];exact ht
 ·rw [h.same c (by omega),hd,hasR_cons,show inR ((lo:Int),(hi:Int)) c=false by simp [inR] <;> omega,Bool.false_or]
 ·have:=h.len
  split
  ·simp;omega
  ·omega
theorem TurnAt.done {S T:List (Int×Int)} {a:Nat} (h:TurnAt S a S.length T):(if a≤1114111 then T++[((a:Int),(1114111:Int))] else T)=setP fun c=>!hasR S c:=by
 have hs:∀ c:Int,(a:Int)≤c→hasR S c=false:=fun c g=>by rw [h.same c g,List.drop_length];rfl
 have ht:=h.tail
 split
 ·rename_i hle
  rw [tailR_run (a:=a) (lo:=a) (hi:=1114111) (Nat.le_refl _) hle (by omega) (fun c g1 g2=>by omega) (fun c g1 g2=>by simp only [hs c g1];rfl) (.inl rfl),tailR_none (by omega) (fun c g1 g2=>by unfold topR at g2;omega)] at ht
  exact ht
 ·rename_i hle
  have:=h.le
  rw [tailR_none h.le (fun c g1 g2=>by unfold topR at g2;omega),List.append_nil] at ht
  exact ht
theorem rturn16_any (w:World) (A:Option Addr) (R:List (Int×Int)) (c:Nat) (h:Lies w w.heap.size A (prC R)) :
 Calls Tryz.prog 86 #[.slice A R.length c] w (RowedRg w (turnR R)):=by
 have HL:=qh h
 obtain ⟨S,hS⟩:∃ S,setR R=S:=⟨_,rfl⟩
 have HC:=qh (rset16_any w A R c h)
 have hcan:=setR_canon R
 have hsl:=(setR_le R).1
 obtain ⟨Z,hZ⟩:∃ Z,turnR R=Z:=⟨_,rfl⟩
 have HZ:Hid ((setP fun c=>!hasR S c)=Z):=qh (by rw [← hZ,← hS];rfl)
 rw [hS] at HC hcan hsl
 rw [hZ]
 have HCA:=qh (TurnAt.start hcan)
 have HCN:=qh hcan
 clear h hS hZ hcan
 go_enter Tryz.func86,Tryz.ntmps86
 go_wp2_with fail
 refine HC.out.mono ?_
 rintro e w1 ⟨v1,rfl,o1,b1⟩
 obtain ⟨A1,c1,rfl,-,-,-⟩:=o1.form
 have O1:=qh o1
 have B1:=qh b1
 clear o1 b1
 go_wp2_with fail
 go_loopw [6,4,3] (fun iv av ov wr=>∃ (i a:Nat) (T:List (Int×Int)),i≤S.length∧iv=.int .i64 i∧av=.int .i64 a∧Hid (TurnAt S a i T)∧Hid (OwnN wr w1.heap.size 66 2 ov T.length (prC T))∧Hid (Below w1.heap.size w1 wr)) (fun iv _ _ _=>S.length - (intOf iv).toNat)
 case atStart=>exact ⟨0,0,[],by omega,rfl,rfl,HCA,qh (OwnN.empty _ _ _ _),qh (Below.refl _ _)⟩
 case round =>
  obtain ⟨i,a,T,hi,rfl,rfl,HT,HO,HB⟩:=hrel
  have htn:T.length≤500:=by have:=HT.out.len;omega
  obtain ⟨AO,co,rfl,-,-,-⟩:=HO.out.form
  obtain ⟨nt,hnt⟩:∃ n,T.length=n:=⟨_,rfl⟩
  have HNT:=qh hnt
  rw [hnt] at HO htn ⊢
  clear hnt
  by_cases hlt:i < S.length
  ·obtain ⟨AS,cS,hvS,lS,-,-⟩:=O1.out.form
   injection hvS with hA _ hcS
   subst hA hcS
   obtain ⟨g,off,rfl,hgl,c0,c1'⟩:=prC_at (lS.below HB.out) hlt
   obtain ⟨lo,hlo⟩:∃ n:Nat,S[i].1=(n:Int)∧∃ m:Nat,S[i].2=(m:Int):=by
    have hcd:=HT.out.canon
    rw [List.drop_eq_getElem_cons hlt] at hcd
    have h1:=hcd.1;have h2:=hcd.2.1
    exact ⟨S[i].1.toNat,by omega,S[i].2.toNat,by omega⟩
   obtain ⟨hlo,hi2,hhi⟩:=hlo
   have he:S[i]=((lo:Int),(hi2:Int)):=Prod.ext hlo hhi
   obtain ⟨n1,n2,n3,hnx⟩:=HT.out.next hlt he
   rw [hlo] at c0
   rw [hhi] at c1'
   have k0:(0:Int)≤(i:Int):=by omega
   have k1:(i:Int) < (S.length:Int):=by omega
   have hw1:IntKind.i64.wrap ((lo:Int) - 1)=(lo:Int) - 1:=IntWalk.i64_in _ (by omega)
   have hw2:IntKind.i64.wrap ((hi2:Int)+1)=((hi2+1:Nat):Int):=by rw [IntWalk.i64_in _ (by omega)];omega
   have HNX:=qh hnx
   clear hnx he hlo hhi lS
   by_cases hal:a < lo
   ·have d1:decide ((a:Int) < (lo:Int))=true:=decide_eq_true (by omega)
    have d2:decide (a < lo)=true:=decide_eq_true hal
    have HN2:Hid (TurnAt S (hi2+1) (i+1) (T++[((a:Int),(lo:Int) - 1)])):=qh (by have:=HNX.out;rwa [if_pos hal] at this)
    have HLIT:=qh (rg_lit wr ((a:Int),(lo:Int) - 1))
    have HS2:Hid (∀ u:World,Below w1.heap.size wr u→u.cell? ⟨g,off+i * 2+1,none⟩=some (.int .i64 hi2)):=qh (fun u hu=>by rw [hu.cell hgl];exact c1')
    have HBZ:Hid (w1.heap.size≤wr.heap.size):=qh HB.out.size
    clear hal
    go_wp2_with (first
     | (at_builtin;refine appN_at rgT wr _ w1.heap.size _ _ _ (.slice AO nt co) nt 1 (prC T) (prC [((a:Int),(lo:Int) - 1)]) _ _ rfl rfl rfl rfl (HO.out.alloc _) HLIT.out rfl (prC_one _) ((Below.refl _ _).alloc HBZ.out _) (by have:=HBZ.out;simp;omega) (by unfold maxLen;omega) (by omega) ?_;intro v2 w2 o2 b2 _ _;have O2:Hid (OwnN w2 w1.heap.size 66 2 v2 (T++[((a:Int),(lo:Int) - 1)]).length (prC (T++[((a:Int),(lo:Int) - 1)]))):=qh (by rw [prC_append,List.length_append,HNT.out];exact o2);have B2:=qh (HB.out.trans b2);have hc2:=HS2.out w2 b2;clear o2 b2 c0 c1')
     | fail)
    go_roundw
    case rel=>exact ⟨i+1,hi2+1,_,by omega,by go_num,rfl,HN2,O2,B2⟩
    case measure=>simp [intOf];omega
   ·have d1:decide ((a:Int) < (lo:Int))=false:=decide_eq_false (by omega)
    have d2:decide (a < lo)=false:=decide_eq_false hal
    have HN2:Hid (TurnAt S (hi2+1) (i+1) T):=qh (by have:=HNX.out;rwa [if_neg hal] at this)
    clear hal
    go_wp2_with fail
    go_roundw
    case rel=>exact ⟨i+1,hi2+1,T,by omega,by go_num,rfl,HN2,by rw [HNT.out];exact HO,HB⟩
    case measure=>simp [intOf];omega
  ·obtain rfl:i=S.length:=by omega
   have hdone:=HT.out.done
   rw [HZ.out] at hdone
   have hale:=HT.out.le
   by_cases hat:a≤1114111
   ·have d1:decide ((a:Int)≤1114111)=true:=decide_eq_true (by omega)
    have HD:Hid (T++[((a:Int),(1114111:Int))]=Z):=qh (by rwa [if_pos hat] at hdone)
    have HLIT:=qh (rg_lit wr ((a:Int),(1114111:Int)))
    have HBZ:Hid (w1.heap.size≤wr.heap.size):=qh HB.out.size
    clear hat hdone
    go_wp2_with (first
     | (at_builtin;refine appN_at rgT wr _ w1.heap.size _ _ _ (.slice AO nt co) nt 1 (prC T) (prC [((a:Int),(1114111:Int))]) _ _ rfl rfl rfl rfl (HO.out.alloc _) HLIT.out rfl (prC_one _) ((Below.refl _ _).alloc HBZ.out _) (by have:=HBZ.out;simp;omega) (by unfold maxLen;omega) (by omega) ?_;intro v2 w2 o2 b2 _ _;have O2:Hid (OwnN w2 w1.heap.size 66 2 v2 (T++[((a:Int),(1114111:Int))]).length (prC (T++[((a:Int),(1114111:Int))]))):=qh (by rw [prC_append,List.length_append,HNT.out];exact o2);have B2:=qh (HB.out.trans b2);clear o2 b2)
     | fail)
    go_ret
    refine ⟨_,rfl,?_,below_then B1.out B2.out⟩
    rw [← HD.out]
    exact O2.out.weaken B1.out.size
   ·have d1:decide ((a:Int)≤1114111)=false:=decide_eq_false (by omega)
    have HD:Hid (T=Z):=qh (by rwa [if_neg hat] at hdone)
    clear hat hdone
    go_wp2_with fail
    go_ret
    refine ⟨_,rfl,?_,below_then B1.out HB.out⟩
    rw [← HD.out,HNT.out]
    exact HO.out.weaken B1.out.size
end
section
def capR (r:Int×Int):Int×Int:=(max r.1 0,min r.2 1114111)
def keepR (R:List (Int×Int)):List (Int×Int):=(R.map capR).filter fun r=>decide (r.1≤r.2)
theorem keepR_next {R:List (Int×Int)} {k:Nat} (h:k < R.length):keepR (R.take (k+1))=keepR (R.take k)++(if max R[k].1 0≤min R[k].2 1114111 then [(max R[k].1 0,min R[k].2 1114111)] else []):=by
 unfold keepR
 rw [List.take_succ_eq_append_getElem h,List.map_append,List.filter_append]
 congr 1
 by_cases hh:max R[k].1 0≤min R[k].2 1114111 <;> simp [capR,hh]
theorem keepR_len (R:List (Int×Int)):(keepR R).length≤R.length:=by
 unfold keepR
 refine Nat.le_trans (List.length_filter_le _ _) ?_
 simp
theorem keepR_in {R:List (Int×Int)} {r:Int×Int} (h:r∈keepR R):0≤r.1∧r.1≤r.2∧r.2≤topR:=by
 unfold keepR at h
 rw [List.mem_filter,List.mem_map] at h
 obtain ⟨⟨q,_,rfl⟩,h⟩:=h
 have h:max q.1 0≤min q.2 1114111:=of_decide_eq_true h
 show 0≤max q.1 0∧max q.1 0≤min q.2 1114111∧min q.2 1114111≤topR
 unfold topR
 omega
theorem keepR_has (R:List (Int×Int)) (c:Int):hasR (keepR R) c=(decide (0≤c) && decide (c≤topR) && hasR R c):=by
 rw [Bool.eq_iff_iff]
 simp only [Bool.and_eq_true,decide_eq_true_eq]
 rw [hasR_iff,hasR_iff]
 unfold topR
 constructor
 ·rintro ⟨r,hr,h1,h2⟩
  unfold keepR at hr
  rw [List.mem_filter,List.mem_map] at hr
  obtain ⟨⟨q,hq,rfl⟩,h⟩:=hr
  have h1:max q.1 0≤c:=h1
  have h2:c≤min q.2 1114111:=h2
  exact ⟨by omega,q,hq,by omega,by omega⟩
 ·rintro ⟨h0,q,hq,h1,h2⟩
  refine ⟨capR q,?_,?_,?_⟩
  ·unfold keepR
   rw [List.mem_filter,List.mem_map]
   refine ⟨⟨q,hq,rfl⟩,?_⟩
   exact decide_eq_true (show max q.1 0≤min q.2 1114111 by omega)
  ·show max q.1 0≤c;omega
  ·show c≤min q.2 1114111;omega
theorem hasR_perm {L R:List (Int×Int)} (h:L.Perm R) (c:Int):hasR L c=hasR R c:=by
 rw [Bool.eq_iff_iff,hasR_iff,hasR_iff]
 constructor
 ·rintro ⟨r,hr,h2⟩;exact ⟨r,h.mem_iff.1 hr,h2⟩
 ·rintro ⟨r,hr,h2⟩;exact ⟨r,h.mem_iff.2 hr,h2⟩
theorem canon_snoc:∀ {T:List (Int×Int)} {a:Int} {r:Int×Int},Canon a T→(∀ q,T.getLast?=some q→q.2+2≤r.1)→a≤r.1→r.1≤r.2→r.2≤topR→Canon a (T++[r])
 | [],_,_,_,_,h1,h2,h3=>⟨h1,h2,h3,trivial⟩
 | [p],_,_,h,hq,_,h2,h3=>⟨h.1,h.2.1,h.2.2.1,hq p rfl,h2,h3,trivial⟩
 | p :: q :: T,_,_,h,hq,h1,h2,h3=>by
  obtain ⟨g1,g2,g3,g4⟩:=h
  refine ⟨g1,g2,g3,canon_snoc g4 (fun s hs=>hq s (by rw [List.getLast?_cons_cons];exact hs)) ?_ h2 h3⟩
  have hmem:∀ {T:List (Int×Int)} {a:Int},Canon a T→∀ s,T.getLast?=some s→a≤s.1∧s.1≤s.2:=by
   intro T
   induction T with
   | nil=>intro a _ s hs;cases hs
   | cons t T ih =>
    intro a hc s hs
    rcases T with _ | ⟨u,T⟩
    ·have:t=s:=by simpa using hs
     subst this
     exact ⟨hc.1,hc.2.1⟩
    ·have h5:=ih hc.2.2.2 s (by rw [List.getLast?_cons_cons] at hs;exact hs)
     have:=hc.1
     have:=hc.2.1
     exact ⟨by omega,h5.2⟩
  obtain ⟨s,hs⟩:∃ s,(q :: T).getLast?=some s:=⟨_,List.getLast?_eq_some_getLast (by simp)⟩
  have h5:=hmem g4 s hs
  have h6:=hq s (by rw [List.getLast?_cons_cons];exact hs)
  omega
theorem canon_wider:∀ {T:List (Int×Int)} {a m:Int} {q:Int×Int},Canon a (T++[q])→q.2≤m→m≤topR→Canon a (T++[(q.1,m)])
 | [],_,_,_,h,h1,h2=>⟨h.1,by have:=h.2.1;simp only;omega,h2,trivial⟩
 | p :: T,_,_,_,h,h1,h2=>⟨h.1,h.2.1,h.2.2.1,canon_wider (T:=T) h.2.2.2 h1 h2⟩
theorem canon_lastAt:∀ {T:List (Int×Int)} {a:Int} {q:Int×Int},Canon a (T++[q])→a≤q.1∧q.1≤q.2∧q.2≤topR
 | [],_,_,h=>⟨h.1,h.2.1,h.2.2.1⟩
 | p :: T,_,_,h=>by
  have:=canon_lastAt (T:=T) h.2.2.2
  have:=h.1;have:=h.2.1
  omega
structure LeastAt (L:List (Int×Int)) (k:Nat) (T:List (Int×Int)):Prop where
 canon:Canon 0 T
 has:∀ c,hasR T c=hasR (L.take k) c
 low:∀ q,T.getLast?=some q→∃ r∈L.take k,q.1=r.1
 len:T.length≤k
theorem LeastAt.start (L:List (Int×Int)):LeastAt L 0 []:=⟨trivial,fun _=>rfl,fun q h=>(by cases h),by simp⟩
section
variable {L T T':List (Int×Int)} {k:Nat} {q:Int×Int}
theorem LeastAt.lowLe (h:LeastAt L k (T'++[q])) (hs:L.Pairwise (fun p r=>p.1≤r.1)) (hk:k < L.length):q.1≤L[k].1:=by
 obtain ⟨r,hr,hq⟩:=h.low q (by simp)
 rw [hq]
 obtain ⟨i,hi,rfl⟩:=List.getElem_of_mem hr
 rw [List.length_take] at hi
 rw [List.getElem_take]
 exact List.pairwise_iff_getElem.1 hs i k (by omega) hk (by omega)
theorem LeastAt.new (h:LeastAt L k T) (hin:∀ r∈L,0≤r.1∧r.1≤r.2∧r.2≤topR) (hk:k < L.length) (hn:∀ q,T.getLast?=some q→¬ L[k].1≤q.2+1):LeastAt L (k+1) (T++[L[k]]):=by
 have hi:=hin L[k] (List.getElem_mem hk)
 refine ⟨canon_snoc h.canon (fun q hq=>by have:=hn q hq;omega) hi.1 hi.2.1 hi.2.2,fun c=>?_,fun q hq=>?_,by have:=h.len;simp;omega⟩
 ·rw [hasR_append,List.take_succ_eq_append_getElem hk,hasR_append,h.has]
 ·rw [List.getLast?_append] at hq
  have:L[k]=q:=by simpa using hq
  subst this
  exact ⟨_,by rw [List.take_succ_eq_append_getElem hk];exact List.mem_append_right _ (List.mem_singleton.2 rfl),rfl⟩
theorem LeastAt.join (h:LeastAt L k (T'++[q])) (hs:L.Pairwise (fun p r=>p.1≤r.1)) (hin:∀ r∈L,0≤r.1∧r.1≤r.2∧r.2≤topR) (hk:k < L.length) (hn:L[k].1≤q.2+1):LeastAt L (k+1) (T'++[(q.1,max q.2 L[k].2)]):=by
 have hi:=hin L[k] (List.getElem_mem hk)
 have hlo:=h.lowLe hs hk
 have hla:=canon_lastAt h.canon
 refine ⟨canon_wider h.canon (by omega) (by omega),fun c=>?_,fun s hs'=>?_,by have:=h.len;simp at this ⊢;omega⟩
 ·rw [List.take_succ_eq_append_getElem hk,hasR_append,hasR_append,← h.has,hasR_append,Bool.or_assoc]
  congr 1
  rw [Bool.eq_iff_iff]
  simp [hasR,inR]
  omega
 ·have:(q.1,max q.2 L[k].2)=s:=by simpa using hs'
  subst this
  obtain ⟨r,hr,he⟩:=h.low q (by simp)
  exact ⟨r,by rw [List.take_succ_eq_append_getElem hk];exact List.mem_append_left _ hr,he⟩
theorem LeastAt.done (h:LeastAt L L.length T) {R:List (Int×Int)} (hp:L.Perm (keepR R)):setP (hasR R)=T:=by
 refine setP_is h.canon fun c h0 h1=>?_
 rw [h.has,List.take_length,hasR_perm hp,keepR_has]
 simp [h0,h1]
theorem perm_in {R:List (Int×Int)} (hp:L.Perm (keepR R)):∀ r∈L,0≤r.1∧r.1≤r.2∧r.2≤topR:=fun _ hr=>keepR_in (hp.mem_iff.1 hr)
end
end
section
open Go.RowKit Reckon
def fo (c:Int):Int :=
 if 65≤c∧c≤90 then c+32 else if 181≤c∧c≤181 then c+775 else if 192≤c∧c≤214 then c+32 else if 216≤c∧c≤222 then c+32 else if 913≤c∧c≤929 then c+32
 else if 931≤c∧c≤937 then c+32 else if 962≤c∧c≤962 then c+1 else if 1024≤c∧c≤1039 then c+80 else if 1040≤c∧c≤1071 then c+32 else if 7838≤c∧c≤7838 then c+-7615 else c
def foSteps:List (Int×AV):=[(65,.arg 32),(91,.arg 0),(181,.num .i64 956),(182,.arg 0),(192,.arg 32),(215,.arg 0),(216,.arg 32),(223,.arg 0),(913,.arg 32),(930,.arg 0),(931,.arg 32),(938,.arg 0),
 (962,.num .i64 963),(963,.arg 0),(1024,.arg 80),(1040,.arg 32),(1072,.arg 0),(7838,.num .i64 223),(7839,.arg 0)]
theorem val_if (c:Int) (p:Prop) [Decidable p] (x y:AV):(if p then x else y).val c=if p then x.val c else y.val c:=by split <;> rfl
theorem fo_val (c:Int):(stepF c (.arg 0) foSteps).val c=.int .i64 (fo c):=by
 unfold foSteps
 simp only [stepF,val_if]
 simp only [AV.val]
 unfold fo
 have hs:c < 65∨(65≤c∧c < 91)∨(91≤c∧c < 181)∨(181≤c∧c < 182)∨(182≤c∧c < 192)∨(192≤c∧c < 215)∨(215≤c∧c < 216)∨(216≤c∧c < 223)∨(223≤c∧c < 913)∨(913≤c∧c < 930)∨(930≤c∧c < 931)∨(931≤c∧c < 938)∨(938≤c∧c < 962)∨(962≤c∧c < 963)∨(963≤c∧c < 1024)∨(1024≤c∧c < 1040)∨(1040≤c∧c < 1072)∨(1072≤c∧c < 7838)∨(7838≤c∧c < 7839)∨7839≤c:=by omega
 rcases hs with hs | hs | hs | hs | hs | hs | hs | hs | hs | hs | hs | hs | hs | hs | hs | hs | hs | hs | hs | hs
 all_goals
  repeat (first | rw [if_pos (by omega)] | rw [if_neg (by omega)])
  try exact congrArg _ (by omega)
noncomputable def rfoTab:List (Nat×Func):=[(118,Tryz.f118)]
theorem rfoTab_ok:TabOk Tryz.prog rfoTab:=.cons Tryz.func118 (by kernel_rfl) (.nil)
theorem rof_any (c:Int) (w:World):Calls Tryz.prog 118 #[.int .i64 c] w fun e w'=>e=.returned (.int .i64 (fo c))∧w=w':=by
 have h:=calls_step rfoTab_ok (keep:=14) (m:=1) (f:=118) (v0:=.arg 0) (l:=foSteps) (by kernel_rfl) c w
 rw [fo_val] at h
 exact h
def rws:List (Int×Int×Int):=[(65,90,32),(181,181,775),(192,214,32),(216,222,32),(913,929,32),(931,937,32),(962,962,1),(1024,1039,80),(1040,1071,32),(7838,7838,-7615)]
def foL:List (Int×Int×Int)→Int→Int
 | [],c=>c
 | r :: l,c=>if r.1≤c∧c≤r.2.1 then c+r.2.2 else foL l c
theorem foL_eq (c:Int):foL rws c=fo c:=rfl
def rowCells:List Value:=rws.flatMap fun r=>[.int .i64 r.1,.int .i64 r.2.1,.int .i64 r.2.2]
structure FoTabs (w:World):Prop where
 big:3 < w.heap.size
 cells:w.rangeAt 3 0 rowCells
theorem FoTabs.below {w w':World} {B:Nat} (h:FoTabs w) (hb:Below B w w') (hB:3 < B):FoTabs w' :=
 ⟨Nat.lt_of_lt_of_le h.big hb.size,fun i v hi=>(hb.cell (p:=⟨_,_,none⟩) hB).trans (h.cells i v hi)⟩
theorem rws_small:∀ r∈rws,0≤r.1∧r.2.1≤8000∧-8000≤r.2.2∧r.2.2≤8000:=by decide
theorem index_row0 (w:World):(Instr.index 170 (.agg rowCells.toArray) (.int .i64 (0:Nat))).run Tryz.prog w=.ok (.agg #[.int .i64 65,.int .i64 90,.int .i64 32]) w:=by kernel_rfl
theorem index_row1 (w:World):(Instr.index 170 (.agg rowCells.toArray) (.int .i64 (1:Nat))).run Tryz.prog w=.ok (.agg #[.int .i64 181,.int .i64 181,.int .i64 775]) w:=by kernel_rfl
theorem index_row2 (w:World):(Instr.index 170 (.agg rowCells.toArray) (.int .i64 (2:Nat))).run Tryz.prog w=.ok (.agg #[.int .i64 192,.int .i64 214,.int .i64 32]) w:=by kernel_rfl
theorem index_row3 (w:World):(Instr.index 170 (.agg rowCells.toArray) (.int .i64 (3:Nat))).run Tryz.prog w=.ok (.agg #[.int .i64 216,.int .i64 222,.int .i64 32]) w:=by kernel_rfl
theorem index_row4 (w:World):(Instr.index 170 (.agg rowCells.toArray) (.int .i64 (4:Nat))).run Tryz.prog w=.ok (.agg #[.int .i64 913,.int .i64 929,.int .i64 32]) w:=by kernel_rfl
theorem index_row5 (w:World):(Instr.index 170 (.agg rowCells.toArray) (.int .i64 (5:Nat))).run Tryz.prog w=.ok (.agg #[.int .i64 931,.int .i64 937,.int .i64 32]) w:=by kernel_rfl
theorem index_row6 (w:World):(Instr.index 170 (.agg rowCells.toArray) (.int .i64 (6:Nat))).run Tryz.prog w=.ok (.agg #[.int .i64 962,.int .i64 962,.int .i64 1]) w:=by kernel_rfl
theorem index_row7 (w:World):(Instr.index 170 (.agg rowCells.toArray) (.int .i64 (7:Nat))).run Tryz.prog w=.ok (.agg #[.int .i64 1024,.int .i64 1039,.int .i64 80]) w:=by kernel_rfl
theorem index_row8 (w:World):(Instr.index 170 (.agg rowCells.toArray) (.int .i64 (8:Nat))).run Tryz.prog w=.ok (.agg #[.int .i64 1040,.int .i64 1071,.int .i64 32]) w:=by kernel_rfl
theorem index_row9 (w:World):(Instr.index 170 (.agg rowCells.toArray) (.int .i64 (9:Nat))).run Tryz.prog w=.ok (.agg #[.int .i64 7838,.int .i64 7838,.int .i64 (-7615)]) w:=by kernel_rfl
theorem index_row (k:Nat) (r:Int×Int×Int) (hk:rws[k]?=some r) (w:World):(Instr.index 170 (.agg rowCells.toArray) (.int .i64 k)).run Tryz.prog w=.ok (.agg #[.int .i64 r.1,.int .i64 r.2.1,.int .i64 r.2.2]) w:=by
 have h10:k < 10:=(List.getElem?_eq_some_iff.1 hk).1
 have:k=0∨k=1∨k=2∨k=3∨k=4∨k=5∨k=6∨k=7∨k=8∨k=9:=by omega
 rcases this with rfl | rfl | rfl | rfl | rfl | rfl | rfl | rfl | rfl | rfl <;> cases hk
 ·exact index_row0 w
 ·exact index_row1 w
 ·exact index_row2 w
 ·exact index_row3 w
 ·exact index_row4 w
 ·exact index_row5 w
 ·exact index_row6 w
 ·exact index_row7 w
 ·exact index_row8 w
 ·exact index_row9 w
theorem of_any (c:Int) (w:World) (hT:FoTabs w):Calls Tryz.prog 167 #[.int .i64 c] w fun e w'=>e=.returned (.int .i64 (fo c))∧Below w.heap.size w w':=by
 have HT:=qh hT
 clear hT
 go_enter Tryz.func167,Tryz.ntmps167
 go_wp2_with (first
  | (refine wpList_load_mid rfl 170 _ rfl 3 0 rfl rowCells _ HT.out.cells Tryz.underlying170 rfl (by kernel_rfl) ?_)
  | fail)
 go_loopw [6] (fun i wr=>∃ k:Nat,k≤10∧i=.int .i64 k∧Hid (foL (rws.drop k) c=fo c)∧Below w.heap.size w wr) (fun i _=>10 - (intOf i).toNat)
 case atStart=>exact ⟨0,by omega,rfl,foL_eq c,Below.refl _ _⟩
 case round =>
  obtain ⟨k,hk,rfl,HF,hb⟩:=hrel
  have HB:=qh hb
  have hsz:=hb.size
  clear hb
  by_cases hlt:k < 10
  ·have b1:(k:Int) < 10:=by omega
   obtain ⟨r,hr⟩:∃ r,rws[k]?=some r:=⟨_,List.getElem?_eq_getElem (show k < rws.length from hlt)⟩
   have hx:=index_row k r hr
   have hdrop:rws.drop k=r :: rws.drop (k+1):=by
    obtain ⟨hk',hr'⟩:=List.getElem?_eq_some_iff.1 hr
    rw [← hr'];exact List.drop_eq_getElem_cons hk'
   have HD:=qh hdrop
   have hbd:=rws_small r (List.mem_of_getElem? hr)
   obtain ⟨a,b,m⟩:=r
   dsimp only at hx hbd
   clear hdrop hr
   rcases ha:decide (a≤c) with _ | _
   ·go_wp2
    go_roundw
    case rel =>
     refine ⟨k+1,by omega,by go_num,?_,HB.out.alloc hsz _⟩
     have:=HF.out
     rw [HD.out,foL,if_neg (show ¬ (a≤c∧c≤b) by simp at ha;omega)] at this
     exact this
    case measure=>simp [intOf];omega
   ·rcases hbb:decide (c≤b) with _ | _
    ·go_wp2
     go_roundw
     case rel =>
      refine ⟨k+1,by omega,by go_num,?_,HB.out.alloc hsz _⟩
      have:=HF.out
      rw [HD.out,foL,if_neg (show ¬ (a≤c∧c≤b) by simp at hbb;omega)] at this
      exact this
     case measure=>simp [intOf];omega
    ·have hsum:IntKind.i64.wrap (c+m)=c+m:=by
      simp at ha hbb
      exact IntWalk.i64_in _ (by omega)
     go_wp2
     go_ret
     refine ⟨ret_int ?_,HB.out.alloc hsz _⟩
     rw [← HF.out,HD.out,foL,if_pos (show a≤c∧c≤b by simp at ha hbb;omega)]
  ·go_wp2
   go_ret
   refine ⟨ret_int ?_,HB.out⟩
   have:=HF.out
   rw [show k=10 by omega] at this
   exact this
end
end Go.Proofs.YtoeocodfndbebaaGreatDoor
