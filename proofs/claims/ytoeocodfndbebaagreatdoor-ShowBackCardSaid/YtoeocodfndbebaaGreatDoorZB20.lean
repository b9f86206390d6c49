/- Shared texts, shaken for one claim. -/
import Derived.Test.YtoeocodfndbebaaGreatDoorZB14
import Derived.Test.YtoeocodfndbebaaGreatDoorZB18
import Derived.Test.YtoeocodfndbebaaGreatDoorZB19
set_option maxRecDepth 20000
set_option maxHeartbeats 16000000
namespace Go.Proofs.YtoeocodfndbebaaGreatDoor
section
def lowT (t:Tok):Int:=if t.k=9 then t.lo else t.c
theorem part_nine {f:Int} {t:Tok} (h:t.k=9):partR f t=behR (flag1 f) (flag2 f) [(lowT t,t.hi)]:=by
 unfold partR lowT;rw [if_pos h,if_pos h]
theorem part_one {f:Int} {t:Tok} (h:t.k=1):partR f t=behR (flag1 f) (flag2 f) [(lowT t,t.c)]:=by
 unfold partR lowT;rw [if_neg (by omega),if_pos h,if_neg (by omega)]
theorem part_kin {f:Int} {t:Tok} (h9:¬ t.k=9) (h1:¬ t.k=1):partR f t=(setP fun c=>!hasR (behR (flag1 f) (flag2 f) (groupR t.c)) c)∨partR f t=behR (flag1 f) (flag2 f) (groupR t.c):=by
 unfold partR
 rw [if_neg h9,if_neg h1]
 split
 ·exact .inl rfl
 ·exact .inr rfl
theorem turn_edge {B:List (Int×Int)} {x:Int} (h:hasR (setP fun c=>!hasR B c) x=true) (h1:x=0∨hasR (setP fun c=>!hasR B c) (x - 1)=false):inTop x∧hasR B x=false∧(x=0∨hasR B (x - 1)=true):=by
 have h0:=h
 rw [setP_has] at h
 simp at h
 have hx:inTop x:=by unfold inTop;omega
 refine ⟨hx,h.2,?_⟩
 by_cases hz:x=0
 ·exact .inl hz
 ·refine .inr ?_
  rcases h1 with h1 | h1
  ·exact absurd h1 hz
  ·rw [setP_has] at h1
   rcases hb:hasR B (x - 1) with _ | _
   ·rw [hb] at h1
    simp at h1
    omega
   ·rfl
theorem edge_of {lo hi x:Int} {f1 f2:Bool} (h:hasR (behR f1 f2 [(lo,hi)]) x=true) (h1:x=0∨hasR (behR f1 f2 [(lo,hi)]) (x - 1)=false):x=lo∨x∈GL∨x∈KL∨x∈mrL:=by
 have hx:=beh_top h
 rcases hb:hasR [(lo,hi)] x with _ | _
 ·rcases beh_more h hb with ⟨_,k,_,hf,hne,_⟩ | ⟨hm,_⟩
  ·exact .inr (.inr (.inl (mem_KL hf hne)))
  ·exact .inr (.inr (.inr (mem_mrL hm)))
 ·rw [range_has] at hb
  by_cases h0:x=0
  ·exact .inr (.inl (gl_of (by omega)))
  ·rcases h1 with h1 | h1
   ·exact absurd h1 h0
   ·have hx1:inTop (x - 1):=by unfold inTop at hx ⊢;omega
    rcases hc:hasR [(lo,hi)] (x - 1) with _ | _
    ·left
     have:¬ (lo≤x - 1∧x - 1≤hi):=fun e=>by rw [range_has.2 e] at hc;cases hc
     omega
    ·rw [(beh_iff hx1).2 (.inl hc)] at h1;cases h1
theorem part_start {f:Int} {t:Tok} {x:Int} (h:hasR (partR f t) x=true) (h1:x=0∨hasR (partR f t) (x - 1)=false):x=lowT t∨x∈GL∨x∈KL∨x∈mrL:=by
 by_cases h9:t.k=9
 ·rw [part_nine h9] at h h1
  exact edge_of h h1
 ·by_cases hk:t.k=1
  ·rw [part_one hk] at h h1
   exact edge_of h h1
  ·rcases part_kin (f:=f) h9 hk with e | e
   ·rw [e] at h h1
    obtain ⟨hx,h2,h3⟩:=turn_edge h h1
    exact .inr (.inl (group_turn hx h2 h3))
   ·rw [e] at h h1
    exact .inr (.inl (group_start h h1))
theorem canon_edge {S:List (Int×Int)} (hS:Canon 0 S) {x:Int} (hx:x∈S.map (·.1)):hasR S x=true∧(x=0∨hasR S (x - 1)=false):=by
 obtain ⟨-,h1,h2⟩:=hS.lows.2 x hx
 exact ⟨h1,.inr (h2 (x - 1) rfl)⟩
theorem gl_len:GL.length=38:=by decide
theorem range_len (lo hi:Int) (f1 f2:Bool):(behR f1 f2 [(lo,hi)]).length≤62:=by
 have hS:Canon 0 (behR f1 f2 [(lo,hi)]):=setP_canon _
 have:=hS.count ([lo,0]++alike lo++BND++mrL) [] fun x hx=>by
  obtain ⟨h1,h2⟩:=canon_edge hS hx
  left
  rcases range_start h1 h2 with h | h | h | h | h
  ·simp [h]
  ·simp [h]
  ·simp [h]
  ·simp [h]
  ·simp [h]
 have h1:=alike_few lo
 have h2:=bnd_few
 have h3:=mrL_few
 simp at this
 omega
theorem group_len (c:Int) (f1 f2:Bool):(behR f1 f2 (groupR c)).length≤38∧(setP fun d=>!hasR (behR f1 f2 (groupR c)) d).length≤38:=by
 have hg:=gl_len
 constructor
 ·have hS:Canon 0 (behR f1 f2 (groupR c)):=setP_canon _
  have:=hS.count GL [] fun x hx=>by
   obtain ⟨h1,h2⟩:=canon_edge hS hx
   exact .inl (group_start h1 h2)
  simp at this
  omega
 ·have hS:Canon 0 (setP fun d=>!hasR (behR f1 f2 (groupR c)) d):=setP_canon _
  have:=hS.count GL [] fun x hx=>by
   obtain ⟨h1,h2⟩:=canon_edge hS hx
   obtain ⟨h3,h4,h5⟩:=turn_edge h1 h2
   exact .inl (group_turn h3 h4 h5)
  simp at this
  omega
theorem part_len (f:Int) (t:Tok):(partR f t).length≤62:=by
 by_cases h9:t.k=9
 ·rw [part_nine h9];exact range_len _ _ _ _
 ·by_cases hk:t.k=1
  ·rw [part_one hk];exact range_len _ _ _ _
  ·rcases part_kin (f:=f) h9 hk with e | e
   ·rw [e];have:=(group_len t.c (flag1 f) (flag2 f)).2;omega
   ·rw [e];have:=(group_len t.c (flag1 f) (flag2 f)).1;omega
theorem class_count (f:Int) (T:List Tok):(setP (hasR (T.flatMap (partR f)))).length≤T.length+192:=by
 have:=setP_count (hasR (T.flatMap (partR f))) (T.map lowT++GL) K2 fun x h0 ht hp hb=>by
  obtain ⟨r,hr,h1⟩:=hasR_iff.1 hp
  obtain ⟨t,ht,hrt⟩:=List.mem_flatMap.1 hr
  have h2:hasR (partR f t) x=true:=hasR_iff.2 ⟨r,hrt,h1⟩
  have h3:x=0∨hasR (partR f t) (x - 1)=false:=hb.imp id fun hb=>by
   rcases hc:hasR (partR f t) (x - 1) with _ | _
   ·rfl
   ·obtain ⟨s,hs,h4⟩:=hasR_iff.1 hc
    rw [hasR_iff.2 ⟨s,List.mem_flatMap.2 ⟨t,ht,hs⟩,h4⟩] at hb;cases hb
  rcases part_start h2 h3 with h | h | h | h
  ·exact .inl (List.mem_append.2 (.inl (List.mem_map.2 ⟨t,ht,h.symm⟩)))
  ·exact .inl (List.mem_append.2 (.inr h))
  ·exact .inr (kl_half x h)
  ·exact .inr (mrL_half x h)
 have h1:=k2_few
 have h2:=gl_len
 simp at this
 omega
def dPart (f:Int) (t:Tok):List (Int×Int) :=
 if t.k=1 then closeR (flag1 f) (flag2 f) [(t.c,t.c)]
 else if t.k=9 then closeR (flag1 f) (flag2 f) [(t.lo,t.hi)]
 else if ([68,83,87]:List Int).contains t.c=true then turnR (closeR (flag1 f) (flag2 f) (groupR t.c))
 else closeR (flag1 f) (flag2 f) (groupR t.c)
theorem close_is (f1 f2:Bool) {R:List (Int×Int)} (hl:R.length≤60):closeR f1 f2 R=behR f1 f2 R:=by
 rw [beh_set f1 f2 (by omega),beh_close f1 f2 hl]
theorem turn_is {L:List (Int×Int)} (hc:Canon 0 L) (hl:L.length≤500):turnR L=setP fun c=>!hasR L c:=by
 unfold turnR
 rw [setR_is hc hl]
theorem dPart_is (f:Int) (t:Tok):dPart f t=partR f t:=by
 unfold dPart partR
 by_cases h9:t.k=9
 ·rw [if_neg (by omega),if_pos h9,if_pos h9,close_is _ _ (by simp)]
 ·rw [if_neg h9,if_neg h9]
  by_cases h1:t.k=1
  ·rw [if_pos h1,if_pos h1,close_is _ _ (by simp)]
  ·rw [if_neg h1,if_neg h1,close_is _ _ (group_few t.c),turn_is (L:=behR (flag1 f) (flag2 f) (groupR t.c)) (setP_canon _) (by have:=(group_len t.c (flag1 f) (flag2 f)).1;omega)]
def dGather (f:Int):List Tok→List (Int×Int)→List (Int×Int)
 | [],acc=>acc
 | t :: T,acc=>dGather f T (setR (acc++dPart f t))
theorem gather_is (f:Int):∀ (T P:List Tok),P.length+T.length≤200→dGather f T (setP (hasR (P.flatMap (partR f))))=setP (hasR ((P++T).flatMap (partR f)))
 | [],P,_=>by rw [dGather,List.append_nil]
 | t :: T,P,h=>by
  have h1:=class_count f P
  have h2:=part_len f t
  simp only [List.length_cons] at h
  rw [dGather,dPart_is,setR_small (by rw [List.length_append];omega)]
  have e:setP (hasR (setP (hasR (P.flatMap (partR f)))++partR f t))=setP (hasR ((P++[t]).flatMap (partR f))):=by
   refine setP_congr fun c h0 h3=>?_
   rw [hasR_append,setP_has,List.flatMap_append,hasR_append]
   simp [h0,h3]
  rw [e,gather_is f T (P++[t]) (by simp;omega)]
  simp
theorem gather_all (f:Int) (T:List Tok) (h:T.length≤200):dGather f T []=setP (hasR (T.flatMap (partR f))):=by
 have h1:=gather_is f T [] (by simpa using h)
 have h2:setP (hasR (([]:List Tok).flatMap (partR f)))=[]:=setP_is trivial fun c _ _=>rfl
 rw [h2] at h1
 exact h1
def dClass (f:Int) (round:Bool) (C:List Tok):List (Int×Int):=if round=true then turnR (dGather f C []) else setR (dGather f C [])
theorem dClass_is (f:Int) (round:Bool) (C:List Tok) (h:C.length≤200):dClass f round C=classR round (C.flatMap (partR f)):=by
 have h1:=class_count f C
 unfold dClass classR
 rw [gather_all f C h]
 split
 ·rw [turn_is (setP_canon _) (by omega)]
 ·rw [setR_is (setP_canon _) (by omega)]
theorem classL_form {f:Int}:∀ {T:List Tok} {rs:List (Int×Int)} {R:List Tok},classL f T=some (rs,R)→∃ C t,T=C++t :: R∧t.k=8∧(∀ s∈C,¬ s.k=8)∧rs=C.flatMap (partR f)
 | [],_,_,h=>by cases h
 | t :: T,rs,R,h=>by
  rw [classL] at h
  by_cases h8:t.k=8
  ·rw [if_pos h8] at h
   injection h with h
   injection h with h1 h2
   subst h1 h2
   exact ⟨[],t,rfl,h8,fun s hs=>by simp at hs,rfl⟩
  ·rw [if_neg h8] at h
   rcases hc:classL f T with _ | ⟨rs',R'⟩
   ·rw [hc] at h;cases h
   ·rw [hc] at h
    injection h with h
    injection h with h1 h2
    subst h1 h2
    obtain ⟨C,s,e1,e2,e3,e4⟩:=classL_form hc
    refine ⟨t :: C,s,by rw [e1];rfl,e2,fun x hx=>?_,by rw [e4];rfl⟩
    rcases List.mem_cons.1 hx with rfl | hx
    ·exact h8
    ·exact e3 x hx
theorem dot_is (f:Int):dotR f=turnR (if flag4 f=true then [] else [(10,10)]):=by
 unfold dotR
 split
 ·exact (turn_is (L:=[]) trivial (by simp)).symm
 ·exact (turn_is (L:=[(10,10)]) (by simp [Canon,topR]) (by simp)).symm
end
section
theorem of_shown (n:Nd) (ha:allN n=true) (hl:(textN n).length≤200):∃ X,ofT (textN n)=.ok X∧X.map z=shN n:=by
 have hS:=shown_read (textN n) n ha 0 [] (by simp)
 obtain ⟨X,h1,h2⟩:=hS 1 []
 have hend:readT (textN n) (1+(shN n).length) false 0 []=.ok X:=by
  rw [h2,List.nil_append,Nat.zero_add,readT_end]
 have hlen:=read_length (textN n) _ false 0 [] X (by omega) hend
 have hX:X.length=(shN n).length:=by rw [← h1,List.length_map]
 simp at hlen
 obtain ⟨Y,h3,h4⟩:=hS ((textN n).length - (shN n).length+1) []
 refine ⟨Y,?_,h3⟩
 unfold ofT
 rw [if_neg (by omega),show (textN n).length+1=(textN n).length - (shN n).length+1+(shN n).length by omega,h4,List.nil_append,Nat.zero_add,readT_end]
theorem part_zero {lo hi:Int} (h0:0≤lo) (h1:lo≤hi) (h2:hi≤topR):behR (flag1 0) (flag2 0) [(lo,hi)]=[(lo,hi)]:=by
 have h:addQ [(lo,hi)] (flag1 0) (flag2 0) [(lo,hi)]=[]:=by
  rw [show flag1 0=false by decide,show flag2 0=false by decide]
  have hz:∀ c,toldI false false c=[]:=fun c=>by simp [toldI]
  simp [addQ,addW,addC,hz]
 unfold behR
 rw [h,List.append_nil]
 exact setP_is ⟨h0,h1,h2,trivial⟩ fun _ _ _=>rfl
end
section
def prevR (T:List Tok) (i:Nat):Bool:=match (if 0 < i then T[i - 1]? else none) with
 | some q=>q.k == 6
 | none=>false
theorem wf_fits {n k:Nat} {T:List Tok} (h:Fits n false k T):∀ (m i:Nat),T.length - i=m→i≤T.length→wfT (clsAt T i) (prevR T i) (T.drop i)
 | 0,i,hm,hi=>by
  obtain rfl:i=T.length:=by omega
  rw [List.drop_length,h.cls]
  rfl
 | m+1,i,hm,hi=>by
  have hlt:i < T.length:=by omega
  have ih:=wf_fits h m (i+1) (by omega) (by omega)
  have hf:=h.fit i hlt
  have hp:prevR T (i+1)=(T[i].k == 6):=by
   unfold prevR
   rw [if_pos (by omega)]
   simp only [Nat.add_sub_cancel]
   rw [List.getElem?_eq_getElem hlt]
  rw [clsAt_next hlt,hp] at ih
  rw [List.drop_eq_getElem_cons hlt]
  rcases hc:clsAt T i with _ | _
  ·rw [hc] at ih hf
   rw [wfT]
   have h8:¬ T[i].k=8:=fun e=>by have:=hf.ends e;cases this
   have h9:¬ T[i].k=9:=fun e=>by have:=(hf.range e).1;cases this
   refine ⟨?_,fun e=>?_,?_⟩
   ·have:=hf.lo;have:=hf.hi;omega
   ·obtain ⟨q,hq,h6⟩:=hf.lazy e
    unfold prevR
    rw [hq]
    simp [h6]
   ·have hn:nextC false T[i]=(T[i].k == 7):=by
     unfold nextC
     by_cases h7:T[i].k=7
     ·rw [if_pos h7];simp [h7]
     ·rw [if_neg h7,if_neg h8];simp [h7]
    rw [hn] at ih
    exact ih
  ·rw [hc] at ih hf
   rw [wfT]
   have hin:=hf.inside rfl
   refine ⟨by omega,?_⟩
   have hn:nextC true T[i]=(T[i].k != 8):=by
    unfold nextC
    rw [if_neg (by omega)]
    by_cases h8:T[i].k=8
    ·rw [if_pos h8];simp [h8]
    ·rw [if_neg h8];simp [h8]
   rw [hn,show (T[i].k == 6)=false by simp;omega] at ih
   exact ih
theorem of_wf {l:List Int} {T:List Tok} (h:ofT l=.ok T):wfT false false T:=by
 have:=wf_fits (of_fits h).1 T.length 0 (by omega) (by omega)
 exact this
theorem of_same {l:List Int} {T:List Tok} (f:Int) (h:ofT l=.ok T) :
 (∃ n,dP f l.length 201 T=.ok n∧faultT l.length T 0 3=(0,0)∧patT f 201 21 T=some (n,[]))∨(dP f l.length 201 T=.error (faultT l.length T 0 3)∧¬ (faultT l.length T 0 3).2=0) :=
 dP_same f l.length 201 (of_wf h) (by have:=of_length h;have:=(of_fits h).2;omega)
end
section
def GoodD (x:DR) (n:Nd) (R:List Tok):Prop:=x=.ok (n,R)∨∃ p,x=.error (p,9)
def GoodL (x:Except (Int×Int) (List Nd×List Tok)) (ns:List Nd) (R:List Tok):Prop:=x=.ok (ns,R)∨∃ p,x=.error (p,9)
def innD (f:Int) (E q:Nat):Nat→Option (List Tok→DR)
 | 0=>none
 | d+1=>some (dOr f E q d)
theorem dOr_inn (f:Int) (E q d:Nat) (T:List Tok):dOr f E q d T=dOr1 (innD f E q d) f E q T:=by
 cases d <;> rfl
def NoRep (R:List Tok):Prop:=kindIs R [6,13]=false
def JoinEnd (R:List Tok):Prop:=R=[]∨kindIs R [5,4]=true
def OrEnd (R:List Tok):Prop:=R=[]∨kindIs R [4]=true
theorem OrEnd.join {R:List Tok} (h:OrEnd R):JoinEnd R:=by
 rcases h with h | h
 ·exact .inl h
 ·refine .inr ?_
  rcases R with _ | ⟨t,R⟩
  ·cases h
  ·simp [kindIs] at h ⊢;exact .inr h
theorem JoinEnd.rep {R:List Tok} (h:JoinEnd R):NoRep R:=by
 rcases h with rfl | h
 ·rfl
 ·rcases R with _ | ⟨t,R⟩
  ·rfl
  ·simp [kindIs,NoRep] at h ⊢;omega
section
variable {inner:Option (List Tok→DR)} {f:Int} {E q:Nat} {n:Nd} {S R T:List Tok}
theorem rep_of_atom (h:GoodD (dAtom inner f E T) n R) (hR:kindIs R [6]=false):GoodD (dRep inner f E T) n R:=by
 unfold dRep
 rcases h with h | ⟨p,h⟩
 ·rw [h]
  rcases R with _ | ⟨t,R⟩
  ·exact .inl rfl
  ·have:¬ t.k=6:=by simpa [kindIs] using hR
   simp only
   rw [if_neg this]
   exact .inl rfl
 ·rw [h];exact .inr ⟨p,rfl⟩
theorem NoRep.six (h:NoRep R):kindIs R [6]=false:=by
 rcases R with _ | ⟨t,R⟩
 ·rfl
 ·simp [kindIs,NoRep] at h ⊢;omega
theorem NoRep.lazy (h:NoRep R):kindIs R [13]=false:=by
 rcases R with _ | ⟨t,R⟩
 ·rfl
 ·simp [kindIs,NoRep] at h ⊢;omega
theorem join_step {k:Nat} {ns:List Nd} (hT:JoinEnd T→False) (h:GoodD (dRep inner f E T) n R) (h':GoodL (dJoinL inner f E k R) ns S):GoodL (dJoinL inner f E (k+1) T) (n :: ns) S:=by
 rw [dJoinL,if_neg (show ¬ (T=[]∨kindIs T [5,4]=true) from hT)]
 rcases h with h | ⟨p,h⟩
 ·rw [h]
  simp only
  rcases h' with h2 | ⟨p,h2⟩
  ·rw [h2];exact .inl rfl
  ·rw [h2];exact .inr ⟨p,rfl⟩
 ·rw [h];exact .inr ⟨p,rfl⟩
theorem join_end {k:Nat} (hR:JoinEnd R):GoodL (dJoinL inner f E (k+1) R) [] R:=by
 rw [dJoinL,if_pos (show R=[]∨kindIs R [5,4]=true from hR)];exact .inl rfl
theorem join_of {k:Nat} {ns:List Nd} (h:GoodL (dJoinL inner f E k T) ns R) (hn:togT 3 ns=n):GoodD (dJoin inner f E k T) n R:=by
 unfold dJoin
 rcases h with h | ⟨p,h⟩
 ·rw [h,← hn];exact .inl rfl
 ·rw [h];exact .inr ⟨p,rfl⟩
theorem join_one {k:Nat} (hT:JoinEnd T→False) (h:GoodD (dRep inner f E T) n R) (hR:JoinEnd R):GoodD (dJoin inner f E (k+2) T) n R :=
 join_of (join_step hT h (join_end hR)) rfl
theorem or_of_join (h:GoodD (dJoin inner f E (q+1) T) n R) (hR:OrEnd R):GoodD (dOr1 inner f E (q+1) T) n R:=by
 unfold dOr1
 rcases h with h | ⟨p,h⟩
 ·rw [h]
  simp only
  have h5:kindIs R [5]=false:=by
   rcases hR with rfl | h
   ·rfl
   ·rcases R with _ | ⟨t,R⟩
    ·rfl
    ·simp [kindIs] at h ⊢;omega
  rw [dOrL,h5]
  exact .inl rfl
 ·rw [h];exact .inr ⟨p,rfl⟩
theorem or_step {k:Nat} {ns:List Nd} {s:Tok} (hs:s.k=5) (h:GoodD (dJoin inner f E q T) n R) (h':GoodL (dOrL inner f E q k R) ns S):GoodL (dOrL inner f E q (k+1) (s :: T)) (n :: ns) S:=by
 rw [dOrL,if_pos (by simp [kindIs,hs]),List.tail_cons]
 rcases h with h | ⟨p,h⟩
 ·rw [h]
  simp only
  rcases h' with h2 | ⟨p,h2⟩
  ·rw [h2];exact .inl rfl
  ·rw [h2];exact .inr ⟨p,rfl⟩
 ·rw [h];exact .inr ⟨p,rfl⟩
theorem or_end {k:Nat} (hR:OrEnd R):GoodL (dOrL inner f E q (k+1) R) [] R:=by
 have h5:kindIs R [5]=false:=by
  rcases hR with rfl | h
  ·rfl
  ·rcases R with _ | ⟨t,R⟩
   ·rfl
   ·simp [kindIs] at h ⊢;omega
 rw [dOrL,h5];exact .inl rfl
theorem or_first {ns:List Nd} {m:Nd} (h:GoodD (dJoin inner f E q T) n R) (h':GoodL (dOrL inner f E q q R) ns S) (hm:togT 4 (n :: ns)=m):GoodD (dOr1 inner f E q T) m S:=by
 unfold dOr1
 rcases h with h | ⟨p,h⟩
 ·rw [h]
  simp only
  rcases h' with h2 | ⟨p,h2⟩
  ·rw [h2,← hm];exact .inl rfl
  ·rw [h2];exact .inr ⟨p,rfl⟩
 ·rw [h];exact .inr ⟨p,rfl⟩
end
theorem atom_of_or {f:Int} {E q:Nat} {n:Nd} {S R:List Tok} {s e:Tok} (hs:s.k=3) (he:e.k=4) (h:∀ d,GoodD (dOr f E q d (S++e :: R)) n (e :: R)) (d:Nat):GoodD (dAtom (innD f E q d) f E (s :: (S++e :: R))) n R:=by
 unfold dAtom
 simp only
 rw [if_pos hs]
 rcases d with _ | d
 ·exact .inr ⟨_,rfl⟩
 ·simp only [innD]
  rcases h d with h | ⟨p,h⟩
  ·rw [h]
   simp only
   rw [if_pos he]
   exact .inl rfl
  ·rw [h];exact .inr ⟨p,rfl⟩
def shT (ns:List Nd):List Tok:=ns.flatMap fun n=>tk 5 :: brT (kindN n == 4) (shN n)
theorem shO_cons:∀ (ns:List Nd) (n:Nd),shO (n :: ns)=brT (kindN n == 4) (shN n)++shT ns
 | [],n=>by rw [shO];rfl
 | m :: ns,n=>by
  rw [shO]
  (try simp only)
  rw [shO_cons ns m]
  rfl
def headOk (S:List Tok):Prop:=∃ t T,S=t :: T∧(t.k=1∨t.k=3∨t.k=7∨t.k=10∨t.k=11)
theorem headOk.br {S:List Tok} (b:Bool) (h:b=false→headOk S):headOk (brT b S):=by
 cases b
 ·exact h rfl
 ·exact ⟨tk 3,_,rfl,.inr (.inl rfl)⟩
theorem headOk.app {S T:List Tok} (h:headOk S):headOk (S++T):=by
 obtain ⟨t,T',rfl,h⟩:=h
 exact ⟨t,T'++T,rfl,h⟩
theorem headOk.z {S X:List Tok} (h:headOk S) (hX:X.map z=S):headOk X:=by
 obtain ⟨t,T,rfl,h⟩:=h
 rcases X with _ | ⟨x,X⟩
 ·cases hX
 ·injection hX with h1 h2
  have hk:x.k=t.k:=by rw [← h1];rfl
  exact ⟨x,X,rfl,by omega⟩
theorem headOk.noJoin {X R:List Tok} (h:headOk X):JoinEnd (X++R)→False:=by
 obtain ⟨t,T,rfl,h⟩:=h
 rintro (h' | h')
 ·cases h'
 ·simp [kindIs] at h';omega
theorem headOk.noRep {X R:List Tok} (h:headOk X):NoRep (X++R):=by
 obtain ⟨t,T,rfl,h⟩:=h
 simp [kindIs,NoRep];omega
theorem set_head (rs:List (Int×Int)):headOk (shSet rs):=by
 unfold shSet
 split
 ·split
  ·exact ⟨_,_,rfl,.inl rfl⟩
  ·exact ⟨_,_,rfl,.inr (.inr (.inl rfl))⟩
 ·exact ⟨_,_,rfl,.inr (.inr (.inl rfl))⟩
theorem sh_head:∀ (n:Nd),allN n=true→headOk (shN n)
 | .mk k lo hi rs ks,h=>by
  rw [allN,Bool.and_eq_true] at h
  rw [shN_def]
  by_cases h1:k=1
  ·rw [if_pos h1];exact ⟨tk 3,_,rfl,.inr (.inl rfl)⟩
  rw [if_neg h1]
  by_cases h6:k=6
  ·rw [if_pos h6];exact ⟨tk 10,_,rfl,by simp [tk]⟩
  rw [if_neg h6]
  by_cases h7:k=7
  ·rw [if_pos h7];exact ⟨tk 11,_,rfl,by simp [tk]⟩
  rw [if_neg h7]
  by_cases h2:k=2
  ·rw [if_pos h2];exact set_head rs
  rw [if_neg h2]
  rcases ks with _ | ⟨n,ns⟩
  ·exfalso
   have h0:=h.1
   by_cases h3:k=3
   ·subst h3;simp [nodeI] at h0
   by_cases h4:k=4
   ·subst h4;simp [nodeI] at h0
   by_cases h5:k=5
   ·subst h5;simp [nodeI] at h0
   simp [nodeI,h1,h6,h7,h2,h3,h4,h5] at h0
  ·have hn:=h.2
   rw [allL,Bool.and_eq_true] at hn
   have ih:=sh_head n hn.1
   by_cases h3:k=3
   ·rw [if_pos h3,shJ];exact (headOk.br _ fun _=>ih).app
   rw [if_neg h3]
   by_cases h4:k=4
   ·rw [if_pos h4,shO_cons];exact (headOk.br _ fun _=>ih).app
   rw [if_neg h4]
   exact (headOk.br _ fun _=>ih).app
theorem node_plain {k lo hi:Int} {rs:List (Int×Int)} {ks:List Nd} (h:nodeI (.mk k lo hi rs ks)=true):(k=1∨k=2∨k=3∨k=4∨k=5∨k=6∨k=7)∧(k≠5→lo=0∧hi=0)∧(k≠2→rs=[])∧(k=1∨k=2∨k=6∨k=7→ks=[])∧(k=3∨k=4→2≤ks.length)∧(k=5→ks.length=1)∧(k=2→setR rs=rs):=by
 have hk:k=1∨k=2∨k=3∨k=4∨k=5∨k=6∨k=7:=by
  by_cases h1:k=1
  ·exact .inl h1
  by_cases h6:k=6
  ·omega
  by_cases h7:k=7
  ·omega
  by_cases h2:k=2
  ·omega
  by_cases h3:k=3
  ·omega
  by_cases h4:k=4
  ·omega
  by_cases h5:k=5
  ·omega
  simp [nodeI,h1,h6,h7,h2,h3,h4,h5] at h
 refine ⟨hk,?_⟩
 rcases hk with rfl | rfl | rfl | rfl | rfl | rfl | rfl <;> simp [nodeI] at h ⊢ <;> grind
theorem br_form {S T:List Tok} (h:S.map z=brT true T):∃ s S' e,S=s :: (S'++[e])∧s.k=3∧e.k=4∧S'.map z=T:=by
 unfold brT at h
 rw [if_pos rfl] at h
 rcases S with _ | ⟨s,S⟩
 ·cases h
 ·injection h with h1 h2
  obtain ⟨S1,S2,rfl,h3,h4⟩:=List.map_eq_append_iff.1 h2
  rcases S2 with _ | ⟨e,S2⟩
  ·cases h4
  ·injection h4 with h5 h6
   rw [List.map_eq_nil_iff] at h6
   subst h6
   exact ⟨s,S1,e,rfl,by rw [show s.k=(z s).k from rfl,h1];rfl,by rw [show e.k=(z e).k from rfl,h5];rfl,h3⟩
structure ReadsN (f:Int) (E:Nat) (n:Nd):Prop where
 A:∀ d S R,S.map z=brT (([3,4,5]:List Int).contains (kindN n)) (shN n)→S.length≤200→GoodD (dAtom (innD f E 201 d) f E (S++R)) n R
 B:∀ d S R,S.map z=brT (([3,4]:List Int).contains (kindN n)) (shN n)→S.length≤200→NoRep R→GoodD (dRep (innD f E 201 d) f E (S++R)) n R
 J:∀ d S R,S.map z=brT (kindN n == 4) (shN n)→S.length≤200→JoinEnd R→GoodD (dJoin (innD f E 201 d) f E 201 (S++R)) n R
 O:∀ d S R,S.map z=shN n→S.length≤200→OrEnd R→GoodD (dOr f E 201 d (S++R)) n R
section
variable {f:Int} {E:Nat} {n:Nd}
theorem A_of_O (h:∀ d S R,S.map z=shN n→S.length≤200→OrEnd R→GoodD (dOr f E 201 d (S++R)) n R) (d:Nat) (S R:List Tok) (hS:S.map z=brT true (shN n)) (hl:S.length≤200):GoodD (dAtom (innD f E 201 d) f E (S++R)) n R:=by
 obtain ⟨s,S',e,rfl,hs,he,h'⟩:=br_form hS
 have:=atom_of_or (f:=f) (E:=E) (q:=201) (R:=R) hs he (fun d=>h d S' (e :: R) h' (by simp at hl;omega) (.inr (by simp [kindIs,he]))) d
 simpa using this
theorem br_head {b:Bool} {S:List Tok} (ha:allN n=true) (hS:S.map z=brT b (shN n)):headOk S:=headOk.z (headOk.br b fun _=>sh_head n ha) hS
theorem J_of_B {b:Bool} (ha:allN n=true) (h:∀ d S R,S.map z=brT b (shN n)→S.length≤200→NoRep R→GoodD (dRep (innD f E 201 d) f E (S++R)) n R) (d:Nat) (S R:List Tok) (hS:S.map z=brT b (shN n)) (hl:S.length≤200) (hR:JoinEnd R):GoodD (dJoin (innD f E 201 d) f E 201 (S++R)) n R :=
 join_one (k:=199) (br_head ha hS).noJoin (h d S R hS hl hR.rep) hR
theorem O_of_J (h:∀ d S R,S.map z=brT false (shN n)→S.length≤200→JoinEnd R→GoodD (dJoin (innD f E 201 d) f E 201 (S++R)) n R) (d:Nat) (S R:List Tok) (hS:S.map z=shN n) (hl:S.length≤200) (hR:OrEnd R):GoodD (dOr f E 201 d (S++R)) n R:=by
 rw [dOr_inn]
 exact or_of_join (q:=200) (h d S R hS hl hR.join) hR
end
theorem join_list {f:Int} {E:Nat}:∀ (ns:List Nd),(∀ n∈ns,ReadsN f E n∧allN n=true)→∀ (d:Nat) (S R:List Tok) (k:Nat),S.map z=shJ [3,4] ns→S.length < k→S.length≤200→JoinEnd R→GoodL (dJoinL (innD f E 201 d) f E k (S++R)) ns R
 | [],_,d,S,R,k,hS,hk,_,hR=>by
  rw [shJ,List.map_eq_nil_iff] at hS
  subst hS
  obtain ⟨k,rfl⟩:∃ m,k=m+1:=⟨k - 1,by simp at hk;omega⟩
  exact join_end hR
 | n :: ns,h,d,S,R,k,hS,hk,hl,hR=>by
  rw [shJ] at hS
  obtain ⟨S1,S2,rfl,h1,h2⟩:=List.map_eq_append_iff.1 hS
  have hh:=br_head (h n (by simp)).2 h1
  have h1l:0 < S1.length:=by obtain ⟨t,T,rfl,_⟩:=hh;simp
  rw [List.length_append] at hk hl
  obtain ⟨k,rfl⟩:∃ m,k=m+1:=⟨k - 1,by omega⟩
  have hN:NoRep (S2++R):=by
   rcases ns with _ | ⟨m,ns⟩
   ·rw [shJ,List.map_eq_nil_iff] at h2
    subst h2
    exact hR.rep
   ·rw [shJ] at h2
    obtain ⟨S3,S4,rfl,h3,_⟩:=List.map_eq_append_iff.1 h2
    rw [List.append_assoc]
    exact (br_head (h m (by simp)).2 h3).noRep
  rw [List.append_assoc]
  exact join_step hh.noJoin ((h n (by simp)).1.B d S1 (S2++R) h1 (by omega) hN) (join_list ns (fun m hm=>h m (by simp [hm])) d S2 R k h2 (by omega) (by omega) hR)
theorem or_list {f:Int} {E:Nat}:∀ (ns:List Nd),(∀ n∈ns,ReadsN f E n)→∀ (d:Nat) (S R:List Tok) (k:Nat),S.map z=shT ns→S.length < k→S.length≤200→OrEnd R→GoodL (dOrL (innD f E 201 d) f E 201 k (S++R)) ns R
 | [],_,d,S,R,k,hS,hk,_,hR=>by
  unfold shT at hS
  rw [List.flatMap_nil,List.map_eq_nil_iff] at hS
  subst hS
  obtain ⟨k,rfl⟩:∃ m,k=m+1:=⟨k - 1,by simp at hk;omega⟩
  exact or_end hR
 | n :: ns,h,d,S,R,k,hS,hk,hl,hR=>by
  unfold shT at hS
  rw [List.flatMap_cons] at hS
  obtain ⟨S1,S2,rfl,h1,h2⟩:=List.map_eq_append_iff.1 hS
  rcases S1 with _ | ⟨s,S1⟩
  ·cases h1
  injection h1 with h3 h4
  have hs:s.k=5:=by rw [show s.k=(z s).k from rfl,h3];rfl
  simp only [List.length_append,List.length_cons] at hk hl
  obtain ⟨k,rfl⟩:∃ m,k=m+1:=⟨k - 1,by omega⟩
  have hN:JoinEnd (S2++R):=by
   rcases ns with _ | ⟨m,ns⟩
   ·rw [List.flatMap_nil,List.map_eq_nil_iff] at h2
    subst h2
    exact hR.join
   ·rw [List.flatMap_cons,List.cons_append] at h2
    rcases S2 with _ | ⟨t,S2⟩
    ·cases h2
    injection h2 with h5 h6
    have ht:t.k=5:=by rw [show t.k=(z t).k from rfl,h5];rfl
    exact .inr (by simp [kindIs,ht])
  rw [List.append_assoc,List.cons_append]
  exact or_step hs ((h n (by simp)).J d S1 (S2++R) h4 (by omega) hN) (or_list ns (fun m hm=>h m (by simp [hm])) d S2 R k h2 (by omega) (by omega) hR)
def ClosR (f:Int) (rs:List (Int×Int)):Prop:=(flag1 f=true→Folded rs)∧(flag2 f=true→∀ c,hasR rs (mir c)=true→hasR rs c=true)
mutual
def closN (f:Int):Nd→Prop
 | .mk _ _ _ rs ks=>ClosR f rs∧closL f ks
def closL (f:Int):List Nd→Prop
 | []=>True
 | n :: ns=>closN f n∧closL f ns
end
theorem clos_zero (rs:List (Int×Int)):ClosR 0 rs:=⟨fun h=>absurd h (by decide),fun h=>absurd h (by decide)⟩
mutual
theorem closN_zero:∀ n,closN 0 n
 | .mk _ _ _ rs ks=>by rw [closN];exact ⟨clos_zero rs,closL_zero ks⟩
theorem closL_zero:∀ ns,closL 0 ns
 | []=>by rw [closL];trivial
 | n :: ns=>by rw [closL];exact ⟨closN_zero n,closL_zero ns⟩
end
theorem part_within {f:Int} {rs:List (Int×Int)} {r:Int×Int} (hr:r∈rs) (hcl:ClosR f rs) {c:Int} (hc:inTop c) :
 (hasR (behR (flag1 f) (flag2 f) [r]) c=true→hasR rs c=true)∧(hasR [r] c=true→hasR (behR (flag1 f) (flag2 f) [r]) c=true):=by
 have hone:∀ k,hasR [r] k=true→hasR rs k=true:=fun k h=>by
  rw [hasR_iff] at h ⊢
  obtain ⟨s,hs,h1⟩:=h
  rw [List.mem_singleton] at hs
  subst hs
  exact ⟨_,hr,h1⟩
 have hh:=hc
 unfold inTop at hh
 unfold behR
 rw [setP_has,show decide (0≤c)=true from decide_eq_true hh.1,show decide (c≤topR)=true from decide_eq_true hh.2,Bool.true_and,Bool.true_and,beh_has hc]
 refine ⟨?_,.inl⟩
 rintro (h | ⟨e,k,hk,hf,h⟩ | ⟨e,h,-⟩)
 ·exact hone c h
 ·exact hcl.1 e c k hc hf (hone k h)
 ·exact hcl.2 e c (hone _ h)
theorem item_tok {f:Int} {t:Tok} {r:Int×Int} (h:z t=itemT' r 0):partR f t=behR (flag1 f) (flag2 f) [r]∧¬ t.k=8:=by
 obtain ⟨k,c,lo,hi,p⟩:=t
 obtain ⟨l,u⟩:=r
 unfold z itemT' at h
 simp only at h
 by_cases he:u≠l
 ·rw [if_pos he] at h
  injection h with e1 e2 e3 e4 e5
  subst e1 e2 e3 e4
  refine ⟨?_,by simp⟩
  unfold partR
  rw [if_pos rfl]
 ·rw [if_neg he] at h
  injection h with e1 e2 e3 e4 e5
  subst e1 e2 e3 e4
  refine ⟨?_,by simp⟩
  unfold partR
  rw [if_neg (by simp),if_pos rfl]
  have:u=c:=by omega
  subst this
  rfl
theorem item_parts {f:Int} {rs:List (Int×Int)} (hcl:ClosR f rs):∀ (Q:List (Int×Int)),(∀ r∈Q,r∈rs)→∀ X:List Tok,X.map z=Q.map (fun r=>itemT' r 0)→(∀ c,inTop c→(hasR (X.flatMap (partR f)) c=true→hasR rs c=true)∧(hasR Q c=true→hasR (X.flatMap (partR f)) c=true))∧∀ t∈X,¬ t.k=8
 | [],_,X,h=>by
  rw [List.map_nil,List.map_eq_nil_iff] at h
  subst h
  exact ⟨fun c _=>⟨fun h=>(by cases h),fun h=>(by cases h)⟩,fun t h=>by simp at h⟩
 | r :: Q,hQ,X,h=>by
  rcases X with _ | ⟨t,X⟩
  ·cases h
  rw [List.map_cons,List.map_cons] at h
  injection h with h1 h2
  obtain ⟨i1,i2⟩:=item_parts hcl Q (fun r hr=>hQ r (by simp [hr])) X h2
  obtain ⟨t1,t2⟩:=item_tok (f:=f) h1
  refine ⟨fun c hc=>?_,fun s hs=>?_⟩
  ·have hw:=part_within (hQ r (by simp)) hcl hc
   rw [List.flatMap_cons,hasR_append,t1,show r :: Q=[r]++Q from rfl,hasR_append,Bool.or_eq_true,Bool.or_eq_true]
   exact ⟨fun h=>h.elim hw.1 (i1 c hc).1,fun h=>h.elim (fun h=>.inl (hw.2 h)) (fun h=>.inr ((i1 c hc).2 h))⟩
  ·rcases List.mem_cons.1 hs with rfl | hs
   ·exact t2
   ·exact i2 s hs
theorem items_class {f:Int} {e:Tok} {R:List Tok} (he:e.k=8):∀ (X:List Tok),(∀ t∈X,¬ t.k=8)→classL f (X++e :: R)=some (X.flatMap (partR f),R)
 | [],_=>by rw [List.nil_append,classL,if_pos he];rfl
 | t :: X,h=>by rw [List.cons_append,classL,if_neg (h t (by simp)),items_class he X (fun t ht=>h t (by simp [ht]))];rfl
theorem set_atom {inner:Option (List Tok→DR)} {f:Int} {E:Nat} {rs:List (Int×Int)} {S R:List Tok} (hs:setR rs=rs) (hcl:ClosR f rs) (hS:S.map z=shSet rs):GoodD (dAtom inner f E (S++R)) (.mk 2 0 0 rs []) R:=by
 have hc:Canon 0 rs:=hs▸setR_canon rs
 have hclass:S.map z=⟨7,0,0,0,0⟩ :: (rs.map (fun r=>itemT' r 0)++[⟨8,0,0,0,0⟩])→GoodD (dAtom inner f E (S++R)) (.mk 2 0 0 rs []) R:=by
  intro hS
  rcases S with _ | ⟨s,S⟩
  ·cases hS
  injection hS with h1 h2
  have hk:s.k=7:=by rw [show s.k=(z s).k from rfl,h1]
  have hkc:s.c=0:=by rw [show s.c=(z s).c from rfl,h1]
  obtain ⟨X,Y,rfl,h3,h4⟩:=List.map_eq_append_iff.1 h2
  rcases Y with _ | ⟨e,Y⟩
  ·cases h4
  injection h4 with h5 h6
  rw [List.map_eq_nil_iff] at h6
  subst h6
  have he:e.k=8:=by rw [show e.k=(z e).k from rfl,h5]
  obtain ⟨p1,p2⟩:=item_parts hcl rs (fun r hr=>hr) X h3
  refine .inl ?_
  rw [List.cons_append,List.append_assoc,List.singleton_append]
  unfold dAtom setT
  simp only
  rw [if_neg (by omega),if_neg (by omega),if_neg (by omega),if_neg (by omega),if_neg (by omega),if_pos hk,items_class he X p2]
  simp only [classR,hkc]
  rw [if_neg (by simp),setP_is hc fun c h0 h1=>?_]
  rw [Bool.eq_iff_iff]
  exact ⟨(p1 c ⟨h0,h1⟩).2,(p1 c ⟨h0,h1⟩).1⟩
 unfold shSet at hS
 split at hS
 ·rename_i r
  split at hS
  ·rename_i heq
   rcases S with _ | ⟨s,S⟩
   ·cases hS
   injection hS with h1 h2
   rw [List.map_eq_nil_iff] at h2
   subst h2
   have hk:s.k=1:=by rw [show s.k=(z s).k from rfl,h1]
   have hkc:s.c=r.1:=by rw [show s.c=(z s).c from rfl,h1]
   refine .inl ?_
   rw [List.singleton_append]
   unfold dAtom setT
   simp only
   rw [if_neg (by omega),if_neg (by omega),if_neg (by omega),if_neg (by omega),if_neg (by omega),if_neg (by omega)]
   unfold partR
   rw [if_neg (by omega),if_pos hk,hkc]
   have hag:=beh_again (flag1 f) (flag2 f) hc (by simp) hcl.1 hcl.2
   rw [hs] at hag
   obtain ⟨a,b⟩:=r
   simp only at heq
   subst heq
   rw [hag]
  ·exact hclass hS
 ·exact hclass hS
theorem all_mem:∀ {ns:List Nd},allL ns=true→∀ n∈ns,allN n=true
 | [],_,n,h=>by simp at h
 | m :: ns,ha,n,h=>by
  rw [allL,Bool.and_eq_true] at ha
  rcases List.mem_cons.1 h with e | h
  ·rw [e];exact ha.1
  ·exact all_mem ha.2 n h
mutual
theorem reads_node (f:Int) (E:Nat):∀ (n:Nd),allN n=true→closN f n→ReadsN f E n
 | .mk k lo hi rs ks,ha,hcl=>by
  rw [closN] at hcl
  have ha0:=ha
  rw [allN,Bool.and_eq_true] at ha
  have hL:=reads_list f E ks ha.2 hcl.2
  have hal:∀ m∈ks,allN m=true:=all_mem ha.2
  obtain ⟨hk,hz,hr,hks,h34,h5,h2⟩:=node_plain ha.1
  -- what needs no brackets
  have leaf:(k=1∨k=2∨k=6∨k=7)→(∀ d S R,S.map z=shN (.mk k lo hi rs ks)→S.length≤200→GoodD (dAtom (innD f E 201 d) f E (S++R)) (.mk k lo hi rs ks) R)→ReadsN f E (.mk k lo hi rs ks):=by
   intro hk hA
   have e5:([3,4,5]:List Int).contains (kindN (.mk k lo hi rs ks))=false:=by
    show ([3,4,5]:List Int).contains k=false
    rcases hk with rfl | rfl | rfl | rfl <;> rfl
   have e4:([3,4]:List Int).contains (kindN (.mk k lo hi rs ks))=false:=by
    show ([3,4]:List Int).contains k=false
    rcases hk with rfl | rfl | rfl | rfl <;> rfl
   have e3:(kindN (.mk k lo hi rs ks) == 4)=false:=by
    show (k == 4)=false
    rcases hk with rfl | rfl | rfl | rfl <;> rfl
   have hB:∀ d S R,S.map z=brT false (shN (.mk k lo hi rs ks))→S.length≤200→NoRep R→GoodD (dRep (innD f E 201 d) f E (S++R)) (.mk k lo hi rs ks) R:=fun d S R hS hl hR=>rep_of_atom (hA d S R hS hl) hR.six
   have hJ:=J_of_B ha0 hB
   exact ⟨e5▸hA,e4▸hB,e3▸hJ,O_of_J hJ⟩
  rcases hk with rfl | rfl | rfl | rfl | rfl | rfl | rfl
  ·obtain ⟨rfl,rfl⟩:=hz (by decide)
   obtain rfl:=hr (by decide)
   obtain rfl:=hks (.inl rfl)
   refine leaf (.inl rfl) fun d S R hS hl=>?_
   rw [shN_def,if_pos rfl] at hS
   have hS':S.map z=brT true []:=hS
   obtain ⟨s,S',e,rfl,hs,he,h'⟩:=br_form hS'
   rw [List.map_eq_nil_iff] at h'
   subst h'
   have:=atom_of_or (f:=f) (E:=E) (q:=201) (n:=.mk 1 0 0 [] []) (S:=[]) (R:=R) hs he (fun d=>by
    rw [List.nil_append,dOr_inn]
    have hE:OrEnd (e :: R):=.inr (by simp [kindIs,he])
    exact or_of_join (q:=200) (join_of (join_end hE.join) rfl) hE) d
   simpa using this
  ·obtain ⟨rfl,rfl⟩:=hz (by decide)
   obtain rfl:=hks (by simp)
   refine leaf (by simp) fun d S R hS hl=>?_
   rw [shN_def,if_neg (by decide),if_neg (by decide),if_neg (by decide),if_pos rfl] at hS
   exact set_atom (h2 rfl) hcl.1 hS
  ·obtain ⟨rfl,rfl⟩:=hz (by decide)
   obtain rfl:=hr (by decide)
   have h34:=h34 (by simp)
   have hJ:∀ d S R,S.map z=brT false (shN (.mk 3 0 0 [] ks))→S.length≤200→JoinEnd R→GoodD (dJoin (innD f E 201 d) f E 201 (S++R)) (.mk 3 0 0 [] ks) R:=by
    intro d S R hS hl hR
    have hS:S.map z=shN (.mk 3 0 0 [] ks):=hS
    rw [shN_def,if_neg (by decide),if_neg (by decide),if_neg (by decide),if_neg (by decide),if_pos rfl] at hS
    refine join_of (join_list ks (fun m hm=>⟨hL m hm,hal m hm⟩) d S R 201 hS (by omega) hl hR) ?_
    rcases ks with _ | ⟨a,_ | ⟨b,ks⟩⟩
    ·simp at h34
    ·simp at h34
    ·rfl
   have hO:=O_of_J hJ
   have hA:=A_of_O hO
   exact ⟨hA,fun d S R hS hl hR=>rep_of_atom (hA d S R hS hl) hR.six,hJ,hO⟩
  ·obtain ⟨rfl,rfl⟩:=hz (by decide)
   obtain rfl:=hr (by decide)
   have h34:=h34 (by simp)
   have hO:∀ d S R,S.map z=shN (.mk 4 0 0 [] ks)→S.length≤200→OrEnd R→GoodD (dOr f E 201 d (S++R)) (.mk 4 0 0 [] ks) R:=by
    intro d S R hS hl hR
    rw [shN_def,if_neg (by decide),if_neg (by decide),if_neg (by decide),if_neg (by decide),if_neg (by decide),if_pos rfl] at hS
    rcases ks with _ | ⟨a,ks⟩
    ·simp at h34
    rw [shO_cons] at hS
    obtain ⟨S1,S2,rfl,h1,h2⟩:=List.map_eq_append_iff.1 hS
    rw [List.length_append] at hl
    rw [dOr_inn,List.append_assoc]
    have hN:JoinEnd (S2++R):=by
     rcases ks with _ | ⟨m,ns⟩
     ·simp at h34
     ·unfold shT at h2
      rw [List.flatMap_cons,List.cons_append] at h2
      rcases S2 with _ | ⟨t,S2⟩
      ·cases h2
      injection h2 with h5 h6
      have ht:t.k=5:=by rw [show t.k=(z t).k from rfl,h5];rfl
      exact .inr (by simp [kindIs,ht])
    refine or_first ((hL a (by simp)).J d S1 (S2++R) h1 (by omega) hN) (or_list ks (fun m hm=>hL m (by simp [hm])) d S2 R 201 h2 (by omega) (by omega) hR) ?_
    rcases ks with _ | ⟨b,ks⟩
    ·simp at h34
    ·rfl
   have hA:=A_of_O hO
   have hB:∀ d S R,S.map z=brT true (shN (.mk 4 0 0 [] ks))→S.length≤200→NoRep R→GoodD (dRep (innD f E 201 d) f E (S++R)) (.mk 4 0 0 [] ks) R:=fun d S R hS hl hR=>rep_of_atom (hA d S R hS hl) hR.six
   exact ⟨hA,hB,J_of_B ha0 hB,hO⟩
  ·obtain rfl:=hr (by decide)
   have h5:=h5 rfl
   obtain ⟨m,rfl⟩:∃ m,ks=[m]:=by
    rcases ks with _ | ⟨a,_ | ⟨b,ks⟩⟩
    ·simp at h5
    ·exact ⟨a,rfl⟩
    ·simp at h5
   have hB:∀ d S R,S.map z=brT false (shN (.mk 5 lo hi [] [m]))→S.length≤200→NoRep R→GoodD (dRep (innD f E 201 d) f E (S++R)) (.mk 5 lo hi [] [m]) R:=by
    intro d S R hS hl hR
    have hS:S.map z=shN (.mk 5 lo hi [] [m]):=hS
    rw [shN_def,if_neg (by decide),if_neg (by decide),if_neg (by decide),if_neg (by decide),if_neg (by decide),if_neg (by decide)] at hS
    obtain ⟨S1,S2,rfl,h1,h2⟩:=List.map_eq_append_iff.1 hS
    rcases S2 with _ | ⟨t,S2⟩
    ·cases h2
    injection h2 with h3 h4
    rw [List.map_eq_nil_iff] at h4
    subst h4
    have hk:t.k=6:=by rw [show t.k=(z t).k from rfl,h3]
    have hlo:t.lo=lo:=by rw [show t.lo=(z t).lo from rfl,h3]
    have hhi:t.hi=hi:=by rw [show t.hi=(z t).hi from rfl,h3]
    rw [List.length_append] at hl
    rw [List.append_assoc,List.singleton_append]
    unfold dRep
    rcases (hL m (by simp)).A d S1 (t :: R) h1 (by omega) with h | ⟨p,h⟩
    ·rw [h]
     simp only
     rw [if_pos hk,dropIs_no hR.lazy,hlo,hhi]
     rcases R with _ | ⟨r,R⟩
     ·exact .inl rfl
     ·have:¬ r.k=6:=by simpa [kindIs] using hR.six
      simp only
      rw [if_neg this]
      exact .inl rfl
    ·rw [h];exact .inr ⟨p,rfl⟩
   have hJ:=J_of_B ha0 hB
   have hO:=O_of_J hJ
   exact ⟨A_of_O hO,hB,hJ,hO⟩
  ·obtain ⟨rfl,rfl⟩:=hz (by decide)
   obtain rfl:=hr (by decide)
   obtain rfl:=hks (by simp)
   refine leaf (by simp) fun d S R hS hl=>?_
   rw [shN_def,if_neg (by decide),if_pos rfl] at hS
   rcases S with _ | ⟨s,S⟩
   ·cases hS
   injection hS with h1 h2
   rw [List.map_eq_nil_iff] at h2
   subst h2
   have hk:s.k=10:=by rw [show s.k=(z s).k from rfl,h1];rfl
   refine .inl ?_
   rw [List.singleton_append]
   unfold dAtom
   simp only
   rw [if_neg (by omega),if_pos hk]
  ·obtain ⟨rfl,rfl⟩:=hz (by decide)
   obtain rfl:=hr (by decide)
   obtain rfl:=hks (by simp)
   refine leaf (by simp) fun d S R hS hl=>?_
   rw [shN_def,if_neg (by decide),if_neg (by decide),if_pos rfl] at hS
   rcases S with _ | ⟨s,S⟩
   ·cases hS
   injection hS with h1 h2
   rw [List.map_eq_nil_iff] at h2
   subst h2
   have hk:s.k=11:=by rw [show s.k=(z s).k from rfl,h1];rfl
   refine .inl ?_
   rw [List.singleton_append]
   unfold dAtom
   simp only
   rw [if_neg (by omega),if_neg (by omega),if_pos hk]
theorem reads_list (f:Int) (E:Nat):∀ (ns:List Nd),allL ns=true→closL f ns→∀ n∈ns,ReadsN f E n
 | [],_,_,n,h=>by simp at h
 | m :: ns,ha,hcl,n,h=>by
  rw [allL,Bool.and_eq_true] at ha
  rw [closL] at hcl
  have h1:=reads_node f E m ha.1 hcl.1
  have h2:=reads_list f E ns ha.2 hcl.2
  rcases List.mem_cons.1 h with e | h
  ·rw [e];exact h1
  ·exact h2 n h
end
theorem dP_shownF (f:Int) (E:Nat) {n:Nd} (ha:allN n=true) (hcl:closN f n) {X:List Tok} (hX:X.map z=shN n) (hl:X.length≤200):dP f E 201 X=.ok n∨∃ p,dP f E 201 X=.error (p,9):=by
 have h:=(reads_node f E n ha hcl).O 20 X [] hX hl (.inl rfl)
 rw [List.append_nil] at h
 unfold dP
 rcases h with h | ⟨p,h⟩
 ·rw [h];exact .inl rfl
 ·rw [h];exact .inr ⟨p,rfl⟩
end
end Go.Proofs.YtoeocodfndbebaaGreatDoor
