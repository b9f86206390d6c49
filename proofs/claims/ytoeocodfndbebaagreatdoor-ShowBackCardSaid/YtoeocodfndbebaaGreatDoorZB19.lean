/- Shared texts, shaken for one claim. -/
import Derived.Test.YtoeocodfndbebaaGreatDoorZB7
import Derived.Test.YtoeocodfndbebaaGreatDoorZB11
import Derived.Test.YtoeocodfndbebaaGreatDoorZB18
set_option maxRecDepth 20000
set_option maxHeartbeats 16000000
namespace Go.Proofs.YtoeocodfndbebaaGreatDoor
section
theorem beh_iff {R:List (Int×Int)} {f1 f2:Bool} {c:Int} (hc:inTop c):hasR (behR f1 f2 R) c=true↔hasR R c=true∨(f1=true∧∃ k,inTop k∧fo k=fo c∧hasR R k=true)∨(f2=true∧hasR R (mir c)=true∧inTop (mir c)):=by
 have h:=beh_has (R:=R) (f1:=f1) (f2:=f2) hc
 unfold behR
 rw [setP_has]
 unfold inTop at hc
 have h1:(decide (0≤c) && decide (c≤topR))=true:=by unfold topR at hc ⊢;simp;omega
 rw [h1,Bool.true_and]
 exact h
theorem beh_top {R:List (Int×Int)} {f1 f2:Bool} {c:Int} (h:hasR (behR f1 f2 R) c=true):inTop c:=by
 have:=(setP_canon (hasR (R++addQ R f1 f2 R))).has h
 unfold topR at this
 unfold inTop topR
 omega
theorem beh_more {R:List (Int×Int)} {f1 f2:Bool} {x:Int} (h:hasR (behR f1 f2 R) x=true) (h0:hasR R x=false):(f1=true∧∃ k,inTop k∧fo k=fo x∧k≠x∧hasR R k=true)∨(mir x≠x∧hasR R (mir x)=true):=by
 rcases (beh_iff (beh_top h)).1 h with h | ⟨e,k,hk,hf,h⟩ | ⟨e,h,hm⟩
 ·rw [h] at h0;cases h0
 ·refine .inl ⟨e,k,hk,hf,fun e=>?_,h⟩
  rw [← e,h] at h0;cases h0
 ·refine .inr ⟨fun e=>?_,h⟩
  rw [← e,h] at h0;cases h0
def GL:List Int:=[0,48,9,32,133,160,8232,65,95,97,192,216,248,880,1024,1488,1568,1632,58,14,33,134,161,8234,91,96,123,215,247,592,1280,1515,1611,1642,181,182,7838,7839]
theorem range_has {lo hi x:Int}:hasR [(lo,hi)] x=true↔lo≤x∧x≤hi:=by simp [hasR,inR]
theorem range_start {lo hi:Int} {f1 f2:Bool} {x:Int} (h:hasR (behR f1 f2 [(lo,hi)]) x=true) (h1:x=0∨hasR (behR f1 f2 [(lo,hi)]) (x - 1)=false):x=lo∨x=0∨x∈alike lo∨x∈BND∨x∈mrL:=by
 have hx:=beh_top h
 rcases hb:hasR [(lo,hi)] x with _ | _
 ·rcases beh_more h hb with ⟨e,k,hk,hf,hne,h2⟩ | ⟨hm,h2⟩
  ·rw [range_has] at h2
   by_cases hkl:k=lo
   ·exact .inr (.inr (.inl (mem_alike (by rw [← hkl,hf]))))
   ·by_cases hfb:fo (k - 1)=fo (x - 1)
    ·exfalso
     have s1:=fo_spec k
     have s2:=fo_spec x
     have hk1:1≤k∧1≤x:=by omega
     rcases h1 with h1 | h1
     ·omega
     ·have hx1:inTop (x - 1):=by unfold inTop at hx ⊢;omega
      have:=(beh_iff (R:=[(lo,hi)]) (f1:=f1) (f2:=f2) hx1).2 (.inr (.inl ⟨e,k - 1,by unfold inTop at hk ⊢;omega,hfb,range_has.2 (by omega)⟩))
      rw [this] at h1;cases h1
    ·exact .inr (.inr (.inr (.inl (mem_BND hf hne hfb))))
  ·exact .inr (.inr (.inr (.inr (mem_mrL hm))))
 ·rw [range_has] at hb
  rcases h1 with h1 | h1
  ·exact .inr (.inl h1)
  ·by_cases h0:x=0
   ·exact .inr (.inl h0)
   ·have hx1:inTop (x - 1):=by unfold inTop at hx ⊢;omega
    rcases hc:hasR [(lo,hi)] (x - 1) with _ | _
    ·left
     have:¬ (lo≤x - 1∧x - 1≤hi):=fun e=>by rw [range_has.2 e] at hc;cases hc
     omega
    ·rw [(beh_iff hx1).2 (.inl hc)] at h1;cases h1
theorem group_three (c:Int):groupL c=[48,57]∨groupL c=[9,13,32,32,133,133,160,160,8232,8233]∨groupL c=[48,57,65,90,95,95,97,122,192,214,216,246,248,591,880,1023,1024,1279,1488,1514,1568,1610,1632,1641]:=by
 unfold groupL
 split
 ·exact .inl rfl
 ·split
  ·exact .inr (.inl rfl)
  ·exact .inr (.inr rfl)
theorem group_mir (c:Int):∀ x∈mrL,hasR (groupR c) x=false:=by
 unfold groupR
 rcases group_three c with h | h | h <;> rw [h] <;> decide +kernel
theorem group_has {c:Int} {f1 f2:Bool} {x:Int} (h:hasR (behR f1 f2 (groupR c)) x=true):hasR (groupR c) x=true∨x=181∨x=7838:=by
 rcases hb:hasR (groupR c) x with _ | _
 ·refine .inr ?_
  rcases beh_more h hb with ⟨e,k,hk,hf,hne,h2⟩ | ⟨hm,h2⟩
  ·have s1:=fo_spec k
   have s2:=fo_spec x
   rw [hasR_iff] at h2
   have hb2:¬ ∃ r∈groupR c,r.1≤x∧x≤r.2:=fun e=>by rw [hasR_iff.2 e] at hb;cases hb
   unfold groupR at h2 hb2
   rcases group_three c with h | h | h
   ·rw [h] at h2 hb2
    simp [pairUp] at h2 hb2
    omega
   ·rw [h] at h2 hb2
    simp [pairUp] at h2 hb2
    omega
   ·rw [h] at h2 hb2
    simp [pairUp] at h2 hb2
    omega
  ·have:=group_mir c (mir x) (mem_mrL (by rw [mir_twice];exact fun e=>hm e.symm))
   rw [this] at h2;cases h2
 ·exact .inl rfl
theorem group_edge {c x:Int} (h:hasR (groupR c) x=true) (h1:x=0∨hasR (groupR c) (x - 1)=false):x∈GL:=by
 rw [hasR_iff] at h
 have hb2:x=0∨¬ ∃ r∈groupR c,r.1≤x - 1∧x - 1≤r.2:=h1.imp id fun h1 e=>by rw [hasR_iff.2 e] at h1;cases h1
 unfold groupR at h hb2
 simp only [GL,List.mem_cons,List.not_mem_nil,or_false]
 rcases group_three c with h3 | h3 | h3
 ·rw [h3] at h hb2
  simp [pairUp] at h hb2
  omega
 ·rw [h3] at h hb2
  simp [pairUp] at h hb2
  omega
 ·rw [h3] at h hb2
  simp [pairUp] at h hb2
  omega
theorem group_end {c x:Int} (h:hasR (groupR c) (x - 1)=true) (h1:hasR (groupR c) x=false):x∈GL:=by
 rw [hasR_iff] at h
 have hb2:¬ ∃ r∈groupR c,r.1≤x∧x≤r.2:=fun e=>by rw [hasR_iff.2 e] at h1;cases h1
 unfold groupR at h hb2
 simp only [GL,List.mem_cons,List.not_mem_nil,or_false]
 rcases group_three c with h3 | h3 | h3
 ·rw [h3] at h hb2
  simp [pairUp] at h hb2
  omega
 ·rw [h3] at h hb2
  simp [pairUp] at h hb2
  omega
 ·rw [h3] at h hb2
  simp [pairUp] at h hb2
  omega
theorem gl_of {x:Int} (h:x=181∨x=182∨x=7838∨x=7839∨x=0):x∈GL:=by
 rcases h with rfl | rfl | rfl | rfl | rfl <;> decide
theorem group_start {c:Int} {f1 f2:Bool} {x:Int} (h:hasR (behR f1 f2 (groupR c)) x=true) (h1:x=0∨hasR (behR f1 f2 (groupR c)) (x - 1)=false):x∈GL:=by
 have hx:=beh_top h
 rcases group_has h with h2 | h2 | h2
 ·refine group_edge h2 ?_
  by_cases h0:x=0
  ·exact .inl h0
  ·refine .inr ?_
   rcases h1 with h1 | h1
   ·exact absurd h1 h0
   ·rcases hc:hasR (groupR c) (x - 1) with _ | _
    ·rfl
    ·have hx1:inTop (x - 1):=by unfold inTop at hx ⊢;omega
     rw [(beh_iff hx1).2 (.inl hc)] at h1;cases h1
 ·exact gl_of (by omega)
 ·exact gl_of (by omega)
theorem group_turn {c:Int} {f1 f2:Bool} {x:Int} (hx:inTop x) (h:hasR (behR f1 f2 (groupR c)) x=false) (h1:x=0∨hasR (behR f1 f2 (groupR c)) (x - 1)=true):x∈GL:=by
 rcases h1 with h1 | h1
 ·exact gl_of (by omega)
 ·rcases group_has h1 with h2 | h2 | h2
  ·refine group_end h2 ?_
   rcases hc:hasR (groupR c) x with _ | _
   ·rfl
   ·rw [(beh_iff hx).2 (.inl hc)] at h;cases h
  ·exact gl_of (by omega)
  ·exact gl_of (by omega)
end
section
def nextC (c:Bool) (t:Tok):Bool:=if t.k=7 then true else if t.k=8 then false else c
structure Fit (n:Nat) (c:Bool) (p:Option Tok) (t:Tok):Prop where
 pos0:0≤t.pos
 posn:t.pos < n
 rises:∀ q,p=some q→q.pos < t.pos
 lo:1≤t.k
 hi:t.k≤13
 begins:t.k=7→c=false
 ends:t.k=8→c=true
 range:t.k=9→c=true∧t.lo≤t.hi
 inside:c=true→t.k=1∨t.k=12∨t.k=9∨t.k=8
 lazy:t.k=13→∃ q,p=some q∧q.k=6
 again:t.k=6→0≤t.lo∧t.lo≤20∧t.hi≤20∧(0≤t.hi→t.lo≤t.hi)
structure OutK (r:Bool) (t:Tok):Prop where
 kind:t.k=1∨t.k=2∨t.k=3∨t.k=4∨t.k=5∨t.k=6∨t.k=7∨t.k=10∨t.k=11∨t.k=12∨t.k=13
 lazy:t.k=13→r=true
 again:t.k=6→0≤t.lo∧t.lo≤20∧t.hi≤20∧(0≤t.hi→t.lo≤t.hi)
theorem OutK.easy {r:Bool} {t:Tok} (h:t.k=1∨t.k=2∨t.k=3∨t.k=4∨t.k=5∨t.k=7∨t.k=10∨t.k=11∨t.k=12):OutK r t:=⟨by omega,fun e=>by omega,fun e=>by omega⟩
theorem escT_kind {l:List Int} {fr k:Nat} {t:Tok} {k':Nat} (h:escT l fr k=.ok (t,k')):t.k=1∨t.k=12:=by
 unfold escT at h
 split at h
 ·cases h
 ·split at h
  ·cases h
  ·injection h with h;injection h with h _;subst h;exact .inr rfl
  ·injection h with h;injection h with h _;subst h;exact .inl rfl
theorem shutT_kind {fr:Nat} {a b c:Int} {k:Nat} {t:Tok} {k':Nat} (h:shutT fr a b c k=.ok (t,k')) (r:Bool):OutK r t:=by
 unfold shutT at h
 split at h
 ·cases h
 ·rename_i hb
  injection h with h;injection h with h _;subst h
  refine ⟨by simp,fun e=>by simp at e,fun _=>?_⟩
  simp [badB] at hb
  simp only
  omega
theorem braT_kind {l:List Int} {fr k:Nat} {t:Tok} {k':Nat} (h:braT l fr k=.ok (t,k')) (r:Bool):OutK r t:=by
 unfold braT at h
 split at h
 ·cases h
 ·split at h
  ·split at h
   ·cases h
   ·exact shutT_kind h r
  ·exact shutT_kind h r
theorem repT_kind (r:Bool) (c:Int):OutK r (repT r c):=by
 unfold repT
 split
 ·rename_i h;exact ⟨by simp,fun _=>h.2,fun e=>by simp at e⟩
 ·split
  ·exact ⟨by simp,fun e=>by simp at e,fun _=>by simp⟩
  ·split
   ·exact ⟨by simp,fun e=>by simp at e,fun _=>by simp⟩
   ·exact ⟨by simp,fun e=>by simp at e,fun _=>by simp⟩
theorem aloT_kind (r:Bool) (c:Int):OutK r (aloT c):=by
 refine OutK.easy ?_
 unfold aloT
 repeat' split
 all_goals simp [chT]
theorem claT_kind (l:List Int) (k:Nat) (r:Bool):OutK r (claT l k).1:=by
 refine OutK.easy ?_
 unfold claT
 split <;> simp
theorem outB_kind {l:List Int} {r:Bool} {k:Nat} {t:Tok} {k':Nat} (h:outB l r k=.ok (t,k')):OutK r t:=by
 unfold outB at h
 split at h
 ·cases h
 ·split at h
  ·injection h with h;injection h with h _;subst h;exact repT_kind r _
  ·split at h
   ·exact braT_kind h r
   ·split at h
    ·injection h with h
     have:=claT_kind l (k+1) r
     rename_i c k2 hn _ _ _
     have h2:=claT_kind l k2 r
     rw [h] at h2;exact h2
    ·split at h
     ·have:=escT_kind h;exact OutK.easy (by omega)
     ·injection h with h;injection h with h _;subst h;exact aloT_kind r _
theorem itemT_kind {l:List Int} {k:Nat} {t:Tok} {k':Nat} (h:itemT l k=.ok (t,k')):t.k=1∨t.k=12:=by
 unfold itemT at h
 split at h
 ·cases h
 ·split at h
  ·exact escT_kind h
  ·injection h with h;injection h with h _;subst h;exact .inl rfl
theorem upT_kind {l:List Int} {low:Int} {fr k:Nat} {t:Tok} {k':Nat} (h:upT l low fr k=.ok (t,k')):t.k=9∧t.lo≤t.hi:=by
 unfold upT at h
 split at h
 ·cases h
 ·split at h
  ·cases h
  ·split at h
   ·cases h
   ·rename_i hlt
    injection h with h;injection h with h _;subst h
    exact ⟨rfl,by simp only;omega⟩
theorem inB_kind {l:List Int} {k:Nat} {t:Tok} {k':Nat} (h:inB l k=.ok (t,k')):(t.k=1∨t.k=12∨t.k=9∨t.k=8)∧(t.k=9→t.lo≤t.hi):=by
 unfold inB at h
 split at h
 ·injection h with h;injection h with h _;subst h;exact ⟨by simp,fun e=>by simp at e⟩
 ·split at h
  ·cases h
  ·rename_i t2 k2 hn
   have h1:=itemT_kind hn
   split at h
   ·have:=upT_kind h;exact ⟨by omega,fun _=>this.2⟩
   ·injection h with h;injection h with h _;subst h;exact ⟨by omega,fun e=>by omega⟩
def clsAt (T:List Tok) (i:Nat):Bool:=(T.take i).foldl nextC false
structure Fits (n:Nat) (c:Bool) (k:Nat) (T:List Tok):Prop where
 fit:∀ i (h:i < T.length),Fit n (clsAt T i) (if 0 < i then T[i - 1]? else none) T[i]
 cls:clsAt T T.length=c
 last:∀ t,T.getLast?=some t→t.pos < k
theorem clsAt_append {T:List Tok} {t:Tok} {i:Nat} (h:i≤T.length):clsAt (T++[t]) i=clsAt T i:=by
 unfold clsAt;rw [List.take_append_of_le_length h]
theorem clsAt_next {T:List Tok} {i:Nat} (h:i < T.length):clsAt T (i+1)=nextC (clsAt T i) T[i]:=by
 unfold clsAt;rw [List.take_succ_eq_append_getElem h,List.foldl_append];rfl
theorem Fits.push {n k k':Nat} {c c':Bool} {T:List Tok} {t:Tok} (h:Fits n c k T) (hf:Fit n c T.getLast? t) (hp:t.pos=(k:Int)) (hk:k < k') (hc:nextC c t=c'):Fits n c' k' (T++[t]):=by
 refine ⟨fun i hi=>?_,?_,fun q hq=>?_⟩
 ·by_cases hlt:i < T.length
  ·rw [clsAt_append (by omega),List.getElem_append_left hlt]
   have:=h.fit i hlt
   by_cases h0:0 < i
   ·rw [if_pos h0] at this ⊢
    rw [List.getElem?_append_left (by omega)];exact this
   ·rw [if_neg h0] at this ⊢;exact this
  ·obtain rfl:i=T.length:=by simp at hi;omega
   rw [clsAt_append (Nat.le_refl _),h.cls]
   rw [List.getElem_append_right (Nat.le_refl _)]
   simp only [Nat.sub_self,List.getElem_cons_zero]
   have e:(if 0 < T.length then (T++[t])[T.length - 1]? else none)=T.getLast?:=by
    by_cases h0:0 < T.length
    ·rw [if_pos h0,List.getElem?_append_left (by omega),List.getLast?_eq_getElem?]
    ·have hT:T=[]:=List.eq_nil_of_length_eq_zero (by omega)
     subst hT;rfl
   rw [e];exact hf
 ·rw [List.length_append,List.length_singleton,clsAt_next (by simp),List.getElem_append_right (Nat.le_refl _),clsAt_append (Nat.le_refl _),h.cls]
  simp [hc]
 ·rw [List.getLast?_append] at hq
  simp at hq
  subst hq
  rw [hp];omega
theorem last_rep {T:List Tok} (h:lastR T=true):∃ q,T.getLast?=some q∧q.k=6:=by
 unfold lastR at h
 split at h
 ·rename_i q hq;exact ⟨q,hq,by simpa using h⟩
 ·cases h
theorem read_fits (l:List Int):∀ (n:Nat) (c:Bool) (k:Nat) (T T':List Tok),k≤l.length→l.length - k < n→Fits l.length c k T→readT l n c k T=.ok T'→Fits l.length false (l.length+1) T'
 | 0,_,_,_,_,_,hn,_,_=>by omega
 | n+1,false,k,T,T',hk,hn,hf,h=>by
  by_cases hke:k=l.length
  ·subst hke
   rw [readT_end] at h
   injection h with h
   subst h
   exact ⟨hf.fit,hf.cls,fun t ht=>by have:=hf.last t ht;omega⟩
  ·rw [readT_out hke] at h
   rcases ho:outT l (lastR T) k with e | ⟨t,k'⟩
   ·rw [ho] at h;cases h
   ·rw [ho] at h
    simp only at h
    obtain ⟨h1,h2,h3⟩:=outT_ok ho
    obtain ⟨t',hb,e⟩:=plT_ok ho
    have hk2:=outB_kind hb
    have ek:t.k=t'.k:=by rw [e]
    have el:t.lo=t'.lo:=by rw [e]
    have eh:t.hi=t'.hi:=by rw [e]
    have hkind:=hk2.kind
    refine read_fits l n (t.k == 7) k' (T++[t]) T' h2 (by omega) (hf.push ?_ h3 h1 ?_) h
    ·refine ⟨by rw [h3];omega,by rw [h3];omega,fun q hq=>by rw [h3];exact hf.last q hq,by omega,by omega,fun _=>rfl,fun e1=>by omega,fun e1=>(by exfalso;omega),fun e1=>(by cases e1),fun e1=>last_rep (hk2.lazy (by omega)),fun e1=>by rw [el,eh];exact hk2.again (by omega)⟩
    ·unfold nextC
     by_cases h7:t.k=7
     ·rw [if_pos h7,h7];rfl
     ·rw [if_neg h7,if_neg (by omega)];symm;simpa using h7
 | n+1,true,k,T,T',hk,hn,hf,h=>by
  rw [readT_in] at h
  rcases ho:inT l k with e | ⟨t,k'⟩
  ·rw [ho] at h;cases h
  ·rw [ho] at h
   simp only at h
   obtain ⟨h1,h2,h3⟩:=inT_ok ho
   obtain ⟨t',hb,e⟩:=plT_ok ho
   have hk2:=inB_kind hb
   have ek:t.k=t'.k:=by rw [e]
   have el:t.lo=t'.lo:=by rw [e]
   have eh:t.hi=t'.hi:=by rw [e]
   have hkind:=hk2.1
   refine read_fits l n (t.k != 8) k' (T++[t]) T' h2 (by omega) (hf.push ?_ h3 h1 ?_) h
   ·refine ⟨by rw [h3];omega,by rw [h3];omega,fun q hq=>by rw [h3];exact hf.last q hq,by omega,by omega,fun e1=>(by exfalso;omega),fun _=>rfl,fun e1=>⟨rfl,by rw [el,eh];exact hk2.2 (by omega)⟩,fun _=>by omega,fun e1=>(by exfalso;omega),fun e1=>(by exfalso;omega)⟩
   ·unfold nextC
    rw [if_neg (by omega)]
    by_cases h8:t.k=8
    ·rw [if_pos h8,h8];rfl
    ·rw [if_neg h8];symm;simpa using h8
theorem of_fits {l:List Int} {T:List Tok} (h:ofT l=.ok T):Fits l.length false (l.length+1) T∧l.length≤200:=by
 unfold ofT at h
 split at h
 ·cases h
 ·exact ⟨read_fits l (l.length+1) false 0 [] T (by omega) (by omega) ⟨fun i hi=>by simp at hi,rfl,fun t ht=>by simp at ht⟩ h,by omega⟩
theorem read_length (l:List Int):∀ (n:Nat) (c:Bool) (k:Nat) (T T':List Tok),k≤l.length→readT l n c k T=.ok T'→T'.length+k≤T.length+l.length
 | 0,_,k,T,T',hk,h=>by
  injection h with h;subst h;omega
 | n+1,false,k,T,T',hk,h=>by
  by_cases hke:k=l.length
  ·subst hke;rw [readT_end] at h;injection h with h;subst h;omega
  ·rw [readT_out hke] at h
   rcases ho:outT l (lastR T) k with e' | ⟨t,k'⟩
   ·rw [ho] at h;cases h
   ·rw [ho] at h
    obtain ⟨h1,h2,_⟩:=outT_ok ho
    have:=read_length l n _ k' _ T' h2 h
    simp at this;omega
 | n+1,true,k,T,T',hk,h=>by
  rw [readT_in] at h
  rcases ho:inT l k with e' | ⟨t,k'⟩
  ·rw [ho] at h;cases h
  ·rw [ho] at h
   obtain ⟨h1,h2,_⟩:=inT_ok ho
   have:=read_length l n _ k' _ T' h2 h
   simp at this;omega
theorem of_length {l:List Int} {T:List Tok} (h:ofT l=.ok T):T.length≤l.length:=by
 unfold ofT at h
 split at h
 ·cases h
 ·have:=read_length l (l.length+1) false 0 [] T (by omega) h
  simp at this;exact this
/-! where it is wrong -/
structure Bad (n:Nat) (e:Nat×Int):Prop where
 le:e.1≤n
 atEnd:e.2=4→e.1=n
 kind:e.2=4∨e.2=6∨e.2=7∨e.2=8
theorem nxT_bad {l:List Int} {k:Nat} {e:Nat×Int} (hk:k≤l.length) (h:nxT l k=.error e):Bad l.length e:=by
 obtain ⟨h1,rfl⟩:=nxT_no h
 exact ⟨hk,fun _=>by simp only;omega,.inl rfl⟩
theorem bad_at {n fr:Nat} {x:Int} (h:fr≤n) (hx:x=6∨x=7∨x=8):Bad n (fr,x):=⟨h,fun e=>by simp only at e;omega,by simp only;omega⟩
theorem escT_bad {l:List Int} {fr k:Nat} {e:Nat×Int} (hf:fr≤l.length) (hk:k≤l.length) (h:escT l fr k=.error e):Bad l.length e:=by
 unfold escT at h
 split at h
 ·rename_i hn;injection h with h;subst h;exact nxT_bad hk hn
 ·split at h
  ·injection h with h;subst h;exact bad_at hf (by simp)
  ·cases h
  ·cases h
theorem itemT_bad {l:List Int} {k:Nat} {e:Nat×Int} (hk:k≤l.length) (h:itemT l k=.error e):Bad l.length e:=by
 unfold itemT at h
 split at h
 ·rename_i hn;injection h with h;subst h;exact nxT_bad hk hn
 ·rename_i c k2 hn
  obtain ⟨rfl,hk2,_⟩:=nxT_ok hn
  split at h
  ·exact escT_bad hk (by omega) h
  ·cases h
theorem upT_bad {l:List Int} {low:Int} {fr k:Nat} {e:Nat×Int} (hf:fr≤l.length) (hk:k≤l.length) (h:upT l low fr k=.error e):Bad l.length e:=by
 unfold upT at h
 split at h
 ·rename_i hn;injection h with h;subst h;exact itemT_bad hk hn
 ·split at h
  ·injection h with h;subst h;exact bad_at hk (by simp)
  ·split at h
   ·injection h with h;subst h;exact bad_at hf (by simp)
   ·cases h
theorem shutT_bad {n fr:Nat} {a b c:Int} {k:Nat} {e:Nat×Int} (hf:fr≤n) (h:shutT fr a b c k=.error e):Bad n e:=by
 unfold shutT at h
 split at h
 ·injection h with h;subst h;exact bad_at hf (by simp)
 ·cases h
theorem braT_bad {l:List Int} {fr k:Nat} {e:Nat×Int} (hf:fr≤l.length) (hk:k≤l.length) (h:braT l fr k=.error e):Bad l.length e:=by
 unfold braT at h
 split at h
 ·rename_i hn;injection h with h;subst h;exact nxT_bad (by have:=digT_length l k;omega) hn
 ·rename_i c k2 hn
  obtain ⟨rfl,hk2,_⟩:=nxT_ok hn
  split at h
  ·split at h
   ·rename_i hn2;injection h with h;subst h;exact nxT_bad (by have:=digT_length l (k+(digT l k).length+1);omega) hn2
   ·exact shutT_bad hf h
  ·exact shutT_bad hf h
theorem outB_bad {l:List Int} {r:Bool} {k:Nat} {e:Nat×Int} (hk:k≤l.length) (h:outB l r k=.error e):Bad l.length e:=by
 unfold outB at h
 split at h
 ·rename_i hn;injection h with h;subst h;exact nxT_bad hk hn
 ·rename_i c k2 hn
  obtain ⟨rfl,hk2,_⟩:=nxT_ok hn
  split at h
  ·cases h
  ·split at h
   ·exact braT_bad hk (by omega) h
   ·split at h
    ·cases h
    ·split at h
     ·exact escT_bad hk (by omega) h
     ·cases h
theorem inB_bad {l:List Int} {k:Nat} {e:Nat×Int} (hk:k≤l.length) (h:inB l k=.error e):Bad l.length e:=by
 unfold inB at h
 split at h
 ·cases h
 ·split at h
  ·rename_i hn;injection h with h;subst h;exact itemT_bad hk hn
  ·rename_i t2 k2 hn
   have h1:=itemT_ok hn
   split at h
   ·rename_i hc
    have:=(List.getElem?_eq_some_iff.1 hc.2.1).1
    exact upT_bad hk (by omega) h
   ·cases h
theorem plT_bad {fr:Nat} {r:Wr (Tok×Nat)} {e:Nat×Int} (h:plT fr r=.error e):r=.error e:=by
 unfold plT at h
 split at h
 ·injection h with h;rw [h]
 ·cases h
theorem read_bad (l:List Int):∀ (n:Nat) (c:Bool) (k:Nat) (T:List Tok) (e:Nat×Int),k≤l.length→readT l n c k T=.error e→Bad l.length e
 | 0,_,_,_,_,_,h=>by cases h
 | n+1,false,k,T,e,hk,h=>by
  by_cases hke:k=l.length
  ·subst hke;rw [readT_end] at h;cases h
  ·rw [readT_out hke] at h
   rcases ho:outT l (lastR T) k with e' | ⟨t,k'⟩
   ·rw [ho] at h;injection h with h;subst h;exact outB_bad hk (plT_bad ho)
   ·rw [ho] at h
    exact read_bad l n _ k' _ e (outT_ok ho).2.1 h
 | n+1,true,k,T,e,hk,h=>by
  rw [readT_in] at h
  rcases ho:inT l k with e' | ⟨t,k'⟩
  ·rw [ho] at h;injection h with h;subst h;exact inB_bad hk (plT_bad ho)
  ·rw [ho] at h
   exact read_bad l n _ k' _ e (inT_ok ho).2.1 h
theorem of_bad {l:List Int} {m:Nat} {x:Int} (h:ofT l=.error (m,x)):m≤l.length∧(x=4→m=l.length)∧¬ x=0∧(200 < l.length↔x=10):=by
 unfold ofT at h
 split at h
 ·injection h with h;injection h with h1 h2;subst h1 h2;exact ⟨by omega,fun e=>by omega,by omega,by omega⟩
 ·have:=read_bad l (l.length+1) false 0 [] (m,x) (by omega) h
  have h1:=this.le
  have h2:=this.atEnd
  have h3:=this.kind
  simp only at h1 h2 h3
  exact ⟨h1,h2,by omega,by omega⟩
end
section
def wfT:Bool→Bool→List Tok→Prop
 | c,_,[]=>c=false
 | true,_,t :: T=>(t.k=8∨t.k=1∨t.k=9∨t.k=12)∧wfT (t.k != 8) false T
 | false,r,t :: T=>(t.k=1∨t.k=2∨t.k=3∨t.k=4∨t.k=5∨t.k=6∨t.k=7∨t.k=10∨t.k=11∨t.k=12∨t.k=13)∧(t.k=13→r=true)∧wfT (t.k == 7) (t.k == 6) T
theorem wfT.easy {r r':Bool} {T:List Tok} (h:wfT false r T) (h13:kindIs T [13]=false):wfT false r' T:=by
 rcases T with _ | ⟨t,T⟩
 ·exact rfl
 ·rw [wfT] at h ⊢
  exact ⟨h.1,fun e=>by simp [kindIs,e] at h13,h.2.2⟩
theorem wfT.no {T:List Tok} (h:wfT false false T):kindIs T [13]=false:=by
 rcases T with _ | ⟨t,T⟩
 ·rfl
 ·rw [wfT] at h
  have:¬ t.k=13:=fun e=>by have:=h.2.1 e;cases this
  simp [kindIs,this]
theorem dropIs_no {T:List Tok} {l:List Int} (h:kindIs T l=false):dropIs T l=T:=by
 unfold dropIs;rw [h];rfl
abbrev DR:=Except (Int×Int) (Nd×List Tok)
def dAtom (inner:Option (List Tok→DR)) (f:Int) (e:Nat):List Tok→DR
 | []=>.error (0,0)
 | t :: R=>if t.k=3 then (match inner with
  | none=>.error (t.pos,9)
  | some g=>match g R with
   | .error x=>.error x
   | .ok (_,[])=>.error ((e:Int),4)
   | .ok (n,s :: S)=>if s.k=4 then .ok (n,S) else .error ((e:Int),4))
  else if t.k=10 then .ok (.mk 6 0 0 [] [],R)
  else if t.k=11 then .ok (.mk 7 0 0 [] [],R)
  else if t.k=6 then .error (t.pos,5)
  else match setT f t R with
   | none=>.error (0,0)
   | some (rs,R')=>.ok (.mk 2 0 0 rs [],R')
def dRep (inner:Option (List Tok→DR)) (f:Int) (e:Nat) (T:List Tok):DR:=match dAtom inner f e T with
 | .error x=>.error x
 | .ok (n,[])=>.ok (n,[])
 | .ok (n,t :: R)=>if t.k=6 then (match dropIs R [13] with
  | []=>.ok (.mk 5 t.lo t.hi [] [n],[])
  | s :: S=>if s.k=6 then .error (s.pos,5) else .ok (.mk 5 t.lo t.hi [] [n],s :: S)) else .ok (n,t :: R)
def dJoinL (inner:Option (List Tok→DR)) (f:Int) (e:Nat):Nat→List Tok→Except (Int×Int) (List Nd×List Tok)
 | 0,_=>.error (0,0)
 | k+1,T=>if T=[]∨kindIs T [5,4]=true then .ok ([],T) else match dRep inner f e T with
  | .error x=>.error x
  | .ok (n,R)=>match dJoinL inner f e k R with
   | .error x=>.error x
   | .ok (ns,R')=>.ok (n :: ns,R')
def dJoin (inner:Option (List Tok→DR)) (f:Int) (e k:Nat) (T:List Tok):DR:=match dJoinL inner f e k T with
 | .error x=>.error x
 | .ok (ns,R)=>.ok (togT 3 ns,R)
def dOrL (inner:Option (List Tok→DR)) (f:Int) (e q:Nat):Nat→List Tok→Except (Int×Int) (List Nd×List Tok)
 | 0,_=>.error (0,0)
 | k+1,T=>if kindIs T [5]=true then (match dJoin inner f e q T.tail with
  | .error x=>.error x
  | .ok (n,R)=>match dOrL inner f e q k R with
   | .error x=>.error x
   | .ok (ns,R')=>.ok (n :: ns,R')) else .ok ([],T)
def dOr1 (inner:Option (List Tok→DR)) (f:Int) (e q:Nat) (T:List Tok):DR:=match dJoin inner f e q T with
 | .error x=>.error x
 | .ok (n,R)=>match dOrL inner f e q q R with
  | .error x=>.error x
  | .ok (ns,R')=>.ok (togT 4 (n :: ns),R')
def dOr (f:Int) (e q:Nat):Nat→List Tok→DR
 | 0=>dOr1 none f e q
 | d+1=>dOr1 (some (dOr f e q d)) f e q
def dP (f:Int) (e q:Nat) (T:List Tok):Except (Int×Int) Nd:=match dOr f e q 20 T with
 | .error x=>.error x
 | .ok (n,[])=>.ok n
 | .ok (_,t :: _)=>.error (t.pos,5)
/-! within a class nothing is wrong -/
theorem fault_class {f:Int} {E o:Nat}:∀ {T:List Tok} {rs:List (Int×Int)} {R:List Tok} (a:Int),wfT true false T→classL f T=some (rs,R)→faultT E T o a=faultT E R o 8∧wfT false false R
 | [],_,_,_,_,h=>by cases h
 | t :: T,rs,R,a,hw,h=>by
  rw [classL] at h
  rw [wfT] at hw
  have hk:=hw.1
  have hf:faultT E (t :: T) o a=faultT E T o t.k:=by
   rw [faultT,if_neg (by omega),if_neg (by omega),if_neg (by omega),if_neg (by omega),if_neg (by omega)]
  rw [hf]
  by_cases h8:t.k=8
  ·rw [if_pos h8] at h
   injection h with h
   injection h with h1 h2
   subst h2
   rw [h8]
   have h2:=hw.2
   rw [h8] at h2
   exact ⟨rfl,h2⟩
  ·rw [if_neg h8] at h
   rcases hc:classL f T with _ | ⟨rs',R'⟩
   ·rw [hc] at h;cases h
   ·rw [hc] at h
    injection h with h
    injection h with h1 h2
    subst h2
    have h3:=hw.2
    rw [show (t.k != 8)=true by simpa using h8] at h3
    exact fault_class t.k h3 hc
theorem class_some {f:Int}:∀ {T:List Tok},wfT true false T→∃ rs R,classL f T=some (rs,R)
 | [],h=>by rw [wfT] at h;cases h
 | t :: T,h=>by
  rw [wfT] at h
  by_cases h8:t.k=8
  ·exact ⟨[],T,by rw [classL,if_pos h8]⟩
  ·have h3:=h.2
   rw [show (t.k != 8)=true by simpa using h8] at h3
   obtain ⟨rs,R,hc⟩:=class_some (f:=f) h3
   exact ⟨partR f t++rs,R,by rw [classL,if_neg h8,hc]⟩
def noRep (a:Int):Bool:=([3,5,6,13]:List Int).contains a
def Ready (T:List Tok) (a:Int):Prop:=kindIs T [6]=true→noRep a=true
def SameAt (E o:Nat) (T:List Tok) (a:Int) (x:DR) (y:PR):Prop:=match x with
 | .error e=>faultT E T o a=e∧¬ e.2=0
 | .ok (n,R)=>y=some (n,R)∧wfT false false R∧R.length < T.length∧∃ a',noRep a'=false∧faultT E T o a=faultT E R o a'
def SameRep (E o:Nat) (T:List Tok) (a:Int) (x:DR) (y:PR):Prop:=match x with
 | .error e=>faultT E T o a=e∧¬ e.2=0
 | .ok (n,R)=>y=some (n,R)∧wfT false false R∧R.length < T.length∧∃ a',Ready R a'∧faultT E T o a=faultT E R o a'
def SameL (E o:Nat) (T:List Tok) (a:Int) (l:List Int) (x:Except (Int×Int) (List Nd×List Tok)) (y:Option (List Nd×List Tok)):Prop:=match x with
 | .error e=>faultT E T o a=e∧¬ e.2=0
 | .ok (n,R)=>y=some (n,R)∧wfT false false R∧R.length≤T.length∧(R=[]∨kindIs R l=true)∧∃ a',faultT E T o a=faultT E R o a'
def SameOr (E o:Nat) (T:List Tok) (a:Int) (l:List Int) (x:DR) (y:PR):Prop:=match x with
 | .error e=>faultT E T o a=e∧¬ e.2=0
 | .ok (n,R)=>y=some (n,R)∧wfT false false R∧R.length≤T.length∧(R=[]∨kindIs R l=true)∧∃ a',faultT E T o a=faultT E R o a'
theorem fault_step {E o:Nat} {t:Tok} {R:List Tok} (a:Int) (h3:¬ t.k=3) (h4:¬ t.k=4) (h6:¬ t.k=6):faultT E (t :: R) o a=faultT E R o t.k:=by
 rw [faultT,if_neg (by simp [h4]),if_neg (by simp [h6]),if_neg (by simp [h3]),if_neg h3,if_neg h4]
theorem noRep_of {k:Int} (h:k=1∨k=2∨k=4∨k=7∨k=8∨k=10∨k=11∨k=12):noRep k=false:=by
 rcases h with rfl | rfl | rfl | rfl | rfl | rfl | rfl | rfl <;> rfl
theorem fault_again {E o:Nat} {t:Tok} {R:List Tok} {a:Int} (h6:t.k=6) (ha:noRep a=true):faultT E (t :: R) o a=(t.pos,5):=by
 rw [faultT,if_neg (by omega),if_pos ⟨h6,ha⟩]
theorem fault_rep {E o:Nat} {t:Tok} {R:List Tok} {a:Int} (h6:t.k=6) (ha:noRep a=false):faultT E (t :: R) o a=faultT E R o 6:=by
 have:¬ (t.k=6∧([3,5,6,13]:List Int).contains a=true):=fun h=>by have h2:noRep a=true:=h.2;rw [ha] at h2;cases h2
 rw [faultT,if_neg (by omega),if_neg this,if_neg (by omega),if_neg (by omega),if_neg (by omega),h6]
theorem fault_open {E o:Nat} {t:Tok} {R:List Tok} (a:Int) (h3:t.k=3) (ho:o < 20):faultT E (t :: R) o a=faultT E R (o+1) 3:=by
 rw [faultT,if_neg (by omega),if_neg (by omega),if_neg (by omega),if_pos h3,h3]
theorem fault_shut {E o:Nat} {t:Tok} {R:List Tok} (a:Int) (h4:t.k=4):faultT E (t :: R) (o+1) a=faultT E R o 4:=by
 rw [faultT,if_neg (by omega),if_neg (by omega),if_neg (by omega),if_neg (by omega),if_pos h4,h4]
 rfl
theorem wfT.tail {r:Bool} {t:Tok} {T:List Tok} (h:wfT false r (t :: T)) (h7:¬ t.k=7) (h6:¬ t.k=6):wfT false false T:=by
 rw [wfT] at h
 have h2:=h.2.2
 rwa [show (t.k == 7)=false by simpa using h7,show (t.k == 6)=false by simpa using h6] at h2
section
variable {inner:Option (List Tok→DR)} {pat:List Tok→PR} {E o q:Nat} {f:Int}
def Deeper (inner:Option (List Tok→DR)) (pat:List Tok→PR) (E o q:Nat):Prop :=
 (inner=none→o=20)∧∀ g,inner=some g→o < 20∧∀ T a,wfT false false T→Ready T a→T.length < q→SameOr E (o+1) T a [4] (g T) (pat T)
theorem atom_same (hd:Deeper inner pat E o q) {T:List Tok} {a:Int} (hne:¬ T=[]) (hw:wfT false false T) (hr:Ready T a) (hk:kindIs T [5,4]=false) (hq:T.length≤q):SameAt E o T a (dAtom inner f E T) (oneT pat f T):=by
 rcases T with _ | ⟨t,R⟩
 ·exact absurd rfl hne
 have hw0:=hw
 rw [wfT] at hw
 have hk5:¬ t.k=5∧¬ t.k=4:=by simpa [kindIs] using hk
 unfold dAtom oneT
 simp only
 by_cases h3:t.k=3
 ·rw [if_pos h3,if_pos h3]
  rcases hi:inner with _ | g
  ·have ho:=hd.1 hi
   refine ⟨?_,by simp⟩
   rw [faultT,if_neg (by omega),if_neg (by omega),if_pos ⟨h3,ho⟩]
  ·obtain ⟨ho,hS⟩:=hd.2 g hi
   have hwR:=hw0.tail (by omega) (by omega)
   have hS:=hS R 3 hwR (fun _=>rfl) (by simp at hq;omega)
   simp only
   rcases hg:g R with x | ⟨n,R'⟩
   ·rw [hg] at hS
    exact ⟨(fault_open a h3 ho).trans hS.1,hS.2⟩
   ·rw [hg] at hS
    obtain ⟨h1,h2,h4,h5,a',h6⟩:=hS
    rcases R' with _ | ⟨s,S⟩
    ·refine ⟨?_,by simp⟩
     rw [fault_open a h3 ho,h6,faultT,if_pos (by omega)]
    ·have hs4:s.k=4:=by
      rcases h5 with h5 | h5
      ·cases h5
      ·simpa [kindIs] using h5
     simp only
     rw [if_pos hs4,h1]
     refine ⟨?_,h2.tail (by omega) (by omega),?_,4,rfl,?_⟩
     ·simp [dropIs,kindIs,hs4]
     ·simp at h4 ⊢;omega
     ·rw [fault_open a h3 ho,h6,fault_shut a' hs4]
 rw [if_neg h3,if_neg h3]
 by_cases h10:t.k=10
 ·rw [if_pos h10,if_pos h10]
  exact ⟨rfl,hw0.tail (by omega) (by omega),by simp,t.k,noRep_of (by omega),fault_step a h3 hk5.2 (by omega)⟩
 rw [if_neg h10,if_neg h10]
 by_cases h11:t.k=11
 ·rw [if_pos h11,if_pos h11]
  exact ⟨rfl,hw0.tail (by omega) (by omega),by simp,t.k,noRep_of (by omega),fault_step a h3 hk5.2 (by omega)⟩
 rw [if_neg h11,if_neg h11]
 by_cases h6:t.k=6
 ·rw [if_pos h6]
  exact ⟨fault_again h6 (hr (by simp [kindIs,h6])),by simp⟩
 rw [if_neg h6]
 have h13:¬ t.k=13:=fun e=>by have:=hw.2.1 e;cases this
 unfold setT
 by_cases h2:t.k=2
 ·rw [if_pos h2]
  exact ⟨rfl,hw0.tail (by omega) (by omega),by simp,t.k,noRep_of (by omega),fault_step a h3 hk5.2 h6⟩
 rw [if_neg h2]
 by_cases h7:t.k=7
 ·rw [if_pos h7]
  have hwc:=hw.2.2
  rw [show (t.k == 7)=true by simpa using h7,show (t.k == 6)=false by simpa using h6] at hwc
  obtain ⟨rs,R',hc⟩:=class_some (f:=f) hwc
  rw [hc]
  obtain ⟨hf,hw'⟩:=fault_class (E:=E) (o:=o) t.k hwc hc
  refine ⟨rfl,hw',?_,8,rfl,?_⟩
  ·have:=classL_shr hc
   simp;omega
  ·rw [fault_step a h3 hk5.2 h6,hf]
 ·rw [if_neg h7]
  exact ⟨rfl,hw0.tail h7 h6,by simp,t.k,noRep_of (by omega),fault_step a h3 hk5.2 h6⟩
theorem rep_same (hd:Deeper inner pat E o q) {T:List Tok} {a:Int} (hne:¬ T=[]) (hw:wfT false false T) (hr:Ready T a) (hk:kindIs T [5,4]=false) (hq:T.length≤q):SameRep E o T a (dRep inner f E T) (rpT pat f T):=by
 have hA:=atom_same (f:=f) hd hne hw hr hk hq
 unfold dRep rpT
 rcases ha:dAtom inner f E T with x | ⟨n,R⟩
 ·rw [ha] at hA
  exact hA
 ·rw [ha] at hA
  obtain ⟨h1,h2,h4,a',h5,h6⟩:=hA
  rw [h1]
  rcases R with _ | ⟨t,R⟩
  ·exact ⟨rfl,rfl,h4,a',fun h=>by simp [kindIs] at h,h6⟩
  simp only
  by_cases hk6:t.k=6
  ·rw [if_pos hk6,if_pos hk6]
   have hwR:wfT false true R:=by
    rw [wfT] at h2
    have h3:=h2.2.2
    rwa [show (t.k == 7)=false by simp [hk6],show (t.k == 6)=true by simp [hk6]] at h3
   have hR2:∃ a2,noRep a2=true∧faultT E R o 6=faultT E (dropIs R [13]) o a2∧wfT false false (dropIs R [13])∧(dropIs R [13]).length≤R.length:=by
    rcases h13:kindIs R [13] with _ | _
    ·rw [dropIs_no h13]
     exact ⟨6,rfl,rfl,hwR.easy h13,Nat.le_refl _⟩
    ·rcases R with _ | ⟨s,S⟩
     ·cases h13
     ·have hs:s.k=13:=by simpa [kindIs] using h13
      have hdr:dropIs (s :: S) [13]=S:=by unfold dropIs;rw [h13];rfl
      rw [hdr]
      exact ⟨13,rfl,by rw [fault_step 6 (by omega) (by omega) (by omega),hs],hwR.tail (by omega) (by omega),by simp⟩
   obtain ⟨a2,g1,g2,g3,g4⟩:=hR2
   have hf:faultT E T o a=faultT E (dropIs R [13]) o a2:=by rw [h6,fault_rep hk6 h5,g2]
   unfold lazyT
   rcases hR:dropIs R [13] with _ | ⟨s,S⟩
   ·rw [hR] at hf g3 g4
    refine ⟨rfl,rfl,?_,a2,fun h=>by simp [kindIs] at h,hf⟩
    simp at h4 ⊢;omega
   ·rw [hR] at hf g3 g4
    simp only
    by_cases hs6:s.k=6
    ·rw [if_pos hs6]
     exact ⟨hf.trans (fault_again hs6 g1),by simp⟩
    ·rw [if_neg hs6]
     refine ⟨rfl,g3,?_,a2,fun h=>by simp [kindIs,hs6] at h,hf⟩
     simp at h4 g4 ⊢;omega
  ·rw [if_neg hk6,if_neg hk6]
   refine ⟨?_,h2,h4,a',fun h=>by simp [kindIs,hk6] at h,h6⟩
   unfold lazyT
   rw [dropIs_no h2.no]
theorem joinL_same (hd:Deeper inner pat E o q):∀ (k:Nat) {T:List Tok} {a:Int},wfT false false T→Ready T a→T.length < k→T.length≤q→SameL E o T a [5,4] (dJoinL inner f E k T) (joinL pat f k T)
 | 0,T,_,_,_,hk,_=>by omega
 | k+1,T,a,hw,hr,hk,hq=>by
  rw [dJoinL,joinL]
  by_cases hc:T=[]∨kindIs T [5,4]=true
  ·rw [if_pos hc,if_pos hc]
   exact ⟨rfl,hw,Nat.le_refl _,hc,a,rfl⟩
  ·rw [if_neg hc,if_neg hc]
   have hS:=rep_same (f:=f) hd (fun e=>hc (.inl e)) hw hr (by simpa using fun e=>hc (.inr e)) hq
   rcases hx:dRep inner f E T with x | ⟨n,R⟩
   ·rw [hx] at hS
    exact hS
   ·rw [hx] at hS
    obtain ⟨h1,h2,h4,a',h5,h6⟩:=hS
    rw [h1]
    simp only
    have hJ:=joinL_same hd k h2 h5 (by omega) (by omega)
    rcases hy:dJoinL inner f E k R with x | ⟨ns,R'⟩
    ·rw [hy] at hJ
     exact ⟨h6.trans hJ.1,hJ.2⟩
    ·rw [hy] at hJ
     obtain ⟨j1,j2,j3,j4,a2,j5⟩:=hJ
     rw [j1]
     exact ⟨rfl,j2,by omega,j4,a2,h6.trans j5⟩
theorem join_same (hd:Deeper inner pat E o q) (k:Nat) {T:List Tok} {a:Int} (hw:wfT false false T) (hr:Ready T a) (hk:T.length < k) (hq:T.length≤q):SameOr E o T a [5,4] (dJoin inner f E k T) (joinT pat f k T):=by
 have h:=joinL_same (f:=f) hd k hw hr hk hq
 unfold dJoin joinT
 rcases hx:dJoinL inner f E k T with x | ⟨ns,R⟩
 ·rw [hx] at h
  exact h
 ·rw [hx] at h
  obtain ⟨h1,h2⟩:=h
  rw [h1]
  exact ⟨rfl,h2⟩
theorem orL_same (hd:Deeper inner pat E o q):∀ (k:Nat) {T:List Tok} {a:Int},wfT false false T→(T=[]∨kindIs T [5,4]=true)→T.length < k→T.length < q→SameL E o T a [4] (dOrL inner f E q k T) (orL pat f q k T)
 | 0,T,_,_,_,hk,_=>by omega
 | k+1,T,a,hw,hr,hk,hq=>by
  rw [dOrL,orL]
  by_cases hc:kindIs T [5]=true
  ·rw [if_pos hc,if_pos hc]
   rcases T with _ | ⟨t,T⟩
   ·cases hc
   have h5:t.k=5:=by simpa [kindIs] using hc
   have hf:=fault_step (E:=E) (o:=o) (R:=T) a (show ¬ t.k=3 by omega) (by omega) (by omega)
   rw [h5] at hf
   rw [List.tail_cons]
   have hS:=join_same (f:=f) hd q (a:=5) (hw.tail (by omega) (by omega)) (fun _=>rfl) (by simp at hq;omega) (by simp at hq;omega)
   rcases hx:dJoin inner f E q T with x | ⟨n,R⟩
   ·rw [hx] at hS
    exact ⟨hf.trans hS.1,hS.2⟩
   ·rw [hx] at hS
    obtain ⟨h1,h2,h4,h6,a',h7⟩:=hS
    rw [h1]
    simp only
    have hJ:=orL_same hd k (a:=a') h2 h6 (by simp at hk;omega) (by simp at hq;omega)
    rcases hy:dOrL inner f E q k R with x | ⟨ns,R'⟩
    ·rw [hy] at hJ
     exact ⟨(hf.trans h7).trans hJ.1,hJ.2⟩
    ·rw [hy] at hJ
     obtain ⟨j1,j2,j3,j4,a2,j5⟩:=hJ
     rw [j1]
     exact ⟨rfl,j2,by simp;omega,j4,a2,(hf.trans h7).trans j5⟩
  ·rw [if_neg hc,if_neg hc]
   refine ⟨rfl,hw,Nat.le_refl _,?_,a,rfl⟩
   rcases hr with hr | hr
   ·exact .inl hr
   ·refine .inr ?_
    rcases T with _ | ⟨t,T⟩
    ·cases hr
    ·simp [kindIs] at hr hc ⊢
     omega
theorem or1_same (hd:Deeper inner pat E o q) {T:List Tok} {a:Int} (hw:wfT false false T) (hr:Ready T a) (hq:T.length < q):SameOr E o T a [4] (dOr1 inner f E q T) (match joinT pat f q T with
 | none=>none
 | some (n,R)=>match orL pat f q q R with
  | none=>none
  | some (ns,R')=>some (togT 4 (n :: ns),R')):=by
 have hS:=join_same (f:=f) hd q hw hr hq (by omega)
 unfold dOr1
 rcases hx:dJoin inner f E q T with x | ⟨n,R⟩
 ·rw [hx] at hS
  exact hS
 ·rw [hx] at hS
  obtain ⟨h1,h2,h4,h6,a',h7⟩:=hS
  rw [h1]
  simp only
  have hJ:=orL_same (f:=f) hd q (a:=a') h2 h6 (by omega) (by omega)
  rcases hy:dOrL inner f E q q R with x | ⟨ns,R'⟩
  ·rw [hy] at hJ
   exact ⟨h7.trans hJ.1,hJ.2⟩
  ·rw [hy] at hJ
   obtain ⟨j1,j2,j3,j4,a2,j5⟩:=hJ
   rw [j1]
   exact ⟨rfl,j2,by omega,j4,a2,h7.trans j5⟩
end
theorem dOr_same (f:Int) (E q:Nat):∀ (d o:Nat),o+d=20→∀ {T:List Tok} {a:Int},wfT false false T→Ready T a→T.length < q→SameOr E o T a [4] (dOr f E q d T) (patT f q (d+1) T)
 | 0,o,ho,T,a,hw,hr,hq=>by
  rw [patT]
  exact or1_same (pat:=patT f q 0) ⟨fun _=>by omega,fun g h=>by cases h⟩ hw hr hq
 | d+1,o,ho,T,a,hw,hr,hq=>by
  rw [patT]
  have hd:Deeper (some (dOr f E q d)) (patT f q (d+1)) E o q:=by
   refine ⟨fun h=>(by cases h),fun g h=>?_⟩
   injection h with h
   subst h
   exact ⟨by omega,fun T a h1 h2 h3=>dOr_same f E q d (o+1) (by omega) h1 h2 h3⟩
  exact or1_same hd hw hr hq
theorem dP_same (f:Int) (E q:Nat) {T:List Tok} (hw:wfT false false T) (hq:T.length < q) :
 (∃ n,dP f E q T=.ok n∧faultT E T 0 3=(0,0)∧patT f q 21 T=some (n,[]))∨(dP f E q T=.error (faultT E T 0 3)∧¬ (faultT E T 0 3).2=0):=by
 have h:=dOr_same f E q 20 0 rfl (a:=3) hw (fun _=>rfl) hq
 unfold dP
 rcases hx:dOr f E q 20 T with x | ⟨n,R⟩
 ·rw [hx] at h
  obtain ⟨h1,h2⟩:=h
  refine .inr ⟨?_,by rw [h1];exact h2⟩
  simp only
  rw [h1]
 ·rw [hx] at h
  obtain ⟨h1,h2,h4,h6,a',h7⟩:=h
  rcases R with _ | ⟨t,R⟩
  ·exact .inl ⟨n,rfl,by rw [h7,faultT,if_neg (by omega)],h1⟩
  ·refine .inr ?_
   have ht:t.k=4:=by
    rcases h6 with h6 | h6
    ·cases h6
    ·simpa [kindIs] using h6
   have hf:faultT E (t :: R) 0 a'=(t.pos,5):=by rw [faultT,if_pos ⟨ht,rfl⟩]
   rw [h7,hf]
   exact ⟨rfl,by simp⟩
end
end Go.Proofs.YtoeocodfndbebaaGreatDoor
