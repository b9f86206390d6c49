/- Shared texts, shaken for one claim. -/
import Derived.WalkKit
import Derived.Deep.Draws
import Derived.Deep.AppendLies
import Derived.Deep.QuietTactic
import Derived.BigQuiet
import Derived.Lib.Hide
import Derived.Maps.AppendAt
import Derived.Laws.BytesArg
import Derived.Lib.OthersKept
import Derived.Test.YtoeocodfndbebaaGreatDoorChecked
import Derived.OrdersHeld
import Derived.Deep.RegionHeld
set_option maxRecDepth 20000
set_option maxHeartbeats 16000000
theorem Go.Proofs.YtoeocodfndbebaaGreatDoor.qh {p:Prop} (h:p):Go.RowKit.Hid p:=h
namespace Go.Proofs.YtoeocodfndbebaaGreatDoor
section
open Go.RowKit
def Lies (w:World) (B:Nat) (A:Option Addr) (xs:List Value):Prop :=
 xs≠[]→∃ p:Addr,A=some p∧p.block < B∧∀ i u,xs[i]?=some u→w.cell? (p.add i)=some u
theorem add_block (p:Addr) (n:Nat):(p.add n).block=p.block:=by
 unfold Addr.add;split <;> rfl
theorem add_add (p:Addr) (n m:Nat):(p.add n).add m=p.add (n+m):=by
 by_cases hn:n=0
 ·subst hn;simp [Addr.add]
 ·by_cases hm:m=0
  ·subst hm;simp [Addr.add,hn]
  ·simp [Addr.add,hn,hm,Nat.add_assoc]
section
variable {w w':World} {B B':Nat} {A:Option Addr} {xs:List Value}
theorem Lies.empty:Lies w B A []:=fun h=>absurd rfl h
theorem Lies.cellAt (h:Lies w B A xs) {i:Nat} (hi:i < xs.length):∃ p:Addr,A=some p∧p.block < B∧w.cell? (p.add i)=some xs[i]:=by
 obtain ⟨p,hA,hB,hc⟩:=h (by intro e;subst e;simp at hi)
 exact ⟨p,hA,hB,hc i _ (List.getElem?_eq_getElem hi)⟩
theorem Lies.wider (h:Lies w B A xs) (hB:B≤B'):Lies w B' A xs:=fun hn=>by
 obtain ⟨p,hA,hp,hc⟩:=h hn
 exact ⟨p,hA,Nat.lt_of_lt_of_le hp hB,hc⟩
theorem Lies.same (h:Lies w B A xs) (hw:∀ q:Addr,q.block < B→w'.cell? q=w.cell? q):Lies w' B A xs:=fun hn=>by
 obtain ⟨p,hA,hp,hc⟩:=h hn
 exact ⟨p,hA,hp,fun i u hu=>by rw [hw _ (by rw [add_block];exact hp)];exact hc i u hu⟩
theorem Lies.below (h:Lies w B A xs) (hb:Below B w w'):Lies w' B A xs:=h.same fun _ hq=>hb.cell hq
theorem Lies.alloc (h:Lies w B A xs) (hB:B≤w.heap.size) (o:Obj):Lies (w.alloc o) B A xs :=
 h.same fun _ hq=>World.cell?_alloc_lt w o _ (by omega)
theorem Lies.grown (h:Lies w B A xs) {row:Option Nat} (hg:w.grownBy w' row) (hB:B≤w.heap.size) (hr:∀ g,row=some g→B≤g):Lies w' B A xs :=
 h.same fun q hq=>World.cell?_of_block (hg.block q.block (by omega) (fun e=>by have:=hr _ e.symm;omega))
theorem Lies.part (h:Lies w B A xs) (i j:Nat):Lies w B (A.map (·.add i)) ((xs.drop i).take j):=fun hn=>by
 obtain ⟨p,rfl,hp,hc⟩:=h (by intro e;subst e;simp at hn)
 refine ⟨p.add i,rfl,by rw [add_block];exact hp,fun k u hu=>?_⟩
 rw [add_add]
 refine hc _ u ?_
 rw [List.getElem?_take] at hu
 split at hu
 ·rw [List.getElem?_drop] at hu;exact hu
 ·cases hu
theorem Lies.ofRow {base:Nat} {e:TypeId} {c n:Nat} (h:w.ownsRow base e 1 (.slice A n c) n xs):Lies w w.heap.size A xs:=fun hn=>by
 have hl:0 < n:=by
  have:=h.1
  rcases Nat.eq_zero_or_pos n with h0 | h0
  ·subst h0;exact absurd (List.eq_nil_of_length_eq_zero (by simpa using this)) hn
  ·exact h0
 obtain ⟨g,cap,hv,_,hlt⟩:=h.form hl
 obtain rfl:A=some ⟨g,0,none⟩:=by injection hv
 exact ⟨_,rfl,hlt,h.cells (g:=g) rfl⟩
end
abbrev ints (k:IntKind) (l:List Int):List Value:=l.map (Value.int k)
theorem Lies.int {w:World} {B:Nat} {A:Option Addr} {k:IntKind} {l:List Int} (h:Lies w B A (ints k l)) {i:Nat} (hi:i < l.length) :
 ∃ p:Addr,A=some p∧p.block < B∧w.cell? (p.add i)=some (.int k l[i]):=by
 obtain ⟨p,hA,hB,hc⟩:=h.cellAt (i:=i) (by simpa using hi)
 exact ⟨p,hA,hB,by simpa using hc⟩
structure SliceOf (P:Program) (t e:TypeId) (z:Value) (bytes:Nat):Prop where
 slice:P.underlying t=some (.slice e)
 elem:(P.info? e).map (fun i=>(i.zero,i.size,i.bytes))=some (some z,1,bytes)
 one:z.cells.size=1
def Own (w:World) (B:Nat) (e:TypeId) (v:Value) (xs:List Value):Prop:=w.ownsRow B e 1 v xs.length xs
section
variable {w w':World} {B:Nat} {e:TypeId} {v v':Value} {xs ys:List Value}
theorem Own.empty (w:World) (B:Nat) (e:TypeId):Own w B e (.slice none 0 0) []:=World.ownsRow_nil w B e 1
theorem Own.form (h:Own w B e v xs):∃ A c,v=.slice A xs.length c∧Lies w w.heap.size A xs∧xs.length≤c∧c≤maxLen:=by
 rcases h.2 with ⟨rfl,hn⟩ | ⟨g,cap,cur,rfl,_,_,hc,hm,_⟩
 ·refine ⟨none,0,by rw [hn],?_,by omega,by unfold maxLen;omega⟩
  rw [List.eq_nil_of_length_eq_zero hn];exact Lies.empty
 ·exact ⟨_,cap,rfl,Lies.ofRow h,hc,hm⟩
theorem Own.alloc (h:Own w B e v xs) (o:Obj):Own (w.alloc o) B e v xs:=World.ownsRow.alloc h o
theorem Own.keep (h:Own w B e v xs) {row:Option Nat} (hg:w.grownBy w' row) (hr:v.ownBlock=none∨v.ownBlock≠row):Own w' B e v xs:=World.ownsRow.kept h hg hr
theorem Own.below (h:Own w B e v xs) {C:Nat} (hb:Below C w w') (hC:w.heap.size≤C):Own w' B e v xs:=by
 refine World.ownsRow.kept (row:=none) h ⟨hb.os,hb.tape,hb.output,hb.size,fun k hk _=>hb.block k (by omega)⟩ ?_
 cases v.ownBlock <;> simp
theorem Own.inside (h:Own w B e v xs):∀ g,v.ownBlock=some g→B≤g∧g < w.heap.size:=World.ownsRow.lt h
def Apart (v v':Value):Prop:=v.ownBlock=none∨v.ownBlock≠v'.ownBlock
theorem Apart.symm (h:Apart v v'):Apart v' v:=by
 unfold Apart at *
 cases h1:v.ownBlock <;> cases h2:v'.ownBlock <;> simp_all
 exact fun e=>h e.symm
theorem Apart.grow {v1:Value} (h:Apart v v') (h':Own w B e v' ys) (hl:v1.ownBlock=v.ownBlock∨∃ g,v1.ownBlock=some g∧w.heap.size≤g):Apart v1 v':=by
 rcases hl with hl | ⟨g,hl,hg⟩
 ·unfold Apart at *;rw [hl];exact h
 ·refine .inr fun hh=>?_
  have:=(h'.inside g (by rw [← hh,hl])).2
  omega
end
section
variable {P:Program} {ops:Array Oper} {rest:List Oper} {o:Oper} {a:Act} {Q:Exit→Act→World→Prop}
theorem app_lit {t e:TypeId} {z:Value} {bytes:Nat} (T:SliceOf P t e z bytes) (w0 W:World) (B:Nat) (s x:Operand) (cs:Array Value) (c:Nat) (v:Value) (xs:List Value)
 (hgd:o.guard=none) (ho:o.op=.call { callee:=.builtin .append,args:=#[s,x],argTypes:=#[t,t] })
 (hs:a.eval s=v) (hx:a.eval x=.slice (some ⟨W.heap.size,0,none⟩) cs.size c)
 (hown:Own W B e v xs) (h1:∀ u∈cs.toList,u.oneCell'=true) (hb:Below B w0 W) (hB:B≤W.heap.size)
 (hlen:xs.length+cs.size≤maxLen) (hby:(xs.length+cs.size) * bytes≤140737488355328)
 (h:∀ v' w',Own w' B e v' (xs++cs.toList)→Below B w0 w'→(W.grownBy w' v.ownBlock)→(v'.ownBlock=v.ownBlock∨∃ g,v'.ownBlock=some g∧W.heap.size≤g)→wpList P ops Q rest (a.put o.dst v') w') :
 wpList P ops Q (o :: rest) a (W.alloc (.cells cs e)):=by
 obtain ⟨i,hi,hz0,hz1,hz2⟩:=info_parts T.elem
 have hc:∀ j u,cs.toList[j]?=some u→(W.alloc (.cells cs e)).cell? ((⟨W.heap.size,0,none⟩:Addr).add j)=some u :=
  World.news_of_block (heap_alloc_new W _)
 refine wpList_append_own_at (W.alloc (.cells cs e)) hgd s x t ho B e i z 1 bytes T.slice hi hz0 hz1 hz2 T.one (by omega) v xs.length xs hs (World.ownsRow.alloc hown _) ⟨W.heap.size,0,none⟩ cs.size c cs.toList hx (by simp) hc h1 hlen hby (by simp;omega) ?_
 intro v' w' hown' hg _ hl
 refine h v' w' ?_ ?_ ?_ ?_
 ·unfold Own;rw [List.length_append,Array.length_toList];exact hown'
 ·exact (hb.alloc hB _).grown hg (by simp;omega) (fun k hk=>((Own.inside hown) k hk).1)
 ·exact (World.grownBy_alloc W _ _).trans hg
 ·rcases hl with hl | hl
  ·exact .inl hl
  ·exact .inr ⟨_,hl,by simp⟩
end
theorem Own.weaken {w:World} {B B':Nat} {e:TypeId} {v:Value} {xs:List Value} (h:Own w B e v xs) (hB:B'≤B):Own w B' e v xs:=by
 refine ⟨h.1,?_⟩
 rcases h.2 with h2 | ⟨g,cap,cur,hv,hg,r⟩
 ·exact .inl h2
 ·exact .inr ⟨g,cap,cur,hv,by omega,r⟩
theorem Own.iterAt {w:World} {B k:Nat} {e:TypeId} {v:Value} {xs:List Value} (h:Own w B e v xs) (hk:k < B) (s:ByteArray) (p:Nat):Own (w.iterAt k s p) B e v xs:=by
 refine ⟨h.1,?_⟩
 rcases h.2 with h2 | ⟨g,cap,cur,hv,hg,hh,r⟩
 ·exact .inl h2
 ·exact .inr ⟨g,cap,cur,hv,hg,by rw [Lib.iterAt_other _ _ _ _ _ (by omega)];exact hh,r⟩
theorem iterPos_eq {w:World} {k:Nat} {s:ByteArray} {p:Nat} (h:w.heap[k]?=some (.stringIter s p)):w.iterPos k=p:=by
 simp [World.iterPos,h]
theorem heap_lt {w:World} {k:Nat} {o:Obj} (h:w.heap[k]?=some o):k < w.heap.size:=(Array.getElem?_eq_some_iff.1 h).1
theorem plain_of_cell {w:World} {p:Addr} {u:Value} (h:w.cell? p=some u):p.spot=none:=by
 unfold World.cell? at h
 split at h
 ·split at h
  ·cases h
  ·rename_i hs;simpa using hs
 ·cases h
theorem Lies.plain {w:World} {B:Nat} {A:Option Addr} {xs:List Value} (h:Lies w B A xs) (hn:0 < xs.length) :
 ∃ b off,A=some ⟨b,off,none⟩∧b < B∧∀ i (hi:i < xs.length),w.cell? ⟨b,off+i,none⟩=some xs[i]:=by
 obtain ⟨p,rfl,hb,hc⟩:=h (by intro e;subst e;simp at hn)
 have hs:=plain_of_cell (hc 0 _ (List.getElem?_eq_getElem hn))
 obtain ⟨b,off,spot⟩:=p
 have hp:spot=none:=by
  unfold Addr.add at hs;simpa using hs
 subst hp
 refine ⟨b,off,rfl,hb,fun i hi=>?_⟩
 rw [← hc i _ (List.getElem?_eq_getElem hi)]
 unfold Addr.add
 split
 ·rename_i h0;simp [h0]
 ·rfl
theorem Lies.plainInts {w:World} {B:Nat} {A:Option Addr} {k:IntKind} {l:List Int} (h:Lies w B A (ints k l)) (hn:0 < l.length) :
 ∃ b off,A=some ⟨b,off,none⟩∧b < B∧∀ i (hi:i < l.length),w.cell? ⟨b,off+i,none⟩=some (.int k l[i]):=by
 obtain ⟨b,off,hA,hb,hc⟩:=h.plain (by simpa using hn)
 exact ⟨b,off,hA,hb,fun i hi=>by rw [hc i (by simpa using hi)];simp⟩
end
section
def topR:Int:=1114111
def inR (r:Int×Int) (c:Int):Bool:=decide (r.1≤c) && decide (c≤r.2)
def hasR (R:List (Int×Int)) (c:Int):Bool:=R.any fun r=>inR r c
theorem hasR_cons (r:Int×Int) (R:List (Int×Int)) (c:Int):hasR (r :: R) c=(inR r c || hasR R c):=rfl
theorem hasR_append (R S:List (Int×Int)) (c:Int):hasR (R++S) c=(hasR R c || hasR S c):=by simp [hasR]
theorem hasR_iff {R:List (Int×Int)} {c:Int}:hasR R c=true↔∃ r∈R,r.1≤c∧c≤r.2:=by
 simp [hasR,inR]
def Canon:Int→List (Int×Int)→Prop
 | _,[]=>True
 | a,r :: S=>a≤r.1∧r.1≤r.2∧r.2≤topR∧Canon (r.2+2) S
theorem Canon.weaken:∀ {S:List (Int×Int)} {a b:Int},Canon a S→b≤a→Canon b S
 | [],_,_,_,_=>trivial
 | _ :: _,_,_,h,hb=>⟨by have:=h.1;omega,h.2⟩
theorem Canon.has:∀ {S:List (Int×Int)} {a c:Int},Canon a S→hasR S c=true→a≤c∧c≤topR
 | [],_,_,_,h=>by cases h
 | r :: S,a,c,hS,h=>by
  obtain ⟨h1,h2,h3,h4⟩:=hS
  rw [hasR_cons,Bool.or_eq_true] at h
  rcases h with h | h
  ·simp [inR] at h;omega
  ·have:=Canon.has h4 h;omega
theorem canon_ext:∀ {S T:List (Int×Int)} {a:Int},Canon a S→Canon a T→(∀ c,a≤c→c≤topR→hasR S c=hasR T c)→S=T
 | [],[],_,_,_,_=>rfl
 | [],r :: T,a,_,hT,h=>by
  obtain ⟨h1,h2,h3,h4⟩:=hT
  have:=h r.1 h1 (by omega)
  rw [hasR_cons,show inR r r.1=true by simp [inR] <;> omega] at this
  cases this
 | r :: S,[],a,hS,_,h=>by
  obtain ⟨h1,h2,h3,h4⟩:=hS
  have:=h r.1 h1 (by omega)
  rw [hasR_cons,show inR r r.1=true by simp [inR] <;> omega] at this
  cases this
 | r :: S,q :: T,a,hS,hT,h=>by
  obtain ⟨h1,h2,h3,h4⟩:=hS
  obtain ⟨g1,g2,g3,g4⟩:=hT
  have hlow:r.1=q.1:=by
   rcases Int.lt_trichotomy r.1 q.1 with hlt | he | hlt
   ·have:=h r.1 h1 (by omega)
    rw [hasR_cons,show inR r r.1=true by simp [inR] <;> omega,hasR_cons,show inR q r.1=false by simp [inR] <;> omega] at this
    have h5:hasR T r.1=true:=by simpa using this.symm
    have:=g4.has h5;omega
   ·exact he
   ·have:=h q.1 g1 (by omega)
    rw [hasR_cons,show inR r q.1=false by simp [inR] <;> omega,hasR_cons,show inR q q.1=true by simp [inR] <;> omega] at this
    have h5:hasR S q.1=true:=by simpa using this
    have:=h4.has h5;omega
  have hhigh:r.2=q.2:=by
   rcases Int.lt_trichotomy r.2 q.2 with hlt | he | hlt
   ·have:=h (r.2+1) (by omega) (by omega)
    rw [hasR_cons,show inR r (r.2+1)=false by simp [inR] <;> omega,hasR_cons,show inR q (r.2+1)=true by simp [inR] <;> omega] at this
    have h5:hasR S (r.2+1)=true:=by simpa using this
    have:=h4.has h5;omega
   ·exact he
   ·have:=h (q.2+1) (by omega) (by omega)
    rw [hasR_cons,show inR r (q.2+1)=true by simp [inR] <;> omega,hasR_cons,show inR q (q.2+1)=false by simp [inR] <;> omega] at this
    have h5:hasR T (q.2+1)=true:=by simpa using this.symm
    have:=g4.has h5;omega
  have hrq:r=q:=Prod.ext hlow hhigh
  subst hrq
  rw [canon_ext h4 g4 fun c hc hct=>?_]
  have:=h c (by omega) hct
  rwa [hasR_cons,hasR_cons,show inR r c=false by simp [inR] <;> omega,Bool.false_or,Bool.false_or] at this
def frR (p:Int→Bool):Int→Nat→List (Int×Int)
 | _,0=>[]
 | a,k+1=>if p a=true then (match frR p (a+1) k with
  | []=>[(a,a)]
  | q :: S=>if q.1=a+1 then (a,q.2) :: S else (a,a) :: q :: S) else frR p (a+1) k
theorem frR_succ (p:Int→Bool) (a:Int) (k:Nat):frR p a (k+1)=if p a=true then (match frR p (a+1) k with
 | []=>[(a,a)]
 | q :: S=>if q.1=a+1 then (a,q.2) :: S else (a,a) :: q :: S) else frR p (a+1) k:=rfl
theorem frR_canon (p:Int→Bool):∀ (k:Nat) (a:Int),a+k≤topR+1→Canon a (frR p a k)
 | 0,_,_=>trivial
 | k+1,a,h=>by
  have ih:=frR_canon p k (a+1) (by omega)
  rw [frR_succ]
  split
  ·rcases hf:frR p (a+1) k with _ | ⟨q,S⟩
   ·exact ⟨Int.le_refl _,Int.le_refl _,by omega,trivial⟩
   ·rw [hf] at ih
    obtain ⟨h1,h2,h3,h4⟩:=ih
    simp only
    split
    ·exact ⟨Int.le_refl _,by simp only;omega,h3,h4⟩
    ·exact ⟨Int.le_refl _,Int.le_refl _,by simp only;omega,by simp only;omega,h2,h3,h4⟩
  ·exact ih.weaken (by omega)
theorem frR_has (p:Int→Bool):∀ (k:Nat) (a c:Int),a+k≤topR+1→hasR (frR p a k) c=(decide (a≤c) && decide (c < a+k) && p c)
 | 0,a,c,_=>by
  have:(decide (a≤c) && decide (c < a+((0:Nat):Int)))=false:=by simp <;> omega
  rw [this];rfl
 | k+1,a,c,h=>by
  have ih:=frR_has p k (a+1) c (by omega)
  have hcan:=frR_canon p k (a+1) (by omega)
  by_cases hc:c=a
  ·subst hc
   have h0:hasR (frR p (c+1) k) c=false:=by rw [ih];simp;omega
   have e:(decide (c≤c) && decide (c < c+((k+1:Nat):Int)) && p c)=p c:=by simp;omega
   rw [e]
   rw [frR_succ]
   split
   ·rename_i hp
    rw [hp]
    rcases hf:frR p (c+1) k with _ | ⟨q,S⟩
    ·simp [hasR,inR]
    ·simp only
     split
     ·rename_i hq
      rw [hf] at hcan
      rw [hasR_cons,show inR (c,q.2) c=true by have:=hcan.2.1;simp [inR] <;> omega];rfl
     ·rw [hasR_cons,show inR (c,c) c=true by simp [inR]];rfl
   ·rename_i hp
    rw [h0];simpa using hp
  ·have e:(decide (a≤c) && decide (c < a+((k+1:Nat):Int)))=(decide (a+1≤c) && decide (c < a+1+(k:Int))):=by
    rw [Bool.eq_iff_iff];simp;omega
   rw [e,← ih]
   rw [frR_succ]
   split
   ·rcases hf:frR p (a+1) k with _ | ⟨q,S⟩
    ·simp only
     rw [hasR_cons,show inR (a,a) c=false by simp [inR] <;> omega];rfl
    ·simp only
     split
     ·rename_i hq
      rw [hasR_cons,hasR_cons]
      congr 1
      rw [Bool.eq_iff_iff]
      simp [inR]
      omega
     ·rw [hasR_cons,show inR (a,a) c=false by simp [inR] <;> omega];rfl
   ·rfl
def tailR (p:Int→Bool) (a:Nat):List (Int×Int):=frR p a (1114112 - a)
def setP (p:Int→Bool):List (Int×Int):=tailR p 0
theorem tailR_canon (p:Int→Bool) {a:Nat} (h:a≤1114112):Canon a (tailR p a):=frR_canon p _ _ (by unfold topR;omega)
theorem tailR_has (p:Int→Bool) {a:Nat} (h:a≤1114112) (c:Int):hasR (tailR p a) c=(decide ((a:Int)≤c) && decide (c≤topR) && p c):=by
 unfold tailR
 rw [frR_has p _ _ _ (by unfold topR;omega)]
 congr 2
 rw [Bool.eq_iff_iff]
 unfold topR
 simp
 omega
theorem setP_canon (p:Int→Bool):Canon 0 (setP p):=tailR_canon p (a:=0) (by omega)
theorem setP_has (p:Int→Bool) (c:Int):hasR (setP p) c=(decide (0≤c) && decide (c≤topR) && p c):=tailR_has p (a:=0) (by omega) c
theorem setP_is {p:Int→Bool} {S:List (Int×Int)} (hS:Canon 0 S) (h:∀ c,0≤c→c≤topR→hasR S c=p c):setP p=S :=
 canon_ext (setP_canon p) hS fun c h0 h1=>by rw [setP_has,h c h0 h1];simp [h0,h1]
theorem setP_congr {p q:Int→Bool} (h:∀ c,0≤c→c≤topR→p c=q c):setP p=setP q :=
 setP_is (setP_canon q) fun c h0 h1=>by rw [setP_has,h c h0 h1];simp [h0,h1]
theorem tailR_none {p:Int→Bool} {a:Nat} (h:a≤1114112) (hp:∀ c:Int,(a:Int)≤c→c≤topR→p c=false):tailR p a=[] :=
 canon_ext (tailR_canon p h) trivial fun c h0 h1=>by rw [tailR_has p h,hp c h0 h1];simp [hasR]
theorem tailR_run {p:Int→Bool} {a lo hi:Nat} (h0:a≤lo) (h1:lo≤hi) (h2:hi≤1114111) (hn:∀ c:Int,(a:Int)≤c→c < lo→p c=false) (hy:∀ c:Int,(lo:Int)≤c→c≤hi→p c=true) (he:hi=1114111∨p ((hi:Int)+1)=false) :
 tailR p a=((lo:Int),(hi:Int)) :: tailR p (hi+1):=by
 refine canon_ext (tailR_canon p (by omega)) ⟨by simp only;omega,by simp only;omega,by unfold topR;simp only;omega,?_⟩ fun c h3 h4=>?_
 ·rcases he with he | he
  ·subst he;trivial
  ·by_cases ht:hi=1114111
   ·subst ht;trivial
   ·have e:tailR p (hi+1)=frR p ((hi:Int)+2) (1114111 - (hi+1)):=by
     unfold tailR
     rw [show 1114112 - (hi+1)=(1114111 - (hi+1))+1 by omega,frR,if_neg (by rw [show ((hi+1:Nat):Int)=(hi:Int)+1 by omega,he];simp)]
     congr 1 <;> omega
    rw [e]
    exact frR_canon p _ _ (by unfold topR;omega)
 ·rw [tailR_has p (by omega),hasR_cons,tailR_has p (by omega)]
  rw [show decide ((a:Int)≤c)=true by simpa using h3,show decide (c≤topR)=true by simpa using h4]
  by_cases c1:c < lo
  ·rw [hn c h3 c1,show inR ((lo:Int),(hi:Int)) c=false by simp [inR] <;> omega];simp
  ·by_cases c2:c≤hi
   ·rw [hy c (by omega) c2,show inR ((lo:Int),(hi:Int)) c=true by simp [inR] <;> omega];simp
   ·rw [show inR ((lo:Int),(hi:Int)) c=false by simp [inR] <;> omega,show decide (((hi+1:Nat):Int)≤c)=true by simp;omega];simp
theorem sub_length:∀ (X Y:List Int),X.Nodup→(∀ x∈X,x∈Y)→X.length≤Y.length
 | [],_,_,_=>by simp
 | x :: X,Y,hn,h=>by
  rw [List.nodup_cons] at hn
  have hx:=h x (by simp)
  have:=sub_length X (Y.erase x) hn.2 fun y hy=>(List.mem_erase_of_ne (fun e:y=x=>hn.1 (by rw [← e];exact hy))).2 (h y (by simp [hy]))
  rw [List.length_erase_of_mem hx] at this
  have:=List.length_pos_of_mem hx
  simp;omega
theorem Canon.lows:∀ {S:List (Int×Int)} {a:Int},Canon a S→(S.map (·.1)).Nodup∧∀ x∈S.map (·.1),a≤x∧hasR S x=true∧(∀ y,y=x - 1→hasR S y=false)
 | [],_,_=>⟨by simp,fun x hx=>by simp at hx⟩
 | r :: S,a,h=>by
  obtain ⟨h1,h2,h3,h4⟩:=h
  obtain ⟨k1,k2⟩:=Canon.lows h4
  refine ⟨?_,fun x hx=>?_⟩
  ·rw [List.map_cons,List.nodup_cons]
   exact ⟨fun hm=>by have:=(k2 _ hm).1;omega,k1⟩
  ·rw [List.map_cons,List.mem_cons] at hx
   rcases hx with rfl | hx
   ·refine ⟨h1,by rw [hasR_cons,show inR r r.1=true by simp [inR] <;> omega];rfl,fun y hy=>?_⟩
    rw [hasR_cons,show inR r y=false by simp [inR] <;> omega,Bool.false_or]
    rcases hh:hasR S y with _ | _
    ·rfl
    ·have:=h4.has hh;omega
   ·obtain ⟨g1,g2,g3⟩:=k2 x hx
    refine ⟨by omega,by rw [hasR_cons,g2];simp,fun y hy=>?_⟩
    rw [hasR_cons,show inR r y=false by simp [inR] <;> omega,Bool.false_or]
    exact g3 y hy
theorem setR_length (R:List (Int×Int)):(setP (hasR R)).length≤R.length:=by
 have hl:=(setP_canon (hasR R)).lows
 have:=sub_length ((setP (hasR R)).map (·.1)) (R.map fun r=>max r.1 0) hl.1 fun x hx=>by
  obtain ⟨h0,h1,h2⟩:=hl.2 x hx
  rw [setP_has] at h1
  simp at h1
  obtain ⟨⟨_,h3⟩,h4⟩:=h1
  obtain ⟨r,hr,h5,h6⟩:=hasR_iff.1 h4
  refine List.mem_map.2 ⟨r,hr,?_⟩
  have h7:=h2 (x - 1) rfl
  rw [setP_has] at h7
  by_cases hz:x=0
  ·omega
  ·by_cases hle:r.1≤x - 1
   ·exfalso
    have:hasR R (x - 1)=true:=hasR_iff.2 ⟨r,hr,hle,by omega⟩
    rw [this] at h7
    simp at h7
    omega
   ·omega
 simpa using this
def setR (R:List (Int×Int)):List (Int×Int):=if 500 < R.length then [] else setP (hasR R)
def turnR (R:List (Int×Int)):List (Int×Int):=setP fun c=>!hasR (setR R) c
theorem setR_small {R:List (Int×Int)} (h:R.length≤500):setR R=setP (hasR R):=by unfold setR;rw [if_neg (by omega)]
theorem setR_canon (R:List (Int×Int)):Canon 0 (setR R):=by
 unfold setR;split
 ·trivial
 ·exact setP_canon _
theorem setR_le (R:List (Int×Int)):(setR R).length≤500∧(setR R).length≤R.length:=by
 unfold setR;split
 ·simp
 ·have:=setR_length R;omega
theorem setR_has {R:List (Int×Int)} (h:R.length≤500) (c:Int):hasR (setR R) c=(decide (0≤c) && decide (c≤topR) && hasR R c):=by rw [setR_small h,setP_has]
end
section
def insB (c:Int):Bool:=decide (0≤c) && decide (c≤topR)
theorem turnR_has {R:List (Int×Int)} (hl:R.length≤500) (c:Int):hasR (turnR R) c=(insB c && !hasR R c):=by
 unfold turnR
 rw [setP_has,setR_has hl]
 show (insB c && !(insB c && hasR R c))=_
 cases insB c <;> simp
theorem turnR_canon (R:List (Int×Int)):Canon 0 (turnR R):=setP_canon _
theorem turnR_len {R:List (Int×Int)} (hl:R.length≤500):(turnR R).length≤R.length+1:=by
 obtain ⟨h1,h2⟩:=(turnR_canon R).lows
 have h3:=sub_length _ (0 :: R.map fun r=>r.2+1) h1 fun x hx=>by
  obtain ⟨g0,g1,g2⟩:=h2 x hx
  have g2:=g2 (x - 1) rfl
  rw [turnR_has hl] at g1 g2
  simp [insB] at g1 g2
  rw [List.mem_cons]
  by_cases h0:x=0
  ·exact .inl h0
  ·refine .inr ?_
   have hy:=g2 (by omega) (by omega)
   obtain ⟨r,hr,k1,k2⟩:=hasR_iff.1 hy
   refine List.mem_map.2 ⟨r,hr,?_⟩
   false_or_by_contra
   rename_i hne
   have:hasR R x=true:=hasR_iff.2 ⟨r,hr,by omega,by omega⟩
   rw [this] at g1
   simp at g1
 simpa using h3
end
section
open Go.RowKit
theorem Own.ofLit {w:World} {B:Nat} {e:TypeId} (cs:Array Value) (hB:B≤w.heap.size) (hm:cs.size≤maxLen) :
 Own (w.alloc (.cells cs e)) B e (.slice (some ⟨w.heap.size,0,none⟩) cs.size cs.size) cs.toList:=by
 have:=World.ownsRow_lit (base:=B) (e:=e) (size:=1) w cs cs.size hB hm (by simp)
 unfold Own
 rw [Array.length_toList]
 exact this
section
variable {P:Program}
theorem run_app_src {t e:TypeId} {z:Value} {bytes:Nat} (T:SliceOf P t e z bytes) (ty:TypeId) (W:World) (B B':Nat) (v:Value) (xs ys:List Value) (A:Option Addr) (c:Nat)
 (hown:Own W B e v xs) (hsrc:Lies W B' A ys) (h1:∀ u∈ys,u.oneCell'=true) (hB:B≤W.heap.size)
 (hlen:xs.length+ys.length≤maxLen) (hby:(xs.length+ys.length) * bytes≤140737488355328) :
 ∃ v' w',(Builtin.append_ #[t,t] ty #[v,.slice A ys.length c]).run P W=.ok v' w'∧Own w' B e v' (xs++ys)∧W.grownBy w' v.ownBlock∧(v'.ownBlock=v.ownBlock∨v'.ownBlock=some W.heap.size):=by
 obtain ⟨i,hi,hz0,hz1,hz2⟩:=info_parts T.elem
 rcases A with _ | p
 ·have hy:ys=[]:=by
   rcases ys with _ | ⟨y,ys⟩
   ·rfl
   ·obtain ⟨q,hq,_⟩:=hsrc (by simp)
    cases hq
  subst hy
  refine ⟨v,W,?_,by simpa using hown,World.grownBy.refl W _,.inl rfl⟩
  rcases hown.2 with ⟨rfl,_⟩ | ⟨g,cap,cur,rfl,_,_,hnc,_⟩
  ·simp [Builtin.append_,run_underlying T.slice,sizeOf,typeInfo,hi,Builtin.lenOf,Builtin.firstCells]
  ·simp [Builtin.append_,run_underlying T.slice,sizeOf,typeInfo,hi,Builtin.lenOf,Builtin.firstCells,hnc,storeCells]
 ·have hcells:∀ j u,ys[j]?=some u→W.cell? (p.add j)=some u:=by
   intro j u hu
   obtain ⟨q,hq,_,hc⟩:=hsrc (by intro e;subst e;simp at hu)
   injection hq with hq
   subst hq
   exact hc j u hu
  obtain ⟨v',w',hr,h2,h3,_,h5⟩:=run_append_own_at (P:=P) W B t ty e i z 1 bytes T.slice hi hz0 hz1 hz2 T.one (by omega) v xs.length xs hown p ys.length c ys (by simp) hcells h1 hlen hby hB
  exact ⟨v',w',hr,by unfold Own;rw [List.length_append];exact h2,h3,h5⟩
variable {ops:Array Oper} {rest:List Oper} {o:Oper} {a:Act} {Q:Exit→Act→World→Prop}
theorem app_src {t e:TypeId} {z:Value} {bytes:Nat} (T:SliceOf P t e z bytes) (w0 W:World) (B B':Nat) (s x:Operand) (v:Value) (xs ys:List Value) (A:Option Addr) (n c:Nat)
 (hw:Region.wanted o (yielded ops a.tmps)=true) (ho:o.op=.call { callee:=.builtin .append,args:=#[s,x],argTypes:=#[t,t] })
 (hs:a.eval s=v) (hx:a.eval x=.slice A n c) (hn:n=ys.length)
 (hown:Own W B e v xs) (hsrc:Lies W B' A ys) (h1:∀ u∈ys,u.oneCell'=true) (hb:Below B w0 W) (hB:B≤W.heap.size)
 (hlen:xs.length+ys.length≤maxLen) (hby:(xs.length+ys.length) * bytes≤140737488355328)
 (h:∀ v' w',Own w' B e v' (xs++ys)→Below B w0 w'→W.grownBy w' v.ownBlock→(v'.ownBlock=v.ownBlock∨∃ g,v'.ownBlock=some g∧W.heap.size≤g)→wpList P ops Q rest (a.put o.dst v') w') :
 wpList P ops Q (o :: rest) a W:=by
 subst hn
 refine wpList_step fun K hK=>?_
 rw [if_pos hw]
 obtain ⟨v',w',hr,h2,h3,h4⟩:=run_app_src T o.type W B B' v xs ys A c hown hsrc h1 hB hlen hby
 unfold Oper.wp execOp
 simp only [ho,resolve,invoke,builtin,Sem.run_bind,Sem.run_pure,Result.andThen_ok,List.map_toArray,List.map_cons,List.map_nil,hs,hx,hr]
 refine hK _ _ (h v' w' h2 (hb.grown h3 hB (fun k hk=>(Own.inside hown k hk).1)) h3 ?_)
 rcases h4 with h4 | h4
 ·exact .inl h4
 ·exact .inr ⟨_,h4,Nat.le_refl _⟩
end
theorem ints_one (k:IntKind) (l:List Int):∀ u∈ints k l,u.oneCell'=true:=by
 intro u hu
 obtain ⟨n,_,rfl⟩:=List.mem_map.1 hu
 rfl
end
section
open Go.RowKit
section
variable {α:Type _}
theorem ZA {xs:List α} {i:Nat} (h:i < xs.toArray.size):xs.toArray[i]=xs[i]'(by simpa using h):=List.getElem_toArray h
theorem ZB (a:α) (l:List α) (h:0 < (a :: l).length):(a :: l)[0]=a:=rfl
theorem ZC (a:α) (l:List α) (i:Nat) (h:i+1 < (a :: l).length):(a :: l)[i+1]=l[i]'(Nat.lt_of_succ_lt_succ h):=rfl
theorem ZD (l:List α) (i:Nat) (a:α):l.toArray.setIfInBounds i a=(l.set i a).toArray:=List.setIfInBounds_toArray l i a
theorem ZE {x a:α} {xs:List α}:(x :: xs).set 0 a=a :: xs:=rfl
theorem ZF {x a:α} {xs:List α} {i:Nat}:(x :: xs).set (i+1) a=x :: xs.set i a:=rfl
end
section
variable {P:Program} {ops:Array Oper} {Q:Exit→Act→World→Prop} {md:Region.Mode} {S:World→Prop}
theorem hY (i:Nat) {oi:Oper} {v:Value} {fuel:Nat} {listed:Array Bool} {a:Act} {w:World}
 (h:wpAnyH P md ops Q S fuel (listed.setIfInBounds i true) (a.put oi.dst v) w) (hS:S w:=by assumption)
 (hi:ops[i]?=some oi:=by rfl) (hQ:∀ c a w,Q (.panic c) (a.put oi.dst v) w→Q (.panic c) a w:=by exact fun _ _ _ h=>h)
 (hw:Region.wanted oi (yielded ops a.tmps)=true:=by rfl) (hy:∀ u,S u→(execOp a.eval oi).run P u=.ok (.value v) u:=by (intro u hu;(try dsimp only at hu);go_simp;try with_reducible rfl))
 (hs:Region.noSelect ops=true:=by kernel_rfl) (hf:Region.free md ops listed i=true:=by kernel_rfl) (hr:(Region.ready md ops listed).contains i=true:=by kernel_rfl):wpAnyH P md ops Q S (fuel+1) listed a w:=wpAnyH_take hi hs hf hr hQ (.inl ⟨hw,hy⟩) hS h
theorem hN (i:Nat) {oi:Oper} {fuel:Nat} {listed:Array Bool} {a:Act} {w:World}
 (h:wpAnyH P md ops Q S fuel (listed.setIfInBounds i true) (a.put oi.dst undef) w) (hS:S w:=by assumption)
 (hi:ops[i]?=some oi:=by rfl) (hQ:∀ c a w,Q (.panic c) (a.put oi.dst undef) w→Q (.panic c) a w:=by exact fun _ _ _ h=>h)
 (hw:Region.wanted oi (yielded ops a.tmps)=false:=by rfl)
 (hs:Region.noSelect ops=true:=by kernel_rfl) (hf:Region.free md ops listed i=true:=by kernel_rfl) (hr:(Region.ready md ops listed).contains i=true:=by kernel_rfl):wpAnyH P md ops Q S (fuel+1) listed a w:=wpAnyH_take hi hs hf hr hQ (.inr ⟨hw,rfl⟩) hS h
theorem hA (i:Nat) {fuel:Nat} {listed:Array Bool} {a:Act} {w:World} {o:Oper}
 (h:∀ K':Act→World→Prop,Shut (∀ a w,S w→(S w→wpAnyH P md ops Q S fuel (listed.setIfInBounds i true) a w)→K' a w)→if Region.wanted o (yielded ops a.tmps)=true then Oper.wp P o a w K' Q else K' (a.put o.dst undef) w)
 (ho:ops[i]?=some o:=by rfl) (hr:Region.ready md ops listed=[i]:=by kernel_rfl):wpAnyH P md ops Q S (fuel+1) listed a w :=
 wpAnyH_ready hr (List.cons_ne_nil _ _) (AllReadyH.cons ho h AllReadyH.nil)
end
theorem ret_int {k:IntKind} {a b:Int} (h:a=b):Ending.returned (.int k a)=.returned (.int k b):=by rw [h]
theorem ret_bool {a b:Bool} (h:a=b):Ending.returned (.bool a)=.returned (.bool b):=by rw [h]
def Rowed (w:World) (B:Nat) (e:TypeId) (xs:List Value) (ed:Ending) (w':World):Prop :=
 ∃ v,ed=.returned v∧Own w' B e v xs∧Below B w w'
theorem rowed_ret {w0 w:World} {B:Nat} {e:TypeId} {xs ys:List Value} {v:Value} (h:Own w B e v ys) (hb:Below B w0 w) (he:ys=xs):Rowed w0 B e xs (.returned v) w :=
 ⟨v,rfl,he▸h,hb⟩
def Rowed2 (w:World) (B:Nat) (e:TypeId) (xs:List Value) (n:Int) (ed:Ending) (w':World):Prop :=
 ∃ v,ed=.returned (.tuple #[v,.int .i64 n])∧Own w' B e v xs∧Below B w w'
theorem take_snoc (l:List Int) (k:Nat) (h:k < l.length):l.take (k+1)=l.take k++[l[k]]:=by
 rw [List.take_succ_eq_append_getElem h]
def lenOf:Value→Nat | .slice _ n _=>n | _=>0
theorem below_drawn {B:Nat} {a w:World} (h:Below B a w) (n:Nat):Below B a (w.drewN n):=⟨h.os,h.tape,h.output,h.size,h.block⟩
theorem Lies.lit {w:World} {e:TypeId} (cs:Array Value):Lies (w.alloc (.cells cs e)) (w.heap.size+1) (some ⟨w.heap.size,0,none⟩) cs.toList:=fun _ =>
 ⟨_,rfl,by simp,World.news_of_block (heap_alloc_new w _)⟩
theorem Lies.up {w w':World} {A:Option Addr} {xs:List Value} (h:Lies w w.heap.size A xs) (hb:Below w.heap.size w w'):Lies w' w'.heap.size A xs:=(h.below hb).wider hb.size
theorem below_alloc (w:World) (o:Obj):Below w.heap.size w (w.alloc o):=(Below.refl _ _).alloc (Nat.le_refl _) o
theorem below_then {a b c:World} (h:Below a.heap.size a b) (k:Below b.heap.size b c):Below a.heap.size a c:=h.trans (k.mono h.size)
theorem Lies.litUp {w:World} {e:TypeId} (cs:Array Value):Lies (w.alloc (.cells cs e)) (w.alloc (.cells cs e)).heap.size (some ⟨w.heap.size,0,none⟩) cs.toList:=by
 have:=Lies.lit (w:=w) (e:=e) cs;simpa using this
theorem add_plain (b off i:Nat):(⟨b,off,none⟩:Addr).add i=⟨b,off+i,none⟩:=by
 unfold Addr.add;split
 ·simp
 ·rfl
end
section
open Go.RowKit
theorem Own.same {w w':World} {B:Nat} {e:TypeId} {v:Value} {xs:List Value} (h:Own w B e v xs) (hh:w'.heap=w.heap):Own w' B e v xs:=by
 refine ⟨h.1,?_⟩
 rcases h.2 with h2 | ⟨g,cap,cur,hv,hg,h3,r⟩
 ·exact .inl h2
 ·exact .inr ⟨g,cap,cur,hv,hg,by rw [hh];exact h3,r⟩
theorem Lies.sameHeap {w w':World} {B:Nat} {A:Option Addr} {xs:List Value} (h:Lies w B A xs) (hh:w'.heap=w.heap):Lies w' B A xs :=
 h.same fun q _=>World.cell?_of_block (by rw [hh])
theorem below_same {B:Nat} {a w w':World} (h:Below B a w) (hh:w'.heap=w.heap) (h1:w'.os=w.os) (h2:w'.tape=w.tape) (h3:w'.output=w.output):Below B a w' :=
 ⟨h1.trans h.os,h2.trans h.tape,h3.trans h.output,by rw [hh];exact h.size,fun k hk=>by rw [hh];exact h.block k hk⟩
theorem below_then_drew {B:Nat} {a w:World} (h:Below B a.drew w):Below B a w:=⟨h.os,h.tape,h.output,h.size,h.block⟩
end
end Go.Proofs.YtoeocodfndbebaaGreatDoor
