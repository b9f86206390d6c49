/- Shared texts, shaken for one claim. -/
import Derived.WalkKit
import Derived.Deep.Draws
import Derived.Deep.AppendLies
import Derived.Deep.QuietTactic
import Derived.BigQuiet
import Derived.Lib.Hide
import Derived.Maps.AppendAt
import Derived.Laws.BytesArg
import Derived.Lib.OthersKept
import Derived.Test.YtoeocodfndbebaaGreatDoorChecked
import Derived.OrdersHeld
import Derived.Deep.RegionHeld
import Derived.Laws.Slices
import Derived.Laws.OwnMore
set_option maxRecDepth 20000
set_option maxHeartbeats 16000000
theorem Go.Proofs.YtoeocodfndbebaaGreatDoor.qh {p:Prop} (h:p):Go.RowKit.Hid p:=h
namespace Go.Proofs.YtoeocodfndbebaaGreatDoor
section
open Go.RowKit
def Lies (w:World) (B:Nat) (A:Option Addr) (xs:List Value):Prop :=
 xs≠[]→∃ p:Addr,A=some p∧p.block < B∧∀ i u,xs[i]?=some u→w.cell? (p.add i)=some u
theorem add_block (p:Addr) (n:Nat):(p.add n).block=p.block:=by
 unfold Addr.add;split <;> rfl
theorem add_add (p:Addr) (n m:Nat):(p.add n).add m=p.add (n+m):=by
 by_cases hn:n=0
 ·subst hn;simp [Addr.add]
 ·by_cases hm:m=0
  ·subst hm;simp [Addr.add,hn]
  ·simp [Addr.add,hn,hm,Nat.add_assoc]
section
variable {w w':World} {B B':Nat} {A:Option Addr} {xs:List Value}
theorem Lies.empty:Lies w B A []:=fun h=>absurd rfl h
theorem Lies.cellAt (h:Lies w B A xs) {i:Nat} (hi:i < xs.length):∃ p:Addr,A=some p∧p.block < B∧w.cell? (p.add i)=some xs[i]:=by
 obtain ⟨p,hA,hB,hc⟩:=h (by intro e;subst e;simp at hi)
 exact ⟨p,hA,hB,hc i _ (List.getElem?_eq_getElem hi)⟩
theorem Lies.wider (h:Lies w B A xs) (hB:B≤B'):Lies w B' A xs:=fun hn=>by
 obtain ⟨p,hA,hp,hc⟩:=h hn
 exact ⟨p,hA,Nat.lt_of_lt_of_le hp hB,hc⟩
theorem Lies.same (h:Lies w B A xs) (hw:∀ q:Addr,q.block < B→w'.cell? q=w.cell? q):Lies w' B A xs:=fun hn=>by
 obtain ⟨p,hA,hp,hc⟩:=h hn
 exact ⟨p,hA,hp,fun i u hu=>by rw [hw _ (by rw [add_block];exact hp)];exact hc i u hu⟩
theorem Lies.below (h:Lies w B A xs) (hb:Below B w w'):Lies w' B A xs:=h.same fun _ hq=>hb.cell hq
theorem Lies.alloc (h:Lies w B A xs) (hB:B≤w.heap.size) (o:Obj):Lies (w.alloc o) B A xs :=
 h.same fun _ hq=>World.cell?_alloc_lt w o _ (by omega)
theorem Lies.grown (h:Lies w B A xs) {row:Option Nat} (hg:w.grownBy w' row) (hB:B≤w.heap.size) (hr:∀ g,row=some g→B≤g):Lies w' B A xs :=
 h.same fun q hq=>World.cell?_of_block (hg.block q.block (by omega) (fun e=>by have:=hr _ e.symm;omega))
theorem Lies.part (h:Lies w B A xs) (i j:Nat):Lies w B (A.map (·.add i)) ((xs.drop i).take j):=fun hn=>by
 obtain ⟨p,rfl,hp,hc⟩:=h (by intro e;subst e;simp at hn)
 refine ⟨p.add i,rfl,by rw [add_block];exact hp,fun k u hu=>?_⟩
 rw [add_add]
 refine hc _ u ?_
 rw [List.getElem?_take] at hu
 split at hu
 ·rw [List.getElem?_drop] at hu;exact hu
 ·cases hu
theorem Lies.ofRow {base:Nat} {e:TypeId} {c n:Nat} (h:w.ownsRow base e 1 (.slice A n c) n xs):Lies w w.heap.size A xs:=fun hn=>by
 have hl:0 < n:=by
  have:=h.1
  rcases Nat.eq_zero_or_pos n with h0 | h0
  ·subst h0;exact absurd (List.eq_nil_of_length_eq_zero (by simpa using this)) hn
  ·exact h0
 obtain ⟨g,cap,hv,_,hlt⟩:=h.form hl
 obtain rfl:A=some ⟨g,0,none⟩:=by injection hv
 exact ⟨_,rfl,hlt,h.cells (g:=g) rfl⟩
end
abbrev ints (k:IntKind) (l:List Int):List Value:=l.map (Value.int k)
theorem Lies.int {w:World} {B:Nat} {A:Option Addr} {k:IntKind} {l:List Int} (h:Lies w B A (ints k l)) {i:Nat} (hi:i < l.length) :
 ∃ p:Addr,A=some p∧p.block < B∧w.cell? (p.add i)=some (.int k l[i]):=by
 obtain ⟨p,hA,hB,hc⟩:=h.cellAt (i:=i) (by simpa using hi)
 exact ⟨p,hA,hB,by simpa using hc⟩
structure SliceOf (P:Program) (t e:TypeId) (z:Value) (bytes:Nat):Prop where
 slice:P.underlying t=some (.slice e)
 elem:(P.info? e).map (fun i=>(i.zero,i.size,i.bytes))=some (some z,1,bytes)
 one:z.cells.size=1
def Own (w:World) (B:Nat) (e:TypeId) (v:Value) (xs:List Value):Prop:=w.ownsRow B e 1 v xs.length xs
section
variable {w w':World} {B:Nat} {e:TypeId} {v v':Value} {xs ys:List Value}
theorem Own.empty (w:World) (B:Nat) (e:TypeId):Own w B e (.slice none 0 0) []:=World.ownsRow_nil w B e 1
theorem Own.form (h:Own w B e v xs):∃ A c,v=.slice A xs.length c∧Lies w w.heap.size A xs∧xs.length≤c∧c≤maxLen:=by
 rcases h.2 with ⟨rfl,hn⟩ | ⟨g,cap,cur,rfl,_,_,hc,hm,_⟩
 ·refine ⟨none,0,by rw [hn],?_,by omega,by unfold maxLen;omega⟩
  rw [List.eq_nil_of_length_eq_zero hn];exact Lies.empty
 ·exact ⟨_,cap,rfl,Lies.ofRow h,hc,hm⟩
theorem Own.alloc (h:Own w B e v xs) (o:Obj):Own (w.alloc o) B e v xs:=World.ownsRow.alloc h o
theorem Own.keep (h:Own w B e v xs) {row:Option Nat} (hg:w.grownBy w' row) (hr:v.ownBlock=none∨v.ownBlock≠row):Own w' B e v xs:=World.ownsRow.kept h hg hr
theorem Own.below (h:Own w B e v xs) {C:Nat} (hb:Below C w w') (hC:w.heap.size≤C):Own w' B e v xs:=by
 refine World.ownsRow.kept (row:=none) h ⟨hb.os,hb.tape,hb.output,hb.size,fun k hk _=>hb.block k (by omega)⟩ ?_
 cases v.ownBlock <;> simp
theorem Own.inside (h:Own w B e v xs):∀ g,v.ownBlock=some g→B≤g∧g < w.heap.size:=World.ownsRow.lt h
def Apart (v v':Value):Prop:=v.ownBlock=none∨v.ownBlock≠v'.ownBlock
theorem Apart.symm (h:Apart v v'):Apart v' v:=by
 unfold Apart at *
 cases h1:v.ownBlock <;> cases h2:v'.ownBlock <;> simp_all
 exact fun e=>h e.symm
theorem Apart.grow {v1:Value} (h:Apart v v') (h':Own w B e v' ys) (hl:v1.ownBlock=v.ownBlock∨∃ g,v1.ownBlock=some g∧w.heap.size≤g):Apart v1 v':=by
 rcases hl with hl | ⟨g,hl,hg⟩
 ·unfold Apart at *;rw [hl];exact h
 ·refine .inr fun hh=>?_
  have:=(h'.inside g (by rw [← hh,hl])).2
  omega
end
section
variable {P:Program} {ops:Array Oper} {rest:List Oper} {o:Oper} {a:Act} {Q:Exit→Act→World→Prop}
theorem app_lit {t e:TypeId} {z:Value} {bytes:Nat} (T:SliceOf P t e z bytes) (w0 W:World) (B:Nat) (s x:Operand) (cs:Array Value) (c:Nat) (v:Value) (xs:List Value)
 (hgd:o.guard=none) (ho:o.op=.call { callee:=.builtin .append,args:=#[s,x],argTypes:=#[t,t] })
 (hs:a.eval s=v) (hx:a.eval x=.slice (some ⟨W.heap.size,0,none⟩) cs.size c)
 (hown:Own W B e v xs) (h1:∀ u∈cs.toList,u.oneCell'=true) (hb:Below B w0 W) (hB:B≤W.heap.size)
 (hlen:xs.length+cs.size≤maxLen) (hby:(xs.length+cs.size) * bytes≤140737488355328)
 (h:∀ v' w',Own w' B e v' (xs++cs.toList)→Below B w0 w'→(W.grownBy w' v.ownBlock)→(v'.ownBlock=v.ownBlock∨∃ g,v'.ownBlock=some g∧W.heap.size≤g)→wpList P ops Q rest (a.put o.dst v') w') :
 wpList P ops Q (o :: rest) a (W.alloc (.cells cs e)):=by
 obtain ⟨i,hi,hz0,hz1,hz2⟩:=info_parts T.elem
 have hc:∀ j u,cs.toList[j]?=some u→(W.alloc (.cells cs e)).cell? ((⟨W.heap.size,0,none⟩:Addr).add j)=some u :=
  World.news_of_block (heap_alloc_new W _)
 refine wpList_append_own_at (W.alloc (.cells cs e)) hgd s x t ho B e i z 1 bytes T.slice hi hz0 hz1 hz2 T.one (by omega) v xs.length xs hs (World.ownsRow.alloc hown _) ⟨W.heap.size,0,none⟩ cs.size c cs.toList hx (by simp) hc h1 hlen hby (by simp;omega) ?_
 intro v' w' hown' hg _ hl
 refine h v' w' ?_ ?_ ?_ ?_
 ·unfold Own;rw [List.length_append,Array.length_toList];exact hown'
 ·exact (hb.alloc hB _).grown hg (by simp;omega) (fun k hk=>((Own.inside hown) k hk).1)
 ·exact (World.grownBy_alloc W _ _).trans hg
 ·rcases hl with hl | hl
  ·exact .inl hl
  ·exact .inr ⟨_,hl,by simp⟩
end
theorem Own.weaken {w:World} {B B':Nat} {e:TypeId} {v:Value} {xs:List Value} (h:Own w B e v xs) (hB:B'≤B):Own w B' e v xs:=by
 refine ⟨h.1,?_⟩
 rcases h.2 with h2 | ⟨g,cap,cur,hv,hg,r⟩
 ·exact .inl h2
 ·exact .inr ⟨g,cap,cur,hv,by omega,r⟩
theorem Own.iterAt {w:World} {B k:Nat} {e:TypeId} {v:Value} {xs:List Value} (h:Own w B e v xs) (hk:k < B) (s:ByteArray) (p:Nat):Own (w.iterAt k s p) B e v xs:=by
 refine ⟨h.1,?_⟩
 rcases h.2 with h2 | ⟨g,cap,cur,hv,hg,hh,r⟩
 ·exact .inl h2
 ·exact .inr ⟨g,cap,cur,hv,hg,by rw [Lib.iterAt_other _ _ _ _ _ (by omega)];exact hh,r⟩
theorem iterPos_eq {w:World} {k:Nat} {s:ByteArray} {p:Nat} (h:w.heap[k]?=some (.stringIter s p)):w.iterPos k=p:=by
 simp [World.iterPos,h]
theorem heap_lt {w:World} {k:Nat} {o:Obj} (h:w.heap[k]?=some o):k < w.heap.size:=(Array.getElem?_eq_some_iff.1 h).1
theorem plain_of_cell {w:World} {p:Addr} {u:Value} (h:w.cell? p=some u):p.spot=none:=by
 unfold World.cell? at h
 split at h
 ·split at h
  ·cases h
  ·rename_i hs;simpa using hs
 ·cases h
theorem Lies.plain {w:World} {B:Nat} {A:Option Addr} {xs:List Value} (h:Lies w B A xs) (hn:0 < xs.length) :
 ∃ b off,A=some ⟨b,off,none⟩∧b < B∧∀ i (hi:i < xs.length),w.cell? ⟨b,off+i,none⟩=some xs[i]:=by
 obtain ⟨p,rfl,hb,hc⟩:=h (by intro e;subst e;simp at hn)
 have hs:=plain_of_cell (hc 0 _ (List.getElem?_eq_getElem hn))
 obtain ⟨b,off,spot⟩:=p
 have hp:spot=none:=by
  unfold Addr.add at hs;simpa using hs
 subst hp
 refine ⟨b,off,rfl,hb,fun i hi=>?_⟩
 rw [← hc i _ (List.getElem?_eq_getElem hi)]
 unfold Addr.add
 split
 ·rename_i h0;simp [h0]
 ·rfl
theorem Lies.plainInts {w:World} {B:Nat} {A:Option Addr} {k:IntKind} {l:List Int} (h:Lies w B A (ints k l)) (hn:0 < l.length) :
 ∃ b off,A=some ⟨b,off,none⟩∧b < B∧∀ i (hi:i < l.length),w.cell? ⟨b,off+i,none⟩=some (.int k l[i]):=by
 obtain ⟨b,off,hA,hb,hc⟩:=h.plain (by simpa using hn)
 exact ⟨b,off,hA,hb,fun i hi=>by rw [hc i (by simpa using hi)];simp⟩
end
section
structure Tok where
 k:Int
 c:Int
 lo:Int
 hi:Int
 pos:Int
@[reducible] def Tok.arr (t:Tok):Array Value:=#[.int .i64 t.k,.int .i64 t.c,.int .i64 t.lo,.int .i64 t.hi,.int .i64 t.pos]
def tokCells (T:List Tok):List Value:=T.flatMap (fun t=>t.arr.toList)
abbrev Wr (α:Type):=Except (Nat×Int) α
def signI (c:Int):Bool:=decide (c=36) || (decide (40≤c) && decide (c≤43)) || (decide (45≤c) && decide (c≤47)) || decide (c=63) || (decide (91≤c) && decide (c≤94)) || (decide (123≤c) && decide (c≤125))
def escI (c:Int):Option (Int×Bool) :=
 if c=110 then some (10,false) else if c=116 then some (9,false)
 else if c=100∨c=119∨c=115∨c=68∨c=87∨c=83 then some (c,true)
 else if signI c=true then some (c,false) else none
def isDig (d:Int):Bool:=decide (48≤d) && decide (d≤57)
def chT (c:Int):Tok:=⟨1,c,0,0,0⟩
def nxT (l:List Int) (k:Nat):Wr (Int×Nat):=match l[k]? with
 | some c=>.ok (c,k+1)
 | none=>.error (k,4)
def escT (l:List Int) (fr k:Nat):Wr (Tok×Nat):=match nxT l k with
 | .error e=>.error e
 | .ok (c,k')=>match escI c with
  | none=>.error (fr,6)
  | some (x,true)=>.ok (⟨12,x,0,0,0⟩,k')
  | some (x,false)=>.ok (chT x,k')
def itemT (l:List Int) (k:Nat):Wr (Tok×Nat):=match nxT l k with
 | .error e=>.error e
 | .ok (c,k')=>if c=92 then escT l k k' else .ok (chT c,k')
def upT (l:List Int) (low:Int) (fr k:Nat):Wr (Tok×Nat):=match itemT l k with
 | .error e=>.error e
 | .ok (t,k')=>if t.k=12 then .error (k,7) else if t.c < low then .error (fr,7) else .ok (⟨9,0,low,t.c,0⟩,k')
def claT (l:List Int) (k:Nat):Tok×Nat:=if l[k]?=some 94 then (⟨7,1,0,0,0⟩,k+1) else (⟨7,0,0,0,0⟩,k)
def digT (l:List Int) (k:Nat):List Int:=(l.drop k).takeWhile isDig
def numF (n d:Int):Int:=min (10 * n+d - 48) 21
def numT (D:List Int):Int:=if D=[] then -1 else if D[0]?=some 48∧1 < D.length then 21 else D.foldl numF 0
def badB (c a b:Int):Bool:=c != 125 || decide (a < 0) || decide (20 < max a b) || (decide (0≤b) && decide (b < a))
def shutT (fr:Nat) (a b c:Int) (k:Nat):Wr (Tok×Nat):=if badB c a b=true then .error (fr,8) else .ok (⟨6,0,a,b,0⟩,k)
def braT (l:List Int) (fr k:Nat):Wr (Tok×Nat):=match nxT l (k+(digT l k).length) with
 | .error e=>.error e
 | .ok (c,k2)=>if c=44∧digT l k≠[] then (match nxT l (k2+(digT l k2).length) with
  | .error e=>.error e
  | .ok (c',k3)=>shutT fr (numT (digT l k)) (numT (digT l k2)) c' k3) else shutT fr (numT (digT l k)) (numT (digT l k)) c k2
def repT (r:Bool) (c:Int):Tok:=if c=63∧r=true then ⟨13,0,0,0,0⟩ else if c=63 then ⟨6,0,0,1,0⟩ else if c=42 then ⟨6,0,0,-1,0⟩ else ⟨6,0,1,-1,0⟩
def aloT (c:Int):Tok:=if c=46 then ⟨2,0,0,0,0⟩ else if c=40 then ⟨3,0,0,0,0⟩ else if c=41 then ⟨4,0,0,0,0⟩ else if c=124 then ⟨5,0,0,0,0⟩ else if c=94 then ⟨10,0,0,0,0⟩ else if c=36 then ⟨11,0,0,0,0⟩ else chT c
def plT (fr:Nat):Wr (Tok×Nat)→Wr (Tok×Nat)
 | .error e=>.error e
 | .ok (t,k)=>.ok (⟨t.k,t.c,t.lo,t.hi,(fr:Int)⟩,k)
def outB (l:List Int) (r:Bool) (k:Nat):Wr (Tok×Nat):=match nxT l k with
 | .error e=>.error e
 | .ok (c,k')=>if c=63∨c=42∨c=43 then .ok (repT r c,k') else if c=123 then braT l k k' else if c=91 then .ok (claT l k') else if c=92 then escT l k k' else .ok (aloT c,k')
def outT (l:List Int) (r:Bool) (k:Nat):Wr (Tok×Nat):=plT k (outB l r k)
def inB (l:List Int) (k:Nat):Wr (Tok×Nat):=if l[k]?=some 93 then .ok (⟨8,0,0,0,0⟩,k+1) else match itemT l k with
 | .error e=>.error e
 | .ok (t,k')=>if t.k=1∧l[k']?=some 45∧¬ l[k'+1]?=some 93 then upT l t.c k (k'+1) else .ok (t,k')
def inT (l:List Int) (k:Nat):Wr (Tok×Nat):=plT k (inB l k)
def lastR (T:List Tok):Bool:=match T.getLast? with
 | some t=>t.k == 6
 | none=>false
def readT (l:List Int):Nat→Bool→Nat→List Tok→Wr (List Tok)
 | 0,_,_,T=>.ok T
 | n+1,cls,k,T=>if cls=false∧k=l.length then .ok T else match (if cls=true then inT l k else outT l (lastR T) k) with
  | .error e=>.error e
  | .ok (t,k')=>readT l n (if cls=true then t.k != 8 else t.k == 7) k' (T++[t])
def ofT (l:List Int):Wr (List Tok):=if 200 < l.length then .error (0,10) else readT l (l.length+1) false 0 []
/-! what is read lies ahead -/
theorem nxT_ok {l:List Int} {k:Nat} {c:Int} {k':Nat} (h:nxT l k=.ok (c,k')):k'=k+1∧∃ hk:k < l.length,l[k]=c:=by
 unfold nxT at h
 split at h
 ·rename_i x hx
  injection h with h
  injection h with h1 h2
  obtain ⟨hk,e⟩:=List.getElem?_eq_some_iff.1 hx
  exact ⟨h2.symm,hk,by rw [e,h1]⟩
 ·cases h
theorem nxT_at {l:List Int} {k:Nat} (h:k < l.length):nxT l k=.ok (l[k],k+1):=by
 unfold nxT;rw [List.getElem?_eq_getElem h]
theorem nxT_end {l:List Int} {k:Nat} (h:l.length≤k):nxT l k=.error (k,4):=by
 unfold nxT;rw [List.getElem?_eq_none h]
theorem escT_ok {l:List Int} {fr k:Nat} {t:Tok} {k':Nat} (h:escT l fr k=.ok (t,k')):k'=k+1∧k < l.length:=by
 unfold escT at h
 split at h
 ·cases h
 ·rename_i c k2 hn
  obtain ⟨rfl,hk,_⟩:=nxT_ok hn
  split at h
  ·cases h
  ·injection h with h;injection h with _ h;exact ⟨h.symm,hk⟩
  ·injection h with h;injection h with _ h;exact ⟨h.symm,hk⟩
theorem itemT_ok {l:List Int} {k:Nat} {t:Tok} {k':Nat} (h:itemT l k=.ok (t,k')):k < k'∧k'≤l.length:=by
 unfold itemT at h
 split at h
 ·cases h
 ·rename_i c k2 hn
  obtain ⟨rfl,hk,_⟩:=nxT_ok hn
  split at h
  ·obtain ⟨rfl,h2⟩:=escT_ok h;omega
  ·injection h with h;injection h with _ h;omega
theorem upT_ok {l:List Int} {low:Int} {fr k:Nat} {t:Tok} {k':Nat} (h:upT l low fr k=.ok (t,k')):k < k'∧k'≤l.length:=by
 unfold upT at h
 split at h
 ·cases h
 ·rename_i c k2 hn
  have:=itemT_ok hn
  split at h
  ·cases h
  ·split at h
   ·cases h
   ·injection h with h;injection h with _ h;omega
theorem shutT_ok {fr:Nat} {a b c:Int} {k:Nat} {t:Tok} {k':Nat} (h:shutT fr a b c k=.ok (t,k')):k'=k:=by
 unfold shutT at h
 split at h
 ·cases h
 ·injection h with h;injection h with _ h;exact h.symm
theorem braT_ok {l:List Int} {fr k:Nat} {t:Tok} {k':Nat} (h:braT l fr k=.ok (t,k')):k < k'∧k'≤l.length:=by
 unfold braT at h
 split at h
 ·cases h
 ·rename_i c k2 hn
  obtain ⟨rfl,hk,_⟩:=nxT_ok hn
  split at h
  ·split at h
   ·cases h
   ·rename_i c' k3 hn'
    obtain ⟨rfl,hk',_⟩:=nxT_ok hn'
    have:=shutT_ok h;omega
  ·have:=shutT_ok h;omega
theorem claT_le {l:List Int} {k:Nat} (h:k≤l.length):k≤(claT l k).2∧(claT l k).2≤l.length:=by
 unfold claT
 split
 ·rename_i h1
  have:=(List.getElem?_eq_some_iff.1 h1).1
  simp only;omega
 ·simp only;omega
theorem plT_ok {fr:Nat} {r:Wr (Tok×Nat)} {t:Tok} {k':Nat} (h:plT fr r=.ok (t,k')):∃ t',r=.ok (t',k')∧t=⟨t'.k,t'.c,t'.lo,t'.hi,(fr:Int)⟩:=by
 unfold plT at h
 split at h
 ·cases h
 ·rename_i t' k2
  injection h with h
  injection h with h1 h2
  subst h2
  exact ⟨t',rfl,h1.symm⟩
theorem outB_ok {l:List Int} {r:Bool} {k:Nat} {t:Tok} {k':Nat} (h:outB l r k=.ok (t,k')):k < k'∧k'≤l.length:=by
 unfold outB at h
 split at h
 ·cases h
 ·rename_i c k2 hn
  obtain ⟨rfl,hk,_⟩:=nxT_ok hn
  split at h
  ·injection h with h;injection h with _ h;omega
  ·split at h
   ·have:=braT_ok h;omega
   ·split at h
    ·injection h with h
     have h1:=claT_le (l:=l) (k:=k+1) (by omega)
     rw [h] at h1
     simp only at h1;omega
    ·split at h
     ·have:=escT_ok h;omega
     ·injection h with h;injection h with _ h;omega
theorem outT_ok {l:List Int} {r:Bool} {k:Nat} {t:Tok} {k':Nat} (h:outT l r k=.ok (t,k')):k < k'∧k'≤l.length∧t.pos=(k:Int):=by
 obtain ⟨t',hb,rfl⟩:=plT_ok h
 exact ⟨(outB_ok hb).1,(outB_ok hb).2,rfl⟩
theorem inB_ok {l:List Int} {k:Nat} {t:Tok} {k':Nat} (h:inB l k=.ok (t,k')):k < k'∧k'≤l.length:=by
 unfold inB at h
 split at h
 ·rename_i h1
  have:=(List.getElem?_eq_some_iff.1 h1).1
  injection h with h;injection h with _ h;omega
 ·split at h
  ·cases h
  ·rename_i t2 k2 hn
   have h1:=itemT_ok hn
   split at h
   ·have:=upT_ok h;omega
   ·injection h with h;injection h with _ h;omega
theorem inT_ok {l:List Int} {k:Nat} {t:Tok} {k':Nat} (h:inT l k=.ok (t,k')):k < k'∧k'≤l.length∧t.pos=(k:Int):=by
 obtain ⟨t',hb,rfl⟩:=plT_ok h
 exact ⟨(inB_ok hb).1,(inB_ok hb).2,rfl⟩
theorem nxT_no {l:List Int} {k:Nat} {e:Nat×Int} (h:nxT l k=.error e):l.length≤k∧e=(k,4):=by
 unfold nxT at h
 split at h
 ·cases h
 ·rename_i hx
  injection h with h
  exact ⟨List.getElem?_eq_none_iff.1 hx,h.symm⟩
end
section
open Go.RowKit
theorem Own.ofLit {w:World} {B:Nat} {e:TypeId} (cs:Array Value) (hB:B≤w.heap.size) (hm:cs.size≤maxLen) :
 Own (w.alloc (.cells cs e)) B e (.slice (some ⟨w.heap.size,0,none⟩) cs.size cs.size) cs.toList:=by
 have:=World.ownsRow_lit (base:=B) (e:=e) (size:=1) w cs cs.size hB hm (by simp)
 unfold Own
 rw [Array.length_toList]
 exact this
section
variable {P:Program}
theorem run_app_src {t e:TypeId} {z:Value} {bytes:Nat} (T:SliceOf P t e z bytes) (ty:TypeId) (W:World) (B B':Nat) (v:Value) (xs ys:List Value) (A:Option Addr) (c:Nat)
 (hown:Own W B e v xs) (hsrc:Lies W B' A ys) (h1:∀ u∈ys,u.oneCell'=true) (hB:B≤W.heap.size)
 (hlen:xs.length+ys.length≤maxLen) (hby:(xs.length+ys.length) * bytes≤140737488355328) :
 ∃ v' w',(Builtin.append_ #[t,t] ty #[v,.slice A ys.length c]).run P W=.ok v' w'∧Own w' B e v' (xs++ys)∧W.grownBy w' v.ownBlock∧(v'.ownBlock=v.ownBlock∨v'.ownBlock=some W.heap.size):=by
 obtain ⟨i,hi,hz0,hz1,hz2⟩:=info_parts T.elem
 rcases A with _ | p
 ·have hy:ys=[]:=by
   rcases ys with _ | ⟨y,ys⟩
   ·rfl
   ·obtain ⟨q,hq,_⟩:=hsrc (by simp)
    cases hq
  subst hy
  refine ⟨v,W,?_,by simpa using hown,World.grownBy.refl W _,.inl rfl⟩
  rcases hown.2 with ⟨rfl,_⟩ | ⟨g,cap,cur,rfl,_,_,hnc,_⟩
  ·simp [Builtin.append_,run_underlying T.slice,sizeOf,typeInfo,hi,Builtin.lenOf,Builtin.firstCells]
  ·simp [Builtin.append_,run_underlying T.slice,sizeOf,typeInfo,hi,Builtin.lenOf,Builtin.firstCells,hnc,storeCells]
 ·have hcells:∀ j u,ys[j]?=some u→W.cell? (p.add j)=some u:=by
   intro j u hu
   obtain ⟨q,hq,_,hc⟩:=hsrc (by intro e;subst e;simp at hu)
   injection hq with hq
   subst hq
   exact hc j u hu
  obtain ⟨v',w',hr,h2,h3,_,h5⟩:=run_append_own_at (P:=P) W B t ty e i z 1 bytes T.slice hi hz0 hz1 hz2 T.one (by omega) v xs.length xs hown p ys.length c ys (by simp) hcells h1 hlen hby hB
  exact ⟨v',w',hr,by unfold Own;rw [List.length_append];exact h2,h3,h5⟩
variable {ops:Array Oper} {rest:List Oper} {o:Oper} {a:Act} {Q:Exit→Act→World→Prop}
theorem app_src {t e:TypeId} {z:Value} {bytes:Nat} (T:SliceOf P t e z bytes) (w0 W:World) (B B':Nat) (s x:Operand) (v:Value) (xs ys:List Value) (A:Option Addr) (n c:Nat)
 (hw:Region.wanted o (yielded ops a.tmps)=true) (ho:o.op=.call { callee:=.builtin .append,args:=#[s,x],argTypes:=#[t,t] })
 (hs:a.eval s=v) (hx:a.eval x=.slice A n c) (hn:n=ys.length)
 (hown:Own W B e v xs) (hsrc:Lies W B' A ys) (h1:∀ u∈ys,u.oneCell'=true) (hb:Below B w0 W) (hB:B≤W.heap.size)
 (hlen:xs.length+ys.length≤maxLen) (hby:(xs.length+ys.length) * bytes≤140737488355328)
 (h:∀ v' w',Own w' B e v' (xs++ys)→Below B w0 w'→W.grownBy w' v.ownBlock→(v'.ownBlock=v.ownBlock∨∃ g,v'.ownBlock=some g∧W.heap.size≤g)→wpList P ops Q rest (a.put o.dst v') w') :
 wpList P ops Q (o :: rest) a W:=by
 subst hn
 refine wpList_step fun K hK=>?_
 rw [if_pos hw]
 obtain ⟨v',w',hr,h2,h3,h4⟩:=run_app_src T o.type W B B' v xs ys A c hown hsrc h1 hB hlen hby
 unfold Oper.wp execOp
 simp only [ho,resolve,invoke,builtin,Sem.run_bind,Sem.run_pure,Result.andThen_ok,List.map_toArray,List.map_cons,List.map_nil,hs,hx,hr]
 refine hK _ _ (h v' w' h2 (hb.grown h3 hB (fun k hk=>(Own.inside hown k hk).1)) h3 ?_)
 rcases h4 with h4 | h4
 ·exact .inl h4
 ·exact .inr ⟨_,h4,Nat.le_refl _⟩
end
theorem ints_one (k:IntKind) (l:List Int):∀ u∈ints k l,u.oneCell'=true:=by
 intro u hu
 obtain ⟨n,_,rfl⟩:=List.mem_map.1 hu
 rfl
end
section
open Go.RowKit
section
variable {α:Type _}
theorem ZA {xs:List α} {i:Nat} (h:i < xs.toArray.size):xs.toArray[i]=xs[i]'(by simpa using h):=List.getElem_toArray h
theorem ZB (a:α) (l:List α) (h:0 < (a :: l).length):(a :: l)[0]=a:=rfl
theorem ZC (a:α) (l:List α) (i:Nat) (h:i+1 < (a :: l).length):(a :: l)[i+1]=l[i]'(Nat.lt_of_succ_lt_succ h):=rfl
theorem ZD (l:List α) (i:Nat) (a:α):l.toArray.setIfInBounds i a=(l.set i a).toArray:=List.setIfInBounds_toArray l i a
theorem ZE {x a:α} {xs:List α}:(x :: xs).set 0 a=a :: xs:=rfl
theorem ZF {x a:α} {xs:List α} {i:Nat}:(x :: xs).set (i+1) a=x :: xs.set i a:=rfl
end
section
variable {P:Program} {ops:Array Oper} {Q:Exit→Act→World→Prop} {md:Region.Mode} {S:World→Prop}
theorem hY (i:Nat) {oi:Oper} {v:Value} {fuel:Nat} {listed:Array Bool} {a:Act} {w:World}
 (h:wpAnyH P md ops Q S fuel (listed.setIfInBounds i true) (a.put oi.dst v) w) (hS:S w:=by assumption)
 (hi:ops[i]?=some oi:=by rfl) (hQ:∀ c a w,Q (.panic c) (a.put oi.dst v) w→Q (.panic c) a w:=by exact fun _ _ _ h=>h)
 (hw:Region.wanted oi (yielded ops a.tmps)=true:=by rfl) (hy:∀ u,S u→(execOp a.eval oi).run P u=.ok (.value v) u:=by (intro u hu;(try dsimp only at hu);go_simp;try with_reducible rfl))
 (hs:Region.noSelect ops=true:=by kernel_rfl) (hf:Region.free md ops listed i=true:=by kernel_rfl) (hr:(Region.ready md ops listed).contains i=true:=by kernel_rfl):wpAnyH P md ops Q S (fuel+1) listed a w:=wpAnyH_take hi hs hf hr hQ (.inl ⟨hw,hy⟩) hS h
theorem hN (i:Nat) {oi:Oper} {fuel:Nat} {listed:Array Bool} {a:Act} {w:World}
 (h:wpAnyH P md ops Q S fuel (listed.setIfInBounds i true) (a.put oi.dst undef) w) (hS:S w:=by assumption)
 (hi:ops[i]?=some oi:=by rfl) (hQ:∀ c a w,Q (.panic c) (a.put oi.dst undef) w→Q (.panic c) a w:=by exact fun _ _ _ h=>h)
 (hw:Region.wanted oi (yielded ops a.tmps)=false:=by rfl)
 (hs:Region.noSelect ops=true:=by kernel_rfl) (hf:Region.free md ops listed i=true:=by kernel_rfl) (hr:(Region.ready md ops listed).contains i=true:=by kernel_rfl):wpAnyH P md ops Q S (fuel+1) listed a w:=wpAnyH_take hi hs hf hr hQ (.inr ⟨hw,rfl⟩) hS h
theorem hA (i:Nat) {fuel:Nat} {listed:Array Bool} {a:Act} {w:World} {o:Oper}
 (h:∀ K':Act→World→Prop,Shut (∀ a w,S w→(S w→wpAnyH P md ops Q S fuel (listed.setIfInBounds i true) a w)→K' a w)→if Region.wanted o (yielded ops a.tmps)=true then Oper.wp P o a w K' Q else K' (a.put o.dst undef) w)
 (ho:ops[i]?=some o:=by rfl) (hr:Region.ready md ops listed=[i]:=by kernel_rfl):wpAnyH P md ops Q S (fuel+1) listed a w :=
 wpAnyH_ready hr (List.cons_ne_nil _ _) (AllReadyH.cons ho h AllReadyH.nil)
end
theorem ret_int {k:IntKind} {a b:Int} (h:a=b):Ending.returned (.int k a)=.returned (.int k b):=by rw [h]
theorem ret_bool {a b:Bool} (h:a=b):Ending.returned (.bool a)=.returned (.bool b):=by rw [h]
def Rowed (w:World) (B:Nat) (e:TypeId) (xs:List Value) (ed:Ending) (w':World):Prop :=
 ∃ v,ed=.returned v∧Own w' B e v xs∧Below B w w'
theorem rowed_ret {w0 w:World} {B:Nat} {e:TypeId} {xs ys:List Value} {v:Value} (h:Own w B e v ys) (hb:Below B w0 w) (he:ys=xs):Rowed w0 B e xs (.returned v) w :=
 ⟨v,rfl,he▸h,hb⟩
def Rowed2 (w:World) (B:Nat) (e:TypeId) (xs:List Value) (n:Int) (ed:Ending) (w':World):Prop :=
 ∃ v,ed=.returned (.tuple #[v,.int .i64 n])∧Own w' B e v xs∧Below B w w'
theorem take_snoc (l:List Int) (k:Nat) (h:k < l.length):l.take (k+1)=l.take k++[l[k]]:=by
 rw [List.take_succ_eq_append_getElem h]
def lenOf:Value→Nat | .slice _ n _=>n | _=>0
theorem below_drawn {B:Nat} {a w:World} (h:Below B a w) (n:Nat):Below B a (w.drewN n):=⟨h.os,h.tape,h.output,h.size,h.block⟩
theorem Lies.lit {w:World} {e:TypeId} (cs:Array Value):Lies (w.alloc (.cells cs e)) (w.heap.size+1) (some ⟨w.heap.size,0,none⟩) cs.toList:=fun _ =>
 ⟨_,rfl,by simp,World.news_of_block (heap_alloc_new w _)⟩
theorem Lies.up {w w':World} {A:Option Addr} {xs:List Value} (h:Lies w w.heap.size A xs) (hb:Below w.heap.size w w'):Lies w' w'.heap.size A xs:=(h.below hb).wider hb.size
theorem below_alloc (w:World) (o:Obj):Below w.heap.size w (w.alloc o):=(Below.refl _ _).alloc (Nat.le_refl _) o
theorem below_then {a b c:World} (h:Below a.heap.size a b) (k:Below b.heap.size b c):Below a.heap.size a c:=h.trans (k.mono h.size)
theorem Lies.litUp {w:World} {e:TypeId} (cs:Array Value):Lies (w.alloc (.cells cs e)) (w.alloc (.cells cs e)).heap.size (some ⟨w.heap.size,0,none⟩) cs.toList:=by
 have:=Lies.lit (w:=w) (e:=e) cs;simpa using this
theorem add_plain (b off i:Nat):(⟨b,off,none⟩:Addr).add i=⟨b,off+i,none⟩:=by
 unfold Addr.add;split
 ·simp
 ·rfl
end
section
open Go.RowKit
theorem Own.same {w w':World} {B:Nat} {e:TypeId} {v:Value} {xs:List Value} (h:Own w B e v xs) (hh:w'.heap=w.heap):Own w' B e v xs:=by
 refine ⟨h.1,?_⟩
 rcases h.2 with h2 | ⟨g,cap,cur,hv,hg,h3,r⟩
 ·exact .inl h2
 ·exact .inr ⟨g,cap,cur,hv,hg,by rw [hh];exact h3,r⟩
theorem Lies.sameHeap {w w':World} {B:Nat} {A:Option Addr} {xs:List Value} (h:Lies w B A xs) (hh:w'.heap=w.heap):Lies w' B A xs :=
 h.same fun q _=>World.cell?_of_block (by rw [hh])
theorem below_same {B:Nat} {a w w':World} (h:Below B a w) (hh:w'.heap=w.heap) (h1:w'.os=w.os) (h2:w'.tape=w.tape) (h3:w'.output=w.output):Below B a w' :=
 ⟨h1.trans h.os,h2.trans h.tape,h3.trans h.output,by rw [hh];exact h.size,fun k hk=>by rw [hh];exact h.block k hk⟩
theorem below_then_drew {B:Nat} {a w:World} (h:Below B a.drew w):Below B a w:=⟨h.os,h.tape,h.output,h.size,h.block⟩
end
section
open Go.RowKit
structure SliceOfN (P:Program) (t e:TypeId) (z:Value) (size bytes:Nat):Prop where
 slice:P.underlying t=some (.slice e)
 elem:(P.info? e).map (fun i=>(i.zero,i.size,i.bytes))=some (some z,size,bytes)
 wide:z.cells.size=size
 pos:0 < size
theorem SliceOf.wide {P:Program} {t e:TypeId} {z:Value} {bytes:Nat} (T:SliceOf P t e z bytes):SliceOfN P t e z 1 bytes:=⟨T.slice,T.elem,T.one,by omega⟩
def OwnN (w:World) (B:Nat) (e:TypeId) (size:Nat) (v:Value) (n:Nat) (xs:List Value):Prop:=w.ownsRow B e size v n xs
section
variable {w w':World} {B:Nat} {e:TypeId} {size n:Nat} {v:Value} {xs:List Value}
theorem OwnN.empty (w:World) (B:Nat) (e:TypeId) (size:Nat):OwnN w B e size (.slice none 0 0) 0 []:=World.ownsRow_nil w B e size
theorem OwnN.same (h:OwnN w B e size v n xs) (hh:w'.heap=w.heap):OwnN w' B e size v n xs:=by
 refine ⟨h.1,?_⟩
 rcases h.2 with h2 | ⟨g,cap,cur,hv,hg,h3,r⟩
 ·exact .inl h2
 ·exact .inr ⟨g,cap,cur,hv,hg,by rw [hh];exact h3,r⟩
theorem OwnN.alloc (h:OwnN w B e size v n xs) (o:Obj):OwnN (w.alloc o) B e size v n xs:=World.ownsRow.alloc h o
theorem OwnN.keep (h:OwnN w B e size v n xs) {row:Option Nat} (hg:w.grownBy w' row) (hr:v.ownBlock=none∨v.ownBlock≠row):OwnN w' B e size v n xs:=World.ownsRow.kept h hg hr
theorem OwnN.below (h:OwnN w B e size v n xs) {C:Nat} (hb:Below C w w') (hC:w.heap.size≤C):OwnN w' B e size v n xs:=by
 refine World.ownsRow.kept (row:=none) h ⟨hb.os,hb.tape,hb.output,hb.size,fun k hk _=>hb.block k (by omega)⟩ ?_
 cases v.ownBlock <;> simp
theorem OwnN.inside (h:OwnN w B e size v n xs):∀ g,v.ownBlock=some g→B≤g∧g < w.heap.size:=World.ownsRow.lt h
theorem OwnN.form (h:OwnN w B e size v n xs):∃ A c,v=.slice A n c∧Lies w w.heap.size A xs∧n≤c∧c≤maxLen:=by
 rcases h.2 with ⟨rfl,hn⟩ | ⟨g,cap,cur,rfl,hbg,hh,hc,hm,hs,ht⟩
 ·refine ⟨none,0,by rw [hn],?_,by omega,by unfold maxLen;omega⟩
  have:=h.1
  rw [hn,Nat.zero_mul] at this
  rw [List.eq_nil_of_length_eq_zero this];exact Lies.empty
 ·exact ⟨_,cap,rfl,fun hn=>⟨_,rfl,(Array.getElem?_eq_some_iff.1 hh).1,World.ownsRow.cells h (g:=g) rfl⟩,hc,hm⟩
theorem OwnN.block (h:OwnN w B e size v n xs) (hn:0 < n):∃ g c,v=.slice (some ⟨g,0,none⟩) n c∧n≤c∧B≤g∧g < w.heap.size∧∀ j,j < n * size→w.cell? ⟨g,j,none⟩=xs[j]?:=by
 rcases h.2 with ⟨_,h0⟩ | ⟨g,cap,cur,rfl,hbg,hh,hc,hm,hs,ht⟩
 ·omega
 ·exact ⟨g,cap,rfl,hc,hbg,(Array.getElem?_eq_some_iff.1 hh).1,fun j hj=>World.ownsRow.cellAt h j hj⟩
theorem OwnN.short (h:OwnN w B e size v n xs) {j:Nat} (hj:j≤n):∃ A c,v=.slice A n c∧n≤c∧OwnN w B e size (.slice A j c) j (xs.take (j * size)):=by
 rcases h.2 with ⟨rfl,hn⟩ | ⟨g,cap,cur,rfl,hg,hh,hc,hm,hs,ht⟩
 ·refine ⟨none,0,by rw [hn],by omega,?_⟩
  obtain rfl:j=0:=by omega
  rw [Nat.zero_mul,List.take_zero]
  exact OwnN.empty _ _ _ _
 ·refine ⟨_,cap,rfl,hc,?_,.inr ⟨g,cap,cur,rfl,hg,hh,by omega,hm,hs,?_⟩⟩
  ·rw [List.length_take,h.1,Nat.min_eq_left (Nat.mul_le_mul_right _ hj)]
  ·rw [← ht,List.take_take,Nat.min_eq_left (Nat.mul_le_mul_right _ hj)]
theorem OwnN.ofLit (cs:Array Value) (hB:B≤w.heap.size) (hm:n≤maxLen) (hs:cs.size=n * size):OwnN (w.alloc (.cells cs e)) B e size (.slice (some ⟨w.heap.size,0,none⟩) n n) n cs.toList :=
 World.ownsRow_lit w cs n hB hm hs
end
section
variable {P:Program}
theorem run_appN {t e:TypeId} {z:Value} {size bytes:Nat} (T:SliceOfN P t e z size bytes) (ty:TypeId) (W:World) (B B':Nat) (v:Value) (n m:Nat) (xs ys:List Value) (A:Option Addr) (c:Nat)
 (hown:OwnN W B e size v n xs) (hsrc:Lies W B' A ys) (hm:ys.length=m * size) (h1:∀ u∈ys,u.oneCell'=true) (hB:B≤W.heap.size)
 (hlen:n+m≤maxLen) (hby:(n+m) * bytes≤140737488355328) :
 ∃ v' w',(Builtin.append_ #[t,t] ty #[v,.slice A m c]).run P W=.ok v' w'∧OwnN w' B e size v' (n+m) (xs++ys)∧W.grownBy w' v.ownBlock∧(v'.ownBlock=v.ownBlock∨v'.ownBlock=some W.heap.size):=by
 obtain ⟨i,hi,hz0,hz1,hz2⟩:=info_parts T.elem
 rcases A with _ | p
 ·have hy:ys=[]:=by
   rcases ys with _ | ⟨y,ys⟩
   ·rfl
   ·obtain ⟨q,hq,_⟩:=hsrc (by simp)
    cases hq
  subst hy
  obtain rfl:m=0:=by
   have:=T.pos
   rcases Nat.eq_zero_or_pos m with h | h
   ·exact h
   ·have:=Nat.mul_pos h T.pos;simp at hm;omega
  refine ⟨v,W,?_,by simpa using hown,World.grownBy.refl W _,.inl rfl⟩
  rcases hown.2 with ⟨rfl,_⟩ | ⟨g,cap,cur,rfl,_,_,hnc,_⟩
  ·simp [Builtin.append_,run_underlying T.slice,sizeOf,typeInfo,hi,Builtin.lenOf,Builtin.firstCells]
  ·simp [Builtin.append_,run_underlying T.slice,sizeOf,typeInfo,hi,Builtin.lenOf,Builtin.firstCells,hnc,storeCells]
 ·have hcells:∀ j u,ys[j]?=some u→W.cell? (p.add j)=some u:=by
   intro j u hu
   obtain ⟨q,hq,_,hc⟩:=hsrc (by intro e;subst e;simp at hu)
   injection hq with hq
   subst hq
   exact hc j u hu
  obtain ⟨v',w',hr,h2,h3,_,h5⟩:=run_append_own_at (P:=P) W B t ty e i z size bytes T.slice hi hz0 hz1 hz2 T.wide T.pos v n xs hown p m c ys hm hcells h1 hlen hby hB
  exact ⟨v',w',hr,h2,h3,h5⟩
variable {ops:Array Oper} {o:Oper} {a:Act} {K:Act→World→Prop} {Q:Exit→Act→World→Prop} {E:Prop}
theorem step_appN {t e:TypeId} {z:Value} {size bytes:Nat} (T:SliceOfN P t e z size bytes) (w0 W:World) (B B':Nat) (s x:Operand) (v:Value) (n m:Nat) (xs ys:List Value) (A:Option Addr) (c:Nat)
 (hgd:o.guard=none) (ho:o.op=.call { callee:=.builtin .append,args:=#[s,x],argTypes:=#[t,t] })
 (hs:a.eval s=v) (hx:a.eval x=.slice A m c)
 (hown:OwnN W B e size v n xs) (hsrc:Lies W B' A ys) (hm:ys.length=m * size) (h1:∀ u∈ys,u.oneCell'=true) (hb:Below B w0 W) (hB:B≤W.heap.size)
 (hlen:n+m≤maxLen) (hby:(n+m) * bytes≤140737488355328)
 (h:∀ v' w',OwnN w' B e size v' (n+m) (xs++ys)→Below B w0 w'→W.grownBy w' v.ownBlock→(v'.ownBlock=v.ownBlock∨∃ g,v'.ownBlock=some g∧W.heap.size≤g)→K (a.put o.dst v') w') :
 if Region.wanted o (yielded ops a.tmps)=true then Oper.wp P o a W K Q else E:=by
 have hw:Region.wanted o (yielded ops a.tmps)=true:=by simp [Region.wanted,hgd]
 rw [if_pos hw]
 obtain ⟨v',w',hr,h2,h3,h4⟩:=run_appN T o.type W B B' v n m xs ys A c hown hsrc hm h1 hB hlen hby
 unfold Oper.wp execOp
 simp only [ho,resolve,invoke,builtin,Sem.run_bind,Sem.run_pure,Result.andThen_ok,List.map_toArray,List.map_cons,List.map_nil,hs,hx,hr]
 refine h v' w' h2 (hb.grown h3 hB (fun k hk=>(OwnN.inside hown k hk).1)) h3 ?_
 rcases h4 with h4 | h4
 ·exact .inl h4
 ·exact .inr ⟨_,h4,Nat.le_refl _⟩
end
theorem OwnN.weaken {w:World} {B B':Nat} {e:TypeId} {size n:Nat} {v:Value} {xs:List Value} (h:OwnN w B e size v n xs) (hB:B'≤B):OwnN w B' e size v n xs:=by
 refine ⟨h.1,?_⟩
 rcases h.2 with h2 | ⟨g,cap,cur,hv,hg,r⟩
 ·exact .inl h2
 ·exact .inr ⟨g,cap,cur,hv,by omega,r⟩
theorem OwnN.unlike {w:World} {B B':Nat} {e e':TypeId} {s s' n n':Nat} {v v':Value} {xs xs':List Value} (h:OwnN w B e s v n xs) (h':OwnN w B' e' s' v' n' xs') (he:e≠e'):v.ownBlock=none∨v.ownBlock≠v'.ownBlock:=by
 rcases h.2 with ⟨rfl,_⟩ | ⟨g,cap,cur,rfl,_,hh,_⟩
 ·exact .inl rfl
 ·rcases h'.2 with ⟨rfl,_⟩ | ⟨g',cap',cur',rfl,_,hh',_⟩
  ·exact .inr (by simp [Value.ownBlock])
  ·refine .inr fun e1=>?_
   have:g=g':=by simpa [Value.ownBlock] using e1
   subst this
   rw [hh] at hh'
   injection hh' with h1
   injection h1 with _ h2 _
   exact he h2
section
variable {P:Program} {ops:Array Oper} {rest:List Oper} {o:Oper} {a:Act} {K:Act→World→Prop} {Q:Exit→Act→World→Prop} {E:Prop}
theorem wp_store_cell {t e:TypeId} (W:World) (B:Nat) (x y:Operand) (g j c:Nat) (u:Value) (xs:List Value) (w0:World)
 (hd:o.dst=none) (ho:o.op=.store t x y) (ht:(P.info? t).map (·.size)=some 1) (hu:u.oneCell'=true) (hx:a.eval x=.pointer (some ⟨g,j,none⟩)) (hy:a.eval y=u) (hr:OwnN W B e 1 (.slice (some ⟨g,0,none⟩) xs.length c) xs.length xs) (hj:j < xs.length) (hb:Below B w0 W)
 (h:∀ w',OwnN w' B e 1 (.slice (some ⟨g,0,none⟩) xs.length c) xs.length (xs.set j u)→Below B w0 w'→W.grownBy w' (some g)→K a w'):Oper.wp P o a W K Q:=by
 have hcell:W.cell? ⟨g,j,none⟩=some xs[j]:=by
  have:=World.ownsRow.cellAt hr j (by omega)
  rw [this,List.getElem?_eq_getElem hj]
 have hfree:W.frozen? ⟨g,j,none⟩=false:=World.ownsRow.frozenAt hr j
 have hst:=World.ownsRow.stored hr j u
 have hin:=(OwnN.inside hr) g rfl
 obtain ⟨i,hi,hz1⟩:∃ i,P.info? t=some i∧i.size=1:=by
  cases hh:P.info? t with
  | none=>rw [hh] at ht;cases ht
  | some i=>rw [hh] at ht;exact ⟨i,rfl,by simpa using ht⟩
 unfold Oper.wp
 obtain ⟨dst,op,ty,pos,after,guard⟩:=o
 obtain rfl:dst=none:=hd
 obtain rfl:op=.store t x y:=ho
 simp [execOp,hx,hy,Instr.storeAt,Instr.sureAddr]
 cases u with
 | agg cs=>cases hu
 | tuple cs=>cases hu
 | _ =>
  all_goals
   go_simp
   simp only [sizeOf,typeInfo,Sem.run_bind,Sem.run_pure]
   go_simp
   first
    | exact h _ hst.1 (hb.setCell hin.1 _) hst.2
    | (rw [run_store P W _ _ _ rfl];simp only [hcell,hfree];exact h _ hst.1 (hb.setCell hin.1 _) hst.2)
theorem store_cell {t e:TypeId} (W:World) (B:Nat) (x y:Operand) (g j c:Nat) (u:Value) (xs:List Value) (w0:World)
 (hgd:o.guard=none) (hd:o.dst=none) (ho:o.op=.store t x y) (ht:(P.info? t).map (·.size)=some 1) (hu:u.oneCell'=true) (hx:a.eval x=.pointer (some ⟨g,j,none⟩)) (hy:a.eval y=u) (hr:OwnN W B e 1 (.slice (some ⟨g,0,none⟩) xs.length c) xs.length xs) (hj:j < xs.length) (hb:Below B w0 W)
 (h:∀ w',OwnN w' B e 1 (.slice (some ⟨g,0,none⟩) xs.length c) xs.length (xs.set j u)→Below B w0 w'→W.grownBy w' (some g)→wpList P ops Q rest a w'):wpList P ops Q (o :: rest) a W :=
 wpList_plain hgd fun _ hK'=>wp_store_cell W B x y g j c u xs w0 hd ho ht hu hx hy hr hj hb (fun w' h1 h2 h3=>hK' _ _ (h w' h1 h2 h3))
theorem step_store {t e:TypeId} (W:World) (B:Nat) (x y:Operand) (g j c:Nat) (u:Value) (xs:List Value) (w0:World)
 (hgd:o.guard=none) (hd:o.dst=none) (ho:o.op=.store t x y) (ht:(P.info? t).map (·.size)=some 1) (hu:u.oneCell'=true) (hx:a.eval x=.pointer (some ⟨g,j,none⟩)) (hy:a.eval y=u) (hr:OwnN W B e 1 (.slice (some ⟨g,0,none⟩) xs.length c) xs.length xs) (hj:j < xs.length) (hb:Below B w0 W)
 (h:∀ w',OwnN w' B e 1 (.slice (some ⟨g,0,none⟩) xs.length c) xs.length (xs.set j u)→Below B w0 w'→W.grownBy w' (some g)→K a w') :
 if Region.wanted o (yielded ops a.tmps)=true then Oper.wp P o a W K Q else E:=by
 have hw:Region.wanted o (yielded ops a.tmps)=true:=by simp [Region.wanted,hgd]
 rw [if_pos hw]
 exact wp_store_cell W B x y g j c u xs w0 hd ho ht hu hx hy hr hj hb h
end
section
variable {P:Program} {ops:Array Oper} {rest:List Oper} {o:Oper} {a:Act} {Q:Exit→Act→World→Prop}
theorem appN_at {t e:TypeId} {z:Value} {size bytes:Nat} (T:SliceOfN P t e z size bytes) (w0 W:World) (B B':Nat) (s x:Operand) (v:Value) (n m:Nat) (xs ys:List Value) (A:Option Addr) (c:Nat)
 (hgd:o.guard=none) (ho:o.op=.call { callee:=.builtin .append,args:=#[s,x],argTypes:=#[t,t] })
 (hs:a.eval s=v) (hx:a.eval x=.slice A m c)
 (hown:OwnN W B e size v n xs) (hsrc:Lies W B' A ys) (hm:ys.length=m * size) (h1:∀ u∈ys,u.oneCell'=true) (hb:Below B w0 W) (hB:B≤W.heap.size)
 (hlen:n+m≤maxLen) (hby:(n+m) * bytes≤140737488355328)
 (h:∀ v' w',OwnN w' B e size v' (n+m) (xs++ys)→Below B w0 w'→W.grownBy w' v.ownBlock→(v'.ownBlock=v.ownBlock∨∃ g,v'.ownBlock=some g∧W.heap.size≤g)→wpList P ops Q rest (a.put o.dst v') w'):wpList P ops Q (o :: rest) a W :=
 wpList_step fun _ hK=>step_appN T w0 W B B' s x v n m xs ys A c hgd ho hs hx hown hsrc hm h1 hb hB hlen hby (fun v' w' h2 h3 h4 h5=>hK _ _ (h v' w' h2 h3 h4 h5))
end
end
section
open Go.RowKit
theorem grown_of_below {w w':World} (h:Below w.heap.size w w') (row:Option Nat):w.grownBy w' row:=⟨h.os,h.tape,h.output,h.size,fun k hk _=>h.block k hk⟩
end
end Go.Proofs.YtoeocodfndbebaaGreatDoor
