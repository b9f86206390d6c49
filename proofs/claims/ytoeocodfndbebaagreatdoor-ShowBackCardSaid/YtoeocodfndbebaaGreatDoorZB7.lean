/- Shared texts, shaken for one claim. -/
import Derived.Test.YtoeocodfndbebaaGreatDoorChecked
import Derived.Deep.MidRow
import Derived.Test.YtoeocodfndbebaaGreatDoorZB1
import Derived.Test.YtoeocodfndbebaaGreatDoorZB2
import Derived.Test.YtoeocodfndbebaaGreatDoorZB4
import Derived.Test.YtoeocodfndbebaaGreatDoorZB6
set_option maxRecDepth 20000
set_option maxHeartbeats 16000000
namespace Go.Proofs.YtoeocodfndbebaaGreatDoor
section
structure Tok where
 k:Int
 c:Int
 lo:Int
 hi:Int
 pos:Int
@[reducible] def Tok.arr (t:Tok):Array Value:=#[.int .i64 t.k,.int .i64 t.c,.int .i64 t.lo,.int .i64 t.hi,.int .i64 t.pos]
def tokCells (T:List Tok):List Value:=T.flatMap (fun t=>t.arr.toList)
abbrev Wr (α:Type):=Except (Nat×Int) α
def signI (c:Int):Bool:=decide (c=36) || (decide (40≤c) && decide (c≤43)) || (decide (45≤c) && decide (c≤47)) || decide (c=63) || (decide (91≤c) && decide (c≤94)) || (decide (123≤c) && decide (c≤125))
def escI (c:Int):Option (Int×Bool) :=
 if c=110 then some (10,false) else if c=116 then some (9,false)
 else if c=100∨c=119∨c=115∨c=68∨c=87∨c=83 then some (c,true)
 else if signI c=true then some (c,false) else none
def isDig (d:Int):Bool:=decide (48≤d) && decide (d≤57)
def chT (c:Int):Tok:=⟨1,c,0,0,0⟩
def nxT (l:List Int) (k:Nat):Wr (Int×Nat):=match l[k]? with
 | some c=>.ok (c,k+1)
 | none=>.error (k,4)
def escT (l:List Int) (fr k:Nat):Wr (Tok×Nat):=match nxT l k with
 | .error e=>.error e
 | .ok (c,k')=>match escI c with
  | none=>.error (fr,6)
  | some (x,true)=>.ok (⟨12,x,0,0,0⟩,k')
  | some (x,false)=>.ok (chT x,k')
def itemT (l:List Int) (k:Nat):Wr (Tok×Nat):=match nxT l k with
 | .error e=>.error e
 | .ok (c,k')=>if c=92 then escT l k k' else .ok (chT c,k')
def upT (l:List Int) (low:Int) (fr k:Nat):Wr (Tok×Nat):=match itemT l k with
 | .error e=>.error e
 | .ok (t,k')=>if t.k=12 then .error (k,7) else if t.c < low then .error (fr,7) else .ok (⟨9,0,low,t.c,0⟩,k')
def claT (l:List Int) (k:Nat):Tok×Nat:=if l[k]?=some 94 then (⟨7,1,0,0,0⟩,k+1) else (⟨7,0,0,0,0⟩,k)
def digT (l:List Int) (k:Nat):List Int:=(l.drop k).takeWhile isDig
def numF (n d:Int):Int:=min (10 * n+d - 48) 21
def numT (D:List Int):Int:=if D=[] then -1 else if D[0]?=some 48∧1 < D.length then 21 else D.foldl numF 0
def badB (c a b:Int):Bool:=c != 125 || decide (a < 0) || decide (20 < max a b) || (decide (0≤b) && decide (b < a))
def shutT (fr:Nat) (a b c:Int) (k:Nat):Wr (Tok×Nat):=if badB c a b=true then .error (fr,8) else .ok (⟨6,0,a,b,0⟩,k)
def braT (l:List Int) (fr k:Nat):Wr (Tok×Nat):=match nxT l (k+(digT l k).length) with
 | .error e=>.error e
 | .ok (c,k2)=>if c=44∧digT l k≠[] then (match nxT l (k2+(digT l k2).length) with
  | .error e=>.error e
  | .ok (c',k3)=>shutT fr (numT (digT l k)) (numT (digT l k2)) c' k3) else shutT fr (numT (digT l k)) (numT (digT l k)) c k2
def repT (r:Bool) (c:Int):Tok:=if c=63∧r=true then ⟨13,0,0,0,0⟩ else if c=63 then ⟨6,0,0,1,0⟩ else if c=42 then ⟨6,0,0,-1,0⟩ else ⟨6,0,1,-1,0⟩
def aloT (c:Int):Tok:=if c=46 then ⟨2,0,0,0,0⟩ else if c=40 then ⟨3,0,0,0,0⟩ else if c=41 then ⟨4,0,0,0,0⟩ else if c=124 then ⟨5,0,0,0,0⟩ else if c=94 then ⟨10,0,0,0,0⟩ else if c=36 then ⟨11,0,0,0,0⟩ else chT c
def plT (fr:Nat):Wr (Tok×Nat)→Wr (Tok×Nat)
 | .error e=>.error e
 | .ok (t,k)=>.ok (⟨t.k,t.c,t.lo,t.hi,(fr:Int)⟩,k)
def outB (l:List Int) (r:Bool) (k:Nat):Wr (Tok×Nat):=match nxT l k with
 | .error e=>.error e
 | .ok (c,k')=>if c=63∨c=42∨c=43 then .ok (repT r c,k') else if c=123 then braT l k k' else if c=91 then .ok (claT l k') else if c=92 then escT l k k' else .ok (aloT c,k')
def outT (l:List Int) (r:Bool) (k:Nat):Wr (Tok×Nat):=plT k (outB l r k)
def inB (l:List Int) (k:Nat):Wr (Tok×Nat):=if l[k]?=some 93 then .ok (⟨8,0,0,0,0⟩,k+1) else match itemT l k with
 | .error e=>.error e
 | .ok (t,k')=>if t.k=1∧l[k']?=some 45∧¬ l[k'+1]?=some 93 then upT l t.c k (k'+1) else .ok (t,k')
def inT (l:List Int) (k:Nat):Wr (Tok×Nat):=plT k (inB l k)
def lastR (T:List Tok):Bool:=match T.getLast? with
 | some t=>t.k == 6
 | none=>false
def readT (l:List Int):Nat→Bool→Nat→List Tok→Wr (List Tok)
 | 0,_,_,T=>.ok T
 | n+1,cls,k,T=>if cls=false∧k=l.length then .ok T else match (if cls=true then inT l k else outT l (lastR T) k) with
  | .error e=>.error e
  | .ok (t,k')=>readT l n (if cls=true then t.k != 8 else t.k == 7) k' (T++[t])
def ofT (l:List Int):Wr (List Tok):=if 200 < l.length then .error (0,10) else readT l (l.length+1) false 0 []
/-! what is read lies ahead -/
theorem nxT_ok {l:List Int} {k:Nat} {c:Int} {k':Nat} (h:nxT l k=.ok (c,k')):k'=k+1∧∃ hk:k < l.length,l[k]=c:=by
 unfold nxT at h
 split at h
 ·rename_i x hx
  injection h with h
  injection h with h1 h2
  obtain ⟨hk,e⟩:=List.getElem?_eq_some_iff.1 hx
  exact ⟨h2.symm,hk,by rw [e,h1]⟩
 ·cases h
theorem nxT_at {l:List Int} {k:Nat} (h:k < l.length):nxT l k=.ok (l[k],k+1):=by
 unfold nxT;rw [List.getElem?_eq_getElem h]
theorem nxT_end {l:List Int} {k:Nat} (h:l.length≤k):nxT l k=.error (k,4):=by
 unfold nxT;rw [List.getElem?_eq_none h]
theorem escT_ok {l:List Int} {fr k:Nat} {t:Tok} {k':Nat} (h:escT l fr k=.ok (t,k')):k'=k+1∧k < l.length:=by
 unfold escT at h
 split at h
 ·cases h
 ·rename_i c k2 hn
  obtain ⟨rfl,hk,_⟩:=nxT_ok hn
  split at h
  ·cases h
  ·injection h with h;injection h with _ h;exact ⟨h.symm,hk⟩
  ·injection h with h;injection h with _ h;exact ⟨h.symm,hk⟩
theorem itemT_ok {l:List Int} {k:Nat} {t:Tok} {k':Nat} (h:itemT l k=.ok (t,k')):k < k'∧k'≤l.length:=by
 unfold itemT at h
 split at h
 ·cases h
 ·rename_i c k2 hn
  obtain ⟨rfl,hk,_⟩:=nxT_ok hn
  split at h
  ·obtain ⟨rfl,h2⟩:=escT_ok h;omega
  ·injection h with h;injection h with _ h;omega
theorem upT_ok {l:List Int} {low:Int} {fr k:Nat} {t:Tok} {k':Nat} (h:upT l low fr k=.ok (t,k')):k < k'∧k'≤l.length:=by
 unfold upT at h
 split at h
 ·cases h
 ·rename_i c k2 hn
  have:=itemT_ok hn
  split at h
  ·cases h
  ·split at h
   ·cases h
   ·injection h with h;injection h with _ h;omega
theorem shutT_ok {fr:Nat} {a b c:Int} {k:Nat} {t:Tok} {k':Nat} (h:shutT fr a b c k=.ok (t,k')):k'=k:=by
 unfold shutT at h
 split at h
 ·cases h
 ·injection h with h;injection h with _ h;exact h.symm
theorem braT_ok {l:List Int} {fr k:Nat} {t:Tok} {k':Nat} (h:braT l fr k=.ok (t,k')):k < k'∧k'≤l.length:=by
 unfold braT at h
 split at h
 ·cases h
 ·rename_i c k2 hn
  obtain ⟨rfl,hk,_⟩:=nxT_ok hn
  split at h
  ·split at h
   ·cases h
   ·rename_i c' k3 hn'
    obtain ⟨rfl,hk',_⟩:=nxT_ok hn'
    have:=shutT_ok h;omega
  ·have:=shutT_ok h;omega
theorem claT_le {l:List Int} {k:Nat} (h:k≤l.length):k≤(claT l k).2∧(claT l k).2≤l.length:=by
 unfold claT
 split
 ·rename_i h1
  have:=(List.getElem?_eq_some_iff.1 h1).1
  simp only;omega
 ·simp only;omega
theorem plT_ok {fr:Nat} {r:Wr (Tok×Nat)} {t:Tok} {k':Nat} (h:plT fr r=.ok (t,k')):∃ t',r=.ok (t',k')∧t=⟨t'.k,t'.c,t'.lo,t'.hi,(fr:Int)⟩:=by
 unfold plT at h
 split at h
 ·cases h
 ·rename_i t' k2
  injection h with h
  injection h with h1 h2
  subst h2
  exact ⟨t',rfl,h1.symm⟩
theorem outB_ok {l:List Int} {r:Bool} {k:Nat} {t:Tok} {k':Nat} (h:outB l r k=.ok (t,k')):k < k'∧k'≤l.length:=by
 unfold outB at h
 split at h
 ·cases h
 ·rename_i c k2 hn
  obtain ⟨rfl,hk,_⟩:=nxT_ok hn
  split at h
  ·injection h with h;injection h with _ h;omega
  ·split at h
   ·have:=braT_ok h;omega
   ·split at h
    ·injection h with h
     have h1:=claT_le (l:=l) (k:=k+1) (by omega)
     rw [h] at h1
     simp only at h1;omega
    ·split at h
     ·have:=escT_ok h;omega
     ·injection h with h;injection h with _ h;omega
theorem outT_ok {l:List Int} {r:Bool} {k:Nat} {t:Tok} {k':Nat} (h:outT l r k=.ok (t,k')):k < k'∧k'≤l.length∧t.pos=(k:Int):=by
 obtain ⟨t',hb,rfl⟩:=plT_ok h
 exact ⟨(outB_ok hb).1,(outB_ok hb).2,rfl⟩
theorem inB_ok {l:List Int} {k:Nat} {t:Tok} {k':Nat} (h:inB l k=.ok (t,k')):k < k'∧k'≤l.length:=by
 unfold inB at h
 split at h
 ·rename_i h1
  have:=(List.getElem?_eq_some_iff.1 h1).1
  injection h with h;injection h with _ h;omega
 ·split at h
  ·cases h
  ·rename_i t2 k2 hn
   have h1:=itemT_ok hn
   split at h
   ·have:=upT_ok h;omega
   ·injection h with h;injection h with _ h;omega
theorem inT_ok {l:List Int} {k:Nat} {t:Tok} {k':Nat} (h:inT l k=.ok (t,k')):k < k'∧k'≤l.length∧t.pos=(k:Int):=by
 obtain ⟨t',hb,rfl⟩:=plT_ok h
 exact ⟨(inB_ok hb).1,(inB_ok hb).2,rfl⟩
theorem nxT_no {l:List Int} {k:Nat} {e:Nat×Int} (h:nxT l k=.error e):l.length≤k∧e=(k,4):=by
 unfold nxT at h
 split at h
 ·cases h
 ·rename_i hx
  injection h with h
  exact ⟨List.getElem?_eq_none_iff.1 hx,h.symm⟩
end
section
def flag1 (f:Int):Bool:=bits .and .i64 f 1 == 1
def flag2 (f:Int):Bool:=bits .and .i64 f 2 == 2
def pairUp:List Int→List (Int×Int)
 | a :: b :: r=>(a,b) :: pairUp r
 | _=>[]
def groupL (c:Int):List Int :=
 if c=100∨c=68 then [48,57]
 else if c=115∨c=83 then [9,13,32,32,133,133,160,160,8232,8233]
 else [48,57,65,90,95,95,97,122,192,214,216,246,248,591,880,1023,1024,1279,1488,1514,1568,1610,1632,1641]
def groupR (c:Int):List (Int×Int):=pairUp (groupL c)
def partR (f:Int) (t:Tok):List (Int×Int) :=
 if t.k=9 then behR (flag1 f) (flag2 f) [(t.lo,t.hi)]
 else if t.k=1 then behR (flag1 f) (flag2 f) [(t.c,t.c)]
 else if ([68,83,87]:List Int).contains t.c=true then setP fun c=>!hasR (behR (flag1 f) (flag2 f) (groupR t.c)) c
 else behR (flag1 f) (flag2 f) (groupR t.c)
def flag4 (f:Int):Bool:=bits .and .i64 f 4 != 0
def dotR (f:Int):List (Int×Int):=setP fun c=>!hasR (if flag4 f=true then [] else [(10,10)]) c
def classL (f:Int):List Tok→Option (List (Int×Int)×List Tok)
 | []=>none
 | t :: T=>if t.k=8 then some ([],T) else match classL f T with
  | none=>none
  | some (rs,R)=>some (partR f t++rs,R)
def classR (round:Bool) (rs:List (Int×Int)):List (Int×Int):=if round=true then setP fun c=>!hasR (setP (hasR rs)) c else setP (hasR rs)
theorem classL_shr {f:Int}:∀ {T:List Tok} {rs:List (Int×Int)} {R:List Tok},classL f T=some (rs,R)→R.length < T.length
 | [],_,_,h=>by cases h
 | t :: T,rs,R,h=>by
  rw [classL] at h
  by_cases h8:t.k=8
  ·rw [if_pos h8] at h
   injection h with h
   injection h with h1 h2
   subst h2
   simp
  ·rw [if_neg h8] at h
   rcases hc:classL f T with _ | ⟨rs',R'⟩
   ·rw [hc] at h;cases h
   ·rw [hc] at h
    injection h with h
    injection h with h1 h2
    subst h2
    have:=classL_shr hc
    simp;omega
def setT (f:Int) (t:Tok) (R:List Tok):Option (List (Int×Int)×List Tok) :=
 if t.k=2 then some (dotR f,R)
 else if t.k=7 then (match classL f R with
  | none=>none
  | some (rs,R')=>some (classR (t.c == 1) rs,R'))
 else some (partR f t,R)
end
section
inductive Nd where
 | mk (k lo hi:Int) (rs:List (Int×Int)) (ks:List Nd)
def timesI (k lo hi:Int):Int:=if k=5 then (if hi < 0 then max (IntKind.i64.wrap (min lo 1000000+1)) 1 else max hi 1) else 1
def finI (s t:Int):Int:=if 1000000≤s then 1000000 else min (1+s * min t 1000000) 1000000
mutual
def sizeI:Nd→Int
 | .mk k lo hi _ ks=>finI (sumI ks) (timesI k lo hi)
def sumI:List Nd→Int
 | []=>0
 | n :: ns=>sizeI n+sumI ns
end
theorem times_pos (k lo hi:Int):1≤timesI k lo hi:=by
 unfold timesI;split
 ·split <;> omega
 ·omega
theorem finI_in {s t:Int} (hs:0≤s) (ht:1≤t):1≤finI s t∧finI s t≤1000000:=by
 have:0≤s * min t 1000000:=Int.mul_nonneg hs (by omega)
 unfold finI;split <;> omega
mutual
theorem sizeI_in:∀ n,1≤sizeI n∧sizeI n≤1000000
 | .mk k lo hi _ ks=>by
  unfold sizeI
  exact finI_in (sumI_nn ks) (times_pos k lo hi)
theorem sumI_nn:∀ ns,0≤sumI ns
 | []=>by unfold sumI;omega
 | n :: ns=>by
  have h1:=sizeI_in n
  have h2:=sumI_nn ns
  unfold sumI;omega
end
theorem sumI_append:∀ a b:List Nd,sumI (a++b)=sumI a+sumI b
 | [],b=>by rw [List.nil_append];show sumI b=sumI []+sumI b;rw [sumI];omega
 | n :: a,b=>by rw [List.cons_append,sumI,sumI_append a b,sumI];omega
theorem sumI_next {ks:List Nd} {k:Nat} (h:k < ks.length):sumI (ks.take (k+1))=sumI (ks.take k)+sizeI ks[k]:=by
 rw [List.take_succ_eq_append_getElem h,sumI_append,sumI,sumI];omega
theorem sumI_le {ks:List Nd} (k:Nat):sumI (ks.take k)≤sumI ks:=by
 have h:=sumI_append (ks.take k) (ks.drop k)
 rw [List.take_append_drop] at h
 have:=sumI_nn (ks.drop k)
 omega
/-! how tokens are read -/
def kindIs (T:List Tok) (ks:List Int):Bool:=match T with
 | []=>false
 | t :: _=>ks.contains t.k
def dropIs (T:List Tok) (ks:List Int):List Tok:=if kindIs T ks=true then T.tail else T
abbrev PR:=Option (Nd×List Tok)
def oneT (pat:List Tok→PR) (f:Int):List Tok→PR
 | []=>none
 | t :: R=>if t.k=3 then (match pat R with
  | none=>none
  | some (n,R')=>some (n,dropIs R' [4]))
  else if t.k=10 then some (.mk 6 0 0 [] [],R)
  else if t.k=11 then some (.mk 7 0 0 [] [],R)
  else match setT f t R with
   | none=>none
   | some (rs,R')=>some (.mk 2 0 0 rs [],R')
def lazyT (n:Nd) (R:List Tok):Nd×List Tok:=(n,dropIs R [13])
def rpT (pat:List Tok→PR) (f:Int) (T:List Tok):PR:=match oneT pat f T with
 | none=>none
 | some (n,R)=>match R with
  | []=>some (n,[])
  | t :: R'=>if t.k=6 then some (lazyT (.mk 5 t.lo t.hi [] [n]) R') else some (lazyT n (t :: R'))
def joinL (pat:List Tok→PR) (f:Int):Nat→List Tok→Option (List Nd×List Tok)
 | 0,_=>none
 | k+1,T=>if T=[]∨kindIs T [5,4]=true then some ([],T) else match rpT pat f T with
  | none=>none
  | some (n,R)=>match joinL pat f k R with
   | none=>none
   | some (ns,R')=>some (n :: ns,R')
def togT (kind:Int):List Nd→Nd
 | []=>.mk 1 0 0 [] []
 | [n]=>n
 | n :: m :: ns=>.mk kind 0 0 [] (n :: m :: ns)
def joinT (pat:List Tok→PR) (f:Int) (k:Nat) (T:List Tok):PR:=match joinL pat f k T with
 | none=>none
 | some (ns,R)=>some (togT 3 ns,R)
def orL (pat:List Tok→PR) (f:Int) (q:Nat):Nat→List Tok→Option (List Nd×List Tok)
 | 0,_=>none
 | k+1,T=>if kindIs T [5]=true then (match joinT pat f q T.tail with
  | none=>none
  | some (n,R)=>match orL pat f q k R with
   | none=>none
   | some (ns,R')=>some (n :: ns,R')) else some ([],T)
def patT (f:Int) (q:Nat):Nat→List Tok→PR
 | 0,_=>none
 | d+1,T=>match joinT (patT f q d) f q T with
  | none=>none
  | some (n,R)=>match orL (patT f q d) f q q R with
   | none=>none
   | some (ns,R')=>some (togT 4 (n :: ns),R')
/-! where tokens are wrong -/
def faultT (e:Nat):List Tok→Nat→Int→Int×Int
 | [],o,_=>if 0 < o then ((e:Int),4) else (0,0)
 | t :: T,o,a=>if t.k=4∧o=0 then (t.pos,5)
  else if t.k=6∧[3,5,6,13].contains a=true then (t.pos,5)
  else if t.k=3∧o=20 then (t.pos,9)
  else if t.k=3 then faultT e T (o+1) t.k
  else if t.k=4 then faultT e T (o - 1) t.k
  else faultT e T o t.k
end
section
mutual
def dSize:Nd→Int
 | .mk k lo hi _ ks=>dSizeL (min (timesI k lo hi) 1000000) 1 ks
def dSizeL (t s:Int):List Nd→Int
 | []=>s
 | n :: ns=>dSizeL t (min 1000000 (s+t * dSize n)) ns
end
theorem dSize_step {a b t x y:Int} (ht:1≤t) (_:0≤x) (hy:0≤y) (ha:a=min 1000000 (b+t * x)):min 1000000 (a+t * y)=min 1000000 (b+t * (x+y)):=by
 have h1:0≤t * y:=Int.mul_nonneg (by omega) hy
 rw [Int.mul_add]
 omega
mutual
theorem dSize_is:∀ n,dSize n=sizeI n
 | .mk k lo hi rs ks=>by
  have ht:=times_pos k lo hi
  have hs:=sumI_nn ks
  rw [dSize,sizeI,dSizeL_is ks (by omega) (by omega) (by omega)]
  unfold finI
  obtain ⟨t,hT⟩:∃ t,min (timesI k lo hi) 1000000=t:=⟨_,rfl⟩
  have ht1:1≤t:=by omega
  rw [hT]
  have h2:sumI ks≤t * sumI ks:=by
   have:=Int.mul_le_mul_of_nonneg_right (show (1:Int)≤t by omega) hs
   omega
  have h3:sumI ks * t=t * sumI ks:=Int.mul_comm _ _
  split
  ·omega
  ·omega
theorem dSizeL_is:∀ (ks:List Nd) {t s:Int},1≤t→1≤s→s≤1000000→dSizeL t s ks=min 1000000 (s+t * sumI ks)
 | [],t,s,ht,h1,h2=>by
  rw [dSizeL,sumI,Int.mul_zero];omega
 | n :: ns,t,s,ht,h1,h2=>by
  have hn:=sizeI_in n
  have h3:0≤t * sizeI n:=Int.mul_nonneg (by omega) (by omega)
  rw [dSizeL,dSize_is n,dSizeL_is ns ht (by omega) (by omega),sumI]
  exact dSize_step ht (by omega) (sumI_nn ns) rfl
end
end
section
def kindN:Nd→Int
 | .mk k _ _ _ _=>k
def nodeI:Nd→Bool
 | .mk k lo hi rs ks=>!((k != 2 && decide (0 < rs.length)) || (k != 5 && (lo != 0 || hi != 0))) &&
  (if k=1∨k=6∨k=7 then ks.length == 0
   else if k=2 then ks.length == 0 && decide (setR rs=rs)
   else if k=3∨k=4 then decide (2≤ks.length)
   else if k=5 then ks.length == 1 && decide (0≤lo) && decide (lo≤20) && (hi == -1 || (decide (lo≤hi) && decide (hi≤20)))
   else false)
mutual
def cntN:Nd→Nat
 | .mk _ _ _ _ ks=>1+cntL ks
def cntL:List Nd→Nat
 | []=>0
 | n :: ns=>cntN n+cntL ns
end
mutual
def rngN:Nd→Nat
 | .mk _ _ _ rs ks=>rs.length+rngL ks
def rngL:List Nd→Nat
 | []=>0
 | n :: ns=>rngN n+rngL ns
end
mutual
def deepN:Nd→Nat
 | .mk _ _ _ _ ks=>deepL ks+1
def deepL:List Nd→Nat
 | []=>0
 | n :: ns=>max (deepN n) (deepL ns)
end
mutual
def allN:Nd→Bool
 | .mk k lo hi rs ks=>nodeI (.mk k lo hi rs ks) && allL ks
def allL:List Nd→Bool
 | []=>true
 | n :: ns=>allN n && allL ns
end
def rightN (n:Nd):Bool:=decide (cntN n≤400) && decide (rngN n≤400) && decide (deepN n≤100) && allN n
def digI (n:Nat):List Int:=if n < 10 then [48+(n:Int)] else digI (n / 10)++[48+((n % 10:Nat):Int)]
termination_by n
def quoC (c:Int):List Int:=if signI c=true then [92,c] else [c]
def itemsI:List (Int×Int)→List Int
 | []=>[]
 | r :: rs=>quoC r.1++(if r.2≠r.1 then 45 :: quoC r.2 else [])++itemsI rs
def setI (rs:List (Int×Int)):List Int:=match rs with
 | [r]=>if r.1=r.2 then quoC r.1 else 91 :: (itemsI [r]++[93])
 | rs=>91 :: (itemsI rs++[93])
def timesT (lo hi:Int):List Int :=
 if lo=0∧hi=1 then [63] else if lo=0∧hi=-1 then [42] else if lo=1∧hi=-1 then [43]
 else 123 :: (digI lo.toNat++(if hi≠lo then 44 :: (if 0≤hi then digI hi.toNat else []) else [])++[125])
def inBr (b:Bool) (x:List Int):List Int:=if b=true then 40 :: (x++[41]) else x
mutual
def textN:Nd→List Int
 | .mk k lo hi rs ks=>if k=1 then [40,41] else if k=6 then [94] else if k=7 then [36] else if k=2 then setI rs
  else if k=3 then joinTx [3,4] ks else if k=4 then orTx ks else (match ks with
   | []=>[]
   | n :: _=>inBr (([3,4,5]:List Int).contains (kindN n)) (textN n))++timesT lo hi
def joinTx (l:List Int):List Nd→List Int
 | []=>[]
 | n :: ns=>inBr (l.contains (kindN n)) (textN n)++joinTx l ns
def orTx:List Nd→List Int
 | []=>[]
 | n :: ns=>inBr (kindN n == 4) (textN n)++(match ns with
  | []=>[]
  | _ :: _=>124 :: orTx ns)
end
end
section
open Go.RowKit
theorem grown_of_below {w w':World} (h:Below w.heap.size w w') (row:Option Nat):w.grownBy w' row:=⟨h.os,h.tape,h.output,h.size,fun k hk _=>h.block k hk⟩
end
section
open Go.RowKit Reckon
def Box (w:World) (g:Nat) (cs:Array Value) (e:TypeId):Prop:=w.heap[g]?=some (.cells cs e)
section
variable {w w':World} {g:Nat} {cs:Array Value} {e:TypeId}
theorem Box.lt (h:Box w g cs e):g < w.heap.size:=(Array.getElem?_eq_some_iff.1 h).1
theorem Box.new (w:World) (cs:Array Value) (e:TypeId):Box (w.alloc (.cells cs e)) w.heap.size cs e:=heap_alloc_new w _
theorem Box.cell (h:Box w g cs e) {i:Nat} {u:Value} (hi:cs[i]?=some u):w.cell? ⟨g,i,none⟩=some u:=by simp [World.cell?,show w.heap[g]?=_ from h,hi]
theorem Box.frozen (h:Box w g cs e) (i:Nat):w.frozen? ⟨g,i,none⟩=false:=by simp [World.frozen?,show w.heap[g]?=_ from h]
theorem Box.kept (h:Box w g cs e) {row:Option Nat} (hg:w.grownBy w' row) (hne:row≠some g):Box w' g cs e:=(hg.block g h.lt (fun e=>hne e.symm)).trans h
theorem Box.below (h:Box w g cs e) {B:Nat} (hb:Below B w w') (hB:g < B):Box w' g cs e:=(hb.block g hB).trans h
theorem Box.same (h:Box w g cs e) (hh:w'.heap=w.heap):Box w' g cs e:=by unfold Box;rw [hh];exact h
theorem Box.set (h:Box w g cs e) (i:Nat) (u:Value):Box (w.setCell ⟨g,i,none⟩ u) g (cs.setIfInBounds i u) e:=by
 show (w.setCell ⟨g,i,none⟩ u).heap[g]?=_
 simp [World.setCell,Array.getElem?_modify,show w.heap[g]?=_ from h]
end
theorem grown_set (w:World) (g i:Nat) (u:Value):w.grownBy (w.setCell ⟨g,i,none⟩ u) (some g) :=
 ⟨rfl,rfl,rfl,by simp [World.setCell],fun k hk hne=>Below.heap_setCell _ _ _ _ (fun e=>hne (by rw [e]))⟩
theorem grown_new (w:World) (o:Obj) (row:Option Nat):w.grownBy (w.alloc o) row:=World.grownBy_alloc w o row
theorem grown_draw {a w:World} {row:Option Nat} (h:a.grownBy w row):a.grownBy w.drew row:=⟨h.os,h.tape,h.output,h.size,h.block⟩
theorem grown_draws {a w:World} {row:Option Nat} (h:a.grownBy w row) (n:Nat):a.grownBy (w.drewN n) row:=⟨h.os,h.tape,h.output,h.size,h.block⟩
theorem grown_refl (w:World) (row:Option Nat):w.grownBy w row:=World.grownBy.refl w row
theorem below_row {B b:Nat} {w w':World} (h:w.grownBy w' (some b)) (hB:B≤b) (hw:B≤w.heap.size):Below B w w':=(Below.refl B w).grown h hw (fun k hk=>by injection hk with hk;omega)
theorem below_row_none {B:Nat} {w w':World} (h:w.grownBy w' none) (hw:B≤w.heap.size):Below B w w':=(Below.refl B w).grown h hw (fun k hk=>by cases hk)
theorem setCells_box (b:Nat):∀ (vs:List Value) (o:Nat) (w:World) (cs:Array Value) (e:TypeId),Box w b cs e→o+vs.length=cs.size→Box (w.setCells b o vs) b (cs.toList.take o++vs).toArray e∧w.grownBy (w.setCells b o vs) (some b)
 | [],o,w,cs,e,h,hn=>⟨by rw [List.append_nil,List.take_of_length_le (by simp at hn ⊢;omega)];exact h,grown_refl _ _⟩
 | v :: r,o,w,cs,e,h,hn=>by
  rw [World.setCells]
  have ho:o < cs.size:=by simp at hn;omega
  obtain ⟨h1,h2⟩:=setCells_box b r (o+1) _ _ e (h.set o v) (by simp at hn ⊢;omega)
  refine ⟨?_,(grown_set w b o v).trans h2⟩
  have e1:(cs.setIfInBounds o v).toList.take (o+1)=cs.toList.take o++[v]:=by
   rw [Array.toList_setIfInBounds,List.take_succ_eq_append_getElem (by simpa using ho),List.getElem_set_self,List.take_set_of_le (Nat.le_refl _)]
  rw [e1,List.append_assoc,List.singleton_append] at h1
  exact h1
section
variable {P:Program} {ops:Array Oper} {rest:List Oper} {o:Oper} {a:Act} {Q:Exit→Act→World→Prop}
theorem store_box {ty e:TypeId} (W:World) (x y:Operand) (g:Nat) (cs vs:Array Value)
 (hgd:o.guard=none) (hd:o.dst=none) (ho:o.op=.store ty x y) (hx:a.eval x=.pointer (some ⟨g,0,none⟩)) (hy:a.eval y=.agg vs) (hb:Box W g cs e) (hs:vs.size=cs.size)
 (hi:(P.info? ty).map (·.size)=some vs.size) (h1:vs.all (·.oneCell')=true)
 (h:∀ w',Box w' g vs e→W.grownBy w' (some g)→wpList P ops Q rest a w'):wpList P ops Q (o :: rest) a W:=by
 refine wpList_store_mid hgd ty x y ho g 0 vs hx hy (fun j hj=>?_) hi h1 ?_
 ·rw [Nat.zero_add]
  exact ⟨by rw [hb.cell (Array.getElem?_eq_getElem (show j < cs.size by omega))];rfl,hb.frozen j⟩
 ·obtain ⟨h2,h3⟩:=setCells_box g vs.toList 0 W cs e hb (by simp [hs])
  simp only [List.take_zero,List.nil_append,Array.toArray_toList] at h2
  have ha:a.put o.dst undef=a:=by rw [hd];rfl
  rw [ha]
  exact h _ h2 h3
theorem load_box {ty e:TypeId} {W:World} (x:Operand) (g:Nat) (cs:Array Value) (d:TypeDesc)
 (hgd:o.guard=none) (ho:o.op=.load ty x) (hx:a.eval x=.pointer (some ⟨g,0,none⟩)) (hb:Box W g cs e)
 (hu:P.underlying ty=some d) (hd:(match d with | .struct _ | .array _ _=>true | _=>false)=true) (hi:(P.info? ty).map (·.size)=some cs.size)
 (h:wpList P ops Q rest (a.put o.dst (.agg cs)) W):wpList P ops Q (o :: rest) a W :=
 wpList_load_row hgd ty x ho g hx e cs _ d hb hu hd hi h
end
/-! the reader -/
structure IsR (w:World) (b:Nat) (A:Option Addr) (l:List Int) (c k:Nat) (tv:Value) (T:List Tok):Prop where
 box:Box w b #[.slice A l.length c,.int .i64 k,tv] 114
 toks:OwnN w b 56 5 tv T.length (tokCells T)
 lies:Lies w b A (ints .i64 l)
 le:k≤l.length
 cap:l.length≤c
section
variable {w w':World} {b c k:Nat} {A:Option Addr} {l:List Int} {tv:Value} {T:List Tok}
theorem IsR.far (h:IsR w b A l c k tv T):tv.ownBlock≠some b:=fun e=>by
 rcases h.toks.2 with ⟨rfl,_⟩ | ⟨g,cap,cur,rfl,_,hh,_⟩
 ·cases e
 ·have:g=b:=by simpa [Value.ownBlock] using e
  subst this
  have hb:=h.box
  unfold Box at hb
  rw [hb] at hh
  injection hh with h1
  injection h1 with _ h2 _
  exact absurd h2 (by decide)
theorem IsR.lt (h:IsR w b A l c k tv T):b < w.heap.size:=h.box.lt
theorem IsR.kept (h:IsR w b A l c k tv T) {row:Option Nat} (hg:w.grownBy w' row) (h1:row≠some b) (h2:∀ g,row=some g→b≤g) (h3:tv.ownBlock=none∨tv.ownBlock≠row):IsR w' b A l c k tv T :=
 ⟨h.box.kept hg h1,h.toks.keep hg h3,h.lies.same (fun q hq=>World.cell?_of_block (hg.block q.block (by have:=h.lt;omega) (fun e=>by have:=h2 _ e.symm;omega))),h.le,h.cap⟩
theorem IsR.grown (h:IsR w b A l c k tv T) (hg:w.grownBy w' none):IsR w' b A l c k tv T:=h.kept hg (by simp) (fun g e=>by cases e) (by cases tv.ownBlock <;> simp)
theorem IsR.alloc (h:IsR w b A l c k tv T) (o:Obj):IsR (w.alloc o) b A l c k tv T:=h.grown (grown_new w o none)
theorem IsR.drew (h:IsR w b A l c k tv T):IsR w.drew b A l c k tv T:=h.grown (grown_draw (grown_refl w none))
theorem IsR.drewN (h:IsR w b A l c k tv T) (n:Nat):IsR (w.drewN n) b A l c k tv T:=h.grown (grown_draws (grown_refl w none) n)
theorem IsR.cells (h:IsR w b A l c k tv T):w.cell? ⟨b,0,none⟩=some (.slice A l.length c)∧w.cell? ⟨b,1,none⟩=some (.int .i64 k)∧w.cell? ⟨b,2,none⟩=some tv :=
 ⟨h.box.cell rfl,h.box.cell rfl,h.box.cell rfl⟩
theorem IsR.frozen (h:IsR w b A l c k tv T) (i:Nat):w.frozen? ⟨b,i,none⟩=false:=h.box.frozen i
theorem IsR.goes (h:IsR w b A l c k tv T) (k':Nat) (hk:k'≤l.length):IsR (w.setCell ⟨b,1,none⟩ (.int .i64 k')) b A l c k' tv T :=
 ⟨h.box.set 1 _,h.toks.keep (grown_set w b 1 _) (.inr h.far),h.lies.same (fun q hq=>World.cell?_of_block ((grown_set w b 1 _).block q.block (by have:=h.lt;omega) (fun e=>by injection e with e;omega))),hk,h.cap⟩
theorem IsR.char (h:IsR w b A l c k tv T) {i:Nat} (hi:i < l.length):∃ p:Addr,A=some p∧p.block < b∧w.cell? (p.add i)=some (.int .i64 l[i]):=h.lies.int hi
end
def Told (w:World) (b:Nat) (A:Option Addr) (l:List Int) (c:Nat) (tv:Value) (T:List Tok) {α:Type} (f:α→Value) (r:Wr (α×Nat)) (ed:Ending) (w':World):Prop:=match r with
 | .ok (v,k')=>ed=.returned (f v)∧IsR w' b A l c k' tv T∧w.grownBy w' (some b)
 | .error (n,x)=>ed=.panicked [{ v:=.iface 86 (.agg #[.int .i64 n,.int .i64 x]),recovered:=false }]∧w.grownBy w' (some b)
theorem tok_one (t:Tok):t.arr.all (·.oneCell')=true:=by simp [Tok.arr,Value.oneCell']
theorem tokInfo (t:Tok):(Tryz.prog.info? 56).map (·.size)=some t.arr.size:=by kernel_rfl
theorem store_tok {ops:Array Oper} {rest:List Oper} {o:Oper} {a:Act} {Q:Exit→Act→World→Prop} (W:World) (x y:Operand) (g:Nat) (s t:Tok)
 (hgd:o.guard=none) (hd:o.dst=none) (ho:o.op=.store 56 x y) (hx:a.eval x=.pointer (some ⟨g,0,none⟩)) (hy:a.eval y=.agg t.arr) (hb:Box W g s.arr 56)
 (h:∀ w',Box w' g t.arr 56→W.grownBy w' (some g)→wpList Tryz.prog ops Q rest a w'):wpList Tryz.prog ops Q (o :: rest) a W :=
 store_box W x y g s.arr t.arr hgd hd ho hx hy hb rfl (tokInfo t) (tok_one t) h
def noTok:Tok:=⟨0,0,0,0,0⟩
theorem ret_tok {fn:Func} {p:Nat} (h:fn.results=#[.cell p 56]) (tmps:Array Value) (w:World) (g:Nat) (t:Tok) (hp:tmps.getD p undef=.pointer (some ⟨g,0,none⟩)) (hg:Box w g t.arr 56) :
 (results fn tmps).run Tryz.prog w=.ok (.agg t.arr) w :=
 results_cell_row h tmps w g 56 t.arr (0,0) _ hp hg Tryz.underlying56 rfl (tokInfo t)
theorem grown_two {a b c:World} {g:Nat} {row:Option Nat} (h:a.grownBy b row) (k:b.grownBy c (some g)) (hg:a.heap.size≤g):a.grownBy c row :=
 ⟨k.os.trans h.os,k.tape.trans h.tape,k.output.trans h.output,Nat.le_trans h.size k.size,fun i hi hr=>(k.block i (by have:=h.size;omega) (fun e=>by injection e with e;omega)).trans (h.block i hi hr)⟩
/-! what only reckons -/
theorem tkchar_any (x:Int) (w:World):Calls Tryz.prog 129 #[.int .i64 x] w fun e w'=>e=.returned (.agg (chT x).arr)∧w.grownBy w' none:=by
 go_enter Tryz.func129,Tryz.ntmps129
 go_wp2
 (try simp only [Exit.inBlock,Exit.then])
 refine bodyPost_ret (v:=.agg (chT x).arr) ?_ rfl ⟨rfl,grown_new w _ none⟩
 exact results_cell_row rfl _ _ w.heap.size 56 _ (0,0) _ rfl (Go.heap_alloc_new w _) Tryz.underlying56 rfl (by kernel_rfl)
theorem tkstep {c:Int} {a:AV} {l:List (Int×AV)} {b:Bool} (h:stepF c a l=.boo b):(stepF c a l).val c=.bool b:=by rw [h];rfl
noncomputable def signTab:List (Nat×Func):=[(89,Tryz.f89)]
theorem signTab_ok:TabOk Tryz.prog signTab:=.cons Tryz.func89 (by kernel_rfl) .nil
def signSteps:List (Int×AV):=[(36,.boo true),(37,.boo false),(40,.boo true),(41,.boo true),(42,.boo true),(43,.boo true),(44,.boo false),(45,.boo true),(46,.boo true),(47,.boo true),(48,.boo false),(63,.boo true),(64,.boo false),(91,.boo true),(92,.boo true),(93,.boo true),(94,.boo true),(95,.boo false),(123,.boo true),(124,.boo true),(125,.boo true),(126,.boo false)]
theorem sign_steps (x:Int):stepF x (.boo false) signSteps=.boo (signI x):=by
 simp only [stepF,signSteps]
 by_cases h36:x < 36
 ·rw [if_pos h36];congr 1;symm;simp [signI];omega
 rw [if_neg h36]
 by_cases h37:x < 37
 ·rw [if_pos h37];congr 1;symm;simp [signI];omega
 rw [if_neg h37]
 by_cases h40:x < 40
 ·rw [if_pos h40];congr 1;symm;simp [signI];omega
 rw [if_neg h40]
 by_cases h41:x < 41
 ·rw [if_pos h41];congr 1;symm;simp [signI];omega
 rw [if_neg h41]
 by_cases h42:x < 42
 ·rw [if_pos h42];congr 1;symm;simp [signI];omega
 rw [if_neg h42]
 by_cases h43:x < 43
 ·rw [if_pos h43];congr 1;symm;simp [signI];omega
 rw [if_neg h43]
 by_cases h44:x < 44
 ·rw [if_pos h44];congr 1;symm;simp [signI];omega
 rw [if_neg h44]
 by_cases h45:x < 45
 ·rw [if_pos h45];congr 1;symm;simp [signI];omega
 rw [if_neg h45]
 by_cases h46:x < 46
 ·rw [if_pos h46];congr 1;symm;simp [signI];omega
 rw [if_neg h46]
 by_cases h47:x < 47
 ·rw [if_pos h47];congr 1;symm;simp [signI];omega
 rw [if_neg h47]
 by_cases h48:x < 48
 ·rw [if_pos h48];congr 1;symm;simp [signI];omega
 rw [if_neg h48]
 by_cases h63:x < 63
 ·rw [if_pos h63];congr 1;symm;simp [signI];omega
 rw [if_neg h63]
 by_cases h64:x < 64
 ·rw [if_pos h64];congr 1;symm;simp [signI];omega
 rw [if_neg h64]
 by_cases h91:x < 91
 ·rw [if_pos h91];congr 1;symm;simp [signI];omega
 rw [if_neg h91]
 by_cases h92:x < 92
 ·rw [if_pos h92];congr 1;symm;simp [signI];omega
 rw [if_neg h92]
 by_cases h93:x < 93
 ·rw [if_pos h93];congr 1;symm;simp [signI];omega
 rw [if_neg h93]
 by_cases h94:x < 94
 ·rw [if_pos h94];congr 1;symm;simp [signI];omega
 rw [if_neg h94]
 by_cases h95:x < 95
 ·rw [if_pos h95];congr 1;symm;simp [signI];omega
 rw [if_neg h95]
 by_cases h123:x < 123
 ·rw [if_pos h123];congr 1;symm;simp [signI];omega
 rw [if_neg h123]
 by_cases h124:x < 124
 ·rw [if_pos h124];congr 1;symm;simp [signI];omega
 rw [if_neg h124]
 by_cases h125:x < 125
 ·rw [if_pos h125];congr 1;symm;simp [signI];omega
 rw [if_neg h125]
 by_cases h126:x < 126
 ·rw [if_pos h126];congr 1;symm;simp [signI];omega
 rw [if_neg h126]
 congr 1;symm;simp [signI];omega
theorem tksign_any (x:Int) (w:World):Calls Tryz.prog 89 #[.int .i64 x] w fun e w'=>e=.returned (.bool (signI x))∧w=w':=by
 have h:=calls_step signTab_ok (keep:=60) (m:=1) (f:=89) (v0:=.boo false) (l:=signSteps) (by kernel_rfl) x w
 rw [tkstep (sign_steps x)] at h
 exact h
def escV (x:Int):Value:=match escI x with
 | some (z,g)=>.tuple #[.int .i64 z,.bool g,.bool true]
 | none=>.tuple #[.int .i64 0,.bool false,.bool false]
theorem tkescape_any (x:Int) (w:World):Calls Tryz.prog 128 #[.int .i64 x] w fun e w'=>e=.returned (escV x)∧w=w':=by
 by_cases h110:x=110
 ·subst h110
  have he:escV 110=.tuple #[.int .i64 10,.bool false,.bool true]:=rfl
  rw [he]
  go_enter Tryz.func128,Tryz.ntmps128
  go_wp2
  go_ret3
  exact ⟨rfl,rfl⟩
 by_cases h116:x=116
 ·subst h116
  have he:escV 116=.tuple #[.int .i64 9,.bool false,.bool true]:=rfl
  rw [he]
  go_enter Tryz.func128,Tryz.ntmps128
  go_wp2
  go_ret3
  exact ⟨rfl,rfl⟩
 by_cases h100:x=100
 ·subst h100
  have he:escV 100=.tuple #[.int .i64 100,.bool true,.bool true]:=rfl
  rw [he]
  go_enter Tryz.func128,Tryz.ntmps128
  go_wp2
  go_ret3
  exact ⟨rfl,rfl⟩
 by_cases h119:x=119
 ·subst h119
  have he:escV 119=.tuple #[.int .i64 119,.bool true,.bool true]:=rfl
  rw [he]
  go_enter Tryz.func128,Tryz.ntmps128
  go_wp2
  go_ret3
  exact ⟨rfl,rfl⟩
 by_cases h115:x=115
 ·subst h115
  have he:escV 115=.tuple #[.int .i64 115,.bool true,.bool true]:=rfl
  rw [he]
  go_enter Tryz.func128,Tryz.ntmps128
  go_wp2
  go_ret3
  exact ⟨rfl,rfl⟩
 by_cases h68:x=68
 ·subst h68
  have he:escV 68=.tuple #[.int .i64 68,.bool true,.bool true]:=rfl
  rw [he]
  go_enter Tryz.func128,Tryz.ntmps128
  go_wp2
  go_ret3
  exact ⟨rfl,rfl⟩
 by_cases h87:x=87
 ·subst h87
  have he:escV 87=.tuple #[.int .i64 87,.bool true,.bool true]:=rfl
  rw [he]
  go_enter Tryz.func128,Tryz.ntmps128
  go_wp2
  go_ret3
  exact ⟨rfl,rfl⟩
 by_cases h83:x=83
 ·subst h83
  have he:escV 83=.tuple #[.int .i64 83,.bool true,.bool true]:=rfl
  rw [he]
  go_enter Tryz.func128,Tryz.ntmps128
  go_wp2
  go_ret3
  exact ⟨rfl,rfl⟩
 have he:escV x=if signI x=true then .tuple #[.int .i64 x,.bool false,.bool true] else .tuple #[.int .i64 0,.bool false,.bool false]:=by
  unfold escV escI
  rw [if_neg h110,if_neg h116,if_neg (by omega)]
  by_cases hs:signI x=true
  ·rw [if_pos hs,if_pos hs]
  ·rw [if_neg hs,if_neg hs]
 rw [he]
 have d110:(x == 110)=false:=by simpa using h110
 have d116:(x == 116)=false:=by simpa using h116
 have d100:(x == 100)=false:=by simpa using h100
 have d119:(x == 119)=false:=by simpa using h119
 have d115:(x == 115)=false:=by simpa using h115
 have d68:(x == 68)=false:=by simpa using h68
 have d87:(x == 87)=false:=by simpa using h87
 have d83:(x == 83)=false:=by simpa using h83
 clear he h110 h116 h100 h119 h115 h68 h87 h83
 rcases hs:signI x with _ | _
 ·rw [if_neg (by simp)]
  have HS:=qh hs
  clear hs
  go_enter Tryz.func128,Tryz.ntmps128
  go_wp2_with fail
  refine (tksign_any x w).mono ?_
  rintro e wq ⟨rfl,rfl⟩
  rw [HS.out]
  go_wp2
  go_ret3
  exact ⟨rfl,rfl⟩
 ·rw [if_pos rfl]
  have HS:=qh hs
  clear hs
  go_enter Tryz.func128,Tryz.ntmps128
  go_wp2_with fail
  refine (tksign_any x w).mono ?_
  rintro e wq ⟨rfl,rfl⟩
  rw [HS.out]
  go_wp2
  go_ret3
  exact ⟨rfl,rfl⟩
theorem tkalone_any (x:Int) (w:World):Calls Tryz.prog 108 #[.int .i64 x] w fun e w'=>e=.returned (.agg (aloT x).arr)∧w.grownBy w' none:=by
 by_cases h46:x=46
 ·subst h46
  go_enter Tryz.func108,Tryz.ntmps108
  go_wp2
  (try simp only [Exit.inBlock,Exit.then])
  refine bodyPost_ret (v:=.agg (aloT 46).arr) ?_ rfl ⟨rfl,grown_new w _ none⟩
  exact results_cell_row rfl _ _ w.heap.size 56 _ (0,0) _ rfl (Go.heap_alloc_new w _) Tryz.underlying56 rfl (by kernel_rfl)
 by_cases h40:x=40
 ·subst h40
  go_enter Tryz.func108,Tryz.ntmps108
  go_wp2
  (try simp only [Exit.inBlock,Exit.then])
  refine bodyPost_ret (v:=.agg (aloT 40).arr) ?_ rfl ⟨rfl,grown_new w _ none⟩
  exact results_cell_row rfl _ _ w.heap.size 56 _ (0,0) _ rfl (Go.heap_alloc_new w _) Tryz.underlying56 rfl (by kernel_rfl)
 by_cases h41:x=41
 ·subst h41
  go_enter Tryz.func108,Tryz.ntmps108
  go_wp2
  (try simp only [Exit.inBlock,Exit.then])
  refine bodyPost_ret (v:=.agg (aloT 41).arr) ?_ rfl ⟨rfl,grown_new w _ none⟩
  exact results_cell_row rfl _ _ w.heap.size 56 _ (0,0) _ rfl (Go.heap_alloc_new w _) Tryz.underlying56 rfl (by kernel_rfl)
 by_cases h124:x=124
 ·subst h124
  go_enter Tryz.func108,Tryz.ntmps108
  go_wp2
  (try simp only [Exit.inBlock,Exit.then])
  refine bodyPost_ret (v:=.agg (aloT 124).arr) ?_ rfl ⟨rfl,grown_new w _ none⟩
  exact results_cell_row rfl _ _ w.heap.size 56 _ (0,0) _ rfl (Go.heap_alloc_new w _) Tryz.underlying56 rfl (by kernel_rfl)
 by_cases h94:x=94
 ·subst h94
  go_enter Tryz.func108,Tryz.ntmps108
  go_wp2
  (try simp only [Exit.inBlock,Exit.then])
  refine bodyPost_ret (v:=.agg (aloT 94).arr) ?_ rfl ⟨rfl,grown_new w _ none⟩
  exact results_cell_row rfl _ _ w.heap.size 56 _ (0,0) _ rfl (Go.heap_alloc_new w _) Tryz.underlying56 rfl (by kernel_rfl)
 by_cases h36:x=36
 ·subst h36
  go_enter Tryz.func108,Tryz.ntmps108
  go_wp2
  (try simp only [Exit.inBlock,Exit.then])
  refine bodyPost_ret (v:=.agg (aloT 36).arr) ?_ rfl ⟨rfl,grown_new w _ none⟩
  exact results_cell_row rfl _ _ w.heap.size 56 _ (0,0) _ rfl (Go.heap_alloc_new w _) Tryz.underlying56 rfl (by kernel_rfl)
 have he:aloT x=chT x:=by unfold aloT;rw [if_neg h46,if_neg h40,if_neg h41,if_neg h124,if_neg h94,if_neg h36]
 rw [he]
 have d46:(x == 46)=false:=by simpa using h46
 have d40:(x == 40)=false:=by simpa using h40
 have d41:(x == 41)=false:=by simpa using h41
 have d124:(x == 124)=false:=by simpa using h124
 have d94:(x == 94)=false:=by simpa using h94
 have d36:(x == 36)=false:=by simpa using h36
 clear he h46 h40 h41 h124 h94 h36
 go_enter Tryz.func108,Tryz.ntmps108
 go_wp2_with fail
 refine (tkchar_any x _).mono ?_
 rintro e w1 ⟨rfl,g1⟩
 have X1:=(Box.new w _ _).kept g1 (by simp)
 have G1:=qh ((grown_new w _ none).trans g1)
 have X1:=qh X1
 clear g1
 go_wp2_with (first
  | (refine store_tok w1 _ _ w.heap.size noTok (chT x) rfl rfl rfl rfl rfl X1.out ?_;intro w2 x2 g2;have X2:=qh x2;have G2:=qh g2;clear x2 g2)
  | fail)
 (try simp only [Exit.inBlock,Exit.then])
 exact bodyPost_ret (v:=.agg (chT x).arr) (ret_tok rfl _ _ w.heap.size (chT x) rfl X2.out) rfl ⟨rfl,grown_two G1.out G2.out (Nat.le_refl _)⟩
end
end Go.Proofs.YtoeocodfndbebaaGreatDoor
