/- Shared texts, shaken for one claim. -/
import Derived.WalkKit
import Derived.IntWalk
import Derived.KernelRfl
set_option maxRecDepth 20000
set_option maxHeartbeats 16000000
namespace Go.Proofs.YtoeocodfndbebaaGreatDoor.Reckon
open Go
inductive AV where
 | arg (k:Int)
 | num (k:IntKind) (n:Int)
 | boo (b:Bool)
 deriving DecidableEq
def AV.val (c:Int):AV→Value
 | .arg k=>.int .i64 (c+k)
 | .num k n=>.int k n
 | .boo b=>.bool b
structure Range where
 lo:Option Int
 hi:Option Int
def Range.has (I:Range) (c:Int):Prop:=(∀ l,I.lo=some l→l≤c)∧(∀ h,I.hi=some h→c≤h)
def Range.under (I:Range) (m:Int):Bool:=match I.hi with
 | some h=>decide (h < m)
 | none=>false
def Range.from (I:Range) (m:Int):Bool:=match I.lo with
 | some l=>decide (m≤l)
 | none=>false
theorem Range.under_lt {I:Range} {c m:Int} (h:I.has c) (u:I.under m=true):c < m:=by
 unfold Range.under at u
 split at u
 ·rename_i x hx;have:=h.2 x hx;simp at u;omega
 ·cases u
theorem Range.from_le {I:Range} {c m:Int} (h:I.has c) (u:I.from m=true):m≤c:=by
 unfold Range.from at u
 split at u
 ·rename_i x hx;have:=h.1 x hx;simp at u;omega
 ·cases u
def Range.isLt (I:Range) (m:Int):Option Bool:=if I.under m then some true else if I.from m then some false else none
def Range.isEq (I:Range) (m:Int):Option Bool:=if I.under m || I.from (m+1) then some false else if I.from m && I.under (m+1) then some true else none
theorem Range.isLt_ok {I:Range} {c m:Int} {b:Bool} (h:I.has c) (e:I.isLt m=some b):decide (c < m)=b:=by
 unfold Range.isLt at e
 split at e
 ·rename_i u;have:=Range.under_lt h u;simp at e;subst e;simpa using this
 ·split at e
  ·rename_i u;have:=Range.from_le h u;simp at e;subst e;simp;omega
  ·cases e
theorem Range.isEq_ok {I:Range} {c m:Int} {b:Bool} (h:I.has c) (e:I.isEq m=some b):decide (c=m)=b:=by
 unfold Range.isEq at e
 split at e
 ·rename_i u
  simp at e;subst e
  rcases Bool.or_eq_true _ _▸u with u | u
  ·have:=Range.under_lt h u;simp;omega
  ·have:=Range.from_le h u;simp;omega
 ·split at e
  ·rename_i u
   simp only [Bool.and_eq_true] at u
   have:=Range.from_le h u.1;have:=Range.under_lt h u.2
   simp at e;subst e;simp;omega
  ·cases e
def cmpArg (I:Range) (m:Int):BinOp→Option AV
 | .eql=>(I.isEq m).map .boo
 | .neq=>(I.isEq m).map fun b=>.boo !b
 | .lss=>(I.isLt m).map .boo
 | .leq=>(I.isLt (m+1)).map .boo
 | .gtr=>(I.isLt (m+1)).map fun b=>.boo !b
 | .geq=>(I.isLt m).map fun b=>.boo !b
 | _=>none
def flip:BinOp→BinOp
 | .lss=>.gtr | .leq=>.geq | .gtr=>.lss | .geq=>.leq | x=>x
def argTo (I:Range) (k:Int):Option AV :=
 if I.from (-9223372036854775808 - k) && I.under (9223372036854775808 - k) then some (.arg k) else none
def numNum (k:IntKind) (a b:Int):BinOp→Option AV
 | .eql=>some (.boo (a == b))
 | .neq=>some (.boo (a != b))
 | .lss=>some (.boo (decide (a < b)))
 | .leq=>some (.boo (decide (a≤b)))
 | .gtr=>some (.boo (decide (b < a)))
 | .geq=>some (.boo (decide (b≤a)))
 | .add=>some (.num k (k.wrap (a+b)))
 | .sub=>some (.num k (k.wrap (a - b)))
 | .mul=>some (.num k (k.wrap (a * b)))
 | _=>none
def isCmp:BinOp→Bool
 | .eql | .neq | .lss | .leq | .gtr | .geq=>true
 | _=>false
def binA (I:Range) (op:BinOp):AV→AV→Option AV
 | .num k a,.num k' b=>if k=k' then numNum k a b op else none
 | .arg j,.num k b=>if k=.i64 then (if op=.add then argTo I (j+b) else if op=.sub then argTo I (j - b) else cmpArg I (b - j) op) else none
 | .num k a,.arg j=>if k=.i64 then (if op=.add then argTo I (j+a) else cmpArg I (a - j) (flip op)) else none
 | _,_=>none
section
variable {P:Program} {w:World} {I:Range} {c:Int}
theorem run_cmp (op:BinOp) (k:IntKind) (a b:Int) (h:isCmp op=true) (t:TypeId):(binOp op t (.int k a) (.int k b)).run P w=(Op.intCmp op a b).run P w:=by
 cases op <;> first | (cases h;done) | simp [binOp]
theorem cmpArg_ok {m j b:Int} {op:BinOp} {v:AV} (hI:I.has c) (h:cmpArg I m op=some v) (hm:m=b - j) (t:TypeId) :
 (binOp op t (.int .i64 (c+j)) (.int .i64 b)).run P w=.ok (v.val c) w:=by
 unfold cmpArg at h
 split at h
 all_goals first | (cases h;done) | skip
 all_goals
  obtain ⟨x,hx,rfl⟩:=Option.map_eq_some_iff.1 h
  rw [run_cmp _ _ _ _ rfl]
  first
   | (have:=Range.isEq_ok hI hx;subst this;simp only [Op.intCmp,Sem.run_pure,AV.val];congr 2;rw [Bool.eq_iff_iff];simp;omega)
   | (have:=Range.isLt_ok hI hx;subst this;simp only [Op.intCmp,Sem.run_pure,AV.val];congr 2;rw [Bool.eq_iff_iff];simp;omega)
theorem cmpArg_flip {m j a:Int} {op:BinOp} {v:AV} (hI:I.has c) (h:cmpArg I m (flip op)=some v) (hm:m=a - j) (t:TypeId) :
 (binOp op t (.int .i64 a) (.int .i64 (c+j))).run P w=.ok (v.val c) w:=by
 cases op <;> simp only [flip,cmpArg] at h <;> first | (cases h;done) | skip
 all_goals
  obtain ⟨x,hx,rfl⟩:=Option.map_eq_some_iff.1 h
  rw [run_cmp _ _ _ _ rfl]
  first
   | (have:=Range.isEq_ok hI hx;subst this;simp only [Op.intCmp,Sem.run_pure,AV.val];congr 2;rw [Bool.eq_iff_iff];simp;omega)
   | (have:=Range.isLt_ok hI hx;subst this;simp only [Op.intCmp,Sem.run_pure,AV.val];congr 2;rw [Bool.eq_iff_iff];simp;omega)
theorem argTo_ok {k:Int} {v:AV} (hI:I.has c) (h:argTo I k=some v):v=.arg k∧IntKind.i64.wrap (c+k)=c+k:=by
 unfold argTo at h
 split at h
 ·rename_i u
  simp only [Bool.and_eq_true] at u
  have h1:=Range.from_le hI u.1
  have h2:=Range.under_lt hI u.2
  exact ⟨(Option.some.inj h).symm,IntWalk.i64_in _ (by omega)⟩
 ·cases h
theorem binA_ok {op:BinOp} {x y v:AV} (hI:I.has c) (h:binA I op x y=some v) (t:TypeId) :
 (binOp op t (x.val c) (y.val c)).run P w=.ok (v.val c) w:=by
 unfold binA at h
 split at h
 ·rename_i k a k' b
  split at h
  ·rename_i hk;subst hk
   cases op <;> simp only [numNum] at h <;> first | (cases h;done) | (obtain rfl:=Option.some.inj h;simp [binOp,Op.intCmp,Op.intArith,AV.val])
  ·cases h
 ·rename_i j k b
  split at h
  ·rename_i hk;subst hk
   split at h
   ·rename_i ho;subst ho
    obtain ⟨rfl,hw⟩:=argTo_ok hI h
    simp only [AV.val]
    simp [binOp,Op.intArith,show c+j+b=c+(j+b) by omega,hw]
   ·split at h
    ·rename_i ho;subst ho
     obtain ⟨rfl,hw⟩:=argTo_ok hI h
     simp only [AV.val]
     simp [binOp,Op.intArith,show c+j - b=c+(j - b) by omega,hw]
    ·exact cmpArg_ok hI h rfl t
  ·cases h
 ·rename_i k a j
  split at h
  ·rename_i hk;subst hk
   split at h
   ·rename_i ho;subst ho
    obtain ⟨rfl,hw⟩:=argTo_ok hI h
    simp only [AV.val]
    simp [binOp,Op.intArith,show a+(c+j)=c+(j+a) by omega,hw]
   ·exact cmpArg_flip hI h rfl t
  ·cases h
 ·cases h
theorem AV.notAgg (x:AV) (y:AV) (op:BinOp) (t:TypeId) (X Y:Operand):(eqGuard op t X Y (x.val c) (y.val c)).run P w=.ok () w:=by
 cases x <;> cases y <;> cases op <;> simp [eqGuard,AV.val]
end
structure St where
 keep:Nat
 fix:List (Nat×AV)
 late:List (Nat×Option AV)
def look {β:Type}:List (Nat×β)→Nat→Option β
 | [],_=>none
 | (k,v) :: r,d=>if k=d then some v else look r d
def St.get (st:St) (d:Nat):Option AV:=match look st.late d with
 | some v=>v
 | none=>look st.fix d
def St.put (n:Nat) (st:St):Option Nat→Option AV→Option St
 | none,_=>some st
 | some d,v=>if d < n then some ⟨st.keep,st.fix.filter (fun p=>!(p.1 == d)),(d,v) :: st.late.take st.keep⟩ else none
structure Sound (n:Nat) (c:Int) (st:St) (a:Act):Prop where
 size:a.tmps.size=n
 fix:∀ p∈st.fix,a.tmps[p.1]?=some (p.2.val c)
 late:∀ d v,look st.late d=some (some v)→a.tmps[d]?=some (v.val c)
theorem look_mem {β:Type}:∀ {l:List (Nat×β)} {d:Nat} {v:β},look l d=some v→(d,v)∈l
 | [],_,_,h=>by cases h
 | (k,x) :: r,d,v,h=>by
  unfold look at h
  split at h
  ·rename_i hk;subst hk;injection h with h;subst h;simp
  ·exact List.mem_cons_of_mem _ (look_mem h)
theorem look_take {β:Type}:∀ {m:Nat} {l:List (Nat×β)} {d:Nat} {v:β},look (l.take m) d=some v→look l d=some v
 | 0,_,_,_,h=>by simp [look] at h
 | m+1,[],_,_,h=>by simp [look] at h
 | m+1,(k,x) :: r,d,v,h=>by
  simp only [List.take_succ_cons,look] at h ⊢
  split
  ·rename_i hk;rw [if_pos hk] at h;exact h
  ·rename_i hk;rw [if_neg hk] at h;exact look_take h
section
variable {n:Nat} {c:Int} {st st':St} {a:Act}
theorem Sound.get (h:Sound n c st a) {d:Nat} {v:AV} (e:st.get d=some v):a.tmps[d]?=some (v.val c):=by
 unfold St.get at e
 split at e
 ·rename_i x hx;subst e;exact h.late d v hx
 ·exact h.fix _ (look_mem e)
theorem Sound.put (h:Sound n c st a) {dst:Option Nat} {v:Option AV} {x:Value} (e:St.put n st dst v=some st') (hv:∀ u,v=some u→x=u.val c):Sound n c st' (a.put dst x):=by
 cases dst with
 | none=>simp only [St.put,Option.some.injEq] at e;subst e;exact h
 | some d =>
  simp only [St.put] at e
  split at e
  ·rename_i hd
   simp only [Option.some.injEq] at e
   subst e
   refine ⟨by simpa [Act.put] using h.size,fun p hp=>?_,fun d' v' hl=>?_⟩
   ·simp only [List.mem_filter,Bool.not_eq_true',beq_eq_false_iff_ne,ne_eq] at hp
    rw [Act.put,Array.getElem?_setIfInBounds_ne (by omega)]
    exact h.fix p hp.1
   ·simp only [look] at hl
    split at hl
    ·rename_i hk;subst hk
     have:=hv v' (by simpa using hl)
     subst this
     simp [Act.put,h.size,hd]
    ·rename_i hk
     rw [Act.put,Array.getElem?_setIfInBounds_ne (by omega)]
     exact h.late d' v' (look_take hl)
  ·cases e
theorem put_defers (a:Act) (d:Option Nat) (x:Value):(a.put d x).defers=a.defers:=by cases d <;> rfl
end
def evalA (st:St):Operand→Option AV
 | .tmp t=>st.get t
 | .const (.int k n)=>some (.num k n)
 | .const (.bool b)=>some (.boo b)
 | _=>none
theorem evalA_ok {n:Nat} {c:Int} {st:St} {a:Act} (h:Sound n c st a) {o:Operand} {v:AV} (e:evalA st o=some v):a.eval o=v.val c:=by
 unfold evalA at e
 split at e
 ·have:=h.get e
  simp [Act.eval,this]
 ·obtain rfl:=Option.some.inj e;rfl
 ·obtain rfl:=Option.some.inj e;rfl
 ·cases e
def wantedA (ops:Array Oper) (st:St) (o:Oper):Option Bool:=match o.guard with
 | none=>some true
 | some (j,want)=>match (ops[j]?).bind (·.dst) with
  | some d=>match st.get d with
   | some (.boo b)=>some (b == want)
   | _=>none
  | none=>none
theorem wantedA_ok {n:Nat} {c:Int} {st:St} {a:Act} (h:Sound n c st a) {ops:Array Oper} {o:Oper} {b:Bool} (e:wantedA ops st o=some b):Region.wanted o (yielded ops a.tmps)=b:=by
 unfold wantedA at e
 split at e
 ·rename_i hg;obtain rfl:=Option.some.inj e;simp [Region.wanted,hg]
 ·rename_i j want hg
  split at e
  ·rename_i d hd
   split at e
   ·rename_i x hx
    obtain rfl:=Option.some.inj e
    have:=h.get hx
    simp [Region.wanted,hg,yielded,hd,this,AV.val]
   ·cases e
  ·cases e
def evalAll (st:St):List Operand→Option (List AV)
 | []=>some []
 | o :: r=>match evalA st o,evalAll st r with
  | some v,some vs=>some (v :: vs)
  | _,_=>none
theorem evalAll_ok {n:Nat} {c:Int} {st:St} {a:Act} (h:Sound n c st a):∀ {os:List Operand} {vs:List AV},evalAll st os=some vs→os.map a.eval=vs.map (AV.val c)
 | [],vs,e=>by simp only [evalAll,Option.some.injEq] at e;subst e;rfl
 | o :: r,vs,e=>by
  simp only [evalAll] at e
  split at e
  ·rename_i v vs' hv hvs
   simp only [Option.some.injEq] at e
   subst e
   simp [evalA_ok h hv,evalAll_ok h hvs]
  ·cases e
def opA (calls:Nat→List AV→Option AV) (I:Range) (st:St) (o:Oper):Option AV:=match o.op with
 | .move x=>evalA st x
 | .assign x=>evalA st x
 | .pick t x y=>match evalA st t with
  | some (.boo b)=>if b then evalA st x else evalA st y
  | _=>none
 | .binOp op _ x y _=>match evalA st x,evalA st y with
  | some u,some v=>binA I op u v
  | _,_=>none
 | .unOp .not _ x=>match evalA st x with
  | some (.boo b)=>some (.boo !b)
  | _=>none
 | .call { callee:=.value (.func f),args:=ays,argTypes:=_ }=>match evalAll st ays.toList with
  | some vs=>calls f vs
  | none=>none
 | _=>none
def CallsOk (P:Program) (c:Int) (calls:Nat→List AV→Option AV):Prop :=
 ∀ f vs v,calls f vs=some v→(∃ fn,P.funcs[f]?=some fn∧(fn.name == "runtime.NumGoroutine")=false∧fn.body.isNone=false) ∧
  ∀ w,Calls P f (vs.map (AV.val c)).toArray w fun e w'=>e=.returned (v.val c)∧w=w'
section
variable {P:Program} {n:Nat} {c:Int} {I:Range} {calls:Nat→List AV→Option AV} {w:World}
theorem opA_ok (hc:CallsOk P c calls) (hI:I.has c) {st:St} {a:Act} (h:Sound n c st a) {o:Oper} {v:AV} (e:opA calls I st o=some v)
 {next:Act→World→Prop} {Q:Exit→Act→World→Prop} (k:next (a.put o.dst (v.val c)) w):o.wp P a w next Q:=by
 unfold opA at e
 split at e
 ·rename_i x ho
  unfold Oper.wp execOp
  simp only [ho,evalA_ok h e]
  exact k
 ·rename_i x ho
  unfold Oper.wp execOp
  simp only [ho,evalA_ok h e]
  exact k
 ·rename_i t x y ho
  split at e
  ·rename_i b hb
   have hb':=evalA_ok h hb
   unfold Oper.wp execOp
   simp only [ho,hb',AV.val,asBool,Sem.run_bind,Sem.run_pure,Result.andThen_ok]
   cases b
   ·simp only [Bool.false_eq_true,if_false] at e ⊢
    rw [evalA_ok h e];exact k
   ·simp only [if_true] at e ⊢
    rw [evalA_ok h e];exact k
  ·cases e
 ·rename_i op t x y t' ho
  split at e
  ·rename_i u u' hu hu'
   unfold Oper.wp execOp
   simp only [ho,evalA_ok h hu,evalA_ok h hu',Sem.run_bind,Sem.run_pure,AV.notAgg,Result.andThen_ok,binA_ok hI e]
   exact k
  ·cases e
 ·rename_i t x ho
  split at e
  ·rename_i b hb
   obtain rfl:=Option.some.inj e
   unfold Oper.wp execOp
   simp only [ho,evalA_ok h hb,AV.val,Op.unary,Sem.run_bind,Sem.run_pure,Result.andThen_ok]
   exact k
  ·cases e
 ·rename_i f ays ts ho
  split at e
  ·rename_i vs hvs
   obtain ⟨⟨fn,hf,hn,hb⟩,hcall⟩:=hc _ _ _ e
   have hargs:=evalAll_ok h hvs
   have hm:ays.map a.eval=(vs.map (AV.val c)).toArray:=by
    rw [← hargs];simp [← List.map_toArray]
   unfold Oper.wp execOp
   simp only [ho,resolve,Deferred.ofValue,invoke,callFunc,Act.eval,Sem.run_bind,Sem.run_pure,Result.andThen_ok]
   have hm':(Array.map a.eval ays)=(vs.map (AV.val c)).toArray:=hm
   simp only [run_program,Result.andThen_ok,hf,hn,hb,Bool.false_eq_true,if_false,Sem.run_pure,hm',Array.append_empty,Array.empty_append]
   refine (hcall w).mono ?_
   rintro ed w' ⟨rfl,rfl⟩
   exact k
  ·cases e
 ·cases e
end
def execOps (calls:Nat→List AV→Option AV) (I:Range) (n:Nat) (ops:Array Oper):List Oper→St→Option St
 | [],st=>some st
 | o :: r,st=>match wantedA ops st o with
  | some true=>match opA calls I st o with
   | some v=>match St.put n st o.dst (some v) with
    | some st'=>execOps calls I n ops r st'
    | none=>none
   | none=>none
  | some false=>match St.put n st o.dst none with
   | some st'=>execOps calls I n ops r st'
   | none=>none
  | none=>none
inductive Out where
 | go (st:St)
 | leave (id:Nat) (st:St)
 | done (st:St)
def execC (calls:Nat→List AV→Option AV) (I:Range) (n:Nat):Code→St→Option Out
 | .skip,st=>some (.go st)
 | .label _,st=>some (.go st)
 | .region _ ops false,st=>(execOps calls I n ops ops.toList st).map .go
 | .seq x y,st=>match execC calls I n x st with
  | some (.go st')=>execC calls I n y st'
  | r=>r
 | .cond t x y,st=>match evalA st t with
  | some (.boo true)=>execC calls I n x st
  | some (.boo false)=>execC calls I n y st
  | _=>none
 | .block id x,st=>match execC calls I n x st with
  | some (.leave id' st')=>if id'=id then some (.go st') else some (.leave id' st')
  | r=>r
 | .exit id,st=>some (.leave id st)
 | .ret,st=>some (.done st)
 | _,_=>none
def initFix (i:Nat):List AV→List (Nat×AV)
 | []=>[]
 | v :: r=>(i,v) :: initFix (i+1) r
def runF (calls:Nat→List AV→Option AV) (I:Range) (keep:Nat) (fn:Func) (vs:List AV):Option AV:=match fn.body,fn.results with
 | some code,⟨[.tmp d]⟩=>if vs.length≤fn.ntmps then
  match execC calls I fn.ntmps code ⟨keep,initFix 0 vs,[]⟩ with
  | some (.go st)=>st.get d
  | some (.done st)=>st.get d
  | _=>none
  else none
 | _,_=>none
def callN (tab:List (Nat×Func)) (keep:Nat) (I:Range):Nat→Nat→List AV→Option AV
 | 0,_,_=>none
 | n+1,f,vs=>match look tab f with
  | some fn=>runF (callN tab keep I n) I keep fn vs
  | none=>none
section
variable {P:Program} {n:Nat} {c:Int} {I:Range} {calls:Nat→List AV→Option AV} {w:World}
theorem execOps_ok (hc:CallsOk P c calls) (hI:I.has c) {ops:Array Oper} {Q:Exit→Act→World→Prop}:∀ {l:List Oper} {st st':St} {a:Act},Sound n c st a→execOps calls I n ops l st=some st' →
 (∀ a',a'.defers=a.defers→Sound n c st' a'→Q .normal a' w)→wpList P ops Q l a w
 | [],st,st',a,h,e,k=>by
  simp only [execOps,Option.some.injEq] at e;subst e
  exact wpList_nil (k a rfl h)
 | o :: r,st,st',a,h,e,k=>by
  simp only [execOps] at e
  refine wpList_step fun K hK=>?_
  split at e
  ·rename_i hw
   rw [if_pos (wantedA_ok h hw)]
   split at e
   ·rename_i v hv
    split at e
    ·rename_i st1 hp
     refine opA_ok hc hI h hv (hK _ _ ?_)
     exact execOps_ok hc hI (h.put hp (fun u hu=>by rw [Option.some.inj hu])) e (fun a' hd hs=>k a' (hd.trans (put_defers _ _ _)) hs)
    ·cases e
   ·cases e
  ·rename_i hw
   rw [if_neg (by rw [wantedA_ok h hw];simp)]
   split at e
   ·rename_i st1 hp
    refine hK _ _ ?_
    exact execOps_ok hc hI (h.put hp (fun u hu=>by cases hu)) e (fun a' hd hs=>k a' (hd.trans (put_defers _ _ _)) hs)
   ·cases e
  ·cases e
def Out.meets (n:Nat) (c:Int) (d:List Deferred) (w:World) (Q:Exit→Act→World→Prop):Out→Prop
 | .go st=>∀ a',a'.defers=d→Sound n c st a'→Q .normal a' w
 | .leave id st=>∀ a',a'.defers=d→Sound n c st a'→Q (.exit id) a' w
 | .done st=>∀ a',a'.defers=d→Sound n c st a'→Q .ret a' w
theorem execC_ok (hc:CallsOk P c calls) (hI:I.has c):∀ (x:Code) {st:St} {a:Act} {o:Out} {Q:Exit→Act→World→Prop},Sound n c st a→execC calls I n x st=some o→o.meets n c a.defers w Q→x.wp P Q a w
 | .skip,st,a,o,Q,h,e,k=>by
  simp only [execC,Option.some.injEq] at e;subst e;exact wp_skip (k a rfl h)
 | .label _,st,a,o,Q,h,e,k=>by
  simp only [execC,Option.some.injEq] at e;subst e;exact wp_label (k a rfl h)
 | .region _ ops false,st,a,o,Q,h,e,k=>by
  simp only [execC] at e
  obtain ⟨st',he,rfl⟩:=Option.map_eq_some_iff.1 e
  exact wp_region_list (execOps_ok hc hI h he k)
 | .region _ ops true,st,a,o,Q,h,e,k=>by simp [execC] at e
 | .seq x y,st,a,o,Q,h,e,k=>by
  simp only [execC] at e
  refine wp_seq ?_
  cases hx:execC calls I n x st with
  | none=>rw [hx] at e;simp at e
  | some r =>
   refine execC_ok hc hI x h hx ?_
   rw [hx] at e
   cases r with
   | go st'=>intro a' hd hs;exact execC_ok hc hI y hs e (hd▸k)
   | leave id st' =>
    obtain rfl:=Option.some.inj e
    intro a' hd hs;exact k a' hd hs
   | done st' =>
    obtain rfl:=Option.some.inj e
    intro a' hd hs;exact k a' hd hs
 | .cond t x y,st,a,o,Q,h,e,k=>by
  simp only [execC] at e
  split at e
  ·rename_i hb
   exact wp_cond_true (by rw [evalA_ok h hb];rfl) (execC_ok hc hI x h e k)
  ·rename_i hb
   exact wp_cond_false (by rw [evalA_ok h hb];rfl) (execC_ok hc hI y h e k)
  ·cases e
 | .block id x,st,a,o,Q,h,e,k=>by
  simp only [execC] at e
  refine wp_block ?_
  cases hx:execC calls I n x st with
  | none=>rw [hx] at e;simp at e
  | some r =>
   refine execC_ok hc hI x h hx ?_
   rw [hx] at e
   cases r with
   | go st' =>
    obtain rfl:=Option.some.inj e
    intro a' hd hs;exact k a' hd hs
   | leave id' st' =>
    simp only at e
    intro a' hd hs
    simp only [Exit.inBlock]
    split
    ·rename_i hid
     rw [if_pos hid] at e
     obtain rfl:=Option.some.inj e
     exact k a' hd hs
    ·rename_i hid
     rw [if_neg hid] at e
     obtain rfl:=Option.some.inj e
     exact k a' hd hs
   | done st' =>
    obtain rfl:=Option.some.inj e
    intro a' hd hs;exact k a' hd hs
 | .exit id,st,a,o,Q,h,e,k=>by
  simp only [execC,Option.some.injEq] at e;subst e;exact wp_exit (k a rfl h)
 | .ret,st,a,o,Q,h,e,k=>by
  simp only [execC,Option.some.injEq] at e;subst e;exact wp_ret (k a rfl h)
 | .loop _,st,a,o,Q,h,e,k=>by simp [execC] at e
 | .rangeFunc _ _ _ _,st,a,o,Q,h,e,k=>by simp [execC] at e
 | .scope _,st,a,o,Q,h,e,k=>by simp [execC] at e
 | .goto _,st,a,o,Q,h,e,k=>by simp [execC] at e
 | .refuse _,st,a,o,Q,h,e,k=>by simp [execC] at e
theorem initFix_mem:∀ (vs:List AV) (i:Nat) (p:Nat×AV),p∈initFix i vs→∃ j,p.1=i+j∧vs[j]?=some p.2
 | [],_,p,h=>by cases h
 | v :: r,i,p,h=>by
  simp only [initFix,List.mem_cons] at h
  rcases h with rfl | h
  ·exact ⟨0,rfl,rfl⟩
  ·obtain ⟨j,hj,hv⟩:=initFix_mem r (i+1) p h
   exact ⟨j+1,by omega,by simpa using hv⟩
theorem runF_ok (hc:CallsOk P c calls) (hI:I.has c) {keep f:Nat} {fn:Func} {vs:List AV} {v:AV} (hf:P.funcs[f]?=some fn) (e:runF calls I keep fn vs=some v) (w:World) :
 fn.body.isNone=false∧Calls P f (vs.map (AV.val c)).toArray w fun e w'=>e=.returned (v.val c)∧w=w':=by
 unfold runF at e
 split at e
 ·rename_i code d hb hr
  refine ⟨by simp [hb],?_⟩
  split at e
  ·rename_i hl
   refine calls_of_wp hf hb ?_
   have h0:Sound fn.ntmps c ⟨keep,initFix 0 vs,[]⟩ { tmps:=(vs.map (AV.val c)).toArray++Array.replicate (fn.ntmps - (vs.map (AV.val c)).toArray.size) undef,defers:=[] }:=by
    refine ⟨by simp;omega,fun p hp=>?_,fun d v h=>by cases h⟩
    obtain ⟨j,hj,hv⟩:=initFix_mem vs 0 p hp
    have hj':j < vs.length:=(List.getElem?_eq_some_iff.1 hv).1
    rw [hj,Nat.zero_add]
    rw [Array.getElem?_append_left (by simpa using hj')]
    simp [hv]
   cases hx:execC calls I fn.ntmps code ⟨keep,initFix 0 vs,[]⟩ with
   | none=>rw [hx] at e;cases e
   | some o =>
    rw [hx] at e
    refine execC_ok hc hI code h0 hx ?_
    cases o with
    | go st =>
     intro a' hd hs
     have hg:=hs.get e
     exact ⟨hd,v.val c,by simp [results,hr,hg,Sem.run_pure],rfl,rfl⟩
    | leave id st=>cases e
    | done st =>
     intro a' hd hs
     have hg:=hs.get e
     exact ⟨hd,v.val c,by simp [results,hr,hg,Sem.run_pure],rfl,rfl⟩
  ·cases e
 ·cases e
def TabOk (P:Program) (tab:List (Nat×Func)):Prop:=∀ f fn,look tab f=some fn→P.funcs[f]?=some fn∧(fn.name == "runtime.NumGoroutine")=false
theorem TabOk.nil:TabOk P []:=fun _ _ h=>by cases h
theorem TabOk.cons {f:Nat} {fn:Func} {r:List (Nat×Func)} (hf:P.funcs[f]?=some fn) (hn:(fn.name == "runtime.NumGoroutine")=false) (h:TabOk P r):TabOk P ((f,fn) :: r):=by
 intro g gn e
 unfold look at e
 split at e
 ·rename_i hg;subst hg;obtain rfl:=Option.some.inj e;exact ⟨hf,hn⟩
 ·exact h g gn e
theorem callN_ok {tab:List (Nat×Func)} {keep:Nat} (ht:TabOk P tab) (hI:I.has c):∀ m,CallsOk P c (callN tab keep I m)
 | 0,f,vs,v,e=>by cases e
 | m+1,f,vs,v,e=>by
  simp only [callN] at e
  split at e
  ·rename_i fn hl
   obtain ⟨hf,hn⟩:=ht f fn hl
   have hr:=runF_ok (callN_ok ht hI m) hI hf e
   exact ⟨⟨fn,hf,hn,(hr default).1⟩,fun w=>(hr w).2⟩
  ·cases e
def stepF (c:Int):AV→List (Int×AV)→AV
 | v,[]=>v
 | v,(x,v') :: r=>if c < x then v else stepF c v' r
def agrees (x:Option AV) (v:AV):Bool:=match x with
 | some u=>decide (u=v)
 | none=>false
def checkF (run:Range→Option AV):Option Int→AV→List (Int×AV)→Bool
 | lo,v,[]=>agrees (run ⟨lo,none⟩) v
 | lo,v,(x,v') :: r=>agrees (run ⟨lo,some (x - 1)⟩) v && checkF run (some x) v' r
theorem agrees_eq {x:Option AV} {v:AV} (h:agrees x v=true):x=some v:=by
 unfold agrees at h
 split at h
 ·simp at h;subst h;rfl
 ·cases h
theorem checkF_ok {run:Range→Option AV}:∀ (l:List (Int×AV)) (lo:Option Int) (v:AV),checkF run lo v l=true→(∀ x,lo=some x→x≤c)→∃ I:Range,I.has c∧run I=some (stepF c v l)
 | [],lo,v,h,hl=>⟨⟨lo,none⟩,⟨hl,fun _ h=>by cases h⟩,agrees_eq h⟩
 | (x,v') :: r,lo,v,h,hl=>by
  simp only [checkF,Bool.and_eq_true] at h
  simp only [stepF]
  split
  ·rename_i hx
   exact ⟨⟨lo,some (x - 1)⟩,⟨hl,fun y hy=>by simp at hy;omega⟩,agrees_eq h.1⟩
  ·rename_i hx
   exact checkF_ok r (some x) v' h.2 (fun y hy=>by simp at hy;omega)
theorem calls_step {tab:List (Nat×Func)} (ht:TabOk P tab) {keep m f:Nat} {v0:AV} {l:List (Int×AV)} (h:checkF (fun I=>callN tab keep I m f [.arg 0]) none v0 l=true) (c:Int) (w:World) :
 Calls P f #[.int .i64 c] w fun e w'=>e=.returned ((stepF c v0 l).val c)∧w=w':=by
 obtain ⟨I,hI,hr⟩:=checkF_ok (c:=c) l none v0 h (fun _ h=>by cases h)
 have:=(callN_ok ht hI m f _ _ hr).2 w
 simpa [AV.val] using this
end
end Go.Proofs.YtoeocodfndbebaaGreatDoor.Reckon
