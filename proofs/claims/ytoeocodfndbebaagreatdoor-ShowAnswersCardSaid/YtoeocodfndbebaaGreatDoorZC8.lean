/- Shared texts, shaken for one claim. -/
import Derived.BigQuiet
import Derived.Test.YtoeocodfndbebaaGreatDoorZC3
import Derived.Test.YtoeocodfndbebaaGreatDoorZC4
import Derived.Test.YtoeocodfndbebaaGreatDoorZC7
set_option maxRecDepth 20000
set_option maxHeartbeats 16000000
namespace Go.Proofs.YtoeocodfndbebaaGreatDoor
section
inductive Nd where
 | mk (k lo hi:Int) (rs:List (Int×Int)) (ks:List Nd)
def timesI (k lo hi:Int):Int:=if k=5 then (if hi < 0 then max (IntKind.i64.wrap (min lo 1000000+1)) 1 else max hi 1) else 1
def finI (s t:Int):Int:=if 1000000≤s then 1000000 else min (1+s * min t 1000000) 1000000
mutual
def sizeI:Nd→Int
 | .mk k lo hi _ ks=>finI (sumI ks) (timesI k lo hi)
def sumI:List Nd→Int
 | []=>0
 | n :: ns=>sizeI n+sumI ns
end
theorem times_pos (k lo hi:Int):1≤timesI k lo hi:=by
 unfold timesI;split
 ·split <;> omega
 ·omega
theorem finI_in {s t:Int} (hs:0≤s) (ht:1≤t):1≤finI s t∧finI s t≤1000000:=by
 have:0≤s * min t 1000000:=Int.mul_nonneg hs (by omega)
 unfold finI;split <;> omega
mutual
theorem sizeI_in:∀ n,1≤sizeI n∧sizeI n≤1000000
 | .mk k lo hi _ ks=>by
  unfold sizeI
  exact finI_in (sumI_nn ks) (times_pos k lo hi)
theorem sumI_nn:∀ ns,0≤sumI ns
 | []=>by unfold sumI;omega
 | n :: ns=>by
  have h1:=sizeI_in n
  have h2:=sumI_nn ns
  unfold sumI;omega
end
theorem sumI_append:∀ a b:List Nd,sumI (a++b)=sumI a+sumI b
 | [],b=>by rw [List.nil_append];show sumI b=sumI []+sumI b;rw [sumI];omega
 | n :: a,b=>by rw [List.cons_append,sumI,sumI_append a b,sumI];omega
theorem sumI_next {ks:List Nd} {k:Nat} (h:k < ks.length):sumI (ks.take (k+1))=sumI (ks.take k)+sizeI ks[k]:=by
 rw [List.take_succ_eq_append_getElem h,sumI_append,sumI,sumI];omega
theorem sumI_le {ks:List Nd} (k:Nat):sumI (ks.take k)≤sumI ks:=by
 have h:=sumI_append (ks.take k) (ks.drop k)
 rw [List.take_append_drop] at h
 have:=sumI_nn (ks.drop k)
 omega
/-! how tokens are read -/
def kindIs (T:List Tok) (ks:List Int):Bool:=match T with
 | []=>false
 | t :: _=>ks.contains t.k
def dropIs (T:List Tok) (ks:List Int):List Tok:=if kindIs T ks=true then T.tail else T
abbrev PR:=Option (Nd×List Tok)
def oneT (pat:List Tok→PR) (f:Int):List Tok→PR
 | []=>none
 | t :: R=>if t.k=3 then (match pat R with
  | none=>none
  | some (n,R')=>some (n,dropIs R' [4]))
  else if t.k=10 then some (.mk 6 0 0 [] [],R)
  else if t.k=11 then some (.mk 7 0 0 [] [],R)
  else match setT f t R with
   | none=>none
   | some (rs,R')=>some (.mk 2 0 0 rs [],R')
def lazyT (n:Nd) (R:List Tok):Nd×List Tok:=(n,dropIs R [13])
def rpT (pat:List Tok→PR) (f:Int) (T:List Tok):PR:=match oneT pat f T with
 | none=>none
 | some (n,R)=>match R with
  | []=>some (n,[])
  | t :: R'=>if t.k=6 then some (lazyT (.mk 5 t.lo t.hi [] [n]) R') else some (lazyT n (t :: R'))
def joinL (pat:List Tok→PR) (f:Int):Nat→List Tok→Option (List Nd×List Tok)
 | 0,_=>none
 | k+1,T=>if T=[]∨kindIs T [5,4]=true then some ([],T) else match rpT pat f T with
  | none=>none
  | some (n,R)=>match joinL pat f k R with
   | none=>none
   | some (ns,R')=>some (n :: ns,R')
def togT (kind:Int):List Nd→Nd
 | []=>.mk 1 0 0 [] []
 | [n]=>n
 | n :: m :: ns=>.mk kind 0 0 [] (n :: m :: ns)
def joinT (pat:List Tok→PR) (f:Int) (k:Nat) (T:List Tok):PR:=match joinL pat f k T with
 | none=>none
 | some (ns,R)=>some (togT 3 ns,R)
def orL (pat:List Tok→PR) (f:Int) (q:Nat):Nat→List Tok→Option (List Nd×List Tok)
 | 0,_=>none
 | k+1,T=>if kindIs T [5]=true then (match joinT pat f q T.tail with
  | none=>none
  | some (n,R)=>match orL pat f q k R with
   | none=>none
   | some (ns,R')=>some (n :: ns,R')) else some ([],T)
def patT (f:Int) (q:Nat):Nat→List Tok→PR
 | 0,_=>none
 | d+1,T=>match joinT (patT f q d) f q T with
  | none=>none
  | some (n,R)=>match orL (patT f q d) f q q R with
   | none=>none
   | some (ns,R')=>some (togT 4 (n :: ns),R')
/-! where tokens are wrong -/
def faultT (e:Nat):List Tok→Nat→Int→Int×Int
 | [],o,_=>if 0 < o then ((e:Int),4) else (0,0)
 | t :: T,o,a=>if t.k=4∧o=0 then (t.pos,5)
  else if t.k=6∧[3,5,6,13].contains a=true then (t.pos,5)
  else if t.k=3∧o=20 then (t.pos,9)
  else if t.k=3 then faultT e T (o+1) t.k
  else if t.k=4 then faultT e T (o - 1) t.k
  else faultT e T o t.k
end
section
mutual
def dSize:Nd→Int
 | .mk k lo hi _ ks=>dSizeL (min (timesI k lo hi) 1000000) 1 ks
def dSizeL (t s:Int):List Nd→Int
 | []=>s
 | n :: ns=>dSizeL t (min 1000000 (s+t * dSize n)) ns
end
theorem dSize_step {a b t x y:Int} (ht:1≤t) (_:0≤x) (hy:0≤y) (ha:a=min 1000000 (b+t * x)):min 1000000 (a+t * y)=min 1000000 (b+t * (x+y)):=by
 have h1:0≤t * y:=Int.mul_nonneg (by omega) hy
 rw [Int.mul_add]
 omega
mutual
theorem dSize_is:∀ n,dSize n=sizeI n
 | .mk k lo hi rs ks=>by
  have ht:=times_pos k lo hi
  have hs:=sumI_nn ks
  rw [dSize,sizeI,dSizeL_is ks (by omega) (by omega) (by omega)]
  unfold finI
  obtain ⟨t,hT⟩:∃ t,min (timesI k lo hi) 1000000=t:=⟨_,rfl⟩
  have ht1:1≤t:=by omega
  rw [hT]
  have h2:sumI ks≤t * sumI ks:=by
   have:=Int.mul_le_mul_of_nonneg_right (show (1:Int)≤t by omega) hs
   omega
  have h3:sumI ks * t=t * sumI ks:=Int.mul_comm _ _
  split
  ·omega
  ·omega
theorem dSizeL_is:∀ (ks:List Nd) {t s:Int},1≤t→1≤s→s≤1000000→dSizeL t s ks=min 1000000 (s+t * sumI ks)
 | [],t,s,ht,h1,h2=>by
  rw [dSizeL,sumI,Int.mul_zero];omega
 | n :: ns,t,s,ht,h1,h2=>by
  have hn:=sizeI_in n
  have h3:0≤t * sizeI n:=Int.mul_nonneg (by omega) (by omega)
  rw [dSizeL,dSize_is n,dSizeL_is ns ht (by omega) (by omega),sumI]
  exact dSize_step ht (by omega) (sumI_nn ns) rfl
end
end
section
def kindN:Nd→Int
 | .mk k _ _ _ _=>k
def nodeI:Nd→Bool
 | .mk k lo hi rs ks=>!((k != 2 && decide (0 < rs.length)) || (k != 5 && (lo != 0 || hi != 0))) &&
  (if k=1∨k=6∨k=7 then ks.length == 0
   else if k=2 then ks.length == 0 && decide (setR rs=rs)
   else if k=3∨k=4 then decide (2≤ks.length)
   else if k=5 then ks.length == 1 && decide (0≤lo) && decide (lo≤20) && (hi == -1 || (decide (lo≤hi) && decide (hi≤20)))
   else false)
mutual
def cntN:Nd→Nat
 | .mk _ _ _ _ ks=>1+cntL ks
def cntL:List Nd→Nat
 | []=>0
 | n :: ns=>cntN n+cntL ns
end
mutual
def rngN:Nd→Nat
 | .mk _ _ _ rs ks=>rs.length+rngL ks
def rngL:List Nd→Nat
 | []=>0
 | n :: ns=>rngN n+rngL ns
end
mutual
def deepN:Nd→Nat
 | .mk _ _ _ _ ks=>deepL ks+1
def deepL:List Nd→Nat
 | []=>0
 | n :: ns=>max (deepN n) (deepL ns)
end
mutual
def allN:Nd→Bool
 | .mk k lo hi rs ks=>nodeI (.mk k lo hi rs ks) && allL ks
def allL:List Nd→Bool
 | []=>true
 | n :: ns=>allN n && allL ns
end
def rightN (n:Nd):Bool:=decide (cntN n≤400) && decide (rngN n≤400) && decide (deepN n≤100) && allN n
def digI (n:Nat):List Int:=if n < 10 then [48+(n:Int)] else digI (n / 10)++[48+((n % 10:Nat):Int)]
termination_by n
def quoC (c:Int):List Int:=if signI c=true then [92,c] else [c]
def itemsI:List (Int×Int)→List Int
 | []=>[]
 | r :: rs=>quoC r.1++(if r.2≠r.1 then 45 :: quoC r.2 else [])++itemsI rs
def setI (rs:List (Int×Int)):List Int:=match rs with
 | [r]=>if r.1=r.2 then quoC r.1 else 91 :: (itemsI [r]++[93])
 | rs=>91 :: (itemsI rs++[93])
def timesT (lo hi:Int):List Int :=
 if lo=0∧hi=1 then [63] else if lo=0∧hi=-1 then [42] else if lo=1∧hi=-1 then [43]
 else 123 :: (digI lo.toNat++(if hi≠lo then 44 :: (if 0≤hi then digI hi.toNat else []) else [])++[125])
def inBr (b:Bool) (x:List Int):List Int:=if b=true then 40 :: (x++[41]) else x
mutual
def textN:Nd→List Int
 | .mk k lo hi rs ks=>if k=1 then [40,41] else if k=6 then [94] else if k=7 then [36] else if k=2 then setI rs
  else if k=3 then joinTx [3,4] ks else if k=4 then orTx ks else (match ks with
   | []=>[]
   | n :: _=>inBr (([3,4,5]:List Int).contains (kindN n)) (textN n))++timesT lo hi
def joinTx (l:List Int):List Nd→List Int
 | []=>[]
 | n :: ns=>inBr (l.contains (kindN n)) (textN n)++joinTx l ns
def orTx:List Nd→List Int
 | []=>[]
 | n :: ns=>inBr (kindN n == 4) (textN n)++(match ns with
  | []=>[]
  | _ :: _=>124 :: orTx ns)
end
end
section
mutual
def mtN (d:Nat):Nd→Nat×Nat→Bool×(Nat×Nat)
 | .mk k lo hi rs ks,p=>if 400 < p.1+1∨400 < p.2+rs.length∨100 < d∨nodeI (.mk k lo hi rs ks)=false then (false,(p.1+1,p.2+rs.length)) else mtL (d+1) ks (p.1+1,p.2+rs.length)
def mtL (d:Nat):List Nd→Nat×Nat→Bool×(Nat×Nat)
 | [],p=>(true,p)
 | n :: ns,p=>match mtN d n p with
  | (false,q)=>(false,q)
  | (true,q)=>mtL d ns q
end
theorem mtN_def (d:Nat) (k lo hi:Int) (rs:List (Int×Int)) (ks:List Nd) (p:Nat×Nat):mtN d (.mk k lo hi rs ks) p=if 400 < p.1+1∨400 < p.2+rs.length∨100 < d∨nodeI (.mk k lo hi rs ks)=false then (false,(p.1+1,p.2+rs.length)) else mtL (d+1) ks (p.1+1,p.2+rs.length):=by
 rw [mtN.eq_def]
theorem mtL_next (d:Nat) (n:Nd) (ns:List Nd) (p:Nat×Nat):mtL d (n :: ns) p=if (mtN d n p).1=false then (false,(mtN d n p).2) else mtL d ns (mtN d n p).2:=by
 rw [mtL]
 rcases mtN d n p with ⟨b,q⟩
 cases b <;> rfl
mutual
theorem mtN_spec:∀ (n:Nd) (d a b:Nat),a≤400→b≤400→((mtN d n (a,b)).1=true↔a+cntN n≤400∧b+rngN n≤400∧d+deepN n≤101∧allN n=true)∧((mtN d n (a,b)).1=true→(mtN d n (a,b)).2=(a+cntN n,b+rngN n))
 | .mk k lo hi rs ks,d,a,b,ha,hb=>by
  rw [mtN_def,cntN,rngN,deepN,allN]
  simp only
  by_cases hc:400 < a+1∨400 < b+rs.length∨100 < d∨nodeI (.mk k lo hi rs ks)=false
  ·rw [if_pos hc]
   refine ⟨⟨fun h=>(by cases h),fun h=>?_⟩,fun h=>(by cases h)⟩
   exfalso
   obtain ⟨h1,h2,h3,h4⟩:=h
   rw [Bool.and_eq_true] at h4
   rcases hc with hc | hc | hc | hc
   ·omega
   ·omega
   ·omega
   ·rw [hc] at h4;cases h4.1
  ·rw [if_neg hc]
   simp only [not_or] at hc
   obtain ⟨h1,h2,h3,h4⟩:=hc
   have ih:=mtL_spec ks (d+1) (a+1) (b+rs.length) (by omega) (by omega) (by omega)
   have hn:nodeI (.mk k lo hi rs ks)=true:=by simpa using h4
   rw [hn,Bool.true_and]
   refine ⟨ih.1.trans ?_,fun h=>(ih.2 h).trans ?_⟩
   ·constructor
    ·rintro ⟨g1,g2,g3,g4⟩;exact ⟨by omega,by omega,by omega,g4⟩
    ·rintro ⟨g1,g2,g3,g4⟩;exact ⟨by omega,by omega,by omega,g4⟩
   ·rw [Nat.add_assoc,Nat.add_assoc]
theorem mtL_spec:∀ (ns:List Nd) (d a b:Nat),a≤400→b≤400→d≤101→((mtL d ns (a,b)).1=true↔a+cntL ns≤400∧b+rngL ns≤400∧d+deepL ns≤101∧allL ns=true)∧((mtL d ns (a,b)).1=true→(mtL d ns (a,b)).2=(a+cntL ns,b+rngL ns))
 | [],d,a,b,ha,hb,hd=>by
  rw [mtL,cntL,rngL,deepL,allL]
  exact ⟨⟨fun _=>⟨by omega,by omega,by omega,rfl⟩,fun _=>rfl⟩,fun _=>rfl⟩
 | n :: ns,d,a,b,ha,hb,hd=>by
  have h:=mtN_spec n d a b ha hb
  rw [mtL_next,cntL,rngL,deepL,allL]
  rcases hx:mtN d n (a,b) with ⟨r,q⟩
  rw [hx] at h
  simp only at h ⊢
  cases r
  ·rw [if_pos rfl]
   refine ⟨⟨fun h=>(by cases h),fun g=>?_⟩,fun h=>(by cases h)⟩
   exfalso
   obtain ⟨g1,g2,g3,g4⟩:=g
   rw [Bool.and_eq_true] at g4
   have:=h.1.2 ⟨by omega,by omega,by omega,g4.1⟩
   cases this
  ·rw [if_neg (by simp)]
   obtain ⟨k1,k2,k3,k4⟩:=h.1.1 rfl
   have hq:=h.2 rfl
   subst hq
   have ih:=mtL_spec ns d (a+cntN n) (b+rngN n) k1 k2 hd
   rw [k4,Bool.true_and]
   refine ⟨ih.1.trans ?_,fun h=>(ih.2 h).trans ?_⟩
   ·constructor
    ·rintro ⟨g1,g2,g3,g4⟩;exact ⟨by omega,by omega,by omega,g4⟩
    ·rintro ⟨g1,g2,g3,g4⟩;exact ⟨by omega,by omega,by omega,g4⟩
   ·rw [Nat.add_assoc,Nat.add_assoc]
end
theorem right_mt (n:Nd):rightN n=(mtN 1 n (0,0)).1:=by
 have h:=(mtN_spec n 1 0 0 (by omega) (by omega)).1
 unfold rightN
 rw [Bool.eq_iff_iff,h]
 simp only [Bool.and_eq_true,decide_eq_true_eq]
 constructor
 ·rintro ⟨⟨⟨g1,g2⟩,g3⟩,g4⟩;exact ⟨by omega,by omega,by omega,g4⟩
 ·rintro ⟨g1,g2,g3,g4⟩;exact ⟨⟨⟨by omega,by omega⟩,by omega⟩,g4⟩
mutual
def everyN (p:List (Int×Int)→Prop):Nd→Prop
 | .mk _ _ _ rs ks=>p rs∧everyL p ks
def everyL (p:List (Int×Int)→Prop):List Nd→Prop
 | []=>True
 | n :: ns=>everyN p n∧everyL p ns
end
mutual
theorem everyN.mono {p q:List (Int×Int)→Prop} (hpq:∀ rs,p rs→q rs):∀ (n:Nd),everyN p n→everyN q n
 | .mk _ _ _ rs ks,h=>⟨hpq rs h.1,everyL.mono hpq ks h.2⟩
theorem everyL.mono {p q:List (Int×Int)→Prop} (hpq:∀ rs,p rs→q rs):∀ (ns:List Nd),everyL p ns→everyL q ns
 | [],_=>trivial
 | n :: ns,h=>⟨everyN.mono hpq n h.1,everyL.mono hpq ns h.2⟩
end
/-! how long -/
theorem digI_len (n:Nat):n < 100→(digI n).length≤2:=by
 intro h
 rw [digI]
 split
 ·simp
 ·rw [digI,if_pos (by omega)];simp
theorem quoC_len (c:Int):(quoC c).length≤2:=by unfold quoC;split <;> simp
theorem itemsI_len:∀ rs:List (Int×Int),(itemsI rs).length≤5 * rs.length
 | []=>by simp [itemsI]
 | r :: rs=>by
  have h1:=quoC_len r.1
  have h2:=quoC_len r.2
  have h3:=itemsI_len rs
  rw [itemsI]
  simp only [List.length_append,List.length_cons]
  split
  ·simp only [List.length_cons];omega
  ·simp only [List.length_nil];omega
theorem setI_len (rs:List (Int×Int)):(setI rs).length≤2+5 * rs.length:=by
 unfold setI
 split
 ·rename_i r
  split
  ·have:=quoC_len r.1
   simp only [List.length_cons,List.length_nil];omega
  ·have:=itemsI_len [r]
   simp only [List.length_cons,List.length_append,List.length_nil] at this ⊢;omega
 ·have:=itemsI_len rs
  simp only [List.length_cons,List.length_append,List.length_nil] at this ⊢;omega
theorem timesT_len {lo hi:Int} (h0:0≤lo) (h1:lo≤20) (h2:hi≤20):(timesT lo hi).length≤7:=by
 unfold timesT
 split
 ·simp
 split
 ·simp
 split
 ·simp
 have h3:=digI_len lo.toNat (by omega)
 simp only [List.length_cons,List.length_append,List.length_nil]
 split
 ·simp only [List.length_cons]
  split
  ·have h4:=digI_len hi.toNat (by omega)
   omega
  ·simp only [List.length_nil];omega
 ·simp only [List.length_nil];omega
theorem inBr_len (b:Bool) (x:List Int):(inBr b x).length≤x.length+2:=by
 unfold inBr;split <;> simp
theorem textN_form (k lo hi:Int) (rs:List (Int×Int)) (ks:List Nd):textN (.mk k lo hi rs ks)=if k=1 then [40,41] else if k=6 then [94] else if k=7 then [36] else if k=2 then setI rs
 else if k=3 then joinTx [3,4] ks else if k=4 then orTx ks else (match ks with
  | []=>[]
  | n :: _=>inBr (([3,4,5]:List Int).contains (kindN n)) (textN n))++timesT lo hi:=by
 rw [textN.eq_def]
 all_goals (cases ks <;> rfl)
mutual
theorem textN_len:∀ (n:Nd),allN n=true→(textN n).length+3≤12 * cntN n+5 * rngN n
 | .mk k lo hi rs ks,h=>by
  rw [allN,Bool.and_eq_true] at h
  rw [textN_form,cntN,rngN]
  by_cases h1:k=1
  ·rw [if_pos h1];simp only [List.length_cons,List.length_nil];omega
  rw [if_neg h1]
  by_cases h6:k=6
  ·rw [if_pos h6];simp only [List.length_cons,List.length_nil];omega
  rw [if_neg h6]
  by_cases h7:k=7
  ·rw [if_pos h7];simp only [List.length_cons,List.length_nil];omega
  rw [if_neg h7]
  by_cases h2:k=2
  ·rw [if_pos h2];have:=setI_len rs;omega
  rw [if_neg h2]
  by_cases h3:k=3
  ·rw [if_pos h3];have:=joinTx_len [3,4] ks h.2;omega
  rw [if_neg h3]
  by_cases h4:k=4
  ·rw [if_pos h4];have:=orTx_len ks h.2;omega
  rw [if_neg h4]
  have h5:k=5:=by
   by_cases h5:k=5
   ·exact h5
   ·simp [nodeI,h1,h6,h7,h2,h3,h4,h5] at h
  subst h5
  simp [nodeI] at h
  have ht:=timesT_len (lo:=lo) (hi:=hi) (by omega) (by omega) (by omega)
  rcases ks with _ | ⟨n,ns⟩
  ·simp at h
  ·have h2:=h.2
   rw [allL,Bool.and_eq_true] at h2
   have:=textN_len n h2.1
   have hb:=inBr_len (([3,4,5]:List Int).contains (kindN n)) (textN n)
   rw [cntL,rngL]
   simp only [List.length_append]
   omega
theorem joinTx_len (l:List Int):∀ (ns:List Nd),allL ns=true→(joinTx l ns).length≤12 * cntL ns+5 * rngL ns
 | [],_=>by simp [joinTx]
 | n :: ns,h=>by
  rw [allL,Bool.and_eq_true] at h
  have h1:=textN_len n h.1
  have h2:=joinTx_len l ns h.2
  have h3:=inBr_len (l.contains (kindN n)) (textN n)
  rw [joinTx,cntL,rngL,List.length_append]
  omega
theorem orTx_len:∀ (ns:List Nd),allL ns=true→(orTx ns).length≤12 * cntL ns+5 * rngL ns
 | [],_=>by simp [orTx]
 | [n],h=>by
  rw [allL,Bool.and_eq_true] at h
  have h1:=textN_len n h.1
  have h3:=inBr_len (kindN n == 4) (textN n)
  rw [orTx,cntL,rngL,List.length_append]
  simp only [List.length_nil]
  omega
 | n :: m :: ns,h=>by
  rw [allL,Bool.and_eq_true] at h
  have h1:=textN_len n h.1
  have h2:=orTx_len (m :: ns) h.2
  have h3:=inBr_len (kindN n == 4) (textN n)
  rw [orTx,cntL,rngL,List.length_append]
  simp only [List.length_cons]
  omega
end
theorem text_short {n:Nd} (h:rightN n=true):(textN n).length≤10000:=by
 unfold rightN at h
 simp only [Bool.and_eq_true,decide_eq_true_eq] at h
 have:=textN_len n h.2
 omega
end
section
open Go.RowKit
theorem tkwrap {k:Nat} (h:k≤1000):IntKind.i64.wrap ((k:Int)+1)=((k+1:Nat):Int):=by rw [IntWalk.i64_in _ (by omega)];omega
theorem OwnN.ofBox {w:World} {g:Nat} {cs:Array Value} {e:TypeId} (h:Box w g cs e) (hm:cs.size≤maxLen):OwnN w g e 1 (.slice (some ⟨g,0,none⟩) cs.toList.length cs.size) cs.toList.length cs.toList :=
 ⟨by simp,.inr ⟨g,cs.size,cs,rfl,Nat.le_refl _,h,by simp,hm,by simp,List.take_of_length_le (by simp)⟩⟩
theorem Box.ofOwn {w:World} {B g n m:Nat} {e:TypeId} {xs:List Value} (h:OwnN w B e 1 (.slice (some ⟨g,0,none⟩) m n) m xs) (hn:m=n):Box w g xs.toArray e:=by
 subst hn
 rcases h.2 with ⟨hv,_⟩ | ⟨g',cap,cur,hv,hbg,hh,hc,hm,hs,ht⟩
 ·cases hv
 ·injection hv with h1 _ h3
  injection h1 with h1
  injection h1 with h1
  subst h1 h3
  unfold Box
  rw [hh]
  congr 2
  have h4:cur.toList=xs:=by rw [← ht,List.take_of_length_le (by simp;omega)]
  rw [← h4]
section
variable {P:Program} {ops:Array Oper} {rest:List Oper} {o:Oper} {a:Act} {Q:Exit→Act→World→Prop}
theorem store_in {t e:TypeId} (W:World) (x y:Operand) (g j:Nat) (u:Value) (cs:Array Value)
 (hgd:o.guard=none) (hd:o.dst=none) (ho:o.op=.store t x y) (ht:(P.info? t).map (·.size)=some 1) (hu:u.oneCell'=true) (hx:a.eval x=.pointer (some ⟨g,j,none⟩)) (hy:a.eval y=u) (hb:Box W g cs e) (hj:j < cs.size) (hm:cs.size≤maxLen)
 (h:∀ w',Box w' g (cs.setIfInBounds j u) e→W.grownBy w' (some g)→wpList P ops Q rest a w'):wpList P ops Q (o :: rest) a W:=by
 refine store_cell W g x y g j cs.size u cs.toList W hgd hd ho ht hu hx hy (OwnN.ofBox hb hm) (by simpa using hj) (Below.refl _ _) fun w' h1 _ h3=>h w' ?_ h3
 have h4:OwnN w' g e 1 (.slice (some ⟨g,0,none⟩) (cs.toList.set j u).length cs.size) (cs.toList.set j u).length (cs.toList.set j u):=by simpa using h1
 have h5:=Box.ofOwn h4 (by simp)
 rw [← Array.toList_setIfInBounds,Array.toArray_toList] at h5
 exact h5
end
section
variable {P:Program} {ops:Array Oper} {o:Oper} {a:Act} {K:Act→World→Prop} {Q:Exit→Act→World→Prop} {E:Prop}
theorem step_in {t e:TypeId} (W:World) (x y:Operand) (g j:Nat) (u:Value) (cs:Array Value)
 (hgd:o.guard=none) (hd:o.dst=none) (ho:o.op=.store t x y) (ht:(P.info? t).map (·.size)=some 1) (hu:u.oneCell'=true) (hx:a.eval x=.pointer (some ⟨g,j,none⟩)) (hy:a.eval y=u) (hb:Box W g cs e) (hj:j < cs.size) (hm:cs.size≤maxLen)
 (h:∀ w',Box w' g (cs.setIfInBounds j u) e→W.grownBy w' (some g)→K a w'):if Region.wanted o (yielded ops a.tmps)=true then Oper.wp P o a W K Q else E:=by
 refine step_store W g x y g j cs.size u cs.toList W hgd hd ho ht hu hx hy (OwnN.ofBox hb hm) (by simpa using hj) (Below.refl _ _) fun w' h1 _ h3=>h w' ?_ h3
 have h4:OwnN w' g e 1 (.slice (some ⟨g,0,none⟩) (cs.toList.set j u).length cs.size) (cs.toList.set j u).length (cs.toList.set j u):=by simpa using h1
 have h5:=Box.ofOwn h4 (by simp)
 rw [← Array.toList_setIfInBounds,Array.toArray_toList] at h5
 exact h5
end
theorem IsR.went {w w':World} {b c k k':Nat} {A:Option Addr} {l:List Int} {tv:Value} {T:List Tok} (h:IsR w b A l c k tv T) (hb:Box w' b #[.slice A l.length c,.int .i64 k',tv] 114) (hg:w.grownBy w' (some b)) (hk:k'≤l.length):IsR w' b A l c k' tv T :=
 ⟨hb,h.toks.keep hg (.inr h.far),h.lies.same (fun q hq=>World.cell?_of_block (hg.block q.block (by have:=h.lt;omega) (fun e=>by injection e with e;omega))),hk,h.cap⟩
theorem tknext_any (w:World) (b c k:Nat) (A:Option Addr) (l:List Int) (tv:Value) (T:List Tok) (h:IsR w b A l c k tv T) (hl:l.length≤1000) :
 Calls Tryz.prog 102 #[.pointer (some ⟨b,0,none⟩)] w (Told w b A l c tv T (Value.int .i64) (nxT l k)):=by
 obtain ⟨h0,h1,h2⟩:=h.cells
 have hf:=h.frozen 1
 have H:=qh h
 by_cases hk:k < l.length
 ·rw [nxT_at hk]
  obtain ⟨p,rfl,-,hc⟩:=h.char hk
  have d1:((k:Int) == (l.length:Int))=false:=by simp;omega
  have k0:(0:Int)≤(k:Int):=by omega
  have k1:(k:Int) < (l.length:Int):=by omega
  have hw:=tkwrap (k:=k) (by omega)
  obtain ⟨x,hx⟩:∃ x,l[k]=x:=⟨_,rfl⟩
  rw [hx] at hc ⊢
  clear h
  go_enter Tryz.func102,Tryz.ntmps102
  go_wp2
  go_quiet (fail)
  go_wp2
  go_quiet (fail)
  go_wp2
  go_ret
  exact ⟨rfl,(H.out.drewN _).goes (k+1) (by omega),(grown_draws (grown_refl _ _) _).trans (grown_set _ _ _ _)⟩
 ·have hkl:k=l.length:=by have:=h.le;omega
  rw [nxT_end (by omega)]
  have d1:((k:Int) == (l.length:Int))=true:=by simp;omega
  clear h
  go_enter Tryz.func102,Tryz.ntmps102
  go_wp2
  go_quiet (fail)
  go_wp2
  exact ⟨rfl,rfl,grown_draws (grown_refl _ _) _⟩
theorem beq_eq_decide' (a b:Int):decide (some a=some b)=(a == b):=by
 by_cases h:a=b <;> simp [h]
theorem IsR.new {w w':World} {b c k g:Nat} {A:Option Addr} {l:List Int} {tv:Value} {T:List Tok} (h:IsR w b A l c k tv T) (hg:w.grownBy w' (some g)) (hb:b < g) (hv:tv.ownBlock≠some g):IsR w' b A l c k tv T :=
 h.kept hg (by simp;omega) (fun x e=>by injection e with e;omega) (.inr hv)
theorem grown_any {w w':World} (h:w.grownBy w' none) (row:Option Nat):w.grownBy w' row:=⟨h.os,h.tape,h.output,h.size,fun k hk _=>h.block k hk (by simp)⟩
theorem IsR.old {w:World} {b c k g:Nat} {A:Option Addr} {l:List Int} {tv:Value} {T:List Tok} (h:IsR w b A l c k tv T) (hg:w.heap.size≤g):tv.ownBlock≠some g:=fun e=>by
 have:=(h.toks.inside g e).2;omega
theorem intInfo:(Tryz.prog.info? 3).map (·.size)=some 1:=by kernel_rfl
section
variable {ops:Array Oper} {rest:List Oper} {o:Oper} {a:Act} {Q:Exit→Act→World→Prop}
theorem store_at (W:World) (x y:Operand) {b c k:Nat} {A:Option Addr} {l:List Int} {tv:Value} {T:List Tok} (k':Nat)
 (hgd:o.guard=none) (hd:o.dst=none) (ho:o.op=.store 3 x y) (hx:a.eval x=.pointer (some ⟨b,1,none⟩)) (hy:a.eval y=.int .i64 (k':Int)) (h:IsR W b A l c k tv T) (hk:k'≤l.length)
 (hn:∀ w',IsR w' b A l c k' tv T→W.grownBy w' (some b)→wpList Tryz.prog ops Q rest a w'):wpList Tryz.prog ops Q (o :: rest) a W :=
 store_in W x y b 1 (.int .i64 (k':Int)) _ hgd hd ho intInfo rfl hx hy h.box (by simp) (by simp [maxLen]) fun w' h1 h2=>hn w' (h.went h1 h2 hk) h2
theorem store_char (W:World) (x y:Operand) (g:Nat) (t:Tok) (n:Int)
 (hgd:o.guard=none) (hd:o.dst=none) (ho:o.op=.store 3 x y) (hx:a.eval x=.pointer (some ⟨g,1,none⟩)) (hy:a.eval y=.int .i64 n) (hb:Box W g t.arr 56)
 (h:∀ w',Box w' g (⟨t.k,n,t.lo,t.hi,t.pos⟩:Tok).arr 56→W.grownBy w' (some g)→wpList Tryz.prog ops Q rest a w'):wpList Tryz.prog ops Q (o :: rest) a W :=
 store_in W x y g 1 (.int .i64 n) _ hgd hd ho intInfo rfl hx hy hb (by simp) (by simp [maxLen]) fun w' h1 h2=>h w' h1 h2
end
def seesB (l:List Int) (i:Nat) (x:Int):Bool:=decide (l[i]?=some x)
theorem tksees_any (w:World) (b c k:Nat) (A:Option Addr) (l:List Int) (tv:Value) (T:List Tok) (h:IsR w b A l c k tv T) (hl:l.length≤1000) (n:Nat) (y x:Int) (hy:y=(n:Int)) (hn:n≤1000) :
 Calls Tryz.prog 109 #[.pointer (some ⟨b,0,none⟩),.int .i64 y,.int .i64 x] w fun e w'=>e=.returned (.bool (seesB l (k+n) x))∧w=w':=by
 subst hy
 obtain ⟨h0,h1,h2⟩:=h.cells
 have hkl:=h.le
 obtain ⟨i,hi⟩:∃ i,k+n=i:=⟨_,rfl⟩
 have hw:IntKind.i64.wrap ((k:Int)+(n:Int))=(i:Int):=by rw [IntWalk.i64_in _ (by omega)];omega
 rw [hi]
 by_cases hk:i < l.length
 ·obtain ⟨p,rfl,-,hc⟩:=h.char hk
  have k0:(0:Int)≤(i:Int):=by omega
  have k1:(i:Int) < (l.length:Int):=by omega
  have d1:decide ((i:Int) < (l.length:Int))=true:=by simpa using hk
  have e1:seesB l i x=(l[i] == x):=by rw [seesB,List.getElem?_eq_getElem hk];rw [beq_eq_decide']
  rw [e1]
  obtain ⟨z,hz⟩:∃ z,l[i]=z:=⟨_,rfl⟩
  rw [hz] at hc ⊢
  clear h e1 hz hi
  go_enter Tryz.func109,Tryz.ntmps109
  go_wp2
  go_ret
  exact ⟨rfl,rfl⟩
 ·have e1:seesB l i x=false:=by rw [seesB,List.getElem?_eq_none (by omega)];simp
  have d1:decide ((i:Int) < (l.length:Int))=false:=by simp;omega
  rw [e1]
  clear h e1 hi
  go_enter Tryz.func109,Tryz.ntmps109
  go_wp2
  go_ret
  exact ⟨rfl,rfl⟩
theorem tkclass_any (w:World) (b c k:Nat) (A:Option Addr) (l:List Int) (tv:Value) (T:List Tok) (h:IsR w b A l c k tv T) (hl:l.length≤1000) :
 Calls Tryz.prog 106 #[.pointer (some ⟨b,0,none⟩)] w fun e w'=>e=.returned (.agg (claT l k).1.arr)∧IsR w' b A l c (claT l k).2 tv T∧w.grownBy w' (some b):=by
 obtain ⟨w0,hw0⟩:∃ u,w.alloc (.cells #[.int .i64 0,.int .i64 0,.int .i64 0,.int .i64 0,.int .i64 0] 56)=u:=⟨_,rfl⟩
 have X0:Hid (Box w0 w.heap.size noTok.arr 56):=qh (hw0▸Box.new w _ _)
 have G0:Hid (w.grownBy w0 none):=qh (hw0▸grown_new w _ _)
 have H0:Hid (IsR w0 b A l c k tv T):=qh (h.grown G0.out)
 have hbw:=h.lt
 have HO:Hid (∀ g,w.heap.size≤g→tv.ownBlock≠some g):=qh fun g hg=>h.old hg
 have Z0:Hid (w0.heap.size=w.heap.size+1):=qh (by rw [← hw0];simp)
 have HW0:=qh hw0
 clear h hw0
 obtain ⟨w1,hw1⟩:∃ u,w0.alloc (.cells #[.int .i64 7,.int .i64 0,.int .i64 0,.int .i64 0,.int .i64 0] 56)=u:=⟨_,rfl⟩
 have HW1:=qh hw1
 have X1:Hid (Box w1 (w.heap.size+1) (⟨7,0,0,0,0⟩:Tok).arr 56):=qh (by rw [← Z0.out,← hw1];exact Box.new w0 _ _)
 have Y1:Hid (Box w1 w.heap.size noTok.arr 56):=qh (X0.out.kept (hw1▸grown_new w0 _ none) (by simp))
 have G1:Hid (w.grownBy w1 none):=qh (G0.out.trans (hw1▸grown_new w0 _ _))
 have H1:Hid (IsR w1 b A l c k tv T):=qh (H0.out.grown (hw1▸grown_new w0 _ _))
 clear hw1
 rcases hs:seesB l (k+0) 94 with _ | _
 ·have HC:Hid (claT l k=(⟨7,0,0,0,0⟩,k)):=qh (by unfold claT;rw [if_neg (by simpa [seesB] using hs)])
  rw [HC.out]
  have HS:=qh hs
  clear hs
  go_enter Tryz.func106,Tryz.ntmps106
  go_wp2_with fail
  rw [HW0.out,HW1.out]
  refine (tksees_any w1 b c k A l tv T H1.out hl 0 0 94 rfl (by omega)).mono ?_
  rintro e wq ⟨rfl,rfl⟩
  rw [HS.out]
  go_wp2_with (first
   | (refine load_box _ (w.heap.size+1) _ _ rfl rfl rfl X1.out Tryz.underlying56 rfl (tokInfo _) ?_)
   | (refine store_tok w1 _ _ w.heap.size noTok ⟨7,0,0,0,0⟩ rfl rfl rfl rfl rfl Y1.out ?_;intro w2 x2 g2;have X2:=qh x2;have G2:=qh g2;clear x2 g2)
   | fail)
  (try simp only [Exit.inBlock,Exit.then])
  exact bodyPost_ret (v:=.agg (⟨7,0,0,0,0⟩:Tok).arr) (ret_tok rfl _ _ w.heap.size _ rfl X2.out) rfl ⟨rfl,H1.out.new G2.out hbw (HO.out _ (Nat.le_refl _)),grown_two (grown_any G1.out _) G2.out (Nat.le_refl _)⟩
 ·have hk:k < l.length:=by
   rw [seesB,Nat.add_zero] at hs
   exact (List.getElem?_eq_some_iff.1 (of_decide_eq_true hs)).1
  have HC:Hid (claT l k=(⟨7,1,0,0,0⟩,k+1)):=qh (by unfold claT;rw [if_pos (by simpa [seesB] using hs)])
  rw [HC.out]
  have HS:=qh hs
  have hw:=tkwrap (k:=k) (by omega)
  obtain ⟨h0,h1,h2⟩:=H1.out.cells
  clear hs
  go_enter Tryz.func106,Tryz.ntmps106
  go_wp2_with fail
  rw [HW0.out,HW1.out]
  refine (tksees_any w1 b c k A l tv T H1.out hl 0 0 94 rfl (by omega)).mono ?_
  rintro e wq ⟨rfl,rfl⟩
  rw [HS.out]
  go_wp2_with (first
   | (refine store_at w1 _ _ (k+1) rfl rfl rfl rfl rfl H1.out hk ?_;intro w2 h2 g2;have H2:=qh h2;have X2:=qh (X1.out.kept g2 (by simp;omega));have Y2:=qh (Y1.out.kept g2 (by simp;omega));have G2:=qh ((grown_any G1.out (some b)).trans g2);clear h2 g2)
   | (refine store_char w2 _ _ (w.heap.size+1) ⟨7,0,0,0,0⟩ 1 rfl rfl rfl rfl rfl X2.out ?_;intro w3 x3 g3;have H3:=qh (H2.out.new g3 (by omega) (HO.out _ (by omega)));have X3:Hid (Box w3 (w.heap.size+1) (⟨7,1,0,0,0⟩:Tok).arr 56):=qh x3;have Y3:=qh (Y2.out.kept g3 (by simp));have G3:=qh (grown_two G2.out g3 (by omega));clear x3 g3)
   | (refine load_box _ (w.heap.size+1) _ _ rfl rfl rfl X3.out Tryz.underlying56 rfl (tokInfo _) ?_)
   | (refine store_tok w3 _ _ w.heap.size noTok ⟨7,1,0,0,0⟩ rfl rfl rfl rfl rfl Y3.out ?_;intro w4 x4 g4;have X4:=qh x4;have G4:=qh g4;clear x4 g4)
   | fail)
  (try simp only [Exit.inBlock,Exit.then])
  exact bodyPost_ret (v:=.agg (⟨7,1,0,0,0⟩:Tok).arr) (ret_tok rfl _ _ w.heap.size _ rfl X4.out) rfl ⟨rfl,H3.out.new G4.out hbw (HO.out _ (Nat.le_refl _)),grown_two G3.out G4.out (Nat.le_refl _)⟩
end
section
open Go.RowKit
theorem tkesc_any (w:World) (b c k:Nat) (A:Option Addr) (l:List Int) (tv:Value) (T:List Tok) (h:IsR w b A l c k tv T) (hl:l.length≤1000) (fr:Nat) :
 Calls Tryz.prog 107 #[.pointer (some ⟨b,0,none⟩),.int .i64 fr] w (Told w b A l c tv T (fun t:Tok=>.agg t.arr) (escT l fr k)):=by
 obtain ⟨w0,hw0⟩:∃ u,w.alloc (.cells #[.int .i64 0,.int .i64 0,.int .i64 0,.int .i64 0,.int .i64 0] 56)=u:=⟨_,rfl⟩
 have X0:Hid (Box w0 w.heap.size noTok.arr 56):=qh (hw0▸Box.new w _ _)
 have G0:Hid (w.grownBy w0 none):=qh (hw0▸grown_new w _ _)
 have H0:Hid (IsR w0 b A l c k tv T):=qh (h.grown G0.out)
 have hbw:=h.lt
 have HO:Hid (∀ g,w.heap.size≤g→tv.ownBlock≠some g):=qh fun g hg=>h.old hg
 have HW0:=qh hw0
 have hc:=tknext_any w0 b c k A l tv T H0.out hl
 unfold escT
 clear h hw0
 rcases hn:nxT l k with ⟨n,x⟩ | ⟨x,k'⟩
 ·rw [hn] at hc
  have HC:=qh hc
  clear hc hn
  go_enter Tryz.func107,Tryz.ntmps107
  go_wp2_with fail
  rw [HW0.out]
  refine HC.out.mono ?_
  rintro e w1 ⟨rfl,g1⟩
  have G1:=qh ((grown_any G0.out (some b)).trans g1)
  clear g1
  go_wp2_with fail
  exact ⟨rfl,rfl,G1.out⟩
 ·rw [hn] at hc
  have HC:=qh hc
  clear hc hn
  simp only
  rcases he:escI x with _ | ⟨z,g⟩
  ·have HV:Hid (escV x=.tuple #[.int .i64 0,.bool false,.bool false]):=qh (by unfold escV;rw [he])
   clear he
   go_enter Tryz.func107,Tryz.ntmps107
   go_wp2_with fail
   rw [HW0.out]
   refine HC.out.mono ?_
   rintro e w1 ⟨rfl,h1,g1⟩
   have G1:=qh ((grown_any G0.out (some b)).trans g1)
   clear g1 h1
   go_wp2_with fail
   refine (tkescape_any x w1).mono ?_
   rintro e wq ⟨rfl,rfl⟩
   rw [HV.out]
   go_wp2_with fail
   exact ⟨rfl,rfl,G1.out⟩
  ·have HV:Hid (escV x=.tuple #[.int .i64 z,.bool g,.bool true]):=qh (by unfold escV;rw [he])
   clear he
   cases g
   ·go_enter Tryz.func107,Tryz.ntmps107
    go_wp2_with fail
    rw [HW0.out]
    refine HC.out.mono ?_
    rintro e w1 ⟨rfl,h1,g1⟩
    have G1:=qh ((grown_any G0.out (some b)).trans g1)
    have H1:=qh h1
    have X1:=qh (X0.out.kept g1 (by simp;omega))
    clear g1 h1
    go_wp2_with fail
    refine (tkescape_any x w1).mono ?_
    rintro e wq ⟨rfl,rfl⟩
    rw [HV.out]
    go_wp2_with fail
    refine (tkchar_any z w1).mono ?_
    rintro e w2 ⟨rfl,g2⟩
    have G2:=qh (G1.out.trans (grown_any g2 _))
    have H2:=qh (H1.out.grown g2)
    have X2:=qh (X1.out.kept g2 (by simp))
    clear g2
    go_wp2_with (first
     | (refine store_tok w2 _ _ w.heap.size noTok (chT z) rfl rfl rfl rfl rfl X2.out ?_;intro w3 x3 g3;have X3:=qh x3;have G3:=qh g3;clear x3 g3)
     | fail)
    (try simp only [Exit.inBlock,Exit.then])
    exact bodyPost_ret (v:=.agg (chT z).arr) (ret_tok rfl _ _ w.heap.size _ rfl X3.out) rfl ⟨rfl,H2.out.new G3.out hbw (HO.out _ (Nat.le_refl _)),grown_two G2.out G3.out (Nat.le_refl _)⟩
   ·go_enter Tryz.func107,Tryz.ntmps107
    go_wp2_with fail
    rw [HW0.out]
    refine HC.out.mono ?_
    rintro e w1 ⟨rfl,h1,g1⟩
    have G1:=qh ((grown_any G0.out (some b)).trans g1)
    have H1:=qh h1
    have X1:=qh (X0.out.kept g1 (by simp;omega))
    clear g1 h1
    go_wp2_with fail
    refine (tkescape_any x w1).mono ?_
    rintro e wq ⟨rfl,rfl⟩
    rw [HV.out]
    go_wp2_with (first
     | (refine store_tok w1 _ _ w.heap.size noTok ⟨12,z,0,0,0⟩ rfl rfl rfl rfl rfl X1.out ?_;intro w3 x3 g3;have X3:=qh x3;have G3:=qh g3;clear x3 g3)
     | fail)
    (try simp only [Exit.inBlock,Exit.then])
    exact bodyPost_ret (v:=.agg (⟨12,z,0,0,0⟩:Tok).arr) (ret_tok rfl _ _ w.heap.size _ rfl X3.out) rfl ⟨rfl,H1.out.new G3.out hbw (HO.out _ (Nat.le_refl _)),grown_two G1.out G3.out (Nat.le_refl _)⟩
theorem tkitem_any (w:World) (b c k:Nat) (A:Option Addr) (l:List Int) (tv:Value) (T:List Tok) (h:IsR w b A l c k tv T) (hl:l.length≤1000) :
 Calls Tryz.prog 110 #[.pointer (some ⟨b,0,none⟩)] w (Told w b A l c tv T (fun t:Tok=>.agg t.arr) (itemT l k)):=by
 obtain ⟨w0,hw0⟩:∃ u,w.alloc (.cells #[.int .i64 0,.int .i64 0,.int .i64 0,.int .i64 0,.int .i64 0] 56)=u:=⟨_,rfl⟩
 have X0:Hid (Box w0 w.heap.size noTok.arr 56):=qh (hw0▸Box.new w _ _)
 have G0:Hid (w.grownBy w0 none):=qh (hw0▸grown_new w _ _)
 have H0:Hid (IsR w0 b A l c k tv T):=qh (h.grown G0.out)
 have hbw:=h.lt
 have HO:Hid (∀ g,w.heap.size≤g→tv.ownBlock≠some g):=qh fun g hg=>h.old hg
 have HW0:=qh hw0
 have hc:=tknext_any w0 b c k A l tv T H0.out hl
 obtain ⟨c0,c1,c2⟩:=h.cells
 unfold itemT
 clear h hw0
 rcases hn:nxT l k with ⟨n,x⟩ | ⟨x,k'⟩
 ·rw [hn] at hc
  have HC:=qh hc
  clear hc hn
  go_enter Tryz.func110,Tryz.ntmps110
  go_wp2_with fail
  rw [HW0.out]
  refine HC.out.mono ?_
  rintro e w1 ⟨rfl,g1⟩
  have G1:=qh ((grown_any G0.out (some b)).trans g1)
  clear g1
  go_wp2_with fail
  exact ⟨rfl,rfl,G1.out⟩
 ·rw [hn] at hc
  have HC:=qh hc
  clear hc hn
  simp only
  by_cases h92:x=92
  ·rw [if_pos h92]
   have d92:(x != 92)=false:=by simpa using h92
   clear h92
   go_enter Tryz.func110,Tryz.ntmps110
   go_wp2_with fail
   rw [HW0.out]
   refine HC.out.mono ?_
   rintro e w1 ⟨rfl,h1,g1⟩
   have G1:=qh ((grown_any G0.out (some b)).trans g1)
   have X1:=qh (X0.out.kept g1 (by simp;omega))
   have he:=tkesc_any w1 b c k' A l tv T h1 hl k
   have Z1:Hid (w.heap.size≤w1.heap.size):=qh G1.out.size
   clear g1 h1
   rcases hr:escT l k k' with ⟨n,y⟩ | ⟨t,k2⟩
   ·rw [hr] at he
    have HE:=qh he
    have HR:=qh hr
    clear he hr
    go_wp2_with fail
    refine HE.out.mono ?_
    rintro e w2 ⟨rfl,g2⟩
    have G2:=qh (G1.out.trans g2)
    clear g2
    go_wp2_with fail
    exact ⟨rfl,by rw [HR.out];exact ⟨rfl,G2.out⟩⟩
   ·rw [hr] at he
    have HE:=qh he
    have HR:=qh hr
    clear he hr
    go_wp2_with fail
    refine HE.out.mono ?_
    rintro e w2 ⟨rfl,h2,g2⟩
    have G2:=qh (G1.out.trans g2)
    have H2:=qh h2
    have X2:=qh (X1.out.kept g2 (by simp;omega))
    clear g2 h2
    go_wp2_with (first
     | (refine store_tok w2 _ _ w.heap.size noTok t rfl rfl rfl rfl rfl X2.out ?_;intro w3 x3 g3;have X3:=qh x3;have G3:=qh g3;clear x3 g3)
     | fail)
    (try simp only [Exit.inBlock,Exit.then])
    exact bodyPost_ret (v:=.agg t.arr) (ret_tok rfl _ _ w.heap.size _ rfl X3.out) rfl (by rw [HR.out];exact ⟨rfl,H2.out.new G3.out hbw (HO.out _ (Nat.le_refl _)),grown_two G2.out G3.out (Nat.le_refl _)⟩)
  ·rw [if_neg h92]
   have d92:(x != 92)=true:=by simpa using h92
   clear h92
   go_enter Tryz.func110,Tryz.ntmps110
   go_wp2_with fail
   rw [HW0.out]
   refine HC.out.mono ?_
   rintro e w1 ⟨rfl,h1,g1⟩
   have G1:=qh ((grown_any G0.out (some b)).trans g1)
   have H1:=qh h1
   have X1:=qh (X0.out.kept g1 (by simp;omega))
   clear g1 h1
   go_wp2_with fail
   refine (tkchar_any x w1).mono ?_
   rintro e w2 ⟨rfl,g2⟩
   have G2:=qh (G1.out.trans (grown_any g2 _))
   have H2:=qh (H1.out.grown g2)
   have X2:=qh (X1.out.kept g2 (by simp))
   clear g2
   go_wp2_with (first
    | (refine store_tok w2 _ _ w.heap.size noTok (chT x) rfl rfl rfl rfl rfl X2.out ?_;intro w3 x3 g3;have X3:=qh x3;have G3:=qh g3;clear x3 g3)
    | fail)
   (try simp only [Exit.inBlock,Exit.then])
   exact bodyPost_ret (v:=.agg (chT x).arr) (ret_tok rfl _ _ w.heap.size _ rfl X3.out) rfl ⟨rfl,H2.out.new G3.out hbw (HO.out _ (Nat.le_refl _)),grown_two G2.out G3.out (Nat.le_refl _)⟩
theorem Box.field {w:World} {g:Nat} {t:Tok} {e:TypeId} (h:Box w g t.arr e):w.cell? ⟨g,0,none⟩=some (.int .i64 t.k)∧w.cell? ⟨g,1,none⟩=some (.int .i64 t.c):=⟨h.cell rfl,h.cell rfl⟩
theorem tkup_any (w:World) (b c k:Nat) (A:Option Addr) (l:List Int) (tv:Value) (T:List Tok) (h:IsR w b A l c k tv T) (hl:l.length≤1000) (low:Int) (fr:Nat) :
 Calls Tryz.prog 111 #[.pointer (some ⟨b,0,none⟩),.int .i64 low,.int .i64 fr] w (Told w b A l c tv T (fun t:Tok=>.agg t.arr) (upT l low fr k)):=by
 obtain ⟨w0,hw0⟩:∃ u,w.alloc (.cells #[.int .i64 0,.int .i64 0,.int .i64 0,.int .i64 0,.int .i64 0] 56)=u:=⟨_,rfl⟩
 have X0:Hid (Box w0 w.heap.size noTok.arr 56):=qh (hw0▸Box.new w _ _)
 have G0:Hid (w.grownBy w0 none):=qh (hw0▸grown_new w _ _)
 have H0:Hid (IsR w0 b A l c k tv T):=qh (h.grown G0.out)
 have hbw:=h.lt
 have HO:Hid (∀ g,w.heap.size≤g→tv.ownBlock≠some g):=qh fun g hg=>h.old hg
 have HW0:=qh hw0
 have hc:=tkitem_any w0 b c k A l tv T H0.out hl
 obtain ⟨c0,c1,c2⟩:=h.cells
 unfold upT
 clear h hw0
 rcases hn:itemT l k with ⟨n,x⟩ | ⟨t,k'⟩
 ·rw [hn] at hc
  have HC:=qh hc
  clear hc hn
  go_enter Tryz.func111,Tryz.ntmps111
  go_wp2_with fail
  rw [HW0.out]
  refine HC.out.mono ?_
  rintro e w1 ⟨rfl,g1⟩
  have G1:=qh ((grown_any G0.out (some b)).trans g1)
  clear g1
  go_wp2_with fail
  exact ⟨rfl,rfl,G1.out⟩
 ·rw [hn] at hc
  have HC:=qh hc
  clear hc hn
  simp only
  by_cases h12:t.k=12
  ·rw [if_pos h12]
   have d12:(t.k == 12)=true:=by simpa using h12
   have D12:=qh d12
   clear h12 d12
   go_enter Tryz.func111,Tryz.ntmps111
   go_wp2_with fail
   rw [HW0.out]
   refine HC.out.mono ?_
   rintro e w1 ⟨rfl,h1,g1⟩
   have G1:=qh ((grown_any G0.out (some b)).trans g1)
   clear g1 h1
   have d12:=D12.out
   go_wp2_with fail
   exact ⟨rfl,rfl,G1.out.trans (grown_new w1 _ _)⟩
  ·rw [if_neg h12]
   have d12:(t.k == 12)=false:=by simpa using h12
   clear h12
   by_cases hlt:t.c < low
   ·rw [if_pos hlt]
    have dlt:decide (t.c < low)=true:=by simpa using hlt
    clear hlt
    go_enter Tryz.func111,Tryz.ntmps111
    go_wp2_with fail
    rw [HW0.out]
    refine HC.out.mono ?_
    rintro e w1 ⟨rfl,h1,g1⟩
    have G1:=qh ((grown_any G0.out (some b)).trans g1)
    clear g1 h1
    go_wp2_with fail
    exact ⟨rfl,rfl,G1.out.trans (grown_new w1 _ _)⟩
   ·rw [if_neg hlt]
    have dlt:decide (t.c < low)=false:=by simpa using hlt
    clear hlt
    go_enter Tryz.func111,Tryz.ntmps111
    go_wp2_with fail
    rw [HW0.out]
    refine HC.out.mono ?_
    rintro e w1 ⟨rfl,h1,g1⟩
    have G1:=qh ((grown_any G0.out (some b)).trans g1)
    have H1:=qh h1
    have X1:=qh (X0.out.kept g1 (by simp;omega))
    clear g1 h1
    go_wp2_with (first
     | (refine store_tok _ _ _ w.heap.size noTok ⟨9,0,low,t.c,0⟩ rfl rfl rfl rfl rfl (X1.out.kept (grown_new w1 _ none) (by simp)) ?_;intro w3 x3 g3;have X3:=qh x3;have G3:=qh g3;clear x3 g3)
     | fail)
    (try simp only [Exit.inBlock,Exit.then])
    exact bodyPost_ret (v:=.agg (⟨9,0,low,t.c,0⟩:Tok).arr) (ret_tok rfl _ _ w.heap.size _ rfl X3.out) rfl ⟨rfl,(H1.out.grown (grown_new w1 _ none)).new G3.out hbw (HO.out _ (Nat.le_refl _)),grown_two (G1.out.trans (grown_new w1 _ _)) G3.out (Nat.le_refl _)⟩
end
end Go.Proofs.YtoeocodfndbebaaGreatDoor
