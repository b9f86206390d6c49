/- Shared texts, shaken for one claim. -/
import Derived.Test.YtoeocodfndbebaaGreatDoorZB5
import Derived.Test.YtoeocodfndbebaaGreatDoorZB7
import Derived.Test.YtoeocodfndbebaaGreatDoorZB17
set_option maxRecDepth 20000
set_option maxHeartbeats 16000000
namespace Go.Proofs.YtoeocodfndbebaaGreatDoor
section
open Go.RowKit
theorem results_box2 {P:Program} {fn:Func} {t u p:Tmp} {ty:TypeId} (h:fn.results=#[.cell p ty,.tmp t,.tmp u]) (tmps:Array Value) (w:World) (g:Nat) (e:TypeId) (cs:Array Value) (d:TypeDesc)
 (hp:tmps.getD p undef=.pointer (some ⟨g,0,none⟩)) (hg:Box w g cs e)
 (hu:P.underlying ty=some d) (hd:(match d with | .struct _ | .array _ _=>true | _=>false)=true) (hi:(P.info? ty).map (·.size)=some cs.size) :
 (results fn tmps).run P w=.ok (.tuple #[.agg cs,tmps.getD t undef,tmps.getD u undef]) w:=by
 have hp':tmps[p]?.getD undef=.pointer (some ⟨g,0,none⟩):=by simpa using hp
 simp [results,h,hp',asAddr,run_loadVar_row w g e ty cs (0,0) d hg hu hd hi]
def Wronged (w:World) (p x:Int) (ed:Ending) (w':World):Prop:=ed=.returned (.tuple #[.agg ndZero,.int .i64 p,.int .i64 x])∧Below w.heap.size w w'
theorem parse_flag (w:World) (A:Option Addr) (l:List Int) (c:Nat) (f:Int) (hf:7 < f):Calls Tryz.prog 20 #[.slice A l.length c,.int .i64 f] w (Wronged w 0 11):=by
 have d0:decide (f < 0)=false:=decide_eq_false (by omega)
 have d1:decide (7 < f)=true:=decide_eq_true hf
 have d2:decide (f > 7)=true:=decide_eq_true hf
 have X0:Hid (Box (w.alloc (.cells #[.int .i64 0,.slice none 0 0,.int .i64 0,.int .i64 0,.slice none 0 0] 25)) w.heap.size ndZero 25):=qh (Box.new w _ _)
 clear hf
 go_enter Tryz.func20,Tryz.ntmps20
 go_wp2_with (first
  | (refine store_nd _ _ _ w.heap.size ndZero ndZero rfl rfl rfl rfl rfl X0.out rfl rfl (by simp [ndZero,Value.oneCell']) ?_;intro w1 x1 g1;have X1:=qh x1;have G1:=qh (grown_two (grown_new w _ none) g1 (Nat.le_refl _));clear x1 g1)
  | fail)
 (try simp only [Exit.inBlock,Exit.then])
 exact bodyPost_ret (results_box2 rfl _ _ w.heap.size 25 _ _ rfl X1.out Tryz.underlying25 rfl (ndInfo rfl)) rfl ⟨rfl,below_row_none G1.out (Nat.le_refl _)⟩
theorem parse_fault (w:World) (A:Option Addr) (l:List Int) (c:Nat) (f:Int) (hf:0≤f∧f≤7) (h:Lies w w.heap.size A (ints .i64 l)) (hc:l.length≤c) (T:List Tok) (ho:ofT l=.ok T) (hn:T.length≤1000) (p x:Int) (hx:x≠0) (hz:faultT l.length T 0 3=(p,x)) :
 Calls Tryz.prog 20 #[.slice A l.length c,.int .i64 f] w (Wronged w p x):=by
 have d0:decide (f < 0)=false:=decide_eq_false (by omega)
 have d1:decide (7 < f)=false:=decide_eq_false (by omega)
 have d2:decide (f > 7)=false:=decide_eq_false (by omega)
 have d3:(x != 0)=true:=by simpa using hx
 obtain ⟨w0,hw0⟩:∃ u,w.alloc (.cells #[.int .i64 0,.slice none 0 0,.int .i64 0,.int .i64 0,.slice none 0 0] 25)=u:=⟨_,rfl⟩
 have G0:Hid (w.grownBy w0 none):=qh (hw0▸grown_new w _ none)
 have X0:Hid (Box w0 w.heap.size ndZero 25):=qh (hw0▸Box.new w _ _)
 have HW0:=qh hw0
 have HC:=qh (tkof_any w0 c A l (h.up (below_row_none G0.out (Nat.le_refl _))) hc)
 rw [ho] at HC
 have HFA:=qh (fun (u:World) (A:Option Addr) (c:Nat) h=>fault_any u A T c l.length h hn)
 rw [hz] at HFA
 clear hf hx hw0 h ho hz
 go_enter Tryz.func20,Tryz.ntmps20
 go_wp2_with fail
 rw [HW0.out]
 refine HC.out.mono ?_
 rintro e w1 ⟨⟨tv,rfl,o1⟩,b1⟩
 obtain ⟨A1,c1,rfl,l1,-,-⟩:=o1.form
 have X1:=qh (X0.out.kept (grown_of_below b1 none) (by simp))
 have G1:=qh (G0.out.trans (grown_of_below b1 none))
 have HF:=qh (HFA.out w1 A1 c1 l1)
 clear o1 b1 l1
 go_wp2_with fail
 refine HF.out.mono ?_
 rintro e w2 ⟨rfl,g2⟩
 have X2:=qh (X1.out.kept g2 (by simp))
 have G2:=qh (G1.out.trans g2)
 clear g2
 go_wp2_with (first
  | (refine store_nd w2 _ _ w.heap.size ndZero ndZero rfl rfl rfl rfl rfl X2.out rfl rfl (by simp [ndZero,Value.oneCell']) ?_;intro w3 x3 g3;have X3:=qh x3;have G3:=qh (grown_two G2.out g3 (Nat.le_refl _));clear x3 g3)
  | fail)
 (try simp only [Exit.inBlock,Exit.then])
 exact bodyPost_ret (results_box2 rfl _ _ w.heap.size 25 _ _ rfl X3.out Tryz.underlying25 rfl (ndInfo rfl)) rfl ⟨rfl,below_row_none G3.out (Nat.le_refl _)⟩
def ParsedTo (w:World) (n:Nd) (ed:Ending) (w':World):Prop:=∃ v,ed=.returned (.tuple #[.agg v,.int .i64 0,.int .i64 0])∧Treed w' (Fresh w w') n v∧Below w.heap.size w w'
theorem parse_right (w:World) (hT:FoTabs w) (A:Option Addr) (l:List Int) (c:Nat) (f:Int) (hf:0≤f∧f≤7) (h:Lies w w.heap.size A (ints .i64 l)) (hc:l.length≤c) (T:List Tok) (ho:ofT l=.ok T) (hn:T.length≤1000) (hz:faultT l.length T 0 3=(0,0)) (q d:Nat) (n:Nd) (R:List Tok) (hp:patT f q d T=some (n,R)) (hs:sizeI n≤400) :
 Calls Tryz.prog 20 #[.slice A l.length c,.int .i64 f] w (ParsedTo w n):=by
 have d0:decide (f < 0)=false:=decide_eq_false (by omega)
 have d1:decide (7 < f)=false:=decide_eq_false (by omega)
 have d2:decide (f > 7)=false:=decide_eq_false (by omega)
 obtain ⟨w0,hw0⟩:∃ u,w.alloc (.cells #[.int .i64 0,.slice none 0 0,.int .i64 0,.int .i64 0,.slice none 0 0] 25)=u:=⟨_,rfl⟩
 have G0:Hid (w.grownBy w0 none):=qh (hw0▸grown_new w _ none)
 have X0:Hid (Box w0 w.heap.size ndZero 25):=qh (hw0▸Box.new w _ _)
 have HW0:=qh hw0
 have HC:=qh (tkof_any w0 c A l (h.up (below_row_none G0.out (Nat.le_refl _))) hc)
 rw [ho] at HC
 have HFA:=qh (fun (u:World) (A:Option Addr) (c:Nat) h=>fault_any u A T c l.length h hn)
 rw [hz] at HFA
 have HTH:=qh hT
 have HPA:Hid (∀ (b:Nat) (u:World),3 < b→FoTabs u→IsT u b T f→Calls Tryz.prog 40 #[.pointer (some ⟨b,0,none⟩)] u (NdTo u b f n R)):=qh fun b u hb h1 h2=>pat_ok b f q hb d u T n R h1 h2 hp
 obtain ⟨sz,hsz⟩:∃ s,sizeI n=s:=⟨_,rfl⟩
 have HSZ:Hid (∀ (w:World) (P:Nat→Prop) (v:Array Value),Treed w P n v→Calls Tryz.prog 41 #[.agg v] w fun e u'=>e=.returned (.int .i64 sz)∧w.grownBy u' none):=qh fun w P v t=>hsz▸size_any t w (fun _ _ _=>rfl) (Nat.le_refl _)
 rw [hsz] at hs
 have d3:decide (400 < sz)=false:=decide_eq_false (by omega)
 have d4:decide (sz > 400)=false:=decide_eq_false (by omega)
 clear hf hw0 h ho hz hp hs hsz hT
 go_enter Tryz.func20,Tryz.ntmps20
 go_wp2_with fail
 rw [HW0.out]
 refine HC.out.mono ?_
 rintro e w1 ⟨⟨tv,rfl,o1⟩,b1⟩
 obtain ⟨A1,c1,rfl,l1,hc1,-⟩:=o1.form
 have X1:=qh (X0.out.kept (grown_of_below b1 none) (by simp))
 have G1:=qh (G0.out.trans (grown_of_below b1 none))
 have HF:=qh (HFA.out w1 A1 c1 l1)
 have L1:=qh l1
 clear o1 b1 l1
 go_wp2_with fail
 refine HF.out.mono ?_
 rintro e w2 ⟨rfl,g2⟩
 have X2:=qh (X1.out.kept g2 (by simp))
 have G2:=qh (G1.out.trans g2)
 have L2:=qh (L1.out.up (below_row_none g2 (Nat.le_refl _)))
 clear g2
 obtain ⟨w3,hw3⟩:∃ u,w2.alloc (.cells #[.slice A1 T.length c1,.int .i64 f] 72)=u:=⟨_,rfl⟩
 have N3:w2.grownBy w3 none:=hw3▸grown_new w2 _ none
 have R3:Hid (IsT w3 w2.heap.size T f):=qh ⟨⟨A1,c1,hw3▸Box.new w2 _ _,L2.out.same (fun q hq=>World.cell?_of_block (N3.block q.block hq (by simp))),hc1⟩,hn⟩
 have X3:=qh (X2.out.kept N3 (by simp))
 have G3:=qh (G2.out.trans N3)
 have HP3:=qh (HPA.out w2.heap.size w3 (by have:=HTH.out.big;have:=G2.out.size;omega) (HTH.out.grown0 G3.out) R3.out)
 have HW3:=qh hw3
 have HLT:Hid (w.heap.size < w2.heap.size):=qh X2.out.lt
 have HZ3:=qh N3.size
 clear hw3 N3
 go_wp2_with fail
 rw [HW3.out]
 refine HP3.out.mono ?_
 rintro e w4 ⟨v,rfl,t4,-,g4⟩
 have h5:=t4.size
 have h51:=t4.one
 have X4:=qh (X3.out.kept g4 (by have:=HLT.out;simp;omega))
 have G4:=qh (grown_two G3.out g4 (by have:=HLT.out;omega))
 have T4:=qh t4
 have Y4:Hid (Box (w4.alloc (.cells #[.int .i64 0,.slice none 0 0,.int .i64 0,.int .i64 0,.slice none 0 0] 25)) w4.heap.size ndZero 25):=qh (Box.new w4 _ _)
 have HL4:Hid (w.heap.size < w4.heap.size):=qh X4.out.lt
 clear t4 g4
 go_wp2_with (first
  | (refine store_nd _ _ _ w4.heap.size ndZero v rfl rfl rfl rfl rfl Y4.out rfl h5 h51 ?_;intro w5 x5 g5;have Y5:=qh x5;have N5:Hid (w4.grownBy w5 none):=qh (grown_two (grown_new w4 _ none) g5 (Nat.le_refl _));have X5:=qh (X4.out.kept N5.out (by simp));have G5:=qh (G4.out.trans N5.out);have T5:=qh (T4.out.grown N5.out (fun x hx e=>by cases e));clear x5 g5)
  | (refine load_nd _ w4.heap.size v rfl rfl rfl Y5.out h5 ?_)
  | fail)
 refine (HSZ.out w5 _ v T5.out).mono ?_
 rintro e w6 ⟨rfl,g6⟩
 have Y6:=qh (Y5.out.kept g6 (by simp))
 have X6:=qh (X5.out.kept g6 (by simp))
 have G6:=qh (G5.out.trans g6)
 have T6:=qh (T5.out.grown g6 (fun x hx e=>by cases e))
 have HZ6:=qh (Nat.le_trans N5.out.size g6.size)
 clear g6
 go_wp2_with (first
  | (refine load_nd _ w4.heap.size v rfl rfl rfl Y6.out h5 ?_)
  | (refine store_nd w6 _ _ w.heap.size ndZero v rfl rfl rfl rfl rfl X6.out rfl h5 h51 ?_;intro w7 x7 g7;have X7:=qh x7;have G7:=qh (grown_two G6.out g7 (Nat.le_refl _));have T7:=qh (T6.out.grown g7 (fun x hx e=>by injection e with e;have:=hx.1;have:=HLT.out;have:=HZ3.out;omega));have HZ7:=qh (Nat.le_trans HZ6.out g7.size);clear x7 g7)
  | fail)
 (try simp only [Exit.inBlock,Exit.then])
 exact bodyPost_ret (results_box2 rfl _ _ w.heap.size 25 _ _ rfl X7.out Tryz.underlying25 rfl (ndInfo h5)) rfl ⟨_,rfl,T7.out.mono fun x hx=>⟨by have:=hx.1;have:=HLT.out;have:=HZ3.out;omega,Nat.lt_of_lt_of_le hx.2 HZ7.out⟩,below_row_none G7.out (Nat.le_refl _)⟩
end
section
open Go.RowKit
theorem esc_of {c:Int} (h:signI c=true):escI c=some (c,false):=by
 have hx:¬ c=110∧¬ c=116∧¬ (c=100∨c=119∨c=115∨c=68∨c=87∨c=83):=by
  simp [signI] at h;omega
 unfold escI
 rw [if_neg hx.1,if_neg hx.2.1,if_neg hx.2.2,if_pos h]
theorem out_sign {L:List Int} {k:Nat} {c:Int} (h0:L[k]?=some 92) (h1:L[k+1]?=some c) (hs:signI c=true) (r:Bool):outT L r k=.ok (⟨1,c,0,0,(k:Int)⟩,k+2):=by
 simp [outT,outB,nxT,h0,h1,escT,esc_of hs,plT,chT]
theorem out_plain {L:List Int} {k:Nat} {c:Int} (h0:L[k]?=some c) (hs:signI c=false) (r:Bool):outT L r k=.ok (⟨1,c,0,0,(k:Int)⟩,k+1):=by
 have hx:¬ (c=63∨c=42∨c=43)∧¬ c=123∧¬ c=91∧¬ c=92∧¬ c=46∧¬ c=40∧¬ c=41∧¬ c=124∧¬ c=94∧¬ c=36:=by
  simp [signI] at hs;omega
 obtain ⟨x0,x1,x2,x3,x4,x5,x6,x7,x8,x9⟩:=hx
 simp only [outT,outB,nxT,h0]
 rw [if_neg x0,if_neg x1,if_neg x2,if_neg x3]
 simp [aloT,x4,x5,x6,x7,x8,x9,plT,chT]
end
section
theorem drop_get {L X R:List Int} {k:Nat} (h:L.drop k=X++R) (i:Nat):L[k+i]?=(X++R)[i]?:=by rw [← h,List.getElem?_drop]
theorem drop_next {L X R:List Int} {k:Nat} (h:L.drop k=X++R):L.drop (k+X.length)=R:=by
 rw [← List.drop_drop,h,List.drop_left]
theorem item_quo {L R:List Int} {k:Nat} {c:Int} (h:L.drop k=quoC c++R):itemT L k=.ok (chT c,k+(quoC c).length):=by
 have h0:=drop_get h 0
 have h1:=drop_get h 1
 unfold quoC at h0 h1 ⊢
 rcases hs:signI c with _ | _
 ·rw [hs] at h0
  have h0:L[k]?=some c:=by simpa using h0
  have hx:¬ c=92:=by simp [signI] at hs;omega
  simp [itemT,nxT,h0,hx]
 ·rw [hs] at h0 h1
  have h0:L[k]?=some 92:=by simpa using h0
  have h1:L[k+1]?=some c:=by simpa using h1
  simp [itemT,nxT,h0,escT,h1,esc_of hs]
theorem quo_not {c x:Int} (hx:signI x=true) (h92:x≠92) (R:List Int):(quoC c++R)[0]?≠some x:=by
 unfold quoC
 rcases hs:signI c with _ | _
 ·have:¬ c=x:=fun e=>by rw [e,hx] at hs;cases hs
  simpa using this
 ·simpa using fun e:(92:Int)=x=>h92 e.symm
def itemT' (r:Int×Int) (p:Int):Tok:=if r.2≠r.1 then ⟨9,0,r.1,r.2,p⟩ else ⟨1,r.1,0,0,p⟩
def itemI (r:Int×Int):List Int:=quoC r.1++(if r.2≠r.1 then 45 :: quoC r.2 else [])
theorem in_item {L R:List Int} {k:Nat} {r:Int×Int} (h:L.drop k=itemI r++R) (hle:r.1≤r.2) (hR:R[0]?≠some 45):inT L k=.ok (itemT' r (k:Int),k+(itemI r).length):=by
 obtain ⟨lo,hi⟩:=r
 simp only at hle
 unfold itemI at h ⊢
 have hA:L.drop k=quoC lo++((if hi≠lo then 45 :: quoC hi else [])++R):=by rw [h];simp
 have h93:¬ L[k]?=some 93:=by
  have:=drop_get hA 0
  rw [Nat.add_zero] at this
  rw [this]
  exact quo_not (by decide) (by decide) _
 have hB:=drop_next hA
 have hI:=item_quo hA
 unfold inT inB
 rw [if_neg h93,hI]
 by_cases hne:hi=lo
 ·subst hne
  rw [if_neg (by simp),List.nil_append] at hB
  have h45:¬ L[k+(quoC hi).length]?=some 45:=by
   have:L[k+(quoC hi).length]?=R[0]?:=by
    have:=List.getElem?_drop (xs:=L) (i:=k+(quoC hi).length) (j:=0)
    rw [hB] at this
    simpa using this.symm
   rw [this];exact hR
  simp [h45,chT,plT,itemT']
 ·rw [if_pos hne] at hB
  have e0:L[k+(quoC lo).length]?=some 45:=by
   have:=List.getElem?_drop (xs:=L) (i:=k+(quoC lo).length) (j:=0)
   rw [hB] at this
   simpa using this.symm
  have hC:L.drop (k+(quoC lo).length+1)=quoC hi++R:=by
   rw [← List.drop_drop,hB];rfl
  have e1:¬ L[k+(quoC lo).length+1]?=some 93:=by
   have:=drop_get hC 0
   rw [Nat.add_zero] at this
   rw [this]
   exact quo_not (by decide) (by decide) _
  have hI2:=item_quo hC
  have hlt:¬ hi < lo:=by omega
  simp [e0,e1,chT,upT,hI2,plT,itemT',hne,hlt]
  omega
end
section
def z (t:Tok):Tok:=⟨t.k,t.c,t.lo,t.hi,0⟩
theorem z_item (r:Int×Int) (p:Int):z (itemT' r p)=itemT' r 0:=by
 unfold itemT';split <;> rfl
theorem item_kind (r:Int×Int) (p:Int):((itemT' r p).k != 8)=true:=by
 unfold itemT';split <;> rfl
theorem items_head {rs:List (Int×Int)} {R:List Int} {x:Int} (hx:signI x=true) (h92:x≠92) (h93:x≠93):(itemsI rs++93 :: R)[0]?≠some x:=by
 rcases rs with _ | ⟨r,rs⟩
 ·simpa [itemsI] using fun e:(93:Int)=x=>h93 e.symm
 ·have h:=quo_not (c:=r.1) hx h92 ((if r.2≠r.1 then 45 :: quoC r.2 else [])++itemsI rs++93 :: R)
  have e:itemsI (r :: rs)++93 :: R=quoC r.1++((if r.2≠r.1 then 45 :: quoC r.2 else [])++itemsI rs++93 :: R):=by simp [itemsI]
  rw [e];exact h
theorem readT_cls {L:List Int} {n k:Nat} {T:List Tok} {t:Tok} {k':Nat} (h:inT L k=.ok (t,k')):readT L (n+1) true k T=readT L n (t.k != 8) k' (T++[t]):=by
 rw [readT_in,h]
theorem read_items {L R:List Int}:∀ (rs:List (Int×Int)) (k fuel:Nat) (T:List Tok),L.drop k=itemsI rs++93 :: R→(∀ r∈rs,r.1≤r.2) →
 ∃ X,X.map z=rs.map (fun r=>itemT' r 0)++[⟨8,0,0,0,0⟩]∧readT L (fuel+rs.length+1) true k T=readT L fuel false (k+(itemsI rs).length+1) (T++X)
 | [],k,fuel,T,h,_=>by
  have h0:L[k]?=some 93:=by
   have:=List.getElem?_drop (xs:=L) (i:=k) (j:=0)
   rw [h] at this
   simpa [itemsI] using this.symm
  refine ⟨[⟨8,0,0,0,(k:Int)⟩],rfl,?_⟩
  have hi:inT L k=.ok (⟨8,0,0,0,(k:Int)⟩,k+1):=by simp [inT,inB,h0,plT]
  rw [List.length_nil,Nat.add_zero,readT_cls hi]
  rfl
 | r :: rs,k,fuel,T,h,hle=>by
  have e:itemsI (r :: rs)++93 :: R=itemI r++(itemsI rs++93 :: R):=by simp [itemsI,itemI]
  rw [e] at h
  have hi:=in_item h (hle r (by simp)) (items_head (by decide) (by decide) (by decide))
  have hn:=drop_next h
  obtain ⟨X,h1,h2⟩:=read_items rs (k+(itemI r).length) fuel (T++[itemT' r (k:Int)]) hn fun s hs=>hle s (by simp [hs])
  refine ⟨itemT' r (k:Int) :: X,by rw [List.map_cons,z_item,h1];rfl,?_⟩
  rw [show fuel+(r :: rs).length+1=(fuel+rs.length+1)+1 by simp;omega,readT_cls hi,item_kind,h2]
  have hl:(itemsI (r :: rs)).length=(itemI r).length+(itemsI rs).length:=by simp [itemsI,itemI];omega
  rw [hl]
  simp [Nat.add_assoc]
def Spelt (L:List Int) (k:Nat) (x:List Int) (S:List Tok):Prop :=
 ∀ (fuel:Nat) (T:List Tok),∃ X,X.map z=S∧readT L (fuel+S.length) false k T=readT L fuel false (k+x.length) (T++X)
theorem Spelt.join {L:List Int} {k:Nat} {x y:List Int} {S S':List Tok} (h:Spelt L k x S) (h':Spelt L (k+x.length) y S'):Spelt L k (x++y) (S++S'):=by
 intro fuel T
 obtain ⟨X,h1,h2⟩:=h (fuel+S'.length) T
 obtain ⟨Y,h3,h4⟩:=h' fuel (T++X)
 refine ⟨X++Y,by rw [List.map_append,h1,h3],?_⟩
 rw [List.length_append,show fuel+(S.length+S'.length)=fuel+S'.length+S.length by omega,h2,h4]
 simp [Nat.add_assoc]
theorem Spelt.none (L:List Int) (k:Nat):Spelt L k [] []:=fun fuel T=>⟨[],rfl,by simp⟩
theorem Spelt.one {L:List Int} {k:Nat} {x:List Int} {t:Tok} (hk:k < L.length) (hx:∀ r,outT L r k=.ok (⟨t.k,t.c,t.lo,t.hi,(k:Int)⟩,k+x.length)) (h7:(t.k == 7)=false) (hz:t.pos=0):Spelt L k x [t]:=by
 intro fuel T
 refine ⟨[⟨t.k,t.c,t.lo,t.hi,(k:Int)⟩],?_,?_⟩
 ·cases t
  simp only at hz
  subst hz
  rfl
 ·show readT L (fuel+1) false k T=_
  rw [readT_out (Nat.ne_of_lt hk),hx]
  simp only
  rw [h7]
theorem lt_drop {L x R:List Int} {k:Nat} {a:Int} (h:L.drop k=a :: x++R):k < L.length:=by
 rcases Nat.lt_or_ge k L.length with hk | hk
 ·exact hk
 ·rw [List.drop_eq_nil_of_le hk] at h;cases h
theorem read_char {L R:List Int} {k:Nat} {c:Int} (h:L.drop k=quoC c++R):Spelt L k (quoC c) [⟨1,c,0,0,0⟩]:=by
 have h0:=drop_get h 0
 have h1:=drop_get h 1
 have hk:k < L.length:=by
  unfold quoC at h
  rcases hs:signI c with _ | _
  ·rw [hs] at h;exact lt_drop (x:=[]) h
  ·rw [hs] at h;exact lt_drop (x:=[c]) h
 refine Spelt.one hk (fun r=>?_) rfl rfl
 unfold quoC at h0 h1 ⊢
 rcases hs:signI c with _ | _
 ·rw [hs] at h0
  exact out_plain (by simpa using h0) hs r
 ·rw [hs] at h0 h1
  exact out_sign (by simpa using h0) (by simpa using h1) hs r
def shSet (rs:List (Int×Int)):List Tok:=match rs with
 | [r]=>if r.1=r.2 then [⟨1,r.1,0,0,0⟩] else ⟨7,0,0,0,0⟩ :: ([itemT' r 0]++[⟨8,0,0,0,0⟩])
 | rs=>⟨7,0,0,0,0⟩ :: (rs.map (fun r=>itemT' r 0)++[⟨8,0,0,0,0⟩])
theorem read_class {L R:List Int} {k:Nat} {rs:List (Int×Int)} (h:L.drop k=91 :: (itemsI rs++[93])++R) (hle:∀ r∈rs,r.1≤r.2):Spelt L k (91 :: (itemsI rs++[93])) (⟨7,0,0,0,0⟩ :: (rs.map (fun r=>itemT' r 0)++[⟨8,0,0,0,0⟩])):=by
 intro fuel T
 have hk:=lt_drop h
 have h0:L[k]?=some 91:=by simpa using drop_get h 0
 have h':L.drop (k+1)=itemsI rs++93 :: R:=by
  rw [← List.drop_drop,h];simp
 have h94:¬ L[k+1]?=some 94:=by
  have:=List.getElem?_drop (xs:=L) (i:=k+1) (j:=0)
  rw [h',Nat.add_zero] at this
  rw [← this]
  exact items_head (by decide) (by decide) (by decide)
 obtain ⟨X,h1,h2⟩:=read_items rs (k+1) fuel (T++[⟨7,0,0,0,(k:Int)⟩]) h' hle
 have ho:outT L (lastR T) k=.ok (⟨7,0,0,0,(k:Int)⟩,k+1):=by simp [outT,outB,nxT,h0,claT,h94,plT]
 refine ⟨⟨7,0,0,0,(k:Int)⟩ :: X,by rw [List.map_cons,h1];rfl,?_⟩
 rw [show fuel+((⟨7,0,0,0,0⟩:Tok) :: (rs.map (fun r=>itemT' r 0)++[⟨8,0,0,0,0⟩])).length=(fuel+rs.length+1)+1 by simp;omega,readT_out (Nat.ne_of_lt hk),ho]
 simp only
 rw [show ((7:Int) == 7)=true from rfl,h2]
 simp
 congr 1
 omega
theorem read_shown {L R:List Int} {k:Nat} {rs:List (Int×Int)} (h:L.drop k=setI rs++R) (hle:∀ r∈rs,r.1≤r.2):Spelt L k (setI rs) (shSet rs):=by
 rcases rs with _ | ⟨r,_ | ⟨s,rs⟩⟩
 ·exact read_class h hle
 ·unfold setI shSet at *
  simp only at h ⊢
  by_cases he:r.1=r.2
  ·rw [if_pos he] at h ⊢
   rw [if_pos he]
   exact read_char h
  ·rw [if_neg he] at h ⊢
   rw [if_neg he]
   exact read_class h hle
 ·exact read_class h hle
end
section
def digs (n:Nat):List Int:=if n < 10 then [48+(n:Int)] else [48+((n / 10:Nat):Int),48+((n % 10:Nat):Int)]
theorem digI_digs {n:Nat} (h:n < 100):digI n=digs n:=by
 unfold digs
 rw [digI]
 split
 ·rfl
 ·rw [digI,if_pos (by omega)]
  rfl
theorem digs_dig (n:Nat) (h:n < 100):∀ d∈digs n,isDig d=true:=by
 intro d hd
 unfold digs at hd
 split at hd
 ·simp only [List.mem_singleton] at hd
  subst hd
  simp [isDig];omega
 ·simp only [List.mem_cons,List.not_mem_nil,or_false] at hd
  rcases hd with rfl | rfl
  ·simp [isDig];omega
  ·simp [isDig];omega
theorem digs_num:∀ n:Fin 21,numT (digs n.val)=(n.val:Int):=by decide
theorem digs_ne (n:Nat):digs n≠[]:=by unfold digs;split <;> simp
theorem digT_of {L R D:List Int} {k:Nat} {c:Int} (h:L.drop k=D++c :: R) (hD:∀ d∈D,isDig d=true) (hc:isDig c=false):digT L k=D:=by
 unfold digT
 rw [h,List.takeWhile_append_of_pos hD,List.takeWhile_cons_of_neg (by simp [hc]),List.append_nil]
theorem get_of {L R X:List Int} {k:Nat} {c:Int} (h:L.drop k=X++c :: R):L[k+X.length]?=some c:=by
 have:=drop_get h X.length
 rw [this]
 simp
def SpeltAfter (L:List Int) (k:Nat) (x:List Int) (S:List Tok):Prop :=
 ∀ (fuel:Nat) (T:List Tok),lastR T=false→∃ X,X.map z=S∧readT L (fuel+S.length) false k T=readT L fuel false (k+x.length) (T++X)
theorem SpeltAfter.one {L:List Int} {k:Nat} {x:List Int} {lo hi:Int} (hk:k < L.length) (hx:outT L false k=.ok (⟨6,0,lo,hi,(k:Int)⟩,k+x.length)):SpeltAfter L k x [⟨6,0,lo,hi,0⟩]:=by
 intro fuel T hT
 refine ⟨[⟨6,0,lo,hi,(k:Int)⟩],rfl,?_⟩
 show readT L (fuel+1) false k T=_
 rw [readT_out (Nat.ne_of_lt hk),hT,hx]
 rfl
theorem shut_ok {fr k:Nat} {lo hi:Int} (h0:0≤lo) (h1:lo≤20) (h2:hi=-1∨lo≤hi∧hi≤20):shutT fr lo hi 125 k=.ok (⟨6,0,lo,hi,0⟩,k):=by
 unfold shutT
 rw [if_neg]
 simp [badB]
 omega
theorem times_read {L R:List Int} {k:Nat} {lo hi:Int} (h:L.drop k=timesT lo hi++R) (h0:0≤lo) (h1:lo≤20) (h2:hi=-1∨lo≤hi∧hi≤20):SpeltAfter L k (timesT lo hi) [⟨6,0,lo,hi,0⟩]:=by
 unfold timesT at h ⊢
 by_cases c1:lo=0∧hi=1
 ·rw [if_pos c1] at h ⊢
  have hk:k < L.length:=lt_drop (x:=[]) h
  have e:L[k]?=some 63:=by simpa using drop_get h 0
  obtain ⟨rfl,rfl⟩:=c1
  exact SpeltAfter.one hk (by simp [outT,outB,nxT,e,repT,plT])
 rw [if_neg c1] at h ⊢
 by_cases c2:lo=0∧hi=-1
 ·rw [if_pos c2] at h ⊢
  have hk:k < L.length:=lt_drop (x:=[]) h
  have e:L[k]?=some 42:=by simpa using drop_get h 0
  obtain ⟨rfl,rfl⟩:=c2
  exact SpeltAfter.one hk (by simp [outT,outB,nxT,e,repT,plT])
 rw [if_neg c2] at h ⊢
 by_cases c3:lo=1∧hi=-1
 ·rw [if_pos c3] at h ⊢
  have hk:k < L.length:=lt_drop (x:=[]) h
  have e:L[k]?=some 43:=by simpa using drop_get h 0
  obtain ⟨rfl,rfl⟩:=c3
  exact SpeltAfter.one hk (by simp [outT,outB,nxT,e,repT,plT])
 rw [if_neg c3] at h ⊢
 have hk:k < L.length:=lt_drop h
 have e:L[k]?=some 123:=by simpa using drop_get h 0
 obtain ⟨a,rfl⟩:∃ a:Nat,lo=a:=⟨lo.toNat,by omega⟩
 have ha:a < 21:=by omega
 have hna:=digs_num ⟨a,ha⟩
 rw [Int.toNat_natCast,digI_digs (by omega)] at h ⊢
 have h':L.drop (k+1)=digs a++((if hi≠(a:Int) then 44 :: (if 0≤hi then digI hi.toNat else []) else [])++125 :: R):=by
  rw [← List.drop_drop,h];simp
 refine SpeltAfter.one hk ?_
 have hout:outT L false k=plT k (braT L k (k+1)):=by simp [outT,outB,nxT,e]
 rw [hout]
 by_cases he:hi=(a:Int)
 ·subst he
  rw [if_neg (by simp),List.nil_append] at h'
  have hd:=digT_of h' (digs_dig a (by omega)) (by decide)
  have hg:=get_of h'
  unfold braT
  rw [hd]
  simp only [nxT,hg]
  rw [if_neg (by simp),hna,shut_ok h0 h1 h2]
  simp [plT]
  omega
 ·rw [if_pos he] at h' ⊢
  have hd:=digT_of (R:=(if 0≤hi then digI hi.toNat else [])++125 :: R) (c:=44) (by rw [h'];simp) (digs_dig a (by omega)) (by decide)
  have hg:=get_of (R:=(if 0≤hi then digI hi.toNat else [])++125 :: R) (c:=44) (X:=digs a) (by rw [h'];simp)
  have h'':L.drop (k+1+(digs a).length+1)=(if 0≤hi then digI hi.toNat else [])++125 :: R:=by
   rw [← List.drop_drop,← List.drop_drop,h',List.drop_left];simp
  unfold braT
  rw [hd]
  simp only [nxT,hg]
  rw [if_pos ⟨trivial,digs_ne a⟩,hna]
  by_cases hn:0≤hi
  ·rw [if_pos hn] at h'' ⊢
   obtain ⟨b,rfl⟩:∃ b:Nat,hi=b:=⟨hi.toNat,by omega⟩
   have hb:b < 21:=by omega
   have hnb:=digs_num ⟨b,hb⟩
   rw [Int.toNat_natCast,digI_digs (by omega)] at h'' ⊢
   have hd2:=digT_of h'' (digs_dig b (by omega)) (by decide)
   have hg2:=get_of h''
   rw [hd2,hg2]
   simp only
   rw [hnb,shut_ok h0 h1 h2]
   simp [plT]
   omega
  ·rw [if_neg hn] at h'' ⊢
   obtain rfl:hi=-1:=by omega
   have hd2:=digT_of (D:=[]) h'' (by simp) (by decide)
   have hg2:=get_of (X:=[]) h''
   rw [hd2,hg2]
   simp only
   rw [show numT []=-1 from rfl,shut_ok h0 h1 h2]
   simp [plT]
   omega
end
section
def tk (k:Int):Tok:=⟨k,0,0,0,0⟩
def brT (b:Bool) (S:List Tok):List Tok:=if b=true then tk 3 :: (S++[tk 4]) else S
mutual
def shN:Nd→List Tok
 | .mk k lo hi rs ks=>if k=1 then [tk 3,tk 4] else if k=6 then [tk 10] else if k=7 then [tk 11] else if k=2 then shSet rs
  else if k=3 then shJ [3,4] ks else if k=4 then shO ks else (match ks with
   | []=>[]
   | n :: _=>brT (([3,4,5]:List Int).contains (kindN n)) (shN n))++[⟨6,0,lo,hi,0⟩]
def shJ (l:List Int):List Nd→List Tok
 | []=>[]
 | n :: ns=>brT (l.contains (kindN n)) (shN n)++shJ l ns
def shO:List Nd→List Tok
 | []=>[]
 | n :: ns=>brT (kindN n == 4) (shN n)++(match ns with
  | []=>[]
  | _ :: _=>tk 5 :: shO ns)
end
theorem shN_def (k lo hi:Int) (rs:List (Int×Int)) (ks:List Nd):shN (.mk k lo hi rs ks)=if k=1 then [tk 3,tk 4] else if k=6 then [tk 10] else if k=7 then [tk 11] else if k=2 then shSet rs
 else if k=3 then shJ [3,4] ks else if k=4 then shO ks else (match ks with
  | []=>[]
  | n :: _=>brT (([3,4,5]:List Int).contains (kindN n)) (shN n))++[⟨6,0,lo,hi,0⟩]:=by
 rw [shN.eq_def]
theorem textN_def (k lo hi:Int) (rs:List (Int×Int)) (ks:List Nd):textN (.mk k lo hi rs ks)=if k=1 then [40,41] else if k=6 then [94] else if k=7 then [36] else if k=2 then setI rs
 else if k=3 then joinTx [3,4] ks else if k=4 then orTx ks else (match ks with
  | []=>[]
  | n :: _=>inBr (([3,4,5]:List Int).contains (kindN n)) (textN n))++timesT lo hi:=by
 rw [textN.eq_def]
 all_goals (cases ks <;> rfl)
theorem sign_read {L R:List Int} {k:Nat} {c:Int} (h:L.drop k=c :: R) {t:Int} (ht:c=40∧t=3∨c=41∧t=4∨c=124∧t=5∨c=94∧t=10∨c=36∧t=11):Spelt L k [c] [tk t]:=by
 have hk:k < L.length:=lt_drop (x:=[]) (R:=R) h
 have e:L[k]?=some c:=by simpa using drop_get (X:=[c]) (R:=R) h 0
 refine Spelt.one hk (fun r=>?_) ?_ rfl
 ·rcases ht with ⟨rfl,rfl⟩ | ⟨rfl,rfl⟩ | ⟨rfl,rfl⟩ | ⟨rfl,rfl⟩ | ⟨rfl,rfl⟩ <;> simp [outT,outB,nxT,e,aloT,plT,tk]
 ·rcases ht with ⟨rfl,rfl⟩ | ⟨rfl,rfl⟩ | ⟨rfl,rfl⟩ | ⟨rfl,rfl⟩ | ⟨rfl,rfl⟩ <;> rfl
theorem br_read {L R x:List Int} {S:List Tok} {k:Nat} (b:Bool) (hx:∀ k R,L.drop k=x++R→Spelt L k x S) (h:L.drop k=inBr b x++R):Spelt L k (inBr b x) (brT b S):=by
 unfold inBr brT at *
 cases b
 ·exact hx k R h
 ·simp only [if_true] at h ⊢
  have h1:L.drop k=40 :: (x++41 :: R):=by rw [h];simp
  have h2:L.drop (k+1)=x++41 :: R:=by rw [← List.drop_drop,h1];rfl
  have h3:L.drop (k+1+x.length)=41 :: R:=drop_next h2
  have s1:=sign_read h1 (t:=3) (by simp)
  have s2:=hx (k+1) (41 :: R) h2
  have s3:=sign_read h3 (t:=4) (by simp)
  have:=s1.join (s2.join s3)
  simpa using this
theorem canon_le:∀ {S:List (Int×Int)} {a:Int},Canon a S→∀ r∈S,r.1≤r.2
 | [],_,_,r,h=>by simp at h
 | s :: S,a,h,r,hr=>by
  rcases List.mem_cons.1 hr with rfl | hr
  ·exact h.2.1
  ·exact canon_le h.2.2.2 r hr
def lastOk (S:List Tok):Prop:=∃ s,S.getLast?=some s∧¬ s.k=6
theorem lastOk.of {S X T:List Tok} (h:lastOk S) (hX:X.map z=S):lastR (T++X)=false:=by
 obtain ⟨s,h1,h2⟩:=h
 rw [← hX,List.getLast?_map] at h1
 rcases hx:X.getLast? with _ | x
 ·rw [hx] at h1;cases h1
 ·rw [hx] at h1
  injection h1 with h1
  have hk:¬ x.k=6:=by rw [← h1] at h2;exact h2
  unfold lastR
  rw [List.getLast?_append,hx]
  simpa using hk
theorem Spelt.after {L:List Int} {k:Nat} {x y:List Int} {S S':List Tok} (h:Spelt L k x S) (hl:lastOk S) (h':SpeltAfter L (k+x.length) y S'):Spelt L k (x++y) (S++S'):=by
 intro fuel T
 obtain ⟨X,h1,h2⟩:=h (fuel+S'.length) T
 obtain ⟨Y,h3,h4⟩:=h' fuel (T++X) (hl.of h1)
 refine ⟨X++Y,by rw [List.map_append,h1,h3],?_⟩
 rw [List.length_append,show fuel+(S.length+S'.length)=fuel+S'.length+S.length by omega,h2,h4]
 simp [Nat.add_assoc]
theorem set_last (rs:List (Int×Int)):lastOk (shSet rs):=by
 unfold shSet
 split
 ·split
  ·exact ⟨_,rfl,by simp⟩
  ·exact ⟨⟨8,0,0,0,0⟩,by simp,by decide⟩
 ·exact ⟨⟨8,0,0,0,0⟩,by simp [List.getLast?_cons],by decide⟩
theorem kid_last (n:Nd) (h:nodeI n=true):lastOk (brT (([3,4,5]:List Int).contains (kindN n)) (shN n)):=by
 obtain ⟨k,lo,hi,rs,ks⟩:=n
 rcases hb:([3,4,5]:List Int).contains (kindN (.mk k lo hi rs ks)) with _ | _
 ·have hk:¬ k=3∧¬ k=4∧¬ k=5:=by simpa [kindN] using hb
  show lastOk (shN (.mk k lo hi rs ks))
  rw [shN_def]
  by_cases h1:k=1
  ·rw [if_pos h1];exact ⟨tk 4,rfl,by decide⟩
  rw [if_neg h1]
  by_cases h6:k=6
  ·rw [if_pos h6];exact ⟨tk 10,rfl,by decide⟩
  rw [if_neg h6]
  by_cases h7:k=7
  ·rw [if_pos h7];exact ⟨tk 11,rfl,by decide⟩
  rw [if_neg h7]
  by_cases h2:k=2
  ·rw [if_pos h2];exact set_last rs
  ·exfalso
   simp [nodeI,h1,h6,h7,h2,hk.1,hk.2.1,hk.2.2] at h
 ·exact ⟨tk 4,by simp [brT,List.getLast?_cons],by decide⟩
mutual
theorem shown_read (L:List Int):∀ (n:Nd),allN n=true→∀ (k:Nat) (R:List Int),L.drop k=textN n++R→Spelt L k (textN n) (shN n)
 | .mk kk lo hi rs ks,ha,k,R,h=>by
  rw [allN,Bool.and_eq_true] at ha
  obtain ⟨hn,hks⟩:=ha
  rw [textN_def] at h ⊢
  rw [shN_def]
  by_cases h1:kk=1
  ·rw [if_pos h1] at h ⊢
   rw [if_pos h1]
   have s1:=sign_read (L:=L) (k:=k) (c:=40) (R:=41 :: R) h (t:=3) (by simp)
   have s2:=sign_read (L:=L) (k:=k+1) (c:=41) (R:=R) (by rw [← List.drop_drop,h];rfl) (t:=4) (by simp)
   exact s1.join s2
  rw [if_neg h1] at h ⊢
  rw [if_neg h1]
  by_cases h6:kk=6
  ·rw [if_pos h6] at h ⊢
   rw [if_pos h6]
   exact sign_read (c:=94) (R:=R) h (by simp)
  rw [if_neg h6] at h ⊢
  rw [if_neg h6]
  by_cases h7:kk=7
  ·rw [if_pos h7] at h ⊢
   rw [if_pos h7]
   exact sign_read (c:=36) (R:=R) h (by simp)
  rw [if_neg h7] at h ⊢
  rw [if_neg h7]
  by_cases h2:kk=2
  ·rw [if_pos h2] at h ⊢
   rw [if_pos h2]
   have hs:setR rs=rs:=by
    simp [nodeI,h2] at hn
    exact hn.2.2
   exact read_shown h (canon_le (hs▸setR_canon rs))
  rw [if_neg h2] at h ⊢
  rw [if_neg h2]
  by_cases h3:kk=3
  ·rw [if_pos h3] at h ⊢
   rw [if_pos h3]
   exact shown_join L [3,4] ks hks k R h
  rw [if_neg h3] at h ⊢
  rw [if_neg h3]
  by_cases h4:kk=4
  ·rw [if_pos h4] at h ⊢
   rw [if_pos h4]
   exact shown_or L ks hks k R h
  rw [if_neg h4] at h ⊢
  rw [if_neg h4]
  have h5:kk=5:=by
   by_cases h5:kk=5
   ·exact h5
   ·simp [nodeI,h1,h6,h7,h2,h3,h4,h5] at hn
  subst h5
  simp [nodeI] at hn
  rcases ks with _ | ⟨n,ns⟩
  ·simp at hn
  ·rw [allL,Bool.and_eq_true] at hks
   have hn1:nodeI n=true:=by
    obtain ⟨a,b,c,d,e⟩:=n
    have:=hks.1
    rw [allN,Bool.and_eq_true] at this
    exact this.1
   simp only at h ⊢
   rw [List.append_assoc] at h
   have s1:=br_read (([3,4,5]:List Int).contains (kindN n)) (fun k R h=>shown_read L n hks.1 k R h) h
   have s2:=times_read (drop_next h) (by omega) (by omega) (by omega)
   exact s1.after (kid_last n hn1) s2
theorem shown_join (L:List Int) (l:List Int):∀ (ns:List Nd),allL ns=true→∀ (k:Nat) (R:List Int),L.drop k=joinTx l ns++R→Spelt L k (joinTx l ns) (shJ l ns)
 | [],_,k,R,h=>by
  rw [joinTx,shJ];exact Spelt.none L k
 | n :: ns,ha,k,R,h=>by
  rw [allL,Bool.and_eq_true] at ha
  rw [joinTx] at h ⊢
  rw [shJ]
  rw [List.append_assoc] at h
  have s1:=br_read (l.contains (kindN n)) (fun k R h=>shown_read L n ha.1 k R h) h
  exact s1.join (shown_join L l ns ha.2 _ R (drop_next h))
theorem shown_or (L:List Int):∀ (ns:List Nd),allL ns=true→∀ (k:Nat) (R:List Int),L.drop k=orTx ns++R→Spelt L k (orTx ns) (shO ns)
 | [],_,k,R,h=>by
  rw [orTx,shO];exact Spelt.none L k
 | [n],ha,k,R,h=>by
  rw [allL,Bool.and_eq_true] at ha
  rw [orTx] at h ⊢
  rw [shO]
  simp only [List.append_nil] at h ⊢
  exact br_read (kindN n == 4) (fun k R h=>shown_read L n ha.1 k R h) h
 | n :: m :: ns,ha,k,R,h=>by
  rw [allL,Bool.and_eq_true] at ha
  rw [orTx] at h ⊢
  rw [shO]
  (try simp only at h ⊢)
  rw [List.append_assoc] at h
  have s1:=br_read (kindN n == 4) (fun k R h=>shown_read L n ha.1 k R h) h
  have h2:=drop_next h
  rw [List.cons_append] at h2
  have s2:=sign_read h2 (t:=5) (by simp)
  have h3:L.drop (k+(inBr (kindN n == 4) (textN n)).length+1)=orTx (m :: ns)++R:=by rw [← List.drop_drop,h2];rfl
  exact s1.join (s2.join (shown_or L (m :: ns) ha.2 _ R h3))
end
end
section
theorem Canon.apart:∀ {S:List (Int×Int)} {a:Int},Canon a S→S.Pairwise (fun r s=>r.1+2≤s.1)∧∀ r∈S,a≤r.1
 | [],_,_=>⟨List.Pairwise.nil,fun r h=>by simp at h⟩
 | r :: S,a,h=>by
  obtain ⟨h1,h2,h3,h4⟩:=h
  obtain ⟨k1,k2⟩:=Canon.apart h4
  refine ⟨List.pairwise_cons.2 ⟨fun s hs=>by have:=k2 s hs;omega,k1⟩,fun s hs=>?_⟩
  rcases List.mem_cons.1 hs with rfl | hs
  ·exact h1
  ·have:=k2 s hs;omega
theorem Canon.count {S:List (Int×Int)} {a:Int} (hS:Canon a S) (L M:List Int) (h:∀ x∈S.map (·.1),x∈L∨x / 2∈M):S.length≤L.length+M.length:=by
 have hp:=hS.apart.1
 have:=sub_length (S.map fun r=>if r.1∈L then 2 * r.1 else 2 * (r.1 / 2)+1) ((L.map fun x=>2 * x)++M.map fun x=>2 * x+1)
  (List.pairwise_map.2 (hp.imp fun {r s} hrs=>by split <;> split <;> omega)) fun y hy=>by
   obtain ⟨r,hr,rfl⟩:=List.mem_map.1 hy
   by_cases hL:r.1∈L
   ·rw [if_pos hL]
    exact List.mem_append.2 (.inl (List.mem_map.2 ⟨r.1,hL,rfl⟩))
   ·rw [if_neg hL]
    rcases h r.1 (List.mem_map.2 ⟨r,hr,rfl⟩) with h | h
    ·exact absurd h hL
    ·exact List.mem_append.2 (.inr (List.mem_map.2 ⟨r.1 / 2,h,rfl⟩))
 simpa using this
theorem setP_count (p:Int→Bool) (L M:List Int) (h:∀ x,0≤x→x≤topR→p x=true→(x=0∨p (x - 1)=false)→x∈L∨x / 2∈M):(setP p).length≤L.length+M.length:=by
 refine (setP_canon p).count L M fun x hx=>?_
 obtain ⟨h0,h1,h2⟩:=(setP_canon p).lows.2 x hx
 rw [setP_has] at h1
 simp at h1
 refine h x h1.1.1 h1.1.2 h1.2 ?_
 by_cases hz:x=0
 ·exact .inl hz
 ·refine .inr ?_
  have h3:=h2 (x - 1) rfl
  rw [setP_has] at h3
  rcases hp:p (x - 1) with _ | _
  ·rfl
  ·rw [hp] at h3
   simp at h3
   omega
/-! what others are folded or mirrored into -/
def upTo (a:Int) (n:Nat):List Int:=(List.range n).map fun (k:Nat)=>a+(k:Int)
theorem mem_upTo {a x:Int} {n:Nat}:x∈upTo a n↔a≤x∧x < a+n:=by
 unfold upTo
 rw [List.mem_map]
 constructor
 ·rintro ⟨k,hk,rfl⟩
  have:=List.mem_range.1 hk
  omega
 ·rintro ⟨h1,h2⟩
  exact ⟨(x - a).toNat,List.mem_range.2 (by omega),by omega⟩
def KL:List Int:=rws.flatMap fun r=>upTo r.1 (r.2.1 - r.1+1).toNat++upTo (r.1+r.2.2) (r.2.1 - r.1+1).toNat
theorem mem_KL {c k:Int} (h:fo k=fo c) (hne:k≠c):c∈KL:=by
 unfold KL
 rw [List.mem_flatMap]
 by_cases hc:fo c=c
 ·have hk:fo k≠k:=fun e=>hne (by rw [← e,h,hc])
  obtain ⟨r,hr,h1,h2⟩:=fo_rows k hk
  have h3:=(fo_row r hr k h1 h2).1
  exact ⟨r,hr,List.mem_append.2 (.inr (mem_upTo.2 (by omega)))⟩
 ·obtain ⟨r,hr,h1,h2⟩:=fo_rows c hc
  exact ⟨r,hr,List.mem_append.2 (.inl (mem_upTo.2 (by omega)))⟩
def mrL:List Int:=mrs.flatMap fun p=>[p.1,p.2]
theorem mem_mrL {c:Int} (h:mir c≠c):c∈mrL:=by
 revert h
 refine all_mrs (Q:=fun c=>mir c≠c→c∈mrL) (fun c h h2=>?_) (by decide +kernel) c
 exact absurd (mir_none h) h2
def alike (c:Int):List Int:=fo c :: froms (fo c)
theorem mem_alike {c k:Int} (h:fo k=fo c):k∈alike c:=by
 unfold alike
 by_cases hk:k=fo c
 ·rw [hk];exact List.mem_cons_self
 ·exact List.mem_cons_of_mem _ (mem_froms.2 ⟨h,hk⟩)
theorem alike_few (c:Int):(alike c).length≤4:=by
 have:=froms_few (fo c)
 simp [alike];omega
def BND:List Int:=KL.filter fun c=>(alike c).any fun k=>k != c && fo (k - 1) != fo (c - 1)
theorem mem_BND {c k:Int} (h:fo k=fo c) (hne:k≠c) (hb:¬ fo (k - 1)=fo (c - 1)):c∈BND:=by
 refine List.mem_filter.2 ⟨mem_KL h hne,?_⟩
 refine List.any_eq_true.2 ⟨k,mem_alike h,?_⟩
 simp [hne,hb]
theorem bnd_few:BND.length≤30:=by decide +kernel
theorem mrL_few:mrL.length≤26:=by decide +kernel
def K2:List Int:=upTo 32 14++upTo 48 14++upTo 96 12++upTo 108 20++upTo 456 13++upTo 472 13++upTo 512 48++[90,3919,20,45,46,61,62,4500,4501,6148,6149,6150,6151,6152,30,31,85,93,4402,4405]
theorem k2_few:K2.length≤154:=by decide +kernel
theorem kl_half:∀ c∈KL,c / 2∈K2:=by decide +kernel
theorem mrL_half:∀ c∈mrL,c / 2∈K2:=by decide +kernel
end
end Go.Proofs.YtoeocodfndbebaaGreatDoor
