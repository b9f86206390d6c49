/- Shared texts, shaken for one claim. -/
import Derived.Test.YtoeocodfndbebaaGreatDoorZC21
import Derived.Test.YtoeocodfndbebaaGreatDoorZC31
set_option maxRecDepth 20000
set_option maxHeartbeats 16000000
namespace Go.Proofs.YtoeocodfndbebaaGreatDoor
section
open Go.RowKit
def FormV (v:Array Value):Prop:=∃ k A m c lo hi A' m' c',v=#[.int .i64 k,.slice A m c,.int .i64 lo,.int .i64 hi,.slice A' m' c']
theorem FormV.size {v:Array Value} (h:FormV v):v.size=5:=by obtain ⟨_,_,_,_,_,_,_,_,_,rfl⟩:=h;rfl
theorem FormV.one {v:Array Value} (h:FormV v):v.all (·.oneCell')=true:=by obtain ⟨_,_,_,_,_,_,_,_,_,rfl⟩:=h;simp [Value.oneCell']
theorem FormV.zero:FormV ndZero:=⟨_,_,_,_,_,_,_,_,_,rfl⟩
theorem and_four (n:Nat):n &&& 4=0∨n &&& 4=4:=by
 have h1:n &&& 4≤4:=Nat.and_le_right
 have h2:(n &&& 4).testBit 0=false:=by rw [Nat.testBit_and,show Nat.testBit 4 0=false by decide,Bool.and_false]
 have h3:(n &&& 4).testBit 1=false:=by rw [Nat.testBit_and,show Nat.testBit 4 1=false by decide,Bool.and_false]
 obtain ⟨x,hx⟩:∃ x,n &&& 4=x:=⟨_,rfl⟩
 rw [hx] at h1 h2 h3 ⊢
 have h:x=0∨x=1∨x=2∨x=3∨x=4:=by omega
 rcases h with rfl | rfl | rfl | rfl | rfl
 ·exact .inl rfl
 ·exact absurd h2 (by decide)
 ·exact absurd h3 (by decide)
 ·exact absurd h2 (by decide)
 ·exact .inr rfl
theorem bit_four (f:Int):flag4 f=(bits .and .i64 f 4 == 4):=by
 have h:bits .and .i64 f 4=0∨bits .and .i64 f 4=4:=by
  show IntKind.i64.wrap ((BitVec.ofInt 64 f &&& BitVec.ofInt 64 4).toNat:Int)=0∨IntKind.i64.wrap ((BitVec.ofInt 64 f &&& BitVec.ofInt 64 4).toNat:Int)=4
  rw [BitVec.toNat_and,show (BitVec.ofInt 64 4).toNat=4 by decide]
  rcases and_four (BitVec.ofInt 64 f).toNat with h | h <;> rw [h]
  ·exact .inl (by decide)
  ·exact .inr (by decide)
 unfold flag4
 rcases h with h | h <;> rw [h] <;> rfl
def NdG (w:World) (b E:Nat) (f:Int) (r:DR) (ed:Ending) (w':World):Prop:=w.grownBy w' (some b)∧match r with
 | .ok (n,R)=>∃ v,ed=.returned (.agg v)∧Treed w' (Fresh w w') n v∧IsG w' b R E f 0 0
 | .error (p,x)=>∃ v R,ed=.returned (.agg v)∧FormV v∧IsG w' b R E f p x
def NE {α:Type} (r:Except (Int×Int) α):Prop:=∀ p,r≠.error (p,0)
theorem NgTo.ok {w:World} {b E:Nat} {f:Int} {n:Nd} {R:List Tok} {ed:Ending} {w':World} (h:NgTo w b n R E f 0 0 ed w'):NdG w b E f (.ok (n,R)) ed w':=by
 obtain ⟨v,h1,h2,h3,h4⟩:=h
 exact ⟨h4,v,h1,h2,h3⟩
section
variable {P:Program} {ops:Array Oper} {o:Oper} {a:Act} {K:Act→World→Prop} {Q:Exit→Act→World→Prop} {E:Prop}
theorem step_box {ty e:TypeId} (W:World) (x y:Operand) (g:Nat) (cs vs:Array Value)
 (hgd:o.guard=none) (hd:o.dst=none) (ho:o.op=.store ty x y) (hx:a.eval x=.pointer (some ⟨g,0,none⟩)) (hy:a.eval y=.agg vs) (hb:Box W g cs e) (hs:vs.size=cs.size)
 (hi:(P.info? ty).map (·.size)=some vs.size) (h1:vs.all (·.oneCell')=true)
 (h:∀ w',Box w' g vs e→W.grownBy w' (some g)→K a w'):if Region.wanted o (yielded ops a.tmps)=true then Oper.wp P o a W K Q else E:=by
 have hw:Region.wanted o (yielded ops a.tmps)=true:=by simp [Region.wanted,hgd]
 rw [if_pos hw]
 refine wp_store_mid ty x y ho g 0 vs hx hy (fun j hj=>?_) hi h1 ?_
 ·rw [Nat.zero_add]
  exact ⟨by rw [hb.cell (Array.getElem?_eq_getElem (show j < cs.size by omega))];rfl,hb.frozen j⟩
 ·obtain ⟨h2,h3⟩:=setCells_box g vs.toList 0 W cs e hb (by simp [hs])
  simp only [List.take_zero,List.nil_append,Array.toArray_toList] at h2
  have ha:a.put o.dst undef=a:=by rw [hd];rfl
  rw [ha]
  exact h _ h2 h3
end
theorem gatom_start (w:World) (b:Nat) (t:Tok) (R:List Tok) (E:Nat) (f deep:Int) (h:IsG w b (t :: R) E f 0 0) (hk:t.k=10) :
 Calls Tryz.prog 69 #[.pointer (some ⟨b,0,none⟩),.int .i64 deep] w (NgTo w b (.mk 6 0 0 [] []) R E f 0 0):=by
 have HLT:=qh h.lt
 obtain ⟨g,off,c1,n,A',hA',hn,hn1,hc1,hg,hb,t0,t1,t2,t3,t4,keep⟩:=(h.up (grown_new w (.cells #[.int .i64 0,.slice none 0 0,.int .i64 0,.int .i64 0,.slice none 0 0] 25) none)).next
 have b0:=(hb.cell (i:=0) rfl:(w.alloc (.cells #[.int .i64 0,.slice none 0 0,.int .i64 0,.int .i64 0,.slice none 0 0] 25)).cell? ⟨b,0,none⟩=some (.slice (some ⟨g,off,none⟩) (n+1) c1))
 have p0:(0:Int) < ((n:Int)+1):=by omega
 have p1:(0:Int) < ((n+1:Nat):Int):=by omega
 obtain ⟨k,ch,lo,hi,pos⟩:=t
 simp only at *
 subst hk
 have N1:w.grownBy ((w.alloc (.cells #[.int .i64 0,.slice none 0 0,.int .i64 0,.int .i64 0,.slice none 0 0] 25)).alloc (.cells #[.int .i64 10,.int .i64 ch,.int .i64 lo,.int .i64 hi,.int .i64 pos] 56)) none:=(grown_new w _ none).trans (grown_new _ _ none)
 have H1:=h.up N1
 have X1:Hid (Box ((w.alloc (.cells #[.int .i64 0,.slice none 0 0,.int .i64 0,.int .i64 0,.slice none 0 0] 25)).alloc (.cells #[.int .i64 10,.int .i64 ch,.int .i64 lo,.int .i64 hi,.int .i64 pos] 56)) w.heap.size ndZero 25):=qh ((Box.new w _ _).kept (grown_new _ _ none) (by simp))
 have Y1:Hid (Box ((w.alloc (.cells #[.int .i64 0,.slice none 0 0,.int .i64 0,.int .i64 0,.slice none 0 0] 25)).alloc (.cells #[.int .i64 10,.int .i64 ch,.int .i64 lo,.int .i64 hi,.int .i64 pos] 56)) (w.heap.size+1) #[.int .i64 10,.int .i64 ch,.int .i64 lo,.int .i64 hi,.int .i64 pos] 56):=qh (by have:=Box.new (w.alloc (.cells #[.int .i64 0,.slice none 0 0,.int .i64 0,.int .i64 0,.slice none 0 0] 25)) #[.int .i64 10,.int .i64 ch,.int .i64 lo,.int .i64 hi,.int .i64 pos] 56;rw [World.size_alloc] at this;exact this)
 have HB1:=qh (hb.kept (grown_new (w.alloc (.cells #[.int .i64 0,.slice none 0 0,.int .i64 0,.int .i64 0,.slice none 0 0] 25)) (.cells #[.int .i64 10,.int .i64 ch,.int .i64 lo,.int .i64 hi,.int .i64 pos] 56) none) (by simp))
 have HKP:Hid (∀ w3:World,(∀ q,q < b→w3.heap[q]?=((w.alloc (.cells #[.int .i64 0,.slice none 0 0,.int .i64 0,.int .i64 0,.slice none 0 0] 25)).alloc (.cells #[.int .i64 10,.int .i64 ch,.int .i64 lo,.int .i64 hi,.int .i64 pos] 56)).heap[q]?)→Box w3 b #[.slice A' n (c1 - 1),.int .i64 (E:Int),.int .i64 f,.int .i64 0,.int .i64 0] 52→IsG w3 b R E f 0 0):=qh fun w3 h3=>keep w3 fun q hq=>(h3 q hq).trans ((grown_new (w.alloc (.cells #[.int .i64 0,.slice none 0 0,.int .i64 0,.int .i64 0,.slice none 0 0] 25)) (.cells #[.int .i64 10,.int .i64 ch,.int .i64 lo,.int .i64 hi,.int .i64 pos] 56) none).block q (by have:=HLT.out;simp;omega) (by simp))
 have b1:=(HB1.out.cell (i:=0) rfl:((w.alloc (.cells #[.int .i64 0,.slice none 0 0,.int .i64 0,.int .i64 0,.slice none 0 0] 25)).alloc (.cells #[.int .i64 10,.int .i64 ch,.int .i64 lo,.int .i64 hi,.int .i64 pos] 56)).cell? ⟨b,0,none⟩=some (.slice (some ⟨g,off,none⟩) (n+1) c1))
 have G1:Hid (w.grownBy ((w.alloc (.cells #[.int .i64 0,.slice none 0 0,.int .i64 0,.int .i64 0,.slice none 0 0] 25)).alloc (.cells #[.int .i64 10,.int .i64 ch,.int .i64 lo,.int .i64 hi,.int .i64 pos] 56)) (some b)):=qh (grownBy_none N1 _)
 have H1:=qh H1
 clear N1 hb keep hg hn h
 go_enter Tryz.func69,Tryz.ntmps69
 go_wp2_with (first
  | (refine store_in _ _ _ b 0 (.slice A' n (c1 - 1)) _ rfl rfl rfl tokensInfo rfl rfl rfl HB1.out (by simp) (by simp [maxLen]) ?_;intro w2 x2 g2;have R2:=qh (HKP.out w2 (under g2 (Nat.le_of_lt HB1.out.lt)) x2);have X2:=qh (X1.out.kept g2 (by have:=HLT.out;simp;omega));have Y2:=qh (Y1.out.kept g2 (by have:=HLT.out;simp;omega));have G2:=qh (G1.out.trans g2);have y2:w2.cell? ⟨w.heap.size+1,0,none⟩=some (.int .i64 10):=Y2.out.cell rfl;clear x2 g2)
  | (refine store_nd w2 _ _ w.heap.size ndZero #[.int .i64 6,.slice none 0 0,.int .i64 0,.int .i64 0,.slice none 0 0] rfl rfl rfl rfl rfl X2.out rfl rfl (by simp [Value.oneCell']) ?_;intro w3 x3 g3;have X3:=qh x3;have R3:=qh (R2.out.grown g3 (fun g e=>by injection e with e;have:=HLT.out;omega));have G3:=qh (grown_two G2.out g3 (Nat.le_refl _));clear x3 g3)
  | fail)
 (try simp only [Exit.inBlock,Exit.then])
 exact bodyPost_ret (v:=.agg _) (ret_nd rfl _ _ w.heap.size _ rfl rfl X3.out) rfl ⟨_,rfl,treed_none 6,R3.out,G3.out⟩
theorem gatom_stop (w:World) (b:Nat) (t:Tok) (R:List Tok) (E:Nat) (f deep:Int) (h:IsG w b (t :: R) E f 0 0) (hk:t.k=11) :
 Calls Tryz.prog 69 #[.pointer (some ⟨b,0,none⟩),.int .i64 deep] w (NgTo w b (.mk 7 0 0 [] []) R E f 0 0):=by
 have HLT:=qh h.lt
 obtain ⟨g,off,c1,n,A',hA',hn,hn1,hc1,hg,hb,t0,t1,t2,t3,t4,keep⟩:=(h.up (grown_new w (.cells #[.int .i64 0,.slice none 0 0,.int .i64 0,.int .i64 0,.slice none 0 0] 25) none)).next
 have b0:=(hb.cell (i:=0) rfl:(w.alloc (.cells #[.int .i64 0,.slice none 0 0,.int .i64 0,.int .i64 0,.slice none 0 0] 25)).cell? ⟨b,0,none⟩=some (.slice (some ⟨g,off,none⟩) (n+1) c1))
 have p0:(0:Int) < ((n:Int)+1):=by omega
 have p1:(0:Int) < ((n+1:Nat):Int):=by omega
 obtain ⟨k,ch,lo,hi,pos⟩:=t
 simp only at *
 subst hk
 have N1:w.grownBy ((w.alloc (.cells #[.int .i64 0,.slice none 0 0,.int .i64 0,.int .i64 0,.slice none 0 0] 25)).alloc (.cells #[.int .i64 11,.int .i64 ch,.int .i64 lo,.int .i64 hi,.int .i64 pos] 56)) none:=(grown_new w _ none).trans (grown_new _ _ none)
 have H1:=h.up N1
 have X1:Hid (Box ((w.alloc (.cells #[.int .i64 0,.slice none 0 0,.int .i64 0,.int .i64 0,.slice none 0 0] 25)).alloc (.cells #[.int .i64 11,.int .i64 ch,.int .i64 lo,.int .i64 hi,.int .i64 pos] 56)) w.heap.size ndZero 25):=qh ((Box.new w _ _).kept (grown_new _ _ none) (by simp))
 have Y1:Hid (Box ((w.alloc (.cells #[.int .i64 0,.slice none 0 0,.int .i64 0,.int .i64 0,.slice none 0 0] 25)).alloc (.cells #[.int .i64 11,.int .i64 ch,.int .i64 lo,.int .i64 hi,.int .i64 pos] 56)) (w.heap.size+1) #[.int .i64 11,.int .i64 ch,.int .i64 lo,.int .i64 hi,.int .i64 pos] 56):=qh (by have:=Box.new (w.alloc (.cells #[.int .i64 0,.slice none 0 0,.int .i64 0,.int .i64 0,.slice none 0 0] 25)) #[.int .i64 11,.int .i64 ch,.int .i64 lo,.int .i64 hi,.int .i64 pos] 56;rw [World.size_alloc] at this;exact this)
 have HB1:=qh (hb.kept (grown_new (w.alloc (.cells #[.int .i64 0,.slice none 0 0,.int .i64 0,.int .i64 0,.slice none 0 0] 25)) (.cells #[.int .i64 11,.int .i64 ch,.int .i64 lo,.int .i64 hi,.int .i64 pos] 56) none) (by simp))
 have HKP:Hid (∀ w3:World,(∀ q,q < b→w3.heap[q]?=((w.alloc (.cells #[.int .i64 0,.slice none 0 0,.int .i64 0,.int .i64 0,.slice none 0 0] 25)).alloc (.cells #[.int .i64 11,.int .i64 ch,.int .i64 lo,.int .i64 hi,.int .i64 pos] 56)).heap[q]?)→Box w3 b #[.slice A' n (c1 - 1),.int .i64 (E:Int),.int .i64 f,.int .i64 0,.int .i64 0] 52→IsG w3 b R E f 0 0):=qh fun w3 h3=>keep w3 fun q hq=>(h3 q hq).trans ((grown_new (w.alloc (.cells #[.int .i64 0,.slice none 0 0,.int .i64 0,.int .i64 0,.slice none 0 0] 25)) (.cells #[.int .i64 11,.int .i64 ch,.int .i64 lo,.int .i64 hi,.int .i64 pos] 56) none).block q (by have:=HLT.out;simp;omega) (by simp))
 have b1:=(HB1.out.cell (i:=0) rfl:((w.alloc (.cells #[.int .i64 0,.slice none 0 0,.int .i64 0,.int .i64 0,.slice none 0 0] 25)).alloc (.cells #[.int .i64 11,.int .i64 ch,.int .i64 lo,.int .i64 hi,.int .i64 pos] 56)).cell? ⟨b,0,none⟩=some (.slice (some ⟨g,off,none⟩) (n+1) c1))
 have G1:Hid (w.grownBy ((w.alloc (.cells #[.int .i64 0,.slice none 0 0,.int .i64 0,.int .i64 0,.slice none 0 0] 25)).alloc (.cells #[.int .i64 11,.int .i64 ch,.int .i64 lo,.int .i64 hi,.int .i64 pos] 56)) (some b)):=qh (grownBy_none N1 _)
 have H1:=qh H1
 clear N1 hb keep hg hn h
 go_enter Tryz.func69,Tryz.ntmps69
 go_wp2_with (first
  | (refine store_in _ _ _ b 0 (.slice A' n (c1 - 1)) _ rfl rfl rfl tokensInfo rfl rfl rfl HB1.out (by simp) (by simp [maxLen]) ?_;intro w2 x2 g2;have R2:=qh (HKP.out w2 (under g2 (Nat.le_of_lt HB1.out.lt)) x2);have X2:=qh (X1.out.kept g2 (by have:=HLT.out;simp;omega));have Y2:=qh (Y1.out.kept g2 (by have:=HLT.out;simp;omega));have G2:=qh (G1.out.trans g2);have y2:w2.cell? ⟨w.heap.size+1,0,none⟩=some (.int .i64 11):=Y2.out.cell rfl;clear x2 g2)
  | (refine store_nd w2 _ _ w.heap.size ndZero #[.int .i64 7,.slice none 0 0,.int .i64 0,.int .i64 0,.slice none 0 0] rfl rfl rfl rfl rfl X2.out rfl rfl (by simp [Value.oneCell']) ?_;intro w3 x3 g3;have X3:=qh x3;have R3:=qh (R2.out.grown g3 (fun g e=>by injection e with e;have:=HLT.out;omega));have G3:=qh (grown_two G2.out g3 (Nat.le_refl _));clear x3 g3)
  | fail)
 (try simp only [Exit.inBlock,Exit.then])
 exact bodyPost_ret (v:=.agg _) (ret_nd rfl _ _ w.heap.size _ rfl rfl X3.out) rfl ⟨_,rfl,treed_none 7,R3.out,G3.out⟩
theorem gatom_class (w:World) (b:Nat) (t:Tok) (C:List Tok) (e:Tok) (R:List Tok) (E:Nat) (f deep:Int) (h:IsG w b (t :: (C++e :: R)) E f 0 0) (hk:t.k=7) (he:e.k=8) (hC:∀ s∈C,¬ s.k=8) :
 Calls Tryz.prog 69 #[.pointer (some ⟨b,0,none⟩),.int .i64 deep] w (NgTo w b (.mk 2 0 0 (dClass f (t.c == 1) C) []) R E f 0 0):=by
 have HLT:=qh h.lt
 obtain ⟨g,off,c1,n,A',hA',hn,hn1,hc1,hg,hb,t0,t1,t2,t3,t4,keep⟩:=(h.up (grown_new w (.cells #[.int .i64 0,.slice none 0 0,.int .i64 0,.int .i64 0,.slice none 0 0] 25) none)).next
 have b0:=(hb.cell (i:=0) rfl:(w.alloc (.cells #[.int .i64 0,.slice none 0 0,.int .i64 0,.int .i64 0,.slice none 0 0] 25)).cell? ⟨b,0,none⟩=some (.slice (some ⟨g,off,none⟩) (n+1) c1))
 have p0:(0:Int) < ((n:Int)+1):=by omega
 have p1:(0:Int) < ((n+1:Nat):Int):=by omega
 obtain ⟨k,ch,lo,hi,pos⟩:=t
 simp only at *
 subst hk
 have N1:w.grownBy ((w.alloc (.cells #[.int .i64 0,.slice none 0 0,.int .i64 0,.int .i64 0,.slice none 0 0] 25)).alloc (.cells #[.int .i64 7,.int .i64 ch,.int .i64 lo,.int .i64 hi,.int .i64 pos] 56)) none:=(grown_new w _ none).trans (grown_new _ _ none)
 have H1:=h.up N1
 have X1:Hid (Box ((w.alloc (.cells #[.int .i64 0,.slice none 0 0,.int .i64 0,.int .i64 0,.slice none 0 0] 25)).alloc (.cells #[.int .i64 7,.int .i64 ch,.int .i64 lo,.int .i64 hi,.int .i64 pos] 56)) w.heap.size ndZero 25):=qh ((Box.new w _ _).kept (grown_new _ _ none) (by simp))
 have Y1:Hid (Box ((w.alloc (.cells #[.int .i64 0,.slice none 0 0,.int .i64 0,.int .i64 0,.slice none 0 0] 25)).alloc (.cells #[.int .i64 7,.int .i64 ch,.int .i64 lo,.int .i64 hi,.int .i64 pos] 56)) (w.heap.size+1) #[.int .i64 7,.int .i64 ch,.int .i64 lo,.int .i64 hi,.int .i64 pos] 56):=qh (by have:=Box.new (w.alloc (.cells #[.int .i64 0,.slice none 0 0,.int .i64 0,.int .i64 0,.slice none 0 0] 25)) #[.int .i64 7,.int .i64 ch,.int .i64 lo,.int .i64 hi,.int .i64 pos] 56;rw [World.size_alloc] at this;exact this)
 have HB1:=qh (hb.kept (grown_new (w.alloc (.cells #[.int .i64 0,.slice none 0 0,.int .i64 0,.int .i64 0,.slice none 0 0] 25)) (.cells #[.int .i64 7,.int .i64 ch,.int .i64 lo,.int .i64 hi,.int .i64 pos] 56) none) (by simp))
 have HKP:Hid (∀ w3:World,(∀ q,q < b→w3.heap[q]?=((w.alloc (.cells #[.int .i64 0,.slice none 0 0,.int .i64 0,.int .i64 0,.slice none 0 0] 25)).alloc (.cells #[.int .i64 7,.int .i64 ch,.int .i64 lo,.int .i64 hi,.int .i64 pos] 56)).heap[q]?)→Box w3 b #[.slice A' n (c1 - 1),.int .i64 (E:Int),.int .i64 f,.int .i64 0,.int .i64 0] 52→IsG w3 b (C++e :: R) E f 0 0):=qh fun w3 h3=>keep w3 fun q hq=>(h3 q hq).trans ((grown_new (w.alloc (.cells #[.int .i64 0,.slice none 0 0,.int .i64 0,.int .i64 0,.slice none 0 0] 25)) (.cells #[.int .i64 7,.int .i64 ch,.int .i64 lo,.int .i64 hi,.int .i64 pos] 56) none).block q (by have:=HLT.out;simp;omega) (by simp))
 have b1:=(HB1.out.cell (i:=0) rfl:((w.alloc (.cells #[.int .i64 0,.slice none 0 0,.int .i64 0,.int .i64 0,.slice none 0 0] 25)).alloc (.cells #[.int .i64 7,.int .i64 ch,.int .i64 lo,.int .i64 hi,.int .i64 pos] 56)).cell? ⟨b,0,none⟩=some (.slice (some ⟨g,off,none⟩) (n+1) c1))
 have G1:Hid (w.grownBy ((w.alloc (.cells #[.int .i64 0,.slice none 0 0,.int .i64 0,.int .i64 0,.slice none 0 0] 25)).alloc (.cells #[.int .i64 7,.int .i64 ch,.int .i64 lo,.int .i64 hi,.int .i64 pos] 56)) (some b)):=qh (grownBy_none N1 _)
 have H1:=qh H1
 clear N1 hb keep hg hn h
 have HCL:=qh (gclass_any _ b ⟨7,ch,lo,hi,pos⟩ C e R E f 0 0 H1.out he hC)
 have HZ1:Hid (w.heap.size+2=((w.alloc (.cells #[.int .i64 0,.slice none 0 0,.int .i64 0,.int .i64 0,.slice none 0 0] 25)).alloc (.cells #[.int .i64 7,.int .i64 ch,.int .i64 lo,.int .i64 hi,.int .i64 pos] 56)).heap.size):=qh (by simp)
 clear he hC
 go_enter Tryz.func69,Tryz.ntmps69
 go_wp2_with fail
 refine HCL.out.mono ?_
 rintro e1 w2 ⟨v,rfl,t2,r2,g2⟩
 have h5:=t2.size
 have h51:=t2.one
 have T2:=qh t2
 have R2:=qh r2
 have X2:=qh (X1.out.kept g2 (by have:=HLT.out;simp;omega))
 have G2:=qh (G1.out.trans g2)
 clear t2 r2 g2
 go_wp2_with (first
  | (refine store_nd w2 _ _ w.heap.size ndZero v rfl rfl rfl rfl rfl X2.out rfl h5 h51 ?_;intro w3 x3 g3;have X3:=qh x3;have R3:=qh (R2.out.grown g3 (fun g e=>by injection e with e;have:=HLT.out;omega));have G3:=qh (grown_two G2.out g3 (Nat.le_refl _));have T3:=qh (T2.out.grown g3 (fun x hx e=>by injection e with e;have:=hx.1;have:=HZ1.out;omega));have Z3:=qh g3.size;clear x3 g3)
  | fail)
 (try simp only [Exit.inBlock,Exit.then])
 exact bodyPost_ret (v:=.agg _) (ret_nd rfl _ _ w.heap.size _ h5 rfl X3.out) rfl ⟨_,rfl,T3.out.mono fun x hx=>⟨by have:=hx.1;have:=HZ1.out;omega,Nat.lt_of_lt_of_le hx.2 Z3.out⟩,R3.out,G3.out⟩
theorem gatom_dot (w:World) (b:Nat) (t:Tok) (R:List Tok) (E:Nat) (f deep:Int) (h:IsG w b (t :: R) E f 0 0) (hk:t.k=2) :
 Calls Tryz.prog 69 #[.pointer (some ⟨b,0,none⟩),.int .i64 deep] w (NgTo w b (.mk 2 0 0 (dotR f) []) R E f 0 0):=by
 rw [dot_is]
 have HLT:=qh h.lt
 obtain ⟨g,off,c1,n,A',hA',hn,hn1,hc1,hg,hb,t0,t1,t2,t3,t4,keep⟩:=(h.up (grown_new w (.cells #[.int .i64 0,.slice none 0 0,.int .i64 0,.int .i64 0,.slice none 0 0] 25) none)).next
 have b0:=(hb.cell (i:=0) rfl:(w.alloc (.cells #[.int .i64 0,.slice none 0 0,.int .i64 0,.int .i64 0,.slice none 0 0] 25)).cell? ⟨b,0,none⟩=some (.slice (some ⟨g,off,none⟩) (n+1) c1))
 have p0:(0:Int) < ((n:Int)+1):=by omega
 have p1:(0:Int) < ((n+1:Nat):Int):=by omega
 obtain ⟨k,ch,lo,hi,pos⟩:=t
 simp only at *
 subst hk
 have N1:w.grownBy ((w.alloc (.cells #[.int .i64 0,.slice none 0 0,.int .i64 0,.int .i64 0,.slice none 0 0] 25)).alloc (.cells #[.int .i64 2,.int .i64 ch,.int .i64 lo,.int .i64 hi,.int .i64 pos] 56)) none:=(grown_new w _ none).trans (grown_new _ _ none)
 have H1:=h.up N1
 have X1:Hid (Box ((w.alloc (.cells #[.int .i64 0,.slice none 0 0,.int .i64 0,.int .i64 0,.slice none 0 0] 25)).alloc (.cells #[.int .i64 2,.int .i64 ch,.int .i64 lo,.int .i64 hi,.int .i64 pos] 56)) w.heap.size ndZero 25):=qh ((Box.new w _ _).kept (grown_new _ _ none) (by simp))
 have Y1:Hid (Box ((w.alloc (.cells #[.int .i64 0,.slice none 0 0,.int .i64 0,.int .i64 0,.slice none 0 0] 25)).alloc (.cells #[.int .i64 2,.int .i64 ch,.int .i64 lo,.int .i64 hi,.int .i64 pos] 56)) (w.heap.size+1) #[.int .i64 2,.int .i64 ch,.int .i64 lo,.int .i64 hi,.int .i64 pos] 56):=qh (by have:=Box.new (w.alloc (.cells #[.int .i64 0,.slice none 0 0,.int .i64 0,.int .i64 0,.slice none 0 0] 25)) #[.int .i64 2,.int .i64 ch,.int .i64 lo,.int .i64 hi,.int .i64 pos] 56;rw [World.size_alloc] at this;exact this)
 have HB1:=qh (hb.kept (grown_new (w.alloc (.cells #[.int .i64 0,.slice none 0 0,.int .i64 0,.int .i64 0,.slice none 0 0] 25)) (.cells #[.int .i64 2,.int .i64 ch,.int .i64 lo,.int .i64 hi,.int .i64 pos] 56) none) (by simp))
 have HKP:Hid (∀ w3:World,(∀ q,q < b→w3.heap[q]?=((w.alloc (.cells #[.int .i64 0,.slice none 0 0,.int .i64 0,.int .i64 0,.slice none 0 0] 25)).alloc (.cells #[.int .i64 2,.int .i64 ch,.int .i64 lo,.int .i64 hi,.int .i64 pos] 56)).heap[q]?)→Box w3 b #[.slice A' n (c1 - 1),.int .i64 (E:Int),.int .i64 f,.int .i64 0,.int .i64 0] 52→IsG w3 b R E f 0 0):=qh fun w3 h3=>keep w3 fun q hq=>(h3 q hq).trans ((grown_new (w.alloc (.cells #[.int .i64 0,.slice none 0 0,.int .i64 0,.int .i64 0,.slice none 0 0] 25)) (.cells #[.int .i64 2,.int .i64 ch,.int .i64 lo,.int .i64 hi,.int .i64 pos] 56) none).block q (by have:=HLT.out;simp;omega) (by simp))
 have b1:=(HB1.out.cell (i:=0) rfl:((w.alloc (.cells #[.int .i64 0,.slice none 0 0,.int .i64 0,.int .i64 0,.slice none 0 0] 25)).alloc (.cells #[.int .i64 2,.int .i64 ch,.int .i64 lo,.int .i64 hi,.int .i64 pos] 56)).cell? ⟨b,0,none⟩=some (.slice (some ⟨g,off,none⟩) (n+1) c1))
 have G1:Hid (w.grownBy ((w.alloc (.cells #[.int .i64 0,.slice none 0 0,.int .i64 0,.int .i64 0,.slice none 0 0] 25)).alloc (.cells #[.int .i64 2,.int .i64 ch,.int .i64 lo,.int .i64 hi,.int .i64 pos] 56)) (some b)):=qh (grownBy_none N1 _)
 have H1:=qh H1
 clear N1 hb keep hg hn h
 have hf4:(bits .and .i64 f 4 == 4)=flag4 f:=(bit_four f).symm
 obtain ⟨f4,hf4e⟩:∃ z,flag4 f=z:=⟨_,rfl⟩
 rw [hf4e] at hf4 ⊢
 clear hf4e
 rcases f4 with _ | _
 ·rw [if_neg (by simp)]
  go_enter Tryz.func69,Tryz.ntmps69
  go_wp2_with (first
   | (refine store_in _ _ _ b 0 (.slice A' n (c1 - 1)) _ rfl rfl rfl tokensInfo rfl rfl rfl HB1.out (by simp) (by simp [maxLen]) ?_;intro w2 x2 g2;have R2:=qh (HKP.out w2 (under g2 (Nat.le_of_lt HB1.out.lt)) x2);have X2:=qh (X1.out.kept g2 (by have:=HLT.out;simp;omega));have Y2:=qh (Y1.out.kept g2 (by have:=HLT.out;simp;omega));have G2:=qh (G1.out.trans g2);have y2:w2.cell? ⟨w.heap.size+1,0,none⟩=some (.int .i64 2):=Y2.out.cell rfl;obtain ⟨A2,k2,hb2,-,-⟩:=R2.out.box;have f2:w2.cell? ⟨b,2,none⟩=some (.int .i64 f):=hb2.cell rfl;clear x2 g2 hb2)
   | fail)
  refine (rone16_any 10 w2).mono ?_
  rintro e1 wo ⟨rfl,bo⟩
  have woR:=qh (R2.out.below bo R2.out.lt)
  have woX:=qh (X2.out.below bo X2.out.lt)
  have woG:=qh (G2.out.trans (grown_of_below bo (some b)))
  clear bo y2 f2
  go_wp2_with fail
  obtain ⟨wl,hwl⟩:∃ u,wo.alloc (.cells #[.int .i64 10,.int .i64 10] 66)=u:=⟨_,rfl⟩
  have wlR:=qh (hwl▸woR.out.up (grown_new wo _ none))
  have wlX:=qh (hwl▸woX.out.kept (grown_new wo _ none) (by simp))
  have wlG:=qh (hwl▸woG.out.trans (grown_new wo _ (some b)))
  have HTU:=qh (rturn16_any wl (some ⟨wo.heap.size,0,none⟩) [(10,10)] 1 (hwl▸(rg_lit wo (10,10)).wider (by simp)))
  rw [hwl]
  clear hwl
  refine (HTU.out).mono ?_
  rintro e1 w3 ⟨v3,rfl,o3,b3⟩
  obtain ⟨A3,c3,rfl,t3⟩:=treed_set o3
  have T3:=qh t3
  have R3:=qh (wlR.out.below b3 wlR.out.lt)
  have X3:=qh (wlX.out.below b3 wlX.out.lt)
  have G3:=qh (wlG.out.trans (grown_of_below b3 (some b)))
  have HW3:Hid (w.heap.size+1≤wl.heap.size):=qh wlX.out.lt
  clear o3 b3 t3
  go_wp2_with fail
  refine (gset_any w3 A3 _ c3).mono ?_
  rintro e1 w4 ⟨rfl,g4⟩
  have T4:=qh (T3.out.grown g4 (fun x hx e=>by cases e))
  have R4:=qh (R3.out.up g4)
  have X4:=qh (X3.out.kept g4 (by simp))
  have G4:=qh (G3.out.trans (grownBy_none g4 (some b)))
  have ZZ4:=qh g4.size
  clear g4
  go_wp2_with (first
   | (refine store_nd w4 _ _ w.heap.size ndZero #[.int .i64 2,.slice A3 (turnR [(10,10)]).length c3,.int .i64 0,.int .i64 0,.slice none 0 0] rfl rfl rfl rfl rfl X4.out rfl rfl (by simp [Value.oneCell']) ?_;intro w5 x5 g5;have X5:=qh x5;have R5:=qh (R4.out.grown g5 (fun g e=>by injection e with e;have:=HLT.out;omega));have G5:=qh (grown_two G4.out g5 (Nat.le_refl _));have T5:=qh (T4.out.grown g5 (fun x hx e=>by injection e with e;have:=hx.1;have:=HW3.out;omega));have Z5:=qh g5.size;clear x5 g5)
   | fail)
  (try simp only [Exit.inBlock,Exit.then])
  exact bodyPost_ret (v:=.agg _) (ret_nd rfl _ _ w.heap.size _ rfl rfl X5.out) rfl ⟨_,rfl,T5.out.mono fun x hx=>⟨by have:=hx.1;have:=HW3.out;omega,by have:=hx.2;have:=ZZ4.out;have:=Z5.out;omega⟩,R5.out,G5.out⟩
 ·rw [if_pos rfl]
  go_enter Tryz.func69,Tryz.ntmps69
  go_wp2_with (first
   | (refine store_in _ _ _ b 0 (.slice A' n (c1 - 1)) _ rfl rfl rfl tokensInfo rfl rfl rfl HB1.out (by simp) (by simp [maxLen]) ?_;intro w2 x2 g2;have R2:=qh (HKP.out w2 (under g2 (Nat.le_of_lt HB1.out.lt)) x2);have X2:=qh (X1.out.kept g2 (by have:=HLT.out;simp;omega));have Y2:=qh (Y1.out.kept g2 (by have:=HLT.out;simp;omega));have G2:=qh (G1.out.trans g2);have y2:w2.cell? ⟨w.heap.size+1,0,none⟩=some (.int .i64 2):=Y2.out.cell rfl;obtain ⟨A2,k2,hb2,-,-⟩:=R2.out.box;have f2:w2.cell? ⟨b,2,none⟩=some (.int .i64 f):=hb2.cell rfl;clear x2 g2 hb2)
   | fail)
  have w2R:=R2
  have w2X:=X2
  have w2G:=G2
  clear y2 f2
  refine (rturn16_any w2 none [] 0 Lies.empty).mono ?_
  rintro e1 w3 ⟨v3,rfl,o3,b3⟩
  obtain ⟨A3,c3,rfl,t3⟩:=treed_set o3
  have T3:=qh t3
  have R3:=qh (w2R.out.below b3 w2R.out.lt)
  have X3:=qh (w2X.out.below b3 w2X.out.lt)
  have G3:=qh (w2G.out.trans (grown_of_below b3 (some b)))
  have HW3:Hid (w.heap.size+1≤w2.heap.size):=qh w2X.out.lt
  clear o3 b3 t3
  go_wp2_with fail
  refine (gset_any w3 A3 _ c3).mono ?_
  rintro e1 w4 ⟨rfl,g4⟩
  have T4:=qh (T3.out.grown g4 (fun x hx e=>by cases e))
  have R4:=qh (R3.out.up g4)
  have X4:=qh (X3.out.kept g4 (by simp))
  have G4:=qh (G3.out.trans (grownBy_none g4 (some b)))
  have ZZ4:=qh g4.size
  clear g4
  go_wp2_with (first
   | (refine store_nd w4 _ _ w.heap.size ndZero #[.int .i64 2,.slice A3 (turnR []).length c3,.int .i64 0,.int .i64 0,.slice none 0 0] rfl rfl rfl rfl rfl X4.out rfl rfl (by simp [Value.oneCell']) ?_;intro w5 x5 g5;have X5:=qh x5;have R5:=qh (R4.out.grown g5 (fun g e=>by injection e with e;have:=HLT.out;omega));have G5:=qh (grown_two G4.out g5 (Nat.le_refl _));have T5:=qh (T4.out.grown g5 (fun x hx e=>by injection e with e;have:=hx.1;have:=HW3.out;omega));have Z5:=qh g5.size;clear x5 g5)
   | fail)
  (try simp only [Exit.inBlock,Exit.then])
  exact bodyPost_ret (v:=.agg _) (ret_nd rfl _ _ w.heap.size _ rfl rfl X5.out) rfl ⟨_,rfl,T5.out.mono fun x hx=>⟨by have:=hx.1;have:=HW3.out;omega,by have:=hx.2;have:=ZZ4.out;have:=Z5.out;omega⟩,R5.out,G5.out⟩
theorem gatom_repeat (w:World) (b:Nat) (t:Tok) (R:List Tok) (E:Nat) (f deep:Int) (h:IsG w b (t :: R) E f 0 0) (hk:t.k=6) :
 Calls Tryz.prog 69 #[.pointer (some ⟨b,0,none⟩),.int .i64 deep] w (NdG w b E f (.error (t.pos,5))):=by
 have HLT:=qh h.lt
 obtain ⟨g,off,c1,n,A',hA',hn,hn1,hc1,hg,hb,t0,t1,t2,t3,t4,keep⟩:=(h.up (grown_new w (.cells #[.int .i64 0,.slice none 0 0,.int .i64 0,.int .i64 0,.slice none 0 0] 25) none)).next
 have b0:=(hb.cell (i:=0) rfl:(w.alloc (.cells #[.int .i64 0,.slice none 0 0,.int .i64 0,.int .i64 0,.slice none 0 0] 25)).cell? ⟨b,0,none⟩=some (.slice (some ⟨g,off,none⟩) (n+1) c1))
 have p0:(0:Int) < ((n:Int)+1):=by omega
 have p1:(0:Int) < ((n+1:Nat):Int):=by omega
 obtain ⟨k,ch,lo,hi,pos⟩:=t
 simp only at *
 subst hk
 have N1:w.grownBy ((w.alloc (.cells #[.int .i64 0,.slice none 0 0,.int .i64 0,.int .i64 0,.slice none 0 0] 25)).alloc (.cells #[.int .i64 6,.int .i64 ch,.int .i64 lo,.int .i64 hi,.int .i64 pos] 56)) none:=(grown_new w _ none).trans (grown_new _ _ none)
 have H1:=h.up N1
 have X1:Hid (Box ((w.alloc (.cells #[.int .i64 0,.slice none 0 0,.int .i64 0,.int .i64 0,.slice none 0 0] 25)).alloc (.cells #[.int .i64 6,.int .i64 ch,.int .i64 lo,.int .i64 hi,.int .i64 pos] 56)) w.heap.size ndZero 25):=qh ((Box.new w _ _).kept (grown_new _ _ none) (by simp))
 have Y1:Hid (Box ((w.alloc (.cells #[.int .i64 0,.slice none 0 0,.int .i64 0,.int .i64 0,.slice none 0 0] 25)).alloc (.cells #[.int .i64 6,.int .i64 ch,.int .i64 lo,.int .i64 hi,.int .i64 pos] 56)) (w.heap.size+1) #[.int .i64 6,.int .i64 ch,.int .i64 lo,.int .i64 hi,.int .i64 pos] 56):=qh (by have:=Box.new (w.alloc (.cells #[.int .i64 0,.slice none 0 0,.int .i64 0,.int .i64 0,.slice none 0 0] 25)) #[.int .i64 6,.int .i64 ch,.int .i64 lo,.int .i64 hi,.int .i64 pos] 56;rw [World.size_alloc] at this;exact this)
 have HB1:=qh (hb.kept (grown_new (w.alloc (.cells #[.int .i64 0,.slice none 0 0,.int .i64 0,.int .i64 0,.slice none 0 0] 25)) (.cells #[.int .i64 6,.int .i64 ch,.int .i64 lo,.int .i64 hi,.int .i64 pos] 56) none) (by simp))
 have HKP:Hid (∀ w3:World,(∀ q,q < b→w3.heap[q]?=((w.alloc (.cells #[.int .i64 0,.slice none 0 0,.int .i64 0,.int .i64 0,.slice none 0 0] 25)).alloc (.cells #[.int .i64 6,.int .i64 ch,.int .i64 lo,.int .i64 hi,.int .i64 pos] 56)).heap[q]?)→Box w3 b #[.slice A' n (c1 - 1),.int .i64 (E:Int),.int .i64 f,.int .i64 0,.int .i64 0] 52→IsG w3 b R E f 0 0):=qh fun w3 h3=>keep w3 fun q hq=>(h3 q hq).trans ((grown_new (w.alloc (.cells #[.int .i64 0,.slice none 0 0,.int .i64 0,.int .i64 0,.slice none 0 0] 25)) (.cells #[.int .i64 6,.int .i64 ch,.int .i64 lo,.int .i64 hi,.int .i64 pos] 56) none).block q (by have:=HLT.out;simp;omega) (by simp))
 have b1:=(HB1.out.cell (i:=0) rfl:((w.alloc (.cells #[.int .i64 0,.slice none 0 0,.int .i64 0,.int .i64 0,.slice none 0 0] 25)).alloc (.cells #[.int .i64 6,.int .i64 ch,.int .i64 lo,.int .i64 hi,.int .i64 pos] 56)).cell? ⟨b,0,none⟩=some (.slice (some ⟨g,off,none⟩) (n+1) c1))
 have G1:Hid (w.grownBy ((w.alloc (.cells #[.int .i64 0,.slice none 0 0,.int .i64 0,.int .i64 0,.slice none 0 0] 25)).alloc (.cells #[.int .i64 6,.int .i64 ch,.int .i64 lo,.int .i64 hi,.int .i64 pos] 56)) (some b)):=qh (grownBy_none N1 _)
 have H1:=qh H1
 clear N1 hb keep hg hn h
 go_enter Tryz.func69,Tryz.ntmps69
 go_wp2_with (first
  | (refine store_in _ _ _ b 0 (.slice A' n (c1 - 1)) _ rfl rfl rfl tokensInfo rfl rfl rfl HB1.out (by simp) (by simp [maxLen]) ?_;intro w2 x2 g2;have R2:=qh (HKP.out w2 (under g2 (Nat.le_of_lt HB1.out.lt)) x2);have X2:=qh (X1.out.kept g2 (by have:=HLT.out;simp;omega));have Y2:=qh (Y1.out.kept g2 (by have:=HLT.out;simp;omega));have G2:=qh (G1.out.trans g2);have y2:w2.cell? ⟨w.heap.size+1,0,none⟩=some (.int .i64 6):=Y2.out.cell rfl;have z2:w2.cell? ⟨w.heap.size+1,4,none⟩=some (.int .i64 pos):=Y2.out.cell rfl;clear x2 g2)
  | fail)
 refine (gfail_new w2 b R E f 0 R2.out pos 5).mono ?_
 rintro e1 w3 ⟨rfl,r3,g3⟩
 have R3:=qh r3
 have X3:=qh (X2.out.kept g3 (by have:=HLT.out;simp;omega))
 have G3:=qh (G2.out.trans g3)
 clear r3 g3 y2 z2
 go_wp2_with (first
  | (refine store_nd w3 _ _ w.heap.size ndZero ndZero rfl rfl rfl rfl rfl X3.out rfl rfl FormV.zero.one ?_;intro w4 x4 g4;have X4:=qh x4;have R4:=qh (R3.out.grown g4 (fun g e=>by injection e with e;have:=HLT.out;omega));have G4:=qh (grown_two G3.out g4 (Nat.le_refl _));clear x4 g4)
  | fail)
 (try simp only [Exit.inBlock,Exit.then])
 exact bodyPost_ret (v:=.agg _) (ret_nd rfl _ _ w.heap.size _ rfl rfl X4.out) rfl ⟨G4.out,_,_,rfl,FormV.zero,R4.out⟩
theorem gatom_deep (w:World) (b:Nat) (t:Tok) (R:List Tok) (E:Nat) (f deep:Int) (h:IsG w b (t :: R) E f 0 0) (hk:t.k=3) (hd:20≤deep) :
 Calls Tryz.prog 69 #[.pointer (some ⟨b,0,none⟩),.int .i64 deep] w (NdG w b E f (.error (t.pos,9))):=by
 have d0:decide (20≤deep)=true:=decide_eq_true hd
 have d1:decide (deep ≥ 20)=true:=d0
 have HLT:=qh h.lt
 obtain ⟨g,off,c1,n,A',hA',hn,hn1,hc1,hg,hb,t0,t1,t2,t3,t4,keep⟩:=(h.up (grown_new w (.cells #[.int .i64 0,.slice none 0 0,.int .i64 0,.int .i64 0,.slice none 0 0] 25) none)).next
 have b0:=(hb.cell (i:=0) rfl:(w.alloc (.cells #[.int .i64 0,.slice none 0 0,.int .i64 0,.int .i64 0,.slice none 0 0] 25)).cell? ⟨b,0,none⟩=some (.slice (some ⟨g,off,none⟩) (n+1) c1))
 have p0:(0:Int) < ((n:Int)+1):=by omega
 have p1:(0:Int) < ((n+1:Nat):Int):=by omega
 obtain ⟨k,ch,lo,hi,pos⟩:=t
 simp only at *
 subst hk
 have N1:w.grownBy ((w.alloc (.cells #[.int .i64 0,.slice none 0 0,.int .i64 0,.int .i64 0,.slice none 0 0] 25)).alloc (.cells #[.int .i64 3,.int .i64 ch,.int .i64 lo,.int .i64 hi,.int .i64 pos] 56)) none:=(grown_new w _ none).trans (grown_new _ _ none)
 have H1:=h.up N1
 have X1:Hid (Box ((w.alloc (.cells #[.int .i64 0,.slice none 0 0,.int .i64 0,.int .i64 0,.slice none 0 0] 25)).alloc (.cells #[.int .i64 3,.int .i64 ch,.int .i64 lo,.int .i64 hi,.int .i64 pos] 56)) w.heap.size ndZero 25):=qh ((Box.new w _ _).kept (grown_new _ _ none) (by simp))
 have Y1:Hid (Box ((w.alloc (.cells #[.int .i64 0,.slice none 0 0,.int .i64 0,.int .i64 0,.slice none 0 0] 25)).alloc (.cells #[.int .i64 3,.int .i64 ch,.int .i64 lo,.int .i64 hi,.int .i64 pos] 56)) (w.heap.size+1) #[.int .i64 3,.int .i64 ch,.int .i64 lo,.int .i64 hi,.int .i64 pos] 56):=qh (by have:=Box.new (w.alloc (.cells #[.int .i64 0,.slice none 0 0,.int .i64 0,.int .i64 0,.slice none 0 0] 25)) #[.int .i64 3,.int .i64 ch,.int .i64 lo,.int .i64 hi,.int .i64 pos] 56;rw [World.size_alloc] at this;exact this)
 have HB1:=qh (hb.kept (grown_new (w.alloc (.cells #[.int .i64 0,.slice none 0 0,.int .i64 0,.int .i64 0,.slice none 0 0] 25)) (.cells #[.int .i64 3,.int .i64 ch,.int .i64 lo,.int .i64 hi,.int .i64 pos] 56) none) (by simp))
 have HKP:Hid (∀ w3:World,(∀ q,q < b→w3.heap[q]?=((w.alloc (.cells #[.int .i64 0,.slice none 0 0,.int .i64 0,.int .i64 0,.slice none 0 0] 25)).alloc (.cells #[.int .i64 3,.int .i64 ch,.int .i64 lo,.int .i64 hi,.int .i64 pos] 56)).heap[q]?)→Box w3 b #[.slice A' n (c1 - 1),.int .i64 (E:Int),.int .i64 f,.int .i64 0,.int .i64 0] 52→IsG w3 b R E f 0 0):=qh fun w3 h3=>keep w3 fun q hq=>(h3 q hq).trans ((grown_new (w.alloc (.cells #[.int .i64 0,.slice none 0 0,.int .i64 0,.int .i64 0,.slice none 0 0] 25)) (.cells #[.int .i64 3,.int .i64 ch,.int .i64 lo,.int .i64 hi,.int .i64 pos] 56) none).block q (by have:=HLT.out;simp;omega) (by simp))
 have b1:=(HB1.out.cell (i:=0) rfl:((w.alloc (.cells #[.int .i64 0,.slice none 0 0,.int .i64 0,.int .i64 0,.slice none 0 0] 25)).alloc (.cells #[.int .i64 3,.int .i64 ch,.int .i64 lo,.int .i64 hi,.int .i64 pos] 56)).cell? ⟨b,0,none⟩=some (.slice (some ⟨g,off,none⟩) (n+1) c1))
 have G1:Hid (w.grownBy ((w.alloc (.cells #[.int .i64 0,.slice none 0 0,.int .i64 0,.int .i64 0,.slice none 0 0] 25)).alloc (.cells #[.int .i64 3,.int .i64 ch,.int .i64 lo,.int .i64 hi,.int .i64 pos] 56)) (some b)):=qh (grownBy_none N1 _)
 have H1:=qh H1
 clear N1 hb keep hg hn h
 have z1:((w.alloc (.cells #[.int .i64 0,.slice none 0 0,.int .i64 0,.int .i64 0,.slice none 0 0] 25)).alloc (.cells #[.int .i64 3,.int .i64 ch,.int .i64 lo,.int .i64 hi,.int .i64 pos] 56)).cell? ⟨w.heap.size+1,4,none⟩=some (.int .i64 pos):=Y1.out.cell rfl
 have HFA:=qh (gfail_new _ b _ E f 0 H1.out pos 9)
 clear hd
 go_enter Tryz.func69,Tryz.ntmps69
 go_wp2_with fail
 refine HFA.out.mono ?_
 rintro e1 w3 ⟨rfl,r3,g3⟩
 have R3:=qh r3
 have X3:=qh (X1.out.kept g3 (by have:=HLT.out;simp;omega))
 have G3:=qh (G1.out.trans g3)
 clear r3 g3
 go_wp2_with (first
  | (refine store_nd w3 _ _ w.heap.size ndZero ndZero rfl rfl rfl rfl rfl X3.out rfl rfl FormV.zero.one ?_;intro w4 x4 g4;have X4:=qh x4;have R4:=qh (R3.out.grown g4 (fun g e=>by injection e with e;have:=HLT.out;omega));have G4:=qh (grown_two G3.out g4 (Nat.le_refl _));clear x4 g4)
  | fail)
 (try simp only [Exit.inBlock,Exit.then])
 exact bodyPost_ret (v:=.agg _) (ret_nd rfl _ _ w.heap.size _ rfl rfl X4.out) rfl ⟨G4.out,_,_,rfl,FormV.zero,R4.out⟩
theorem gatom_open (w:World) (b:Nat) (t:Tok) (R:List Tok) (E:Nat) (f deep:Int) (h:IsG w b (t :: R) E f 0 0) (hk:t.k=3) (h0:0≤deep) (hd:deep < 20) (r:DR) (hne:NE r) (HOR:∀ u,IsG u b R E f 0 0→Calls Tryz.prog 25 #[.pointer (some ⟨b,0,none⟩),.int .i64 (deep+1)] u (NdG u b E f r)) :
 Calls Tryz.prog 69 #[.pointer (some ⟨b,0,none⟩),.int .i64 deep] w (NdG w b E f (match r with | .error x=>.error x | .ok (_,[])=>.error ((E:Int),4) | .ok (n,s :: S)=>if s.k=4 then .ok (n,S) else .error ((E:Int),4))):=by
 obtain ⟨RS,hRS⟩:∃ z,(match r with | .error x=>(.error x:DR) | .ok (_,[])=>.error ((E:Int),4) | .ok (n,s :: S)=>if s.k=4 then .ok (n,S) else .error ((E:Int),4))=z:=⟨_,rfl⟩
 have HRS:=qh hRS
 rw [hRS]
 clear hRS
 have d0:decide (20≤deep)=false:=decide_eq_false (by omega)
 have d1:decide (deep ≥ 20)=false:=d0
 have hw:IntKind.i64.wrap (deep+1)=deep+1:=IntWalk.i64_in _ (by omega)
 have HORR:=qh HOR
 have HNE:=qh hne
 clear HOR h0 hd hne
 have HLT:=qh h.lt
 obtain ⟨g,off,c1,n,A',hA',hn,hn1,hc1,hg,hb,t0,t1,t2,t3,t4,keep⟩:=(h.up (grown_new w (.cells #[.int .i64 0,.slice none 0 0,.int .i64 0,.int .i64 0,.slice none 0 0] 25) none)).next
 have b0:=(hb.cell (i:=0) rfl:(w.alloc (.cells #[.int .i64 0,.slice none 0 0,.int .i64 0,.int .i64 0,.slice none 0 0] 25)).cell? ⟨b,0,none⟩=some (.slice (some ⟨g,off,none⟩) (n+1) c1))
 have p0:(0:Int) < ((n:Int)+1):=by omega
 have p1:(0:Int) < ((n+1:Nat):Int):=by omega
 obtain ⟨k,ch,lo,hi,pos⟩:=t
 simp only at *
 subst hk
 have N1:w.grownBy ((w.alloc (.cells #[.int .i64 0,.slice none 0 0,.int .i64 0,.int .i64 0,.slice none 0 0] 25)).alloc (.cells #[.int .i64 3,.int .i64 ch,.int .i64 lo,.int .i64 hi,.int .i64 pos] 56)) none:=(grown_new w _ none).trans (grown_new _ _ none)
 have H1:=h.up N1
 have X1:Hid (Box ((w.alloc (.cells #[.int .i64 0,.slice none 0 0,.int .i64 0,.int .i64 0,.slice none 0 0] 25)).alloc (.cells #[.int .i64 3,.int .i64 ch,.int .i64 lo,.int .i64 hi,.int .i64 pos] 56)) w.heap.size ndZero 25):=qh ((Box.new w _ _).kept (grown_new _ _ none) (by simp))
 have Y1:Hid (Box ((w.alloc (.cells #[.int .i64 0,.slice none 0 0,.int .i64 0,.int .i64 0,.slice none 0 0] 25)).alloc (.cells #[.int .i64 3,.int .i64 ch,.int .i64 lo,.int .i64 hi,.int .i64 pos] 56)) (w.heap.size+1) #[.int .i64 3,.int .i64 ch,.int .i64 lo,.int .i64 hi,.int .i64 pos] 56):=qh (by have:=Box.new (w.alloc (.cells #[.int .i64 0,.slice none 0 0,.int .i64 0,.int .i64 0,.slice none 0 0] 25)) #[.int .i64 3,.int .i64 ch,.int .i64 lo,.int .i64 hi,.int .i64 pos] 56;rw [World.size_alloc] at this;exact this)
 have HB1:=qh (hb.kept (grown_new (w.alloc (.cells #[.int .i64 0,.slice none 0 0,.int .i64 0,.int .i64 0,.slice none 0 0] 25)) (.cells #[.int .i64 3,.int .i64 ch,.int .i64 lo,.int .i64 hi,.int .i64 pos] 56) none) (by simp))
 have HKP:Hid (∀ w3:World,(∀ q,q < b→w3.heap[q]?=((w.alloc (.cells #[.int .i64 0,.slice none 0 0,.int .i64 0,.int .i64 0,.slice none 0 0] 25)).alloc (.cells #[.int .i64 3,.int .i64 ch,.int .i64 lo,.int .i64 hi,.int .i64 pos] 56)).heap[q]?)→Box w3 b #[.slice A' n (c1 - 1),.int .i64 (E:Int),.int .i64 f,.int .i64 0,.int .i64 0] 52→IsG w3 b R E f 0 0):=qh fun w3 h3=>keep w3 fun q hq=>(h3 q hq).trans ((grown_new (w.alloc (.cells #[.int .i64 0,.slice none 0 0,.int .i64 0,.int .i64 0,.slice none 0 0] 25)) (.cells #[.int .i64 3,.int .i64 ch,.int .i64 lo,.int .i64 hi,.int .i64 pos] 56) none).block q (by have:=HLT.out;simp;omega) (by simp))
 have b1:=(HB1.out.cell (i:=0) rfl:((w.alloc (.cells #[.int .i64 0,.slice none 0 0,.int .i64 0,.int .i64 0,.slice none 0 0] 25)).alloc (.cells #[.int .i64 3,.int .i64 ch,.int .i64 lo,.int .i64 hi,.int .i64 pos] 56)).cell? ⟨b,0,none⟩=some (.slice (some ⟨g,off,none⟩) (n+1) c1))
 have G1:Hid (w.grownBy ((w.alloc (.cells #[.int .i64 0,.slice none 0 0,.int .i64 0,.int .i64 0,.slice none 0 0] 25)).alloc (.cells #[.int .i64 3,.int .i64 ch,.int .i64 lo,.int .i64 hi,.int .i64 pos] 56)) (some b)):=qh (grownBy_none N1 _)
 have H1:=qh H1
 clear N1 hb keep hg hn h
 go_enter Tryz.func69,Tryz.ntmps69
 go_wp2_with (first
  | (refine store_in _ _ _ b 0 (.slice A' n (c1 - 1)) _ rfl rfl rfl tokensInfo rfl rfl rfl HB1.out (by simp) (by simp [maxLen]) ?_;intro w2 x2 g2;have R2:=qh (HKP.out w2 (under g2 (Nat.le_of_lt HB1.out.lt)) x2);have X2:=qh (X1.out.kept g2 (by have:=HLT.out;simp;omega));have Y2:=qh (Y1.out.kept g2 (by have:=HLT.out;simp;omega));have G2:=qh (G1.out.trans g2);clear x2 g2)
  | fail)
 refine (HORR.out w2 R2.out).mono ?_
 rintro e1 w3 ⟨g3,hm⟩
 have X3:=qh (X2.out.kept g3 (by have:=HLT.out;simp;omega))
 have G3:=qh (G2.out.trans g3)
 have HZ2:=qh X2.out.lt
 clear b0 b1 t0 t1 t2 t3 t4 HB1 HKP
 rcases r with ⟨p,x⟩ | ⟨n,R'⟩
 ·have hx:x≠0:=fun e=>HNE.out p (by rw [e])
  have HX:=qh hx
  have hrs:(Except.error (p,x):DR)=RS:=HRS.out
  subst hrs
  obtain ⟨v,R',rfl,hfv,r3⟩:=hm
  obtain ⟨k1,Ar,nr,cr,lo1,hi1,Ak,nk,ck,rfl⟩:=hfv
  clear hx g3
  by_cases h4:kindIs R' [4]=true
  ·obtain ⟨s,S,hs,-⟩:=kindIs_tail h4
   subst hs
   have HKD:Hid (kd (s :: S)=4):=qh (show s.k=4 by simpa [kindIs] using h4)
   clear h4
   obtain ⟨wu,hwu⟩:∃ z,w3.alloc (.cells #[.int .i64 k1,.slice Ar nr cr,.int .i64 lo1,.int .i64 hi1,.slice Ak nk ck] 25)=z:=⟨_,rfl⟩
   have N3:w3.grownBy wu none:=hwu▸grown_new w3 _ none
   have RU:=qh (r3.up N3)
   have XU:=qh (X3.out.kept N3 (by simp))
   have YU:Hid (Box wu w3.heap.size #[.int .i64 k1,.slice Ar nr cr,.int .i64 lo1,.int .i64 hi1,.slice Ak nk ck] 25):=qh (hwu▸Box.new w3 _ _)
   have GU:=qh (G3.out.trans (grownBy_none N3 (some b)))
   have NU:=qh N3
   have HWU:=qh hwu
   have HLW:Hid (b < w3.heap.size):=qh r3.lt
   have HWW:Hid (w.heap.size < w3.heap.size):=qh X3.out.lt
   have HK:=gkind_any wu b (s :: S) E f p x RU.out
   rw [HKD.out] at HK
   have HKK:=qh HK
   obtain ⟨A1,c1',hbx,-,-⟩:=RU.out.box
   have b1':=(hbx.cell (i:=1) rfl:wu.cell? ⟨b,1,none⟩=some (.int .i64 (E:Int)))
   clear hwu N3 r3 HK hbx
   go_wp2_with fail
   rw [HWU.out]
   refine HKK.out.mono ?_
   rintro e1 w9 ⟨rfl,rfl⟩
   obtain ⟨g',off',c2,n',A'',hA'',hn',hn1',hc1',hg',hb',t0',t1',t2',t3',t4',keep'⟩:=RU.out.next
   have b0':=(hb'.cell (i:=0) rfl:wu.cell? ⟨b,0,none⟩=some (.slice (some ⟨g',off',none⟩) (n'+1) c2))
   have p0':(0:Int) < ((n':Int)+1):=by omega
   have p1':(0:Int) < ((n'+1:Nat):Int):=by omega
   have HB':=qh hb'
   have HKP':=qh keep'
   clear hn' hg' hb' keep' t0' t1' t2' t3' t4'
   go_wp2_with (first
    | (refine store_in _ _ _ b 0 (.slice A'' n' (c2 - 1)) _ rfl rfl rfl tokensInfo rfl rfl rfl HB'.out (by simp) (by simp [maxLen]) ?_;intro w7 x7 g7;have R7:=qh (HKP'.out w7 (under g7 (Nat.le_of_lt HB'.out.lt)) x7);have X7:=qh (XU.out.kept g7 (by have:=HLT.out;simp;omega));have Y7:=qh (YU.out.kept g7 (by have:=HLW.out;simp;omega));have G7:=qh (GU.out.trans g7);clear x7 g7)
    | (refine load_nd _ w3.heap.size #[.int .i64 k1,.slice Ar nr cr,.int .i64 lo1,.int .i64 hi1,.slice Ak nk ck] rfl rfl rfl Y7.out rfl ?_)
    | (refine store_nd w7 _ _ w.heap.size ndZero #[.int .i64 k1,.slice Ar nr cr,.int .i64 lo1,.int .i64 hi1,.slice Ak nk ck] rfl rfl rfl rfl rfl X7.out rfl rfl (by simp [Value.oneCell']) ?_;intro w8 x8 g8;have X8:=qh x8;have R8:=qh (R7.out.grown g8 (fun g e=>by injection e with e;have:=HLT.out;omega));have G8:=qh (grown_two G7.out g8 (Nat.le_refl _));clear x8 g8)
    | fail)
   (try simp only [Exit.inBlock,Exit.then])
   exact bodyPost_ret (v:=.agg _) (ret_nd rfl _ _ w.heap.size _ rfl rfl X8.out) rfl ⟨G8.out,_,_,rfl,⟨_,_,_,_,_,_,_,_,_,rfl⟩,R8.out⟩
  ·obtain ⟨kz,hkz⟩:∃ z,kd R'=z:=⟨_,rfl⟩
   have d4:(kz != 4)=true:=by
    rcases R' with _ | ⟨s,S⟩
    ·rw [← hkz];rfl
    ·have h5:¬ s.k=4:=by simpa [kindIs] using h4
     rw [← hkz]
     show (s.k != 4)=true
     simpa using h5
   have HKD:Hid (kd R'=kz):=qh hkz
   clear h4 hkz
   obtain ⟨wu,hwu⟩:∃ z,w3.alloc (.cells #[.int .i64 k1,.slice Ar nr cr,.int .i64 lo1,.int .i64 hi1,.slice Ak nk ck] 25)=z:=⟨_,rfl⟩
   have N3:w3.grownBy wu none:=hwu▸grown_new w3 _ none
   have RU:=qh (r3.up N3)
   have XU:=qh (X3.out.kept N3 (by simp))
   have YU:Hid (Box wu w3.heap.size #[.int .i64 k1,.slice Ar nr cr,.int .i64 lo1,.int .i64 hi1,.slice Ak nk ck] 25):=qh (hwu▸Box.new w3 _ _)
   have GU:=qh (G3.out.trans (grownBy_none N3 (some b)))
   have NU:=qh N3
   have HWU:=qh hwu
   have HLW:Hid (b < w3.heap.size):=qh r3.lt
   have HWW:Hid (w.heap.size < w3.heap.size):=qh X3.out.lt
   have HK:=gkind_any wu b R' E f p x RU.out
   rw [HKD.out] at HK
   have HKK:=qh HK
   obtain ⟨A1,c1',hbx,-,-⟩:=RU.out.box
   have b1':=(hbx.cell (i:=1) rfl:wu.cell? ⟨b,1,none⟩=some (.int .i64 (E:Int)))
   clear hwu N3 r3 HK hbx
   go_wp2_with fail
   rw [HWU.out]
   refine HKK.out.mono ?_
   rintro e1 w9 ⟨rfl,rfl⟩
   go_wp2_with fail
   refine (gfail_old wu b R' E f p x RU.out HX.out (E:Int) 4).mono ?_
   rintro e1 w9 ⟨rfl,rfl⟩
   go_wp2_with (first
    | (refine load_nd _ w3.heap.size #[.int .i64 k1,.slice Ar nr cr,.int .i64 lo1,.int .i64 hi1,.slice Ak nk ck] rfl rfl rfl YU.out rfl ?_)
    | (refine store_nd wu _ _ w.heap.size ndZero #[.int .i64 k1,.slice Ar nr cr,.int .i64 lo1,.int .i64 hi1,.slice Ak nk ck] rfl rfl rfl rfl rfl XU.out rfl rfl (by simp [Value.oneCell']) ?_;intro w8 x8 g8;have X8:=qh x8;have R8:=qh (RU.out.grown g8 (fun g e=>by injection e with e;have:=HLT.out;omega));have G8:=qh (grown_two GU.out g8 (Nat.le_refl _));clear x8 g8)
    | fail)
   (try simp only [Exit.inBlock,Exit.then])
   exact bodyPost_ret (v:=.agg _) (ret_nd rfl _ _ w.heap.size _ rfl rfl X8.out) rfl ⟨G8.out,_,_,rfl,⟨_,_,_,_,_,_,_,_,_,rfl⟩,R8.out⟩
 ·obtain ⟨v,rfl,t3',r3⟩:=hm
  obtain ⟨k1,Ar,nr,cr,lo1,hi1,Ak,nk,ck,hv⟩:=t3'.form
  subst hv
  have T3:=qh t3'
  clear t3'
  by_cases h4:kindIs R' [4]=true
  ·obtain ⟨s,S,hs,-⟩:=kindIs_tail h4
   subst hs
   have hs4:s.k=4:=by simpa [kindIs] using h4
   have HKD:Hid (kd (s :: S)=4):=qh hs4
   have hrs:(Except.ok (n,S):DR)=RS:=by
    have h:=HRS.out
    simp only at h
    rwa [if_pos hs4] at h
   subst hrs
   clear h4 hs4 g3
   obtain ⟨wu,hwu⟩:∃ z,w3.alloc (.cells #[.int .i64 k1,.slice Ar nr cr,.int .i64 lo1,.int .i64 hi1,.slice Ak nk ck] 25)=z:=⟨_,rfl⟩
   have N3:w3.grownBy wu none:=hwu▸grown_new w3 _ none
   have TU:Hid (Treed wu (fun x=>w2.heap.size≤x∧x < wu.heap.size) n #[.int .i64 k1,.slice Ar nr cr,.int .i64 lo1,.int .i64 hi1,.slice Ak nk ck]):=qh ((T3.out.grown N3 (fun x hx e=>by cases e)).mono fun x hx=>⟨hx.1,Nat.lt_of_lt_of_le hx.2 N3.size⟩)
   have RU:=qh (r3.up N3)
   have XU:=qh (X3.out.kept N3 (by simp))
   have YU:Hid (Box wu w3.heap.size #[.int .i64 k1,.slice Ar nr cr,.int .i64 lo1,.int .i64 hi1,.slice Ak nk ck] 25):=qh (hwu▸Box.new w3 _ _)
   have GU:=qh (G3.out.trans (grownBy_none N3 (some b)))
   have NU:=qh N3
   have HWU:=qh hwu
   have HLW:Hid (b < w3.heap.size):=qh r3.lt
   have HWW:Hid (w.heap.size < w3.heap.size):=qh X3.out.lt
   have HK:=gkind_any wu b (s :: S) E f 0 0 RU.out
   rw [HKD.out] at HK
   have HKK:=qh HK
   obtain ⟨A1,c1',hbx,-,-⟩:=RU.out.box
   have b1':=(hbx.cell (i:=1) rfl:wu.cell? ⟨b,1,none⟩=some (.int .i64 (E:Int)))
   clear hwu N3 r3 HK hbx
   go_wp2_with fail
   rw [HWU.out]
   refine HKK.out.mono ?_
   rintro e1 w9 ⟨rfl,rfl⟩
   obtain ⟨g',off',c2,n',A'',hA'',hn',hn1',hc1',hg',hb',t0',t1',t2',t3',t4',keep'⟩:=RU.out.next
   have b0':=(hb'.cell (i:=0) rfl:wu.cell? ⟨b,0,none⟩=some (.slice (some ⟨g',off',none⟩) (n'+1) c2))
   have p0':(0:Int) < ((n':Int)+1):=by omega
   have p1':(0:Int) < ((n'+1:Nat):Int):=by omega
   have HB':=qh hb'
   have HKP':=qh keep'
   clear hn' hg' hb' keep' t0' t1' t2' t3' t4'
   go_wp2_with (first
    | (refine store_in _ _ _ b 0 (.slice A'' n' (c2 - 1)) _ rfl rfl rfl tokensInfo rfl rfl rfl HB'.out (by simp) (by simp [maxLen]) ?_;intro w7 x7 g7;have R7:=qh (HKP'.out w7 (under g7 (Nat.le_of_lt HB'.out.lt)) x7);have X7:=qh (XU.out.kept g7 (by have:=HLT.out;simp;omega));have Y7:=qh (YU.out.kept g7 (by have:=HLW.out;simp;omega));have G7:=qh (GU.out.trans g7);have T7:=qh ((TU.out.grown g7 (fun x hx e=>by injection e with e;have:=hx.1;have:=HZ2.out;have:=HLT.out;omega)).mono (P':=fun x=>w2.heap.size≤x∧x < w7.heap.size) fun x hx=>⟨hx.1,Nat.lt_of_lt_of_le hx.2 g7.size⟩);clear x7 g7)
    | (refine load_nd _ w3.heap.size #[.int .i64 k1,.slice Ar nr cr,.int .i64 lo1,.int .i64 hi1,.slice Ak nk ck] rfl rfl rfl Y7.out rfl ?_)
    | (refine store_nd w7 _ _ w.heap.size ndZero #[.int .i64 k1,.slice Ar nr cr,.int .i64 lo1,.int .i64 hi1,.slice Ak nk ck] rfl rfl rfl rfl rfl X7.out rfl rfl (by simp [Value.oneCell']) ?_;intro w8 x8 g8;have X8:=qh x8;have R8:=qh (R7.out.grown g8 (fun g e=>by injection e with e;have:=HLT.out;omega));have G8:=qh (grown_two G7.out g8 (Nat.le_refl _));have T8:=qh (T7.out.grown g8 (fun x hx e=>by injection e with e;have:=hx.1;have:=HZ2.out;omega));have Z8:=qh g8.size;clear x8 g8)
    | fail)
   (try simp only [Exit.inBlock,Exit.then])
   exact bodyPost_ret (v:=.agg _) (ret_nd rfl _ _ w.heap.size _ rfl rfl X8.out) rfl ⟨G8.out,_,rfl,T8.out.mono fun x hx=>⟨by have:=hx.1;have:=HZ2.out;omega,Nat.lt_of_lt_of_le hx.2 Z8.out⟩,R8.out⟩
  ·obtain ⟨kz,hkz⟩:∃ z,kd R'=z:=⟨_,rfl⟩
   have d4:(kz != 4)=true:=by
    rcases R' with _ | ⟨s,S⟩
    ·rw [← hkz];rfl
    ·have h5:¬ s.k=4:=by simpa [kindIs] using h4
     rw [← hkz]
     show (s.k != 4)=true
     simpa using h5
   have HKD:Hid (kd R'=kz):=qh hkz
   have hrs:(Except.error ((E:Int),4):DR)=RS:=by
    have h:=HRS.out
    rcases R' with _ | ⟨s,S⟩
    ·exact h
    ·have:¬ s.k=4:=by simpa [kindIs] using h4
     simp only at h
     rwa [if_neg this] at h
   subst hrs
   clear h4 hkz g3
   obtain ⟨wu,hwu⟩:∃ z,w3.alloc (.cells #[.int .i64 k1,.slice Ar nr cr,.int .i64 lo1,.int .i64 hi1,.slice Ak nk ck] 25)=z:=⟨_,rfl⟩
   have N3:w3.grownBy wu none:=hwu▸grown_new w3 _ none
   have RU:=qh (r3.up N3)
   have XU:=qh (X3.out.kept N3 (by simp))
   have YU:Hid (Box wu w3.heap.size #[.int .i64 k1,.slice Ar nr cr,.int .i64 lo1,.int .i64 hi1,.slice Ak nk ck] 25):=qh (hwu▸Box.new w3 _ _)
   have GU:=qh (G3.out.trans (grownBy_none N3 (some b)))
   have NU:=qh N3
   have HWU:=qh hwu
   have HLW:Hid (b < w3.heap.size):=qh r3.lt
   have HWW:Hid (w.heap.size < w3.heap.size):=qh X3.out.lt
   have HK:=gkind_any wu b R' E f 0 0 RU.out
   rw [HKD.out] at HK
   have HKK:=qh HK
   obtain ⟨A1,c1',hbx,-,-⟩:=RU.out.box
   have b1':=(hbx.cell (i:=1) rfl:wu.cell? ⟨b,1,none⟩=some (.int .i64 (E:Int)))
   clear hwu N3 r3 HK hbx
   go_wp2_with fail
   rw [HWU.out]
   refine HKK.out.mono ?_
   rintro e1 w9 ⟨rfl,rfl⟩
   go_wp2_with fail
   refine (gfail_new wu b R' E f 0 RU.out (E:Int) 4).mono ?_
   rintro e1 w9 ⟨rfl,r9,g9⟩
   have R9:=qh r9
   have X9:=qh (XU.out.kept g9 (by have:=HLT.out;simp;omega))
   have Y9:=qh (YU.out.kept g9 (by have:=HLW.out;simp;omega))
   have G9:=qh (GU.out.trans g9)
   clear r9 g9
   go_wp2_with (first
    | (refine load_nd _ w3.heap.size #[.int .i64 k1,.slice Ar nr cr,.int .i64 lo1,.int .i64 hi1,.slice Ak nk ck] rfl rfl rfl Y9.out rfl ?_)
    | (refine store_nd w9 _ _ w.heap.size ndZero #[.int .i64 k1,.slice Ar nr cr,.int .i64 lo1,.int .i64 hi1,.slice Ak nk ck] rfl rfl rfl rfl rfl X9.out rfl rfl (by simp [Value.oneCell']) ?_;intro w8 x8 g8;have X8:=qh x8;have R8:=qh (R9.out.grown g8 (fun g e=>by injection e with e;have:=HLT.out;omega));have G8:=qh (grown_two G9.out g8 (Nat.le_refl _));clear x8 g8)
    | fail)
   (try simp only [Exit.inBlock,Exit.then])
   exact bodyPost_ret (v:=.agg _) (ret_nd rfl _ _ w.heap.size _ rfl rfl X8.out) rfl ⟨G8.out,_,_,rfl,⟨_,_,_,_,_,_,_,_,_,rfl⟩,R8.out⟩
theorem gatom_part (w:World) (b:Nat) (t:Tok) (R:List Tok) (E:Nat) (f deep:Int) (h:IsG w b (t :: R) E f 0 0) (hk:t.k≠7∧t.k≠3∧t.k≠10∧t.k≠11∧t.k≠2∧t.k≠6) :
 Calls Tryz.prog 69 #[.pointer (some ⟨b,0,none⟩),.int .i64 deep] w (NgTo w b (.mk 2 0 0 (dPart f t) []) R E f 0 0):=by
 obtain ⟨PP,hPP⟩:∃ z,dPart f t=z:=⟨_,rfl⟩
 have HPC:=fun u=>rpart16_any u t f
 rw [hPP] at HPC ⊢
 clear hPP
 have HLT:=qh h.lt
 obtain ⟨g,off,c1,n,A',hA',hn,hn1,hc1,hg,hb,t0,t1,t2,t3,t4,keep⟩:=(h.up (grown_new w (.cells #[.int .i64 0,.slice none 0 0,.int .i64 0,.int .i64 0,.slice none 0 0] 25) none)).next
 have b0:=(hb.cell (i:=0) rfl:(w.alloc (.cells #[.int .i64 0,.slice none 0 0,.int .i64 0,.int .i64 0,.slice none 0 0] 25)).cell? ⟨b,0,none⟩=some (.slice (some ⟨g,off,none⟩) (n+1) c1))
 have p0:(0:Int) < ((n:Int)+1):=by omega
 have p1:(0:Int) < ((n+1:Nat):Int):=by omega
 obtain ⟨k,ch,lo,hi,pos⟩:=t
 simp only at *
 have N1:w.grownBy ((w.alloc (.cells #[.int .i64 0,.slice none 0 0,.int .i64 0,.int .i64 0,.slice none 0 0] 25)).alloc (.cells #[.int .i64 k,.int .i64 ch,.int .i64 lo,.int .i64 hi,.int .i64 pos] 56)) none:=(grown_new w _ none).trans (grown_new _ _ none)
 have H1:=h.up N1
 have X1:Hid (Box ((w.alloc (.cells #[.int .i64 0,.slice none 0 0,.int .i64 0,.int .i64 0,.slice none 0 0] 25)).alloc (.cells #[.int .i64 k,.int .i64 ch,.int .i64 lo,.int .i64 hi,.int .i64 pos] 56)) w.heap.size ndZero 25):=qh ((Box.new w _ _).kept (grown_new _ _ none) (by simp))
 have Y1:Hid (Box ((w.alloc (.cells #[.int .i64 0,.slice none 0 0,.int .i64 0,.int .i64 0,.slice none 0 0] 25)).alloc (.cells #[.int .i64 k,.int .i64 ch,.int .i64 lo,.int .i64 hi,.int .i64 pos] 56)) (w.heap.size+1) #[.int .i64 k,.int .i64 ch,.int .i64 lo,.int .i64 hi,.int .i64 pos] 56):=qh (by have:=Box.new (w.alloc (.cells #[.int .i64 0,.slice none 0 0,.int .i64 0,.int .i64 0,.slice none 0 0] 25)) #[.int .i64 k,.int .i64 ch,.int .i64 lo,.int .i64 hi,.int .i64 pos] 56;rw [World.size_alloc] at this;exact this)
 have HB1:=qh (hb.kept (grown_new (w.alloc (.cells #[.int .i64 0,.slice none 0 0,.int .i64 0,.int .i64 0,.slice none 0 0] 25)) (.cells #[.int .i64 k,.int .i64 ch,.int .i64 lo,.int .i64 hi,.int .i64 pos] 56) none) (by simp))
 have HKP:Hid (∀ w3:World,(∀ q,q < b→w3.heap[q]?=((w.alloc (.cells #[.int .i64 0,.slice none 0 0,.int .i64 0,.int .i64 0,.slice none 0 0] 25)).alloc (.cells #[.int .i64 k,.int .i64 ch,.int .i64 lo,.int .i64 hi,.int .i64 pos] 56)).heap[q]?)→Box w3 b #[.slice A' n (c1 - 1),.int .i64 (E:Int),.int .i64 f,.int .i64 0,.int .i64 0] 52→IsG w3 b R E f 0 0):=qh fun w3 h3=>keep w3 fun q hq=>(h3 q hq).trans ((grown_new (w.alloc (.cells #[.int .i64 0,.slice none 0 0,.int .i64 0,.int .i64 0,.slice none 0 0] 25)) (.cells #[.int .i64 k,.int .i64 ch,.int .i64 lo,.int .i64 hi,.int .i64 pos] 56) none).block q (by have:=HLT.out;simp;omega) (by simp))
 have b1:=(HB1.out.cell (i:=0) rfl:((w.alloc (.cells #[.int .i64 0,.slice none 0 0,.int .i64 0,.int .i64 0,.slice none 0 0] 25)).alloc (.cells #[.int .i64 k,.int .i64 ch,.int .i64 lo,.int .i64 hi,.int .i64 pos] 56)).cell? ⟨b,0,none⟩=some (.slice (some ⟨g,off,none⟩) (n+1) c1))
 have G1:Hid (w.grownBy ((w.alloc (.cells #[.int .i64 0,.slice none 0 0,.int .i64 0,.int .i64 0,.slice none 0 0] 25)).alloc (.cells #[.int .i64 k,.int .i64 ch,.int .i64 lo,.int .i64 hi,.int .i64 pos] 56)) (some b)):=qh (grownBy_none N1 _)
 have H1:=qh H1
 clear N1 hb keep hg hn h
 have HPCC:Hid (∀ u,Calls Tryz.prog 88 #[.agg #[.int .i64 k,.int .i64 ch,.int .i64 lo,.int .i64 hi,.int .i64 pos],.int .i64 f] u (RowedRg u PP)):=qh HPC
 have e7:(k == 7)=false:=by simpa using hk.1
 have e3:(k == 3)=false:=by simpa using hk.2.1
 have e10:(k == 10)=false:=by simpa using hk.2.2.1
 have e11:(k == 11)=false:=by simpa using hk.2.2.2.1
 have e2:(k == 2)=false:=by simpa using hk.2.2.2.2.1
 have e6:(k == 6)=false:=by simpa using hk.2.2.2.2.2
 clear HPC hk
 go_enter Tryz.func69,Tryz.ntmps69
 go_wp2_with (first
  | (refine store_in _ _ _ b 0 (.slice A' n (c1 - 1)) _ rfl rfl rfl tokensInfo rfl rfl rfl HB1.out (by simp) (by simp [maxLen]) ?_;intro w2 x2 g2;have R2:=qh (HKP.out w2 (under g2 (Nat.le_of_lt HB1.out.lt)) x2);have X2:=qh (X1.out.kept g2 (by have:=HLT.out;simp;omega));have Y2:=qh (Y1.out.kept g2 (by have:=HLT.out;simp;omega));have G2:=qh (G1.out.trans g2);have y2:w2.cell? ⟨w.heap.size+1,0,none⟩=some (.int .i64 k):=Y2.out.cell rfl;clear x2 g2)
  | fail)
 have HCE:Hid (∀ u:World,Below w2.heap.size w2 u→u.cell? ⟨w.heap.size+1,0,none⟩=some (.int .i64 k)∧u.cell? ⟨w.heap.size+1,1,none⟩=some (.int .i64 ch)∧u.cell? ⟨w.heap.size+1,2,none⟩=some (.int .i64 lo)∧u.cell? ⟨w.heap.size+1,3,none⟩=some (.int .i64 hi)∧u.cell? ⟨w.heap.size+1,4,none⟩=some (.int .i64 pos)∧u.cell? ⟨b,2,none⟩=some (.int .i64 f)):=qh fun u hu=>by
  obtain ⟨A2,k2,hb2,-,-⟩:=R2.out.box
  have hy:=Y2.out.below hu Y2.out.lt
  exact ⟨hy.cell rfl,hy.cell rfl,hy.cell rfl,hy.cell rfl,hy.cell rfl,(hb2.below hu hb2.lt).cell rfl⟩
 have HW2:Hid (w.heap.size+1≤w2.heap.size):=qh X2.out.lt
 refine wp_region_E (S:=fun u=>u.cell? ⟨w.heap.size+1,0,none⟩=some (.int .i64 k)∧u.cell? ⟨w.heap.size+1,1,none⟩=some (.int .i64 ch)∧u.cell? ⟨w.heap.size+1,2,none⟩=some (.int .i64 lo)∧u.cell? ⟨w.heap.size+1,3,none⟩=some (.int .i64 hi)∧u.cell? ⟨w.heap.size+1,4,none⟩=some (.int .i64 pos)∧u.cell? ⟨b,2,none⟩=some (.int .i64 f)) [7] (by kernel_rfl) (HCE.out _ (by exact below_same (Below.refl _ w2) rfl rfl rfl rfl)) (fun hHeld hZ=>?_)
 refine' eY 0 hHeld hZ fun hZ=>?_
 try simp only [Act.put,ZA,ZB,ZD,ZE,ZF]
 refine' eY 1 hHeld hZ fun hZ=>?_
 try simp only [Act.put,ZA,ZB,ZC,ZD,ZE,ZF]
 refine' eY 2 hHeld hZ fun hZ=>?_
 try simp only [Act.put,ZA,ZB,ZC,ZD,ZE,ZF]
 refine' eY 3 hHeld hZ fun hZ=>?_
 try simp only [Act.put,ZA,ZB,ZC,ZD,ZE,ZF]
 refine' eY 4 hHeld hZ fun hZ=>?_
 try simp only [Act.put,ZA,ZB,ZC,ZD,ZE,ZF]
 refine eA 5 fun K hK=>?_
 go_simp
 refine (HPCC.out _).mono ?_
 rintro e1 w3 ⟨v3,rfl,o3,b3⟩
 obtain ⟨A3,c3,rfl,t3⟩:=treed_set o3
 have B3:Hid (Below w2.heap.size w2 w3):=qh (below_then_drew b3)
 have T3:=qh t3
 have R3:=qh (R2.out.below B3.out R2.out.lt)
 have X3:=qh (X2.out.below B3.out X2.out.lt)
 have G3:=qh (G2.out.trans (grown_of_below B3.out (some b)))
 clear o3 b3 t3
 refine eB hK hZ (HCE.out _ B3.out) fun hHeld hZ=>?_
 clear hK K
 try simp only [Act.put,ZA,ZB,ZC,ZD,ZE,ZF]
 refine eA 6 fun K hK=>?_
 go_simp
 refine (gset_any w3 A3 _ c3).mono ?_
 rintro e1 w4 ⟨rfl,g4⟩
 have B4:Hid (Below w2.heap.size w2 w4):=qh (B3.out.trans (below_row_none g4 B3.out.size))
 have T4:=qh (T3.out.grown g4 (fun x hx e=>by cases e))
 have R4:=qh (R3.out.up g4)
 have X4:=qh (X3.out.kept g4 (by simp))
 have G4:=qh (G3.out.trans (grownBy_none g4 (some b)))
 have ZZ4:=qh g4.size
 clear g4
 refine eB hK hZ (HCE.out _ B4.out) fun hHeld hZ=>?_
 clear hK K
 try simp only [Act.put,ZA,ZB,ZC,ZD,ZE,ZF]
 refine eA 7 fun K hK=>?_
 refine step_box w4 _ _ w.heap.size ndZero #[.int .i64 2,.slice A3 PP.length c3,.int .i64 0,.int .i64 0,.slice none 0 0] rfl rfl rfl rfl rfl X4.out rfl (ndInfo rfl) (by simp [Value.oneCell']) ?_
 intro w5 x5 g5
 have X5:=qh x5
 have R5:=qh (R4.out.grown g5 (fun g e=>by injection e with e;have:=HLT.out;omega))
 have G5:=qh (grown_two G4.out g5 (Nat.le_refl _))
 have T5:=qh (T4.out.grown g5 (fun x hx e=>by injection e with e;have:=hx.1;have:=HW2.out;simp at *;omega))
 have Z5:=qh g5.size
 clear x5 g5
 refine eE hK hZ fun hZ=>?_
 clear hK K
 try simp only [Act.put,ZA,ZB,ZC,ZD,ZE,ZF]
 refine wpAnyE_done (by kernel_rfl) ?_ _
 clear hZ
 go_wp2_with fail
 (try simp only [Exit.inBlock,Exit.then])
 exact bodyPost_ret (v:=.agg _) (ret_nd rfl _ _ w.heap.size _ rfl rfl X5.out) rfl ⟨_,rfl,T5.out.mono fun x hx=>⟨by have:=hx.1;have:=HW2.out;simp at *;omega,by have:=hx.2;have:=ZZ4.out;have:=Z5.out;omega⟩,R5.out,G5.out⟩
end
end Go.Proofs.YtoeocodfndbebaaGreatDoor
