/- Shared texts, shaken for one claim. -/
import Derived.Test.YtoeocodfndbebaaGreatDoorZC8
set_option maxRecDepth 20000
set_option maxHeartbeats 16000000
namespace Go.Proofs.YtoeocodfndbebaaGreatDoor
section
open Go.RowKit
theorem toksT:SliceOfN Tryz.prog 47 56 (.agg #[.int .i64 0,.int .i64 0,.int .i64 0,.int .i64 0,.int .i64 0]) 5 40:=⟨by kernel_rfl,by kernel_rfl,rfl,by decide⟩
theorem tokCells_append (S T:List Tok):tokCells (S++T)=tokCells S++tokCells T:=by simp [tokCells]
theorem tokCells_one (t:Tok):tokCells [t]=t.arr.toList:=by simp [tokCells]
theorem tokCells_length (T:List Tok):(tokCells T).length=T.length * 5:=by
 induction T with
 | nil=>rfl
 | cons t T ih=>rw [show t :: T=[t]++T from rfl,tokCells_append,List.length_append,ih,tokCells_one];simp;omega
theorem arr_one (t:Tok):∀ u∈t.arr.toList,u.oneCell'=true:=by simp [Value.oneCell']
def Tok.laid (t:Tok) (fr:Nat):Tok:=⟨t.k,t.c,t.lo,t.hi,(fr:Int)⟩
abbrev AddAt (u:World) (b g:Nat) (tv:Value) (t:Tok) (fr:Nat):Prop:=u.cell? ⟨b,2,none⟩=some tv∧u.cell? ⟨g,0,none⟩=some (.int .i64 t.k)∧u.cell? ⟨g,1,none⟩=some (.int .i64 t.c)∧u.cell? ⟨g,2,none⟩=some (.int .i64 t.lo)∧u.cell? ⟨g,3,none⟩=some (.int .i64 t.hi)∧u.cell? ⟨g,4,none⟩=some (.int .i64 fr)
theorem add_at {u:World} {b g fr:Nat} {x y tv:Value} {t:Tok} {e e':TypeId} (hb:Box u b #[x,y,tv] e) (hx:Box u g (t.laid fr).arr e'):AddAt u b g tv t fr :=
 ⟨hb.cell rfl,hx.cell rfl,hx.cell rfl,hx.cell rfl,hx.cell rfl,hx.cell rfl⟩
theorem tokSlInfo:(Tryz.prog.info? 47).map (·.size)=some 1:=by kernel_rfl
theorem tkadd_any (w:World) (b c k:Nat) (A:Option Addr) (l:List Int) (tv:Value) (T:List Tok) (h:IsR w b A l c k tv T) (hT:T.length≤1000) (t:Tok) (fr:Nat) :
 Calls Tryz.prog 103 #[.pointer (some ⟨b,0,none⟩),.agg t.arr,.int .i64 fr] w
  fun e w'=>e=.returned (.int .i64 t.k)∧(∃ tv',IsR w' b A l c k tv' (T++[t.laid fr]))∧Below b w w':=by
 obtain ⟨w0,hw0⟩:∃ u,w.alloc (.cells (t.laid fr).arr 56)=u:=⟨_,rfl⟩
 have X0:Hid (Box w0 w.heap.size (t.laid fr).arr 56):=qh (hw0▸Box.new w _ _)
 have G0:Hid (w.grownBy w0 none):=qh (hw0▸grown_new w _ _)
 have H0:=qh (h.grown G0.out)
 have Z0:Hid (w0.heap.size=w.heap.size+1):=qh (by rw [← hw0];simp)
 have hbw:=h.lt
 obtain ⟨At,ct,rfl,-,-,-⟩:=h.toks.form
 have HF:Hid ((Value.slice At T.length ct).ownBlock≠some b):=qh h.far
 have HO:Hid ((Value.slice At T.length ct).ownBlock≠some w.heap.size):=qh (h.old (Nat.le_refl _))
 have HC:Hid (∀ u:World,w0.heap.size≤u.heap.size→(∀ i,i < w0.heap.size→u.heap[i]?=w0.heap[i]?)→AddAt u b w.heap.size (.slice At T.length ct) t fr):=qh fun u _ hu=>by
  have hb:=H0.out.box
  have hx:=X0.out
  have z:=Z0.out
  unfold Box at hb hx
  rw [← hu _ (by omega)] at hb hx
  exact add_at hb hx
 have HW0:Hid ((w.alloc (.cells #[.int .i64 t.k,.int .i64 t.c,.int .i64 t.lo,.int .i64 t.hi,.int .i64 fr] 56))=w0):=qh hw0
 clear h hw0
 go_enter Tryz.func103,Tryz.ntmps103
 go_wp2_with fail
 rw [HW0.out]
 have hk:=HC.out w0.drew (Nat.le_refl _) (fun _ _=>rfl)
 refine wp_region_E (S:=fun u=>u.cell? ⟨b,2,none⟩=some (.slice At T.length ct)∧u.cell? ⟨w.heap.size,0,none⟩=some (.int .i64 t.k)∧u.cell? ⟨w.heap.size,1,none⟩=some (.int .i64 t.c)∧u.cell? ⟨w.heap.size,2,none⟩=some (.int .i64 t.lo)∧u.cell? ⟨w.heap.size,3,none⟩=some (.int .i64 t.hi)∧u.cell? ⟨w.heap.size,4,none⟩=some (.int .i64 fr)) [10] (by kernel_rfl) (hk) (fun hHeld hZ=>?_)
 refine' eY 0 hHeld hZ fun hZ=>?_
 try simp only [Act.put,ZA,ZB,ZD,ZE,ZF]
 refine' eY 1 hHeld hZ fun hZ=>?_
 try simp only [Act.put,ZA,ZB,ZC,ZD,ZE,ZF]
 refine' eY 2 hHeld hZ fun hZ=>?_
 try simp only [Act.put,ZA,ZB,ZC,ZD,ZE,ZF]
 refine' eY 3 hHeld hZ fun hZ=>?_
 try simp only [Act.put,ZA,ZB,ZC,ZD,ZE,ZF]
 refine' eY 4 hHeld hZ fun hZ=>?_
 try simp only [Act.put,ZA,ZB,ZC,ZD,ZE,ZF]
 refine' eY 5 hHeld hZ fun hZ=>?_
 try simp only [Act.put,ZA,ZB,ZC,ZD,ZE,ZF]
 refine eA 6 fun K hK=>?_
 go_simp
 refine eB hK hZ (HC.out _ (by simp) (fun i hi=>Below.heap_alloc w0.drew _ i hi)) fun hHeld hZ=>?_
 clear hK K
 try simp only [Act.put,ZA,ZB,ZC,ZD,ZE,ZF]
 refine eA 7 fun K hK=>?_
 refine step_appN toksT w0 _ b _ (.tmp 13) (.tmp 15) (.slice At T.length ct) T.length 1 (tokCells T) (t.laid fr).arr.toList _ _ rfl rfl rfl rfl (OwnN.same (H0.out.toks.alloc _) rfl) (Lies.sameHeap (Lies.lit (w:=w0) (e:=56) (t.laid fr).arr) rfl) rfl (arr_one _) (by exact below_same ((below_alloc w0 _).mono (by have:=Z0.out;omega)) rfl rfl rfl rfl) (by have:=Z0.out;simp;omega) (by unfold maxLen;omega) (by omega) ?_
 intro v2 w2 o2 b2 g2 e2
 obtain ⟨A2,c2,rfl,-,-,-⟩:=o2.form
 have X2:=qh (((X0.out.kept (grown_new w0 _ none) (by simp)).same (w':=(w0.alloc (.cells (t.laid fr).arr 56)).drew) rfl).kept g2 HO.out)
 have R2:=qh (((H0.out.box.kept (grown_new w0 _ none) (by simp)).same (w':=(w0.alloc (.cells (t.laid fr).arr 56)).drew) rfl).kept g2 HF.out)
 have O2:=qh o2
 have E2:=qh e2
 have B2:=qh b2
 have L2:=qh (H0.out.lies.below b2)
 clear o2 e2 b2 g2
 refine eB hK hZ ((add_at R2.out X2.out)) fun hHeld hZ=>?_
 clear hK K
 try simp only [Act.put,ZA,ZB,ZC,ZD,ZE,ZF]
 refine' eY 8 hHeld hZ fun hZ=>?_
 try simp only [Act.put,ZA,ZB,ZC,ZD,ZE,ZF]
 refine' eY 9 hHeld hZ fun hZ=>?_
 try simp only [Act.put,ZA,ZB,ZC,ZD,ZE,ZF]
 refine eA 10 fun K hK=>?_
 refine step_in w2 (.tmp 18) (.tmp 16) b 2 (.slice A2 (T.length+1) c2) _ rfl rfl rfl tokSlInfo rfl rfl rfl R2.out (by simp) (by simp [maxLen]) ?_
 intro w3 r3 g3
 have X3:=qh (X2.out.kept g3 (by simp;omega))
 obtain ⟨-,c0,-,-,-,-⟩:AddAt w3 b w.heap.size (.slice A2 (T.length+1) c2) t fr:=add_at r3 X3.out
 have H3:Hid (IsR w3 b A l c k (.slice A2 (T.length+1) c2) (T++[t.laid fr])):=qh ⟨r3,by
  rw [List.length_append,tokCells_append,tokCells_one]
  refine O2.out.keep g3 (.inr fun e=>?_)
  rcases E2.out with h1 | ⟨g,h1,h2⟩
  ·rw [h1] at e;exact HF.out e
  ·rw [h1] at e;injection e with e;have:=Z0.out;simp at h2;omega,L2.out.same (fun q hq=>World.cell?_of_block (g3.block q.block (by have:=B2.out.size;have:=Z0.out;omega) (fun e=>by injection e with e;omega))),H0.out.le,H0.out.cap⟩
 have B3:Hid (Below b w w3):=qh ((below_row_none G0.out (by omega)).trans (B2.out.trans (below_row g3 (Nat.le_refl _) (by have:=B2.out.size;have:=Z0.out;omega))))
 clear r3 g3
 refine eE hK hZ fun hZ=>?_
 clear hK K
 try simp only [Act.put,ZA,ZB,ZC,ZD,ZE,ZF]
 refine wpAnyE_done (by kernel_rfl) ?_ _
 clear hZ
 go_wp2_with fail
 go_ret
 exact ⟨rfl,⟨_,H3.out⟩,B3.out⟩
theorem lastR_snoc (T:List Tok) (t:Tok):lastR (T++[t])=(t.k == 6):=by simp [lastR]
theorem tkrepeat_any (w:World) (b c k:Nat) (A:Option Addr) (l:List Int) (tv:Value) (T:List Tok) (h:IsR w b A l c k tv T) (hT:T.length≤1000) (x:Int) :
 Calls Tryz.prog 104 #[.pointer (some ⟨b,0,none⟩),.int .i64 x] w fun e w'=>e=.returned (.agg (repT (lastR T) x).arr)∧w.grownBy w' none:=by
 obtain ⟨c0,c1,c2⟩:=h.cells
 obtain ⟨At,ct,rfl,-,-,-⟩:=h.toks.form
 have hbw:=h.lt
 have HG:=qh (grown_new w (.cells #[.int .i64 6,.int .i64 0,.int .i64 1,.int .i64 (-1),.int .i64 0] 56) none)
 obtain ⟨m,hm⟩:∃ m,T.length=m:=⟨_,rfl⟩
 have HH:=qh h
 by_cases h63:x=63
 ·subst h63
  rcases List.eq_nil_or_concat T with hT0 | ⟨S,t,hST⟩
  ·subst hT0
   obtain rfl:m=0:=hm.symm
   clear h HH
   go_enter Tryz.func104,Tryz.ntmps104
   go_wp2_with fail
   (try simp only [Exit.inBlock,Exit.then])
   exact bodyPost_ret (v:=.agg (repT (lastR []) 63).arr) (ret_tok rfl _ _ w.heap.size ⟨6,0,0,1,0⟩ rfl (Box.new w _ _)) rfl ⟨rfl,grown_new w _ _⟩
  ·rw [List.concat_eq_append] at hST
   subst hST
   obtain ⟨n,hn⟩:∃ n,S.length=n:=⟨_,rfl⟩
   obtain rfl:m=n+1:=by rw [← hm];simp [hn]
   obtain ⟨g,c',hv,-,-,hgl,hcells⟩:=h.toks.block (by simp)
   injection hv with hv1 _ hv3
   subst hv1 hv3
   have hk:=hcells (n * 5) (by simp;omega)
   rw [tokCells_append,List.getElem?_append_right (by rw [tokCells_length,hn];exact Nat.le_refl _),tokCells_length,hn,Nat.sub_self,tokCells_one] at hk
   simp only [List.getElem?_cons_zero] at hk
   rw [hm] at c2
   rw [lastR_snoc]
   have b0:(0:Int)≤(n:Int):=by omega
   have b1:(n:Int) < ((n+1:Nat):Int):=by omega
   have hw1:IntKind.i64.wrap (((n+1:Nat):Int) - 1)=(n:Int):=by rw [IntWalk.i64_in _ (by omega)];omega
   have hw2:IntKind.i64.wrap (n:Int)=(n:Int):=IntWalk.i64_in _ (by omega)
   have d0:decide ((0:Int) < ((n+1:Nat):Int))=true:=decide_eq_true (by omega)
   have hne:¬ w.heap.size=b:=by omega
   have hne':¬ w.heap.size=g:=by omega
   clear h HH hcells hm hn
   rcases h6:(t.k == 6) with _ | _
   ·go_enter Tryz.func104,Tryz.ntmps104
    go_wp2_with fail
    (try simp only [Exit.inBlock,Exit.then])
    exact bodyPost_ret (v:=.agg (repT false 63).arr) (ret_tok rfl _ _ w.heap.size ⟨6,0,0,1,0⟩ rfl (Box.new w _ _)) rfl ⟨rfl,grown_new w _ _⟩
   ·go_enter Tryz.func104,Tryz.ntmps104
    go_wp2_with fail
    (try simp only [Exit.inBlock,Exit.then])
    exact bodyPost_ret (v:=.agg (repT true 63).arr) (ret_tok rfl _ _ w.heap.size ⟨13,0,0,0,0⟩ rfl (Box.new w _ _)) rfl ⟨rfl,grown_new w _ _⟩
 ·have d63:(x == 63)=false:=by simpa using h63
  by_cases h42:x=42
  ·subst h42
   clear h HH
   go_enter Tryz.func104,Tryz.ntmps104
   go_wp2_with fail
   (try simp only [Exit.inBlock,Exit.then])
   exact bodyPost_ret (v:=.agg (repT (lastR T) 42).arr) (ret_tok rfl _ _ w.heap.size ⟨6,0,0,-1,0⟩ rfl (Box.new w _ _)) rfl ⟨rfl,grown_new w _ _⟩
  ·have d42:(x == 42)=false:=by simpa using h42
   have he:repT (lastR T) x=⟨6,0,1,-1,0⟩:=by unfold repT;rw [if_neg (fun e=>h63 e.1),if_neg h63,if_neg h42]
   rw [he]
   clear h HH h63 h42 he
   go_enter Tryz.func104,Tryz.ntmps104
   go_wp2_with fail
   (try simp only [Exit.inBlock,Exit.then])
   exact bodyPost_ret (v:=.agg (⟨6,0,1,-1,0⟩:Tok).arr) (ret_tok rfl _ _ w.heap.size ⟨6,0,1,-1,0⟩ rfl (Box.new w _ _)) rfl ⟨rfl,grown_new w _ _⟩
end
section
open Go.RowKit
theorem numF_bound {n x:Int} (h0:0≤n) (hx:isDig x=true):0≤numF n x∧numF n x≤21:=by
 simp only [isDig,Bool.and_eq_true,decide_eq_true_eq] at hx
 unfold numF;omega
theorem numFold_bound:∀ (D:List Int) (n:Int),0≤n→n≤21→(∀ d∈D,isDig d=true)→0≤D.foldl numF n∧D.foldl numF n≤21
 | [],n,h0,h1,_=>⟨h0,h1⟩
 | d :: D,n,h0,_,h=>by
  have:=numF_bound h0 (h d (by simp))
  exact numFold_bound D _ this.1 this.2 (fun x hx=>h x (by simp [hx]))
theorem tknumber_any (w:World) (B:Nat) (A:Option Addr) (D:List Int) (c:Nat) (h:Lies w B A (ints .i64 D)) (hd:∀ d∈D,isDig d=true) (hl:D.length≤1000) :
 Calls Tryz.prog 127 #[.slice A D.length c] w fun e w'=>e=.returned (.int .i64 (numT D))∧w=w':=by
 by_cases h0:D.length=0
 ·have hD:D=[]:=List.eq_nil_of_length_eq_zero h0
  subst hD
  have d0:((([]:List Int).length:Int) == 0)=true:=rfl
  go_enter Tryz.func127,Tryz.ntmps127
  go_wp2
  go_ret
  exact ⟨rfl,rfl⟩
 ·have d0:((D.length:Int) == 0)=false:=beq_eq_false_iff_ne.2 (by omega)
  have hne:D≠[]:=fun e=>h0 (by rw [e];rfl)
  obtain ⟨b,off,rfl,-,hc⟩:=h.plainInts (by omega)
  have h00:=hc 0 (by omega)
  simp only [Nat.add_zero] at h00
  have k1:(0:Int) < (D.length:Int):=by omega
  obtain ⟨x0,hx0⟩:∃ x,D[0]'(by omega)=x:=⟨_,rfl⟩
  rw [hx0] at h00
  have hx0':D[0]?=some x0:=by rw [List.getElem?_eq_getElem (by omega),hx0]
  have HL:=qh h
  have HD:=qh hd
  by_cases hlong:D[0]?=some 48∧1 < D.length
  ·have hn:numT D=21:=by unfold numT;rw [if_neg hne,if_pos hlong]
   rw [hn]
   have d48:(x0 == 48)=true:=by have:=hlong.1;rw [hx0'] at this;injection this with this;simpa using this
   have d1:decide ((1:Int) < (D.length:Int))=true:=decide_eq_true (by have:=hlong.2;omega)
   clear hlong hn hx0 hx0' hne h hd hc h0
   go_enter Tryz.func127,Tryz.ntmps127
   go_wp2
   go_ret
   exact ⟨rfl,rfl⟩
  ·have hn:numT D=D.foldl numF 0:=by unfold numT;rw [if_neg hne,if_neg hlong]
   rw [hn]
   obtain ⟨z,hz⟩:∃ z,D.foldl numF 0=z:=⟨_,rfl⟩
   have HZ:=qh hz
   rw [hz]
   have hor:(x0 == 48)=false∨((x0 == 48)=true∧decide ((1:Int) < (D.length:Int))=false):=by
    rcases hx:(x0 == 48) with _ | _
    ·exact .inl rfl
    ·refine .inr ⟨rfl,decide_eq_false fun hlt=>hlong ⟨?_,by omega⟩⟩
     rw [hx0'];congr 1;simpa using hx
   clear hlong hn hx0 hx0' hne h hd hc h0 hz
   rcases hor with d48 | ⟨d48,d1⟩
   all_goals
    go_enter Tryz.func127,Tryz.ntmps127
    go_wp2
    go_loopw [22,3] (fun iv nv wr=>∃ (k:Nat) (n:Int),k≤D.length∧iv=.int .i64 k∧nv=.int .i64 n∧Hid ((D.take k).foldl numF 0=n)∧0≤n∧n≤21∧wr=w) (fun iv _ _=>D.length - (intOf iv).toNat)
    case atStart=>exact ⟨0,0,by omega,rfl,rfl,qh rfl,by omega,by omega,rfl⟩
    case round =>
     obtain ⟨k,n,hk,rfl,rfl,HN,hn0,hn1,rfl⟩:=hrel
     by_cases hlt:k < D.length
     ·obtain ⟨p,hp,-,hck⟩:=HL.out.int hlt
      injection hp with hp
      subst hp
      rw [add_plain] at hck
      have hdig:=HD.out _ (List.getElem_mem hlt)
      have HS:Hid ((D.take (k+1)).foldl numF 0=numF n (D[k]'hlt)):=qh (by rw [List.take_succ_eq_append_getElem hlt,List.foldl_append,HN.out];rfl)
      obtain ⟨x,hx⟩:∃ x,D[k]'hlt=x:=⟨_,rfl⟩
      rw [hx] at hck hdig HS
      have HB:=qh (numF_bound hn0 hdig)
      simp only [isDig,Bool.and_eq_true,decide_eq_true_eq] at hdig
      obtain ⟨v,hv⟩:∃ v,10 * n+x - 48=v:=⟨_,rfl⟩
      have hw1:IntKind.i64.wrap (10 * n)=10 * n:=IntWalk.i64_in _ (by omega)
      have hw2:IntKind.i64.wrap (10 * n+x)=10 * n+x:=IntWalk.i64_in _ (by omega)
      have hw3:IntKind.i64.wrap (10 * n+x - 48)=v:=by rw [IntWalk.i64_in _ (by omega)];exact hv
      have HF:Hid (numF n x=if 21 < v then 21 else v):=qh (by unfold numF;rw [hv];split <;> omega)
      have k0:(0:Int)≤(k:Int):=by omega
      have k2:(k:Int) < (D.length:Int):=by omega
      clear hx hv hdig
      by_cases h21:21 < v
      ·have HE:Hid (numF n x=21):=qh (by rw [HF.out,if_pos h21])
       go_wp2_with fail
       go_roundw
       case rel=>exact ⟨k+1,21,by omega,by go_num,by first | rfl | (congr 1;omega),qh (by rw [HS.out,HE.out]),by omega,by omega,trivial⟩
       case measure=>simp [intOf];omega
      ·have HE:Hid (numF n x=v):=qh (by rw [HF.out,if_neg h21])
       have HV:=HB.out
       rw [HE.out] at HV
       have HVV:=qh HV
       clear HV
       go_wp2_with fail
       go_roundw
       case rel=>exact ⟨k+1,v,by omega,by go_num,by first | rfl | (congr 1;omega),qh (by rw [HS.out,HE.out]),HVV.out.1,HVV.out.2,trivial⟩
       case measure=>simp [intOf];omega
     ·obtain rfl:k=D.length:=by omega
      have hzn:z=n:=by rw [← HZ.out,← HN.out,List.take_length]
      subst hzn
      go_wp2_with fail
      go_ret
      exact ⟨rfl,rfl⟩
def readAt (b:Nat) (w:World):Nat:=match w.cell? ⟨b,1,none⟩ with
 | some (.int _ n)=>n.toNat
 | _=>0
theorem readAt_of {w:World} {b c k:Nat} {A:Option Addr} {l:List Int} {tv:Value} {T:List Tok} (h:IsR w b A l c k tv T):readAt b w=k:=by
 unfold readAt;rw [h.cells.2.1];simp
theorem digT_length (l:List Int) (k:Nat):(digT l k).length≤l.length - k:=by
 unfold digT
 have:=(List.takeWhile_sublist (p:=isDig) (l:=l.drop k)).length_le
 simpa using this
theorem digT_all (l:List Int) (k:Nat):∀ d∈digT l k,isDig d=true:=fun d hd=>by
 exact List.all_eq_true.1 List.all_takeWhile d hd
theorem digT_next {l:List Int} {k:Nat} (hk:k < l.length):digT l k=if isDig l[k]=true then l[k] :: digT l (k+1) else []:=by
 unfold digT
 rw [List.drop_eq_getElem_cons hk,List.takeWhile_cons]
theorem digT_end {l:List Int} {k:Nat} (hk:l.length≤k):digT l k=[]:=by
 unfold digT;rw [List.drop_eq_nil_of_le hk];rfl
theorem digT_take (l:List Int) (k:Nat):digT l k=(l.drop k).take (digT l k).length:=by
 unfold digT
 exact (List.prefix_iff_eq_take.1 (List.takeWhile_prefix _))
theorem tw_lt (p:Int→Bool):∀ (m:List Int) (j:Nat),j≤(m.takeWhile p).length→(j < (m.takeWhile p).length↔∃ x,m[j]?=some x∧p x=true)
 | [],j,_=>by simp
 | x :: m,j,h=>by
  rcases hp:p x with _ | _
  ·rw [List.takeWhile_cons,hp] at h ⊢
   obtain rfl:j=0:=by simpa using h
   simp [hp]
  ·rw [List.takeWhile_cons,hp] at h ⊢
   rcases j with _ | j
   ·simp [hp]
   ·have:=tw_lt p m j (by simpa using h)
    simpa using this
theorem digT_more {l:List Int} {k j:Nat} (hj:j≤(digT l k).length):(j < (digT l k).length↔∃ x,l[k+j]?=some x∧isDig x=true):=by
 unfold digT at hj ⊢
 rw [tw_lt isDig _ j hj,List.getElem?_drop]
def RowedD (w:World) (b:Nat) (A:Option Addr) (l:List Int) (c k:Nat) (tv:Value) (T:List Tok) (D:List Int) (ed:Ending) (w':World):Prop :=
 ∃ A' c',ed=.returned (.slice A' D.length c')∧Lies w' b A' (ints .i64 D)∧IsR w' b A l c (k+D.length) tv T∧w.grownBy w' (some b)
theorem dig_done {w w':World} {b c k m n c':Nat} {A A':Option Addr} {l:List Int} {tv:Value} {T:List Tok} (hm:(digT l k).length=m) (hn:n=m) (hA:0 < n→A'=A.map (·.add k)) (h:IsR w' b A l c (k+m) tv T) (hg:w.grownBy w' (some b)) :
 RowedD w b A l c k tv T (digT l k) (.returned (.slice A' n c')) w':=by
 subst hn hm
 refine ⟨A',c',rfl,?_,h,hg⟩
 intro hne
 have h0:0 < (digT l k).length:=by
  rcases hd:digT l k with _ | ⟨x,r⟩
  ·rw [hd] at hne;exact absurd rfl hne
  ·simp
 rw [hA h0] at *
 have:=h.lies.part k (digT l k).length
 rw [← List.map_drop,← List.map_take,← digT_take] at this
 exact this hne
theorem tkdigits_any (w:World) (b c k:Nat) (A:Option Addr) (l:List Int) (tv:Value) (T:List Tok) (h:IsR w b A l c k tv T) (hl:l.length≤1000) :
 Calls Tryz.prog 126 #[.pointer (some ⟨b,0,none⟩)] w (RowedD w b A l c k tv T (digT l k)):=by
 obtain ⟨c0,c1,c2⟩:=h.cells
 have H:=qh h
 have hkl:=h.le
 obtain ⟨m,hm⟩:∃ m,(digT l k).length=m:=⟨_,rfl⟩
 have hml:k+m≤l.length:=by have:=digT_length l k;omega
 have HM:=qh hm
 have HMR:Hid (∀ j,j≤m→(j < m↔∃ x,l[k+j]?=some x∧isDig x=true)):=qh (fun j hj=>by subst hm;exact digT_more hj)
 clear h
 go_enter Tryz.func126,Tryz.ntmps126
 go_wp2
 clear c0 c1 c2 hm
 go_loopw [] (fun wr=>∃ j:Nat,j≤m∧Hid (IsR wr b A l c (k+j) tv T)∧Hid (w.grownBy wr (some b))) (fun wr=>l.length - readAt b wr)
 case atStart=>exact ⟨0,by omega,H,qh (grown_refl _ _)⟩
 case round =>
  obtain ⟨j,hj,HR,HG⟩:=hrel
  obtain ⟨i,hi⟩:∃ i,k+j=i:=⟨_,rfl⟩
  have hmr:=HMR.out j hj
  rw [hi] at HR hmr
  obtain ⟨c0,c1,c2⟩:=HR.out.cells
  have hil:=HR.out.le
  by_cases hlt:i < l.length
  ·obtain ⟨p,hA,-,hc⟩:=HR.out.char hlt
   rw [List.getElem?_eq_getElem hlt] at hmr
   obtain ⟨x,hx⟩:∃ x,l[i]=x:=⟨_,rfl⟩
   rw [hx] at hc hmr
   have hmr:j < m↔isDig x=true:=by rw [hmr];simp
   have k0:(0:Int)≤(i:Int):=by omega
   have k1:(i:Int) < (l.length:Int):=by omega
   have d0:decide ((i:Int) < (l.length:Int))=true:=decide_eq_true k1
   subst hA
   clear hx
   rcases h48:decide (48≤x) with _ | _
   ·have hjm:j=m:=by
     have:¬ j < m:=by rw [hmr];simp [isDig,h48]
     omega
    clear hmr
    have hcl:l.length≤c:=HR.out.cap
    have b0:(0:Int)≤(k:Int):=by omega
    have b1:(k:Int)≤(i:Int):=by omega
    have b2:(i:Int)≤(c:Int):=by omega
    have HRX:Hid (IsR wr b (some p) l c (k+m) tv T):=qh (by rw [← hjm,hi];exact HR.out)
    go_wp2_with fail
    go_quiet (fail)
    go_wp2_with fail
    go_quiet (fail)
    go_wp2_with fail
    all_goals
     go_ret
     exact dig_done HM.out (by omega) (fun hn=>by first | rfl | (exfalso;omega)) (by first | exact HRX.out.drewN _ | exact (HRX.out.drewN _).drewN _ | (subst_vars;exact HRX.out.drewN _)) (by first | exact grown_draws HG.out _ | exact grown_draws (grown_draws HG.out _) _)
   ·rcases h57:decide (x≤57) with _ | _
    ·have hjm:j=m:=by
      have:¬ j < m:=by rw [hmr];simp [isDig,h57]
      omega
     clear hmr
     have hcl:l.length≤c:=HR.out.cap
     have b0:(0:Int)≤(k:Int):=by omega
     have b1:(k:Int)≤(i:Int):=by omega
     have b2:(i:Int)≤(c:Int):=by omega
     have HRX:Hid (IsR wr b (some p) l c (k+m) tv T):=qh (by rw [← hjm,hi];exact HR.out)
     go_wp2_with fail
     go_quiet (fail)
     go_wp2_with fail
     go_quiet (fail)
     go_wp2_with fail
     all_goals
      go_ret
      exact dig_done HM.out (by omega) (fun hn=>by first | rfl | (exfalso;omega)) (by first | exact HRX.out.drewN _ | exact (HRX.out.drewN _).drewN _ | (subst_vars;exact HRX.out.drewN _)) (by first | exact grown_draws HG.out _ | exact grown_draws (grown_draws HG.out _) _)
    ·have hjm:j < m:=by rw [hmr,isDig,h48,h57];rfl
     have hw:=tkwrap (k:=i) (by omega)
     have HI:=qh hi
     clear hmr hi
     go_wp2_with fail
     go_quiet (fail)
     go_wp2_with (first
      | (refine store_at _ _ _ (i+1) rfl rfl rfl rfl rfl (HR.out.drewN _) (by omega) ?_;intro w2 h2 g2;have H2:=qh h2;have G2:=qh ((grown_draws HG.out _).trans g2);clear h2 g2)
      | fail)
     refine ⟨⟨j+1,by omega,by rw [show k+(j+1)=i+1 by have:=HI.out;omega];exact H2,G2⟩,?_⟩
     rw [readAt_of H2.out,readAt_of HR.out];omega
  ·have hjm:j=m:=by
    have:¬ j < m:=by rw [hmr,List.getElem?_eq_none (by omega)];simp
    omega
   obtain rfl:i=l.length:=by omega
   clear hmr hlt hil
   rcases A with _ | p
   ·have hl0:l.length=0:=by
     apply Classical.byContradiction
     intro hne
     obtain ⟨p,hp,_⟩:=HR.out.char (i:=0) (by omega)
     cases hp
    have hcl:l.length≤c:=HR.out.cap
    have b0:(0:Int)≤(k:Int):=by omega
    have b1:(k:Int)≤(l.length:Int):=by omega
    have b2:(l.length:Int)≤(c:Int):=by omega
    have HRX:Hid (IsR wr b none l c (k+m) tv T):=qh (by rw [← hjm,hi];exact HR.out)
    go_wp2_with fail
    go_quiet (fail)
    go_wp2_with fail
    go_quiet (fail)
    go_wp2_with fail
    all_goals
     go_ret
     exact dig_done HM.out (by omega) (fun hn=>by first | rfl | (exfalso;omega)) (by first | exact HRX.out.drewN _ | exact (HRX.out.drewN _).drewN _ | (subst_vars;exact HRX.out.drewN _)) (by first | exact grown_draws HG.out _ | exact grown_draws (grown_draws HG.out _) _)
   ·have hcl:l.length≤c:=HR.out.cap
    have b0:(0:Int)≤(k:Int):=by omega
    have b1:(k:Int)≤(l.length:Int):=by omega
    have b2:(l.length:Int)≤(c:Int):=by omega
    have HRX:Hid (IsR wr b (some p) l c (k+m) tv T):=qh (by rw [← hjm,hi];exact HR.out)
    go_wp2_with fail
    go_quiet (fail)
    go_wp2_with fail
    go_quiet (fail)
    go_wp2_with fail
    all_goals
     go_ret
     exact dig_done HM.out (by omega) (fun hn=>by first | rfl | (exfalso;omega)) (by first | exact HRX.out.drewN _ | exact (HRX.out.drewN _).drewN _ | (subst_vars;exact HRX.out.drewN _)) (by first | exact grown_draws HG.out _ | exact grown_draws (grown_draws HG.out _) _)
end
end Go.Proofs.YtoeocodfndbebaaGreatDoor
