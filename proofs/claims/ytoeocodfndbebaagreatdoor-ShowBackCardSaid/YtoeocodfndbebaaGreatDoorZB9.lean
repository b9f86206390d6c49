/- Shared texts, shaken for one claim. -/
import Derived.Test.YtoeocodfndbebaaGreatDoorZB8
set_option maxRecDepth 20000
set_option maxHeartbeats 16000000
namespace Go.Proofs.YtoeocodfndbebaaGreatDoor
section
open Go.RowKit
theorem numF_bound {n x:Int} (h0:0≤n) (hx:isDig x=true):0≤numF n x∧numF n x≤21:=by
 simp only [isDig,Bool.and_eq_true,decide_eq_true_eq] at hx
 unfold numF;omega
theorem numFold_bound:∀ (D:List Int) (n:Int),0≤n→n≤21→(∀ d∈D,isDig d=true)→0≤D.foldl numF n∧D.foldl numF n≤21
 | [],n,h0,h1,_=>⟨h0,h1⟩
 | d :: D,n,h0,_,h=>by
  have:=numF_bound h0 (h d (by simp))
  exact numFold_bound D _ this.1 this.2 (fun x hx=>h x (by simp [hx]))
theorem tknumber_any (w:World) (B:Nat) (A:Option Addr) (D:List Int) (c:Nat) (h:Lies w B A (ints .i64 D)) (hd:∀ d∈D,isDig d=true) (hl:D.length≤1000) :
 Calls Tryz.prog 127 #[.slice A D.length c] w fun e w'=>e=.returned (.int .i64 (numT D))∧w=w':=by
 by_cases h0:D.length=0
 ·have hD:D=[]:=List.eq_nil_of_length_eq_zero h0
  subst hD
  have d0:((([]:List Int).length:Int) == 0)=true:=rfl
  go_enter Tryz.func127,Tryz.ntmps127
  go_wp2
  go_ret
  exact ⟨rfl,rfl⟩
 ·have d0:((D.length:Int) == 0)=false:=beq_eq_false_iff_ne.2 (by omega)
  have hne:D≠[]:=fun e=>h0 (by rw [e];rfl)
  obtain ⟨b,off,rfl,-,hc⟩:=h.plainInts (by omega)
  have h00:=hc 0 (by omega)
  simp only [Nat.add_zero] at h00
  have k1:(0:Int) < (D.length:Int):=by omega
  obtain ⟨x0,hx0⟩:∃ x,D[0]'(by omega)=x:=⟨_,rfl⟩
  rw [hx0] at h00
  have hx0':D[0]?=some x0:=by rw [List.getElem?_eq_getElem (by omega),hx0]
  have HL:=qh h
  have HD:=qh hd
  by_cases hlong:D[0]?=some 48∧1 < D.length
  ·have hn:numT D=21:=by unfold numT;rw [if_neg hne,if_pos hlong]
   rw [hn]
   have d48:(x0 == 48)=true:=by have:=hlong.1;rw [hx0'] at this;injection this with this;simpa using this
   have d1:decide ((1:Int) < (D.length:Int))=true:=decide_eq_true (by have:=hlong.2;omega)
   clear hlong hn hx0 hx0' hne h hd hc h0
   go_enter Tryz.func127,Tryz.ntmps127
   go_wp2
   go_ret
   exact ⟨rfl,rfl⟩
  ·have hn:numT D=D.foldl numF 0:=by unfold numT;rw [if_neg hne,if_neg hlong]
   rw [hn]
   obtain ⟨z,hz⟩:∃ z,D.foldl numF 0=z:=⟨_,rfl⟩
   have HZ:=qh hz
   rw [hz]
   have hor:(x0 == 48)=false∨((x0 == 48)=true∧decide ((1:Int) < (D.length:Int))=false):=by
    rcases hx:(x0 == 48) with _ | _
    ·exact .inl rfl
    ·refine .inr ⟨rfl,decide_eq_false fun hlt=>hlong ⟨?_,by omega⟩⟩
     rw [hx0'];congr 1;simpa using hx
   clear hlong hn hx0 hx0' hne h hd hc h0 hz
   rcases hor with d48 | ⟨d48,d1⟩
   all_goals
    go_enter Tryz.func127,Tryz.ntmps127
    go_wp2
    go_loopw [22,3] (fun iv nv wr=>∃ (k:Nat) (n:Int),k≤D.length∧iv=.int .i64 k∧nv=.int .i64 n∧Hid ((D.take k).foldl numF 0=n)∧0≤n∧n≤21∧wr=w) (fun iv _ _=>D.length - (intOf iv).toNat)
    case atStart=>exact ⟨0,0,by omega,rfl,rfl,qh rfl,by omega,by omega,rfl⟩
    case round =>
     obtain ⟨k,n,hk,rfl,rfl,HN,hn0,hn1,rfl⟩:=hrel
     by_cases hlt:k < D.length
     ·obtain ⟨p,hp,-,hck⟩:=HL.out.int hlt
      injection hp with hp
      subst hp
      rw [add_plain] at hck
      have hdig:=HD.out _ (List.getElem_mem hlt)
      have HS:Hid ((D.take (k+1)).foldl numF 0=numF n (D[k]'hlt)):=qh (by rw [List.take_succ_eq_append_getElem hlt,List.foldl_append,HN.out];rfl)
      obtain ⟨x,hx⟩:∃ x,D[k]'hlt=x:=⟨_,rfl⟩
      rw [hx] at hck hdig HS
      have HB:=qh (numF_bound hn0 hdig)
      simp only [isDig,Bool.and_eq_true,decide_eq_true_eq] at hdig
      obtain ⟨v,hv⟩:∃ v,10 * n+x - 48=v:=⟨_,rfl⟩
      have hw1:IntKind.i64.wrap (10 * n)=10 * n:=IntWalk.i64_in _ (by omega)
      have hw2:IntKind.i64.wrap (10 * n+x)=10 * n+x:=IntWalk.i64_in _ (by omega)
      have hw3:IntKind.i64.wrap (10 * n+x - 48)=v:=by rw [IntWalk.i64_in _ (by omega)];exact hv
      have HF:Hid (numF n x=if 21 < v then 21 else v):=qh (by unfold numF;rw [hv];split <;> omega)
      have k0:(0:Int)≤(k:Int):=by omega
      have k2:(k:Int) < (D.length:Int):=by omega
      clear hx hv hdig
      by_cases h21:21 < v
      ·have HE:Hid (numF n x=21):=qh (by rw [HF.out,if_pos h21])
       go_wp2_with fail
       go_roundw
       case rel=>exact ⟨k+1,21,by omega,by go_num,by first | rfl | (congr 1;omega),qh (by rw [HS.out,HE.out]),by omega,by omega,trivial⟩
       case measure=>simp [intOf];omega
      ·have HE:Hid (numF n x=v):=qh (by rw [HF.out,if_neg h21])
       have HV:=HB.out
       rw [HE.out] at HV
       have HVV:=qh HV
       clear HV
       go_wp2_with fail
       go_roundw
       case rel=>exact ⟨k+1,v,by omega,by go_num,by first | rfl | (congr 1;omega),qh (by rw [HS.out,HE.out]),HVV.out.1,HVV.out.2,trivial⟩
       case measure=>simp [intOf];omega
     ·obtain rfl:k=D.length:=by omega
      have hzn:z=n:=by rw [← HZ.out,← HN.out,List.take_length]
      subst hzn
      go_wp2_with fail
      go_ret
      exact ⟨rfl,rfl⟩
def readAt (b:Nat) (w:World):Nat:=match w.cell? ⟨b,1,none⟩ with
 | some (.int _ n)=>n.toNat
 | _=>0
theorem readAt_of {w:World} {b c k:Nat} {A:Option Addr} {l:List Int} {tv:Value} {T:List Tok} (h:IsR w b A l c k tv T):readAt b w=k:=by
 unfold readAt;rw [h.cells.2.1];simp
theorem digT_length (l:List Int) (k:Nat):(digT l k).length≤l.length - k:=by
 unfold digT
 have:=(List.takeWhile_sublist (p:=isDig) (l:=l.drop k)).length_le
 simpa using this
theorem digT_all (l:List Int) (k:Nat):∀ d∈digT l k,isDig d=true:=fun d hd=>by
 exact List.all_eq_true.1 List.all_takeWhile d hd
theorem digT_next {l:List Int} {k:Nat} (hk:k < l.length):digT l k=if isDig l[k]=true then l[k] :: digT l (k+1) else []:=by
 unfold digT
 rw [List.drop_eq_getElem_cons hk,List.takeWhile_cons]
theorem digT_end {l:List Int} {k:Nat} (hk:l.length≤k):digT l k=[]:=by
 unfold digT;rw [List.drop_eq_nil_of_le hk];rfl
theorem digT_take (l:List Int) (k:Nat):digT l k=(l.drop k).take (digT l k).length:=by
 unfold digT
 exact (List.prefix_iff_eq_take.1 (List.takeWhile_prefix _))
theorem tw_lt (p:Int→Bool):∀ (m:List Int) (j:Nat),j≤(m.takeWhile p).length→(j < (m.takeWhile p).length↔∃ x,m[j]?=some x∧p x=true)
 | [],j,_=>by simp
 | x :: m,j,h=>by
  rcases hp:p x with _ | _
  ·rw [List.takeWhile_cons,hp] at h ⊢
   obtain rfl:j=0:=by simpa using h
   simp [hp]
  ·rw [List.takeWhile_cons,hp] at h ⊢
   rcases j with _ | j
   ·simp [hp]
   ·have:=tw_lt p m j (by simpa using h)
    simpa using this
theorem digT_more {l:List Int} {k j:Nat} (hj:j≤(digT l k).length):(j < (digT l k).length↔∃ x,l[k+j]?=some x∧isDig x=true):=by
 unfold digT at hj ⊢
 rw [tw_lt isDig _ j hj,List.getElem?_drop]
def RowedD (w:World) (b:Nat) (A:Option Addr) (l:List Int) (c k:Nat) (tv:Value) (T:List Tok) (D:List Int) (ed:Ending) (w':World):Prop :=
 ∃ A' c',ed=.returned (.slice A' D.length c')∧Lies w' b A' (ints .i64 D)∧IsR w' b A l c (k+D.length) tv T∧w.grownBy w' (some b)
theorem dig_done {w w':World} {b c k m n c':Nat} {A A':Option Addr} {l:List Int} {tv:Value} {T:List Tok} (hm:(digT l k).length=m) (hn:n=m) (hA:0 < n→A'=A.map (·.add k)) (h:IsR w' b A l c (k+m) tv T) (hg:w.grownBy w' (some b)) :
 RowedD w b A l c k tv T (digT l k) (.returned (.slice A' n c')) w':=by
 subst hn hm
 refine ⟨A',c',rfl,?_,h,hg⟩
 intro hne
 have h0:0 < (digT l k).length:=by
  rcases hd:digT l k with _ | ⟨x,r⟩
  ·rw [hd] at hne;exact absurd rfl hne
  ·simp
 rw [hA h0] at *
 have:=h.lies.part k (digT l k).length
 rw [← List.map_drop,← List.map_take,← digT_take] at this
 exact this hne
theorem tkdigits_any (w:World) (b c k:Nat) (A:Option Addr) (l:List Int) (tv:Value) (T:List Tok) (h:IsR w b A l c k tv T) (hl:l.length≤1000) :
 Calls Tryz.prog 126 #[.pointer (some ⟨b,0,none⟩)] w (RowedD w b A l c k tv T (digT l k)):=by
 obtain ⟨c0,c1,c2⟩:=h.cells
 have H:=qh h
 have hkl:=h.le
 obtain ⟨m,hm⟩:∃ m,(digT l k).length=m:=⟨_,rfl⟩
 have hml:k+m≤l.length:=by have:=digT_length l k;omega
 have HM:=qh hm
 have HMR:Hid (∀ j,j≤m→(j < m↔∃ x,l[k+j]?=some x∧isDig x=true)):=qh (fun j hj=>by subst hm;exact digT_more hj)
 clear h
 go_enter Tryz.func126,Tryz.ntmps126
 go_wp2
 clear c0 c1 c2 hm
 go_loopw [] (fun wr=>∃ j:Nat,j≤m∧Hid (IsR wr b A l c (k+j) tv T)∧Hid (w.grownBy wr (some b))) (fun wr=>l.length - readAt b wr)
 case atStart=>exact ⟨0,by omega,H,qh (grown_refl _ _)⟩
 case round =>
  obtain ⟨j,hj,HR,HG⟩:=hrel
  obtain ⟨i,hi⟩:∃ i,k+j=i:=⟨_,rfl⟩
  have hmr:=HMR.out j hj
  rw [hi] at HR hmr
  obtain ⟨c0,c1,c2⟩:=HR.out.cells
  have hil:=HR.out.le
  by_cases hlt:i < l.length
  ·obtain ⟨p,hA,-,hc⟩:=HR.out.char hlt
   rw [List.getElem?_eq_getElem hlt] at hmr
   obtain ⟨x,hx⟩:∃ x,l[i]=x:=⟨_,rfl⟩
   rw [hx] at hc hmr
   have hmr:j < m↔isDig x=true:=by rw [hmr];simp
   have k0:(0:Int)≤(i:Int):=by omega
   have k1:(i:Int) < (l.length:Int):=by omega
   have d0:decide ((i:Int) < (l.length:Int))=true:=decide_eq_true k1
   subst hA
   clear hx
   rcases h48:decide (48≤x) with _ | _
   ·have hjm:j=m:=by
     have:¬ j < m:=by rw [hmr];simp [isDig,h48]
     omega
    clear hmr
    have hcl:l.length≤c:=HR.out.cap
    have b0:(0:Int)≤(k:Int):=by omega
    have b1:(k:Int)≤(i:Int):=by omega
    have b2:(i:Int)≤(c:Int):=by omega
    have HRX:Hid (IsR wr b (some p) l c (k+m) tv T):=qh (by rw [← hjm,hi];exact HR.out)
    go_wp2_with fail
    go_quiet (fail)
    go_wp2_with fail
    go_quiet (fail)
    go_wp2_with fail
    all_goals
     go_ret
     exact dig_done HM.out (by omega) (fun hn=>by first | rfl | (exfalso;omega)) (by first | exact HRX.out.drewN _ | exact (HRX.out.drewN _).drewN _ | (subst_vars;exact HRX.out.drewN _)) (by first | exact grown_draws HG.out _ | exact grown_draws (grown_draws HG.out _) _)
   ·rcases h57:decide (x≤57) with _ | _
    ·have hjm:j=m:=by
      have:¬ j < m:=by rw [hmr];simp [isDig,h57]
      omega
     clear hmr
     have hcl:l.length≤c:=HR.out.cap
     have b0:(0:Int)≤(k:Int):=by omega
     have b1:(k:Int)≤(i:Int):=by omega
     have b2:(i:Int)≤(c:Int):=by omega
     have HRX:Hid (IsR wr b (some p) l c (k+m) tv T):=qh (by rw [← hjm,hi];exact HR.out)
     go_wp2_with fail
     go_quiet (fail)
     go_wp2_with fail
     go_quiet (fail)
     go_wp2_with fail
     all_goals
      go_ret
      exact dig_done HM.out (by omega) (fun hn=>by first | rfl | (exfalso;omega)) (by first | exact HRX.out.drewN _ | exact (HRX.out.drewN _).drewN _ | (subst_vars;exact HRX.out.drewN _)) (by first | exact grown_draws HG.out _ | exact grown_draws (grown_draws HG.out _) _)
    ·have hjm:j < m:=by rw [hmr,isDig,h48,h57];rfl
     have hw:=tkwrap (k:=i) (by omega)
     have HI:=qh hi
     clear hmr hi
     go_wp2_with fail
     go_quiet (fail)
     go_wp2_with (first
      | (refine store_at _ _ _ (i+1) rfl rfl rfl rfl rfl (HR.out.drewN _) (by omega) ?_;intro w2 h2 g2;have H2:=qh h2;have G2:=qh ((grown_draws HG.out _).trans g2);clear h2 g2)
      | fail)
     refine ⟨⟨j+1,by omega,by rw [show k+(j+1)=i+1 by have:=HI.out;omega];exact H2,G2⟩,?_⟩
     rw [readAt_of H2.out,readAt_of HR.out];omega
  ·have hjm:j=m:=by
    have:¬ j < m:=by rw [hmr,List.getElem?_eq_none (by omega)];simp
    omega
   obtain rfl:i=l.length:=by omega
   clear hmr hlt hil
   rcases A with _ | p
   ·have hl0:l.length=0:=by
     apply Classical.byContradiction
     intro hne
     obtain ⟨p,hp,_⟩:=HR.out.char (i:=0) (by omega)
     cases hp
    have hcl:l.length≤c:=HR.out.cap
    have b0:(0:Int)≤(k:Int):=by omega
    have b1:(k:Int)≤(l.length:Int):=by omega
    have b2:(l.length:Int)≤(c:Int):=by omega
    have HRX:Hid (IsR wr b none l c (k+m) tv T):=qh (by rw [← hjm,hi];exact HR.out)
    go_wp2_with fail
    go_quiet (fail)
    go_wp2_with fail
    go_quiet (fail)
    go_wp2_with fail
    all_goals
     go_ret
     exact dig_done HM.out (by omega) (fun hn=>by first | rfl | (exfalso;omega)) (by first | exact HRX.out.drewN _ | exact (HRX.out.drewN _).drewN _ | (subst_vars;exact HRX.out.drewN _)) (by first | exact grown_draws HG.out _ | exact grown_draws (grown_draws HG.out _) _)
   ·have hcl:l.length≤c:=HR.out.cap
    have b0:(0:Int)≤(k:Int):=by omega
    have b1:(k:Int)≤(l.length:Int):=by omega
    have b2:(l.length:Int)≤(c:Int):=by omega
    have HRX:Hid (IsR wr b (some p) l c (k+m) tv T):=qh (by rw [← hjm,hi];exact HR.out)
    go_wp2_with fail
    go_quiet (fail)
    go_wp2_with fail
    go_quiet (fail)
    go_wp2_with fail
    all_goals
     go_ret
     exact dig_done HM.out (by omega) (fun hn=>by first | rfl | (exfalso;omega)) (by first | exact HRX.out.drewN _ | exact (HRX.out.drewN _).drewN _ | (subst_vars;exact HRX.out.drewN _)) (by first | exact grown_draws HG.out _ | exact grown_draws (grown_draws HG.out _) _)
end
section
open Go.RowKit
theorem lies_row {w w':World} {b:Nat} {A:Option Addr} {xs:List Value} (h:Lies w b A xs) (hg:w.grownBy w' (some b)) (hb:b≤w.heap.size):Lies w' b A xs :=
 h.same fun q hq=>World.cell?_of_block (hg.block q.block (by omega) (fun e=>by injection e with e;omega))
theorem tkbra_end (w:World) (b c k:Nat) (A:Option Addr) (l:List Int) (tv:Value) (T:List Tok) (h:IsR w b A l c k tv T) (hl:l.length≤1000) (fr:Nat) (n:Nat) (y:Int) (hn:nxT l (k+(digT l k).length)=.error (n,y)) :
 Calls Tryz.prog 105 #[.pointer (some ⟨b,0,none⟩),.int .i64 fr] w (Told w b A l c tv T (fun t:Tok=>.agg t.arr) (Except.error (n,y):Wr (Tok×Nat))):=by
 obtain ⟨w0,hw0⟩:∃ u,w.alloc (.cells #[.int .i64 0,.int .i64 0,.int .i64 0,.int .i64 0,.int .i64 0] 56)=u:=⟨_,rfl⟩
 have X0:Hid (Box w0 w.heap.size noTok.arr 56):=qh (hw0▸Box.new w _ _)
 have G0:Hid (w.grownBy w0 none):=qh (hw0▸grown_new w _ _)
 have H0:Hid (IsR w0 b A l c k tv T):=qh (h.grown G0.out)
 have hbw:=h.lt
 have HO:Hid (∀ g,w.heap.size≤g→tv.ownBlock≠some g):=qh fun g hg=>h.old hg
 have HW0:=qh hw0
 have HDG:=qh (tkdigits_any w0 b c k A l tv T H0.out hl)
 have HDA:=qh (digT_all l k)
 have hdl:(digT l k).length≤1000:=by have:=digT_length l k;omega
 clear h hw0
 have HN:=qh hn
 clear hn
 go_enter Tryz.func105,Tryz.ntmps105
 go_wp2_with fail
 rw [HW0.out]
 refine HDG.out.mono ?_
 rintro e w1 ⟨A1,c1,rfl,l1,h1,g1⟩
 have G1:=qh ((grown_any G0.out (some b)).trans g1)
 have N1:=qh (tknext_any w1 b c _ A l tv T h1 hl)
 rw [HN.out] at N1
 clear l1 h1 g1
 go_wp2_with fail
 refine N1.out.mono ?_
 rintro e w2 ⟨rfl,g2⟩
 have G2:=qh (G1.out.trans g2)
 clear g2
 go_wp2_with fail
 exact ⟨rfl,rfl,G2.out⟩
theorem tkbra_one (w:World) (b c k:Nat) (A:Option Addr) (l:List Int) (tv:Value) (T:List Tok) (h:IsR w b A l c k tv T) (hl:l.length≤1000) (fr:Nat) (x:Int) (k2:Nat) (hn:nxT l (k+(digT l k).length)=.ok (x,k2)) (hx:¬ (x=44∧digT l k≠[])) :
 Calls Tryz.prog 105 #[.pointer (some ⟨b,0,none⟩),.int .i64 fr] w (Told w b A l c tv T (fun t:Tok=>.agg t.arr) (shutT fr (numT (digT l k)) (numT (digT l k)) x k2)):=by
 obtain ⟨w0,hw0⟩:∃ u,w.alloc (.cells #[.int .i64 0,.int .i64 0,.int .i64 0,.int .i64 0,.int .i64 0] 56)=u:=⟨_,rfl⟩
 have X0:Hid (Box w0 w.heap.size noTok.arr 56):=qh (hw0▸Box.new w _ _)
 have G0:Hid (w.grownBy w0 none):=qh (hw0▸grown_new w _ _)
 have H0:Hid (IsR w0 b A l c k tv T):=qh (h.grown G0.out)
 have hbw:=h.lt
 have HO:Hid (∀ g,w.heap.size≤g→tv.ownBlock≠some g):=qh fun g hg=>h.old hg
 have HW0:=qh hw0
 have HDG:=qh (tkdigits_any w0 b c k A l tv T H0.out hl)
 have HDA:=qh (digT_all l k)
 have hdl:(digT l k).length≤1000:=by have:=digT_length l k;omega
 clear h hw0
 have HN:=qh hn
 obtain ⟨D,hD⟩:∃ D,digT l k=D:=⟨_,rfl⟩
 rw [hD] at HDG HDA hdl HN hx ⊢
 obtain ⟨a,ha⟩:∃ a,numT D=a:=⟨_,rfl⟩
 have HA:=qh ha
 obtain ⟨z,hz⟩:∃ z,numT D=z:=⟨_,rfl⟩
 have HZ:=qh hz
 have hres:shutT fr (numT D) (numT D) x k2=shutT fr a z x k2:=by rw [hz];rw [← ha,← hz]
 rw [hres]
 have hor:(x == 44)=false∨((x == 44)=true∧D=[]):=by
  by_cases h:x=44
  ·refine .inr ⟨by simpa using h,?_⟩
   apply Classical.byContradiction
   exact fun e=>hx ⟨h,e⟩
  ·exact .inl (by simpa using h)
 clear hn hD ha hz hres hx
 rcases hor with h44 | ⟨h44,hD0⟩
 ·go_enter Tryz.func105,Tryz.ntmps105
  go_wp2_with fail
  rw [HW0.out]
  refine HDG.out.mono ?_
  rintro e w1 ⟨A1,c1,rfl,l1,h1,g1⟩
  have G1:=qh ((grown_any G0.out (some b)).trans g1)
  have X1:=qh (X0.out.kept g1 (by simp;omega))
  have L1:=qh l1
  have N1:=qh (tknext_any w1 b c _ A l tv T h1 hl)
  rw [HN.out] at N1
  have b1:b≤w1.heap.size:=by have:=h1.lt;omega
  clear l1 h1 g1
  go_wp2_with fail
  refine N1.out.mono ?_
  rintro e w2 ⟨rfl,h2,g2⟩
  have G2:=qh (G1.out.trans g2)
  have X2:=qh (X1.out.kept g2 (by simp;omega))
  have L2:=qh (lies_row L1.out g2 b1)
  have H2:=qh h2
  clear h2 g2 N1
  go_wp2_with fail
  refine (tknumber_any w2 b A1 D c1 L2.out HDA.out hdl).mono ?_
  rintro e wq ⟨rfl,rfl⟩
  rw [HA.out]
  go_wp2_with fail
  refine (tknumber_any w2 b A1 D c1 L2.out HDA.out hdl).mono ?_
  rintro e wq ⟨rfl,rfl⟩
  rw [HZ.out]
  by_cases q1:x=125
  ·by_cases q2:a < 0
   ·have e1:(x != 125)=false:=by simpa using q1
    have e2:decide (a < 0)=true:=decide_eq_true q2
    have HB:Hid (shutT fr a z x k2=.error (fr,8)):=qh (by unfold shutT;rw [if_pos (by simp [badB,q2])])
    clear q1 q2
    go_wp2_with fail
    exact ⟨rfl,by rw [HB.out];exact ⟨rfl,G2.out⟩⟩
   ·by_cases q3:a < z
    ·by_cases q4:20 < z
     ·have e1:(x != 125)=false:=by simpa using q1
      have e2:decide (a < 0)=false:=decide_eq_false q2
      have e4:decide (20 < z)=true:=decide_eq_true q4
      have HB:Hid (shutT fr a z x k2=.error (fr,8)):=qh (by unfold shutT;rw [if_pos (by simp [badB];omega)])
      clear q1 q2 q4
      go_wp2_with fail
      exact ⟨rfl,by rw [HB.out];exact ⟨rfl,G2.out⟩⟩
     ·have e1:(x != 125)=false:=by simpa using q1
      have e2:decide (a < 0)=false:=decide_eq_false q2
      have e4:decide (20 < z)=false:=decide_eq_false q4
      have e5:decide (0≤z)=true:=decide_eq_true (by omega)
      have e6:decide (z < a)=false:=decide_eq_false (by omega)
      have HB:Hid (shutT fr a z x k2=.ok (⟨6,0,a,z,0⟩,k2)):=qh (by unfold shutT;rw [if_neg (by simp [badB,q1];omega)])
      clear q1 q2 q4
      go_wp2_with (first
       | (refine store_tok w2 _ _ w.heap.size noTok ⟨6,0,a,z,0⟩ rfl rfl rfl rfl rfl X2.out ?_;intro w9 x9 g9;have X9:=qh x9;have G9:=qh g9;clear x9 g9)
       | fail)
      (try simp only [Exit.inBlock,Exit.then])
      exact bodyPost_ret (v:=.agg (⟨6,0,a,z,0⟩:Tok).arr) (ret_tok rfl _ _ w.heap.size _ rfl X9.out) rfl (by rw [HB.out];exact ⟨rfl,H2.out.new G9.out hbw (HO.out _ (Nat.le_refl _)),grown_two G2.out G9.out (Nat.le_refl _)⟩)
    ·by_cases q4:20 < a
     ·have e1:(x != 125)=false:=by simpa using q1
      have e2:decide (a < 0)=false:=decide_eq_false q2
      have e4:decide (20 < a)=true:=decide_eq_true q4
      have HB:Hid (shutT fr a z x k2=.error (fr,8)):=qh (by unfold shutT;rw [if_pos (by simp [badB];omega)])
      clear q1 q2 q4
      go_wp2_with fail
      exact ⟨rfl,by rw [HB.out];exact ⟨rfl,G2.out⟩⟩
     ·by_cases q5:0≤z
      ·by_cases q6:z < a
       ·have e1:(x != 125)=false:=by simpa using q1
        have e2:decide (a < 0)=false:=decide_eq_false q2
        have e4:decide (20 < a)=false:=decide_eq_false q4
        have e5:decide (0≤z)=true:=decide_eq_true q5
        have e6:decide (z < a)=true:=decide_eq_true q6
        have HB:Hid (shutT fr a z x k2=.error (fr,8)):=qh (by unfold shutT;rw [if_pos (by simp [badB];omega)])
        clear q1 q2 q4 q5 q6
        go_wp2_with fail
        exact ⟨rfl,by rw [HB.out];exact ⟨rfl,G2.out⟩⟩
       ·have e1:(x != 125)=false:=by simpa using q1
        have e2:decide (a < 0)=false:=decide_eq_false q2
        have e4:decide (20 < a)=false:=decide_eq_false q4
        have e5:decide (0≤z)=true:=decide_eq_true q5
        have e6:decide (z < a)=false:=decide_eq_false q6
        have HB:Hid (shutT fr a z x k2=.ok (⟨6,0,a,z,0⟩,k2)):=qh (by unfold shutT;rw [if_neg (by simp [badB,q1];omega)])
        clear q1 q2 q4 q5 q6
        go_wp2_with (first
         | (refine store_tok w2 _ _ w.heap.size noTok ⟨6,0,a,z,0⟩ rfl rfl rfl rfl rfl X2.out ?_;intro w9 x9 g9;have X9:=qh x9;have G9:=qh g9;clear x9 g9)
         | fail)
        (try simp only [Exit.inBlock,Exit.then])
        exact bodyPost_ret (v:=.agg (⟨6,0,a,z,0⟩:Tok).arr) (ret_tok rfl _ _ w.heap.size _ rfl X9.out) rfl (by rw [HB.out];exact ⟨rfl,H2.out.new G9.out hbw (HO.out _ (Nat.le_refl _)),grown_two G2.out G9.out (Nat.le_refl _)⟩)
      ·have e1:(x != 125)=false:=by simpa using q1
       have e2:decide (a < 0)=false:=decide_eq_false q2
       have e4:decide (20 < a)=false:=decide_eq_false q4
       have e5:decide (0≤z)=false:=decide_eq_false q5
       have HB:Hid (shutT fr a z x k2=.ok (⟨6,0,a,z,0⟩,k2)):=qh (by unfold shutT;rw [if_neg (by simp [badB,q1];omega)])
       clear q1 q2 q4 q5
       go_wp2_with (first
        | (refine store_tok w2 _ _ w.heap.size noTok ⟨6,0,a,z,0⟩ rfl rfl rfl rfl rfl X2.out ?_;intro w9 x9 g9;have X9:=qh x9;have G9:=qh g9;clear x9 g9)
        | fail)
       (try simp only [Exit.inBlock,Exit.then])
       exact bodyPost_ret (v:=.agg (⟨6,0,a,z,0⟩:Tok).arr) (ret_tok rfl _ _ w.heap.size _ rfl X9.out) rfl (by rw [HB.out];exact ⟨rfl,H2.out.new G9.out hbw (HO.out _ (Nat.le_refl _)),grown_two G2.out G9.out (Nat.le_refl _)⟩)
  ·have e1:(x != 125)=true:=by simpa using q1
   have HB:Hid (shutT fr a z x k2=.error (fr,8)):=qh (by unfold shutT;rw [if_pos (by simp [badB,q1])])
   clear q1
   go_wp2_with fail
   exact ⟨rfl,by rw [HB.out];exact ⟨rfl,G2.out⟩⟩
 ·have d0:decide (0 < D.length)=false:=by rw [hD0];rfl
  have d0':decide ((0:Int) < (D.length:Int))=false:=by rw [hD0];rfl
  clear hD0
  go_enter Tryz.func105,Tryz.ntmps105
  go_wp2_with fail
  rw [HW0.out]
  refine HDG.out.mono ?_
  rintro e w1 ⟨A1,c1,rfl,l1,h1,g1⟩
  have G1:=qh ((grown_any G0.out (some b)).trans g1)
  have X1:=qh (X0.out.kept g1 (by simp;omega))
  have L1:=qh l1
  have N1:=qh (tknext_any w1 b c _ A l tv T h1 hl)
  rw [HN.out] at N1
  have b1:b≤w1.heap.size:=by have:=h1.lt;omega
  clear l1 h1 g1
  go_wp2_with fail
  refine N1.out.mono ?_
  rintro e w2 ⟨rfl,h2,g2⟩
  have G2:=qh (G1.out.trans g2)
  have X2:=qh (X1.out.kept g2 (by simp;omega))
  have L2:=qh (lies_row L1.out g2 b1)
  have H2:=qh h2
  clear h2 g2 N1
  go_wp2_with fail
  refine (tknumber_any w2 b A1 D c1 L2.out HDA.out hdl).mono ?_
  rintro e wq ⟨rfl,rfl⟩
  rw [HA.out]
  go_wp2_with fail
  refine (tknumber_any w2 b A1 D c1 L2.out HDA.out hdl).mono ?_
  rintro e wq ⟨rfl,rfl⟩
  rw [HZ.out]
  by_cases q1:x=125
  ·by_cases q2:a < 0
   ·have e1:(x != 125)=false:=by simpa using q1
    have e2:decide (a < 0)=true:=decide_eq_true q2
    have HB:Hid (shutT fr a z x k2=.error (fr,8)):=qh (by unfold shutT;rw [if_pos (by simp [badB,q2])])
    clear q1 q2
    go_wp2_with fail
    exact ⟨rfl,by rw [HB.out];exact ⟨rfl,G2.out⟩⟩
   ·by_cases q3:a < z
    ·by_cases q4:20 < z
     ·have e1:(x != 125)=false:=by simpa using q1
      have e2:decide (a < 0)=false:=decide_eq_false q2
      have e4:decide (20 < z)=true:=decide_eq_true q4
      have HB:Hid (shutT fr a z x k2=.error (fr,8)):=qh (by unfold shutT;rw [if_pos (by simp [badB];omega)])
      clear q1 q2 q4
      go_wp2_with fail
      exact ⟨rfl,by rw [HB.out];exact ⟨rfl,G2.out⟩⟩
     ·have e1:(x != 125)=false:=by simpa using q1
      have e2:decide (a < 0)=false:=decide_eq_false q2
      have e4:decide (20 < z)=false:=decide_eq_false q4
      have e5:decide (0≤z)=true:=decide_eq_true (by omega)
      have e6:decide (z < a)=false:=decide_eq_false (by omega)
      have HB:Hid (shutT fr a z x k2=.ok (⟨6,0,a,z,0⟩,k2)):=qh (by unfold shutT;rw [if_neg (by simp [badB,q1];omega)])
      clear q1 q2 q4
      go_wp2_with (first
       | (refine store_tok w2 _ _ w.heap.size noTok ⟨6,0,a,z,0⟩ rfl rfl rfl rfl rfl X2.out ?_;intro w9 x9 g9;have X9:=qh x9;have G9:=qh g9;clear x9 g9)
       | fail)
      (try simp only [Exit.inBlock,Exit.then])
      exact bodyPost_ret (v:=.agg (⟨6,0,a,z,0⟩:Tok).arr) (ret_tok rfl _ _ w.heap.size _ rfl X9.out) rfl (by rw [HB.out];exact ⟨rfl,H2.out.new G9.out hbw (HO.out _ (Nat.le_refl _)),grown_two G2.out G9.out (Nat.le_refl _)⟩)
    ·by_cases q4:20 < a
     ·have e1:(x != 125)=false:=by simpa using q1
      have e2:decide (a < 0)=false:=decide_eq_false q2
      have e4:decide (20 < a)=true:=decide_eq_true q4
      have HB:Hid (shutT fr a z x k2=.error (fr,8)):=qh (by unfold shutT;rw [if_pos (by simp [badB];omega)])
      clear q1 q2 q4
      go_wp2_with fail
      exact ⟨rfl,by rw [HB.out];exact ⟨rfl,G2.out⟩⟩
     ·by_cases q5:0≤z
      ·by_cases q6:z < a
       ·have e1:(x != 125)=false:=by simpa using q1
        have e2:decide (a < 0)=false:=decide_eq_false q2
        have e4:decide (20 < a)=false:=decide_eq_false q4
        have e5:decide (0≤z)=true:=decide_eq_true q5
        have e6:decide (z < a)=true:=decide_eq_true q6
        have HB:Hid (shutT fr a z x k2=.error (fr,8)):=qh (by unfold shutT;rw [if_pos (by simp [badB];omega)])
        clear q1 q2 q4 q5 q6
        go_wp2_with fail
        exact ⟨rfl,by rw [HB.out];exact ⟨rfl,G2.out⟩⟩
       ·have e1:(x != 125)=false:=by simpa using q1
        have e2:decide (a < 0)=false:=decide_eq_false q2
        have e4:decide (20 < a)=false:=decide_eq_false q4
        have e5:decide (0≤z)=true:=decide_eq_true q5
        have e6:decide (z < a)=false:=decide_eq_false q6
        have HB:Hid (shutT fr a z x k2=.ok (⟨6,0,a,z,0⟩,k2)):=qh (by unfold shutT;rw [if_neg (by simp [badB,q1];omega)])
        clear q1 q2 q4 q5 q6
        go_wp2_with (first
         | (refine store_tok w2 _ _ w.heap.size noTok ⟨6,0,a,z,0⟩ rfl rfl rfl rfl rfl X2.out ?_;intro w9 x9 g9;have X9:=qh x9;have G9:=qh g9;clear x9 g9)
         | fail)
        (try simp only [Exit.inBlock,Exit.then])
        exact bodyPost_ret (v:=.agg (⟨6,0,a,z,0⟩:Tok).arr) (ret_tok rfl _ _ w.heap.size _ rfl X9.out) rfl (by rw [HB.out];exact ⟨rfl,H2.out.new G9.out hbw (HO.out _ (Nat.le_refl _)),grown_two G2.out G9.out (Nat.le_refl _)⟩)
      ·have e1:(x != 125)=false:=by simpa using q1
       have e2:decide (a < 0)=false:=decide_eq_false q2
       have e4:decide (20 < a)=false:=decide_eq_false q4
       have e5:decide (0≤z)=false:=decide_eq_false q5
       have HB:Hid (shutT fr a z x k2=.ok (⟨6,0,a,z,0⟩,k2)):=qh (by unfold shutT;rw [if_neg (by simp [badB,q1];omega)])
       clear q1 q2 q4 q5
       go_wp2_with (first
        | (refine store_tok w2 _ _ w.heap.size noTok ⟨6,0,a,z,0⟩ rfl rfl rfl rfl rfl X2.out ?_;intro w9 x9 g9;have X9:=qh x9;have G9:=qh g9;clear x9 g9)
        | fail)
       (try simp only [Exit.inBlock,Exit.then])
       exact bodyPost_ret (v:=.agg (⟨6,0,a,z,0⟩:Tok).arr) (ret_tok rfl _ _ w.heap.size _ rfl X9.out) rfl (by rw [HB.out];exact ⟨rfl,H2.out.new G9.out hbw (HO.out _ (Nat.le_refl _)),grown_two G2.out G9.out (Nat.le_refl _)⟩)
  ·have e1:(x != 125)=true:=by simpa using q1
   have HB:Hid (shutT fr a z x k2=.error (fr,8)):=qh (by unfold shutT;rw [if_pos (by simp [badB,q1])])
   clear q1
   go_wp2_with fail
   exact ⟨rfl,by rw [HB.out];exact ⟨rfl,G2.out⟩⟩
theorem tkbra_two_end (w:World) (b c k:Nat) (A:Option Addr) (l:List Int) (tv:Value) (T:List Tok) (h:IsR w b A l c k tv T) (hl:l.length≤1000) (fr:Nat) (x:Int) (k2:Nat) (hn:nxT l (k+(digT l k).length)=.ok (x,k2)) (h44:x=44) (hD0:digT l k≠[]) (n:Nat) (y:Int) (hn2:nxT l (k2+(digT l k2).length)=.error (n,y)) :
 Calls Tryz.prog 105 #[.pointer (some ⟨b,0,none⟩),.int .i64 fr] w (Told w b A l c tv T (fun t:Tok=>.agg t.arr) (Except.error (n,y):Wr (Tok×Nat))):=by
 obtain ⟨w0,hw0⟩:∃ u,w.alloc (.cells #[.int .i64 0,.int .i64 0,.int .i64 0,.int .i64 0,.int .i64 0] 56)=u:=⟨_,rfl⟩
 have X0:Hid (Box w0 w.heap.size noTok.arr 56):=qh (hw0▸Box.new w _ _)
 have G0:Hid (w.grownBy w0 none):=qh (hw0▸grown_new w _ _)
 have H0:Hid (IsR w0 b A l c k tv T):=qh (h.grown G0.out)
 have hbw:=h.lt
 have HO:Hid (∀ g,w.heap.size≤g→tv.ownBlock≠some g):=qh fun g hg=>h.old hg
 have HW0:=qh hw0
 have HDG:=qh (tkdigits_any w0 b c k A l tv T H0.out hl)
 have HDA:=qh (digT_all l k)
 have hdl:(digT l k).length≤1000:=by have:=digT_length l k;omega
 clear h hw0
 have HN:=qh hn
 have HN2:=qh hn2
 have HMA:=qh (digT_all l k2)
 have hml:(digT l k2).length≤1000:=by have:=digT_length l k2;omega
 obtain ⟨D,hD⟩:∃ D,digT l k=D:=⟨_,rfl⟩
 rw [hD] at HDG HDA hdl HN hD0
 obtain ⟨M,hM⟩:∃ M,digT l k2=M:=⟨_,rfl⟩
 have HM:=qh hM
 rw [hM] at HMA hml HN2
 have hdp:0 < D.length:=List.length_pos_iff.2 hD0
 have dp:decide (0 < D.length)=true:=decide_eq_true hdp
 have dp':decide ((0:Int) < (D.length:Int))=true:=decide_eq_true (by omega)
 have d44:(x == 44)=true:=by simpa using h44
 clear hn hn2 hD hM hD0 h44
 go_enter Tryz.func105,Tryz.ntmps105
 go_wp2_with fail
 rw [HW0.out]
 refine HDG.out.mono ?_
 rintro e w1 ⟨A1,c1,rfl,l1,h1,g1⟩
 have G1:=qh ((grown_any G0.out (some b)).trans g1)
 have N1:=qh (tknext_any w1 b c _ A l tv T h1 hl)
 rw [HN.out] at N1
 clear l1 h1 g1
 go_wp2_with fail
 refine N1.out.mono ?_
 rintro e w2 ⟨rfl,h2,g2⟩
 have G2:=qh (G1.out.trans g2)
 have M2:=qh (tkdigits_any w2 b c _ A l tv T h2 hl)
 rw [HM.out] at M2
 clear h2 g2 N1
 go_wp2_with fail
 refine M2.out.mono ?_
 rintro e w3 ⟨A3,c3,rfl,l3,h3,g3⟩
 have G3:=qh (G2.out.trans g3)
 have N3:=qh (tknext_any w3 b c _ A l tv T h3 hl)
 rw [HN2.out] at N3
 clear l3 h3 g3 M2
 go_wp2_with fail
 refine N3.out.mono ?_
 rintro e w4 ⟨rfl,g4⟩
 have G4:=qh (G3.out.trans g4)
 clear g4 N3
 go_wp2_with fail
 exact ⟨rfl,rfl,G4.out⟩
theorem tkbra_two (w:World) (b c k:Nat) (A:Option Addr) (l:List Int) (tv:Value) (T:List Tok) (h:IsR w b A l c k tv T) (hl:l.length≤1000) (fr:Nat) (x:Int) (k2:Nat) (hn:nxT l (k+(digT l k).length)=.ok (x,k2)) (h44:x=44) (hD0:digT l k≠[]) (y:Int) (k3:Nat) (hn2:nxT l (k2+(digT l k2).length)=.ok (y,k3)) :
 Calls Tryz.prog 105 #[.pointer (some ⟨b,0,none⟩),.int .i64 fr] w (Told w b A l c tv T (fun t:Tok=>.agg t.arr) (shutT fr (numT (digT l k)) (numT (digT l k2)) y k3)):=by
 obtain ⟨w0,hw0⟩:∃ u,w.alloc (.cells #[.int .i64 0,.int .i64 0,.int .i64 0,.int .i64 0,.int .i64 0] 56)=u:=⟨_,rfl⟩
 have X0:Hid (Box w0 w.heap.size noTok.arr 56):=qh (hw0▸Box.new w _ _)
 have G0:Hid (w.grownBy w0 none):=qh (hw0▸grown_new w _ _)
 have H0:Hid (IsR w0 b A l c k tv T):=qh (h.grown G0.out)
 have hbw:=h.lt
 have HO:Hid (∀ g,w.heap.size≤g→tv.ownBlock≠some g):=qh fun g hg=>h.old hg
 have HW0:=qh hw0
 have HDG:=qh (tkdigits_any w0 b c k A l tv T H0.out hl)
 have HDA:=qh (digT_all l k)
 have hdl:(digT l k).length≤1000:=by have:=digT_length l k;omega
 clear h hw0
 have HN:=qh hn
 have HN2:=qh hn2
 have HMA:=qh (digT_all l k2)
 have hml:(digT l k2).length≤1000:=by have:=digT_length l k2;omega
 obtain ⟨D,hD⟩:∃ D,digT l k=D:=⟨_,rfl⟩
 rw [hD] at HDG HDA hdl HN hD0 ⊢
 obtain ⟨M,hM⟩:∃ M,digT l k2=M:=⟨_,rfl⟩
 have HM:=qh hM
 rw [hM] at HMA hml HN2 ⊢
 have hdp:0 < D.length:=List.length_pos_iff.2 hD0
 have dp:decide (0 < D.length)=true:=decide_eq_true hdp
 have dp':decide ((0:Int) < (D.length:Int))=true:=decide_eq_true (by omega)
 have d44:(x == 44)=true:=by simpa using h44
 clear hn hn2 hD hM hD0 h44
 obtain ⟨a,ha⟩:∃ a,numT D=a:=⟨_,rfl⟩
 have HA:=qh ha
 obtain ⟨z,hz⟩:∃ z,numT M=z:=⟨_,rfl⟩
 have HZ:=qh hz
 rw [ha,hz]
 clear ha hz
 go_enter Tryz.func105,Tryz.ntmps105
 go_wp2_with fail
 rw [HW0.out]
 refine HDG.out.mono ?_
 rintro e w1 ⟨A1,c1,rfl,l1,h1,g1⟩
 have G1:=qh ((grown_any G0.out (some b)).trans g1)
 have X1:=qh (X0.out.kept g1 (by simp;omega))
 have L1:=qh l1
 have N1:=qh (tknext_any w1 b c _ A l tv T h1 hl)
 rw [HN.out] at N1
 have b1:b≤w1.heap.size:=by have:=h1.lt;omega
 clear l1 h1 g1
 go_wp2_with fail
 refine N1.out.mono ?_
 rintro e w2 ⟨rfl,h2,g2⟩
 have G2:=qh (G1.out.trans g2)
 have X2:=qh (X1.out.kept g2 (by simp;omega))
 have L2:=qh (lies_row L1.out g2 b1)
 have M2:=qh (tkdigits_any w2 b c _ A l tv T h2 hl)
 rw [HM.out] at M2
 have b2:b≤w2.heap.size:=by have:=h2.lt;omega
 clear h2 g2 N1
 go_wp2_with fail
 refine M2.out.mono ?_
 rintro e w3 ⟨A3,c3,rfl,l3,h3,g3⟩
 have G3:=qh (G2.out.trans g3)
 have X3:=qh (X2.out.kept g3 (by simp;omega))
 have L3:=qh (lies_row L2.out g3 b2)
 have K3:=qh l3
 have N3:=qh (tknext_any w3 b c _ A l tv T h3 hl)
 rw [HN2.out] at N3
 have b3:b≤w3.heap.size:=by have:=h3.lt;omega
 clear l3 h3 g3 M2
 go_wp2_with fail
 refine N3.out.mono ?_
 rintro e w4 ⟨rfl,h4,g4⟩
 have G4:=qh (G3.out.trans g4)
 have X4:=qh (X3.out.kept g4 (by simp;omega))
 have L4:=qh (lies_row L3.out g4 b3)
 have K4:=qh (lies_row K3.out g4 b3)
 have H4:=qh h4
 clear h4 g4 N3
 go_wp2_with fail
 refine (tknumber_any w4 b A1 D c1 L4.out HDA.out hdl).mono ?_
 rintro e wq ⟨rfl,rfl⟩
 rw [HA.out]
 go_wp2_with fail
 refine (tknumber_any w4 b A3 M c3 K4.out HMA.out hml).mono ?_
 rintro e wq ⟨rfl,rfl⟩
 rw [HZ.out]
 by_cases q1:y=125
 ·by_cases q2:a < 0
  ·have e1:(y != 125)=false:=by simpa using q1
   have e2:decide (a < 0)=true:=decide_eq_true q2
   have HB:Hid (shutT fr a z y k3=.error (fr,8)):=qh (by unfold shutT;rw [if_pos (by simp [badB,q2])])
   clear q1 q2
   go_wp2_with fail
   exact ⟨rfl,by rw [HB.out];exact ⟨rfl,G4.out⟩⟩
  ·by_cases q3:a < z
   ·by_cases q4:20 < z
    ·have e1:(y != 125)=false:=by simpa using q1
     have e2:decide (a < 0)=false:=decide_eq_false q2
     have e4:decide (20 < z)=true:=decide_eq_true q4
     have HB:Hid (shutT fr a z y k3=.error (fr,8)):=qh (by unfold shutT;rw [if_pos (by simp [badB];omega)])
     clear q1 q2 q4
     go_wp2_with fail
     exact ⟨rfl,by rw [HB.out];exact ⟨rfl,G4.out⟩⟩
    ·have e1:(y != 125)=false:=by simpa using q1
     have e2:decide (a < 0)=false:=decide_eq_false q2
     have e4:decide (20 < z)=false:=decide_eq_false q4
     have e5:decide (0≤z)=true:=decide_eq_true (by omega)
     have e6:decide (z < a)=false:=decide_eq_false (by omega)
     have HB:Hid (shutT fr a z y k3=.ok (⟨6,0,a,z,0⟩,k3)):=qh (by unfold shutT;rw [if_neg (by simp [badB,q1];omega)])
     clear q1 q2 q4
     go_wp2_with (first
      | (refine store_tok w4 _ _ w.heap.size noTok ⟨6,0,a,z,0⟩ rfl rfl rfl rfl rfl X4.out ?_;intro w9 x9 g9;have X9:=qh x9;have G9:=qh g9;clear x9 g9)
      | fail)
     (try simp only [Exit.inBlock,Exit.then])
     exact bodyPost_ret (v:=.agg (⟨6,0,a,z,0⟩:Tok).arr) (ret_tok rfl _ _ w.heap.size _ rfl X9.out) rfl (by rw [HB.out];exact ⟨rfl,H4.out.new G9.out hbw (HO.out _ (Nat.le_refl _)),grown_two G4.out G9.out (Nat.le_refl _)⟩)
   ·by_cases q4:20 < a
    ·have e1:(y != 125)=false:=by simpa using q1
     have e2:decide (a < 0)=false:=decide_eq_false q2
     have e4:decide (20 < a)=true:=decide_eq_true q4
     have HB:Hid (shutT fr a z y k3=.error (fr,8)):=qh (by unfold shutT;rw [if_pos (by simp [badB];omega)])
     clear q1 q2 q4
     go_wp2_with fail
     exact ⟨rfl,by rw [HB.out];exact ⟨rfl,G4.out⟩⟩
    ·by_cases q5:0≤z
     ·by_cases q6:z < a
      ·have e1:(y != 125)=false:=by simpa using q1
       have e2:decide (a < 0)=false:=decide_eq_false q2
       have e4:decide (20 < a)=false:=decide_eq_false q4
       have e5:decide (0≤z)=true:=decide_eq_true q5
       have e6:decide (z < a)=true:=decide_eq_true q6
       have HB:Hid (shutT fr a z y k3=.error (fr,8)):=qh (by unfold shutT;rw [if_pos (by simp [badB];omega)])
       clear q1 q2 q4 q5 q6
       go_wp2_with fail
       exact ⟨rfl,by rw [HB.out];exact ⟨rfl,G4.out⟩⟩
      ·have e1:(y != 125)=false:=by simpa using q1
       have e2:decide (a < 0)=false:=decide_eq_false q2
       have e4:decide (20 < a)=false:=decide_eq_false q4
       have e5:decide (0≤z)=true:=decide_eq_true q5
       have e6:decide (z < a)=false:=decide_eq_false q6
       have HB:Hid (shutT fr a z y k3=.ok (⟨6,0,a,z,0⟩,k3)):=qh (by unfold shutT;rw [if_neg (by simp [badB,q1];omega)])
       clear q1 q2 q4 q5 q6
       go_wp2_with (first
        | (refine store_tok w4 _ _ w.heap.size noTok ⟨6,0,a,z,0⟩ rfl rfl rfl rfl rfl X4.out ?_;intro w9 x9 g9;have X9:=qh x9;have G9:=qh g9;clear x9 g9)
        | fail)
       (try simp only [Exit.inBlock,Exit.then])
       exact bodyPost_ret (v:=.agg (⟨6,0,a,z,0⟩:Tok).arr) (ret_tok rfl _ _ w.heap.size _ rfl X9.out) rfl (by rw [HB.out];exact ⟨rfl,H4.out.new G9.out hbw (HO.out _ (Nat.le_refl _)),grown_two G4.out G9.out (Nat.le_refl _)⟩)
     ·have e1:(y != 125)=false:=by simpa using q1
      have e2:decide (a < 0)=false:=decide_eq_false q2
      have e4:decide (20 < a)=false:=decide_eq_false q4
      have e5:decide (0≤z)=false:=decide_eq_false q5
      have HB:Hid (shutT fr a z y k3=.ok (⟨6,0,a,z,0⟩,k3)):=qh (by unfold shutT;rw [if_neg (by simp [badB,q1];omega)])
      clear q1 q2 q4 q5
      go_wp2_with (first
       | (refine store_tok w4 _ _ w.heap.size noTok ⟨6,0,a,z,0⟩ rfl rfl rfl rfl rfl X4.out ?_;intro w9 x9 g9;have X9:=qh x9;have G9:=qh g9;clear x9 g9)
       | fail)
      (try simp only [Exit.inBlock,Exit.then])
      exact bodyPost_ret (v:=.agg (⟨6,0,a,z,0⟩:Tok).arr) (ret_tok rfl _ _ w.heap.size _ rfl X9.out) rfl (by rw [HB.out];exact ⟨rfl,H4.out.new G9.out hbw (HO.out _ (Nat.le_refl _)),grown_two G4.out G9.out (Nat.le_refl _)⟩)
 ·have e1:(y != 125)=true:=by simpa using q1
  have HB:Hid (shutT fr a z y k3=.error (fr,8)):=qh (by unfold shutT;rw [if_pos (by simp [badB,q1])])
  clear q1
  go_wp2_with fail
  exact ⟨rfl,by rw [HB.out];exact ⟨rfl,G4.out⟩⟩
theorem tkbraces_any (w:World) (b c k:Nat) (A:Option Addr) (l:List Int) (tv:Value) (T:List Tok) (h:IsR w b A l c k tv T) (hl:l.length≤1000) (fr:Nat) :
 Calls Tryz.prog 105 #[.pointer (some ⟨b,0,none⟩),.int .i64 fr] w (Told w b A l c tv T (fun t:Tok=>.agg t.arr) (braT l fr k)):=by
 unfold braT
 rcases hn:nxT l (k+(digT l k).length) with ⟨n,y⟩ | ⟨x,k2⟩
 ·exact tkbra_end w b c k A l tv T h hl fr n y hn
 ·simp only
  by_cases hx:x=44∧digT l k≠[]
  ·rw [if_pos hx]
   rcases hn2:nxT l (k2+(digT l k2).length) with ⟨n,y⟩ | ⟨y,k3⟩
   ·exact tkbra_two_end w b c k A l tv T h hl fr x k2 hn hx.1 hx.2 n y hn2
   ·exact tkbra_two w b c k A l tv T h hl fr x k2 hn hx.1 hx.2 y k3 hn2
  ·rw [if_neg hx]
   exact tkbra_one w b c k A l tv T h hl fr x k2 hn hx
end
end Go.Proofs.YtoeocodfndbebaaGreatDoor
