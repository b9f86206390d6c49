/- Shared texts, shaken for one claim. -/
import Derived.Test.YtoeocodfndbebaaGreatDoorZC18
import Derived.Test.YtoeocodfndbebaaGreatDoorZC26
import Derived.Test.YtoeocodfndbebaaGreatDoorZC30
import Derived.Test.YtoeocodfndbebaaGreatDoorZC33
set_option maxRecDepth 20000
set_option maxHeartbeats 16000000
namespace Go.Proofs.YtoeocodfndbebaaGreatDoor
section
open Go.RowKit
section
variable {inner:Option (List Tok→DR)} {f:Int} {E q k:Nat} {T:List Tok} {ks:List Nd}
theorem preO_end (h:kindIs T [5]=false):preL ks (dOrL inner f E q (k+1) T)=.ok (ks,T):=by
 rw [dOrL,h];simp [preL]
theorem preO_err (h:kindIs T [5]=true) {e:Int×Int} (hr:dJoin inner f E q T.tail=.error e):preL ks (dOrL inner f E q (k+1) T)=.error e:=by
 rw [dOrL,if_pos h,hr];rfl
theorem preO_ok (h:kindIs T [5]=true) {n:Nd} {R:List Tok} (hr:dJoin inner f E q T.tail=.ok (n,R)):preL ks (dOrL inner f E q (k+1) T)=preL (ks++[n]) (dOrL inner f E q k R):=by
 rw [dOrL,if_pos h,hr]
 simp only
 rcases dOrL inner f E q k R with e | ⟨ns,R'⟩ <;> simp [preL]
end
theorem RowF.lit {w1:World} {lo:Nat} {k1:Int} {Ar:Option Addr} {nr cr:Nat} {lo1 hi1:Int} {Ak:Option Addr} {nk ck:Nat} (hlo:lo≤w1.heap.size) :
 RowF (w1.alloc (.cells #[.int .i64 k1,.slice Ar nr cr,.int .i64 lo1,.int .i64 hi1,.slice Ak nk ck] 25)) lo (.slice (some ⟨w1.heap.size,0,none⟩) 1 1) [#[.int .i64 k1,.slice Ar nr cr,.int .i64 lo1,.int .i64 hi1,.slice Ak nk ck]] :=
 ⟨OwnN.ofLit (n:=1) _ hlo (by decide) rfl,fun v hv=>by rw [List.mem_singleton] at hv;exact hv▸⟨_,_,_,_,_,_,_,_,_,rfl⟩⟩
theorem gor_step {inner:Option (List Tok→DR)} {b E q:Nat} {f deep:Int} (hin:∀ g,inner=some g→ShrD g) (HJ:∀ (u:World) (T:List Tok),NE (dJoin inner f E q T)→IsG u b T E f 0 0→Calls Tryz.prog 45 #[.pointer (some ⟨b,0,none⟩),.int .i64 deep] u (NdG u b E f (dJoin inner f E q T)))
 (w:World) (T:List Tok) (h:IsG w b T E f 0 0) (hne:NE (dOr1 inner f E q T)) :
 Calls Tryz.prog 25 #[.pointer (some ⟨b,0,none⟩),.int .i64 deep] w (NdG w b E f (dOr1 inner f E q T)):=by
 have HLT:=qh h.lt
 have HJJ:=qh HJ
 have HSJ:=qh (fun (T:List Tok) (n:Nd) (R:List Tok) (h:dJoin inner f E q T=.ok (n,R))=>dJoin_shr hin q T n R h)
 obtain ⟨X,hX⟩:∃ y,dOr1 inner f E q T=y:=⟨_,rfl⟩
 have HX1:Hid (∀ n R,dJoin inner f E q T=.ok (n,R)→X=match preL [n] (dOrL inner f E q q R) with | .error e=>.error e | .ok (ns,R')=>.ok (togT 4 ns,R')):=qh fun n R h=>by
  rw [← hX];unfold dOr1;rw [h];simp only
  rcases dOrL inner f E q q R with e | ⟨ns,R'⟩ <;> simp [preL]
 have HXE:Hid (∀ e,dJoin inner f E q T=.error e→X=.error e):=qh fun e h=>by rw [← hX];unfold dOr1;rw [h]
 rw [hX] at hne ⊢
 have HNE:=qh hne
 have hnj:NE (dJoin inner f E q T):=fun p h=>hne p (HXE.out _ h)
 obtain ⟨w0,hw0⟩:∃ u,w.alloc (.cells #[.int .i64 0,.slice none 0 0,.int .i64 0,.int .i64 0,.slice none 0 0] 25)=u:=⟨_,rfl⟩
 have N0:w.grownBy w0 none:=hw0▸grown_new w _ none
 have HJT:=qh (HJ w0 T hnj (h.up N0))
 have G0:Hid (w.grownBy w0 (some b)):=qh (grownBy_none N0 _)
 have X0:Hid (Box w0 w.heap.size ndZero 25):=qh (hw0▸Box.new w _ _)
 have HW0:Hid (w.alloc (.cells #[.int .i64 0,.slice none 0 0,.int .i64 0,.int .i64 0,.slice none 0 0] 25)=w0):=qh hw0
 have HFEW:=qh h.few
 obtain ⟨J0,hJ0⟩:∃ y,dJoin inner f E q T=y:=⟨_,rfl⟩
 rw [hJ0] at HJT HX1 HXE
 have HJ0:=qh hJ0
 clear hin HJ hne hX h hw0 N0 hnj hJ0
 go_enter Tryz.func25,Tryz.ntmps25
 go_wp2_with fail
 rw [HW0.out]
 refine HJT.out.mono ?_
 rintro e1 w1 ⟨g1,hm⟩
 have Z1:Hid (w.heap.size+1≤w1.heap.size):=qh (Nat.le_trans X0.out.lt g1.size)
 have hI:∃ v,e1=.returned (.agg v)∧FormV v∧∀ k1 Ar nr cr lo1 hi1 Ak nk ck,v=#[.int .i64 k1,.slice Ar nr cr,.int .i64 lo1,.int .i64 hi1,.slice Ak nk ck]→((∃ (k:Nat) (T':List Tok) (ks:List Nd),(X=match preL ks (dOrL inner f E q k T') with | .error e=>.error e | .ok (ns,R')=>.ok (togT 4 ns,R'))∧KidsAt (w1.alloc (.cells #[.int .i64 k1,.slice Ar nr cr,.int .i64 lo1,.int .i64 hi1,.slice Ak nk ck] 25)) (w.heap.size+1) (.slice (some ⟨w1.heap.size,0,none⟩) 1 1) ks∧IsG (w1.alloc (.cells #[.int .i64 k1,.slice Ar nr cr,.int .i64 lo1,.int .i64 hi1,.slice Ak nk ck] 25)) b T' E f 0 0∧ks.length+T'.length≤1001∧ks≠[])∨(∃ (p x:Int) (T':List Tok) (vs:List (Array Value)),X=.error (p,x)∧x≠0∧RowF (w1.alloc (.cells #[.int .i64 k1,.slice Ar nr cr,.int .i64 lo1,.int .i64 hi1,.slice Ak nk ck] 25)) (w.heap.size+1) (.slice (some ⟨w1.heap.size,0,none⟩) 1 1) vs∧IsG (w1.alloc (.cells #[.int .i64 k1,.slice Ar nr cr,.int .i64 lo1,.int .i64 hi1,.slice Ak nk ck] 25)) b T' E f p x∧vs.length≤1001∧vs≠[])):=by
  rcases J0 with ⟨p,x⟩ | ⟨n,R0⟩
  ·obtain ⟨v,R0,rfl,hfv,r1⟩:=hm
   refine ⟨v,rfl,hfv,fun k1 Ar nr cr lo1 hi1 Ak nk ck hv=>.inr ⟨p,x,R0,[v],HXE.out _ rfl,fun e=>HNE.out p (by rw [HXE.out _ rfl,e]),?_,r1.up (grown_new w1 _ none),by simp,by simp⟩⟩
   subst hv
   exact RowF.lit Z1.out
  ·obtain ⟨v,rfl,t1,r1⟩:=hm
   refine ⟨v,rfl,t1.formV,fun k1 Ar nr cr lo1 hi1 Ak nk ck hv=>.inl ⟨q,R0,[n],HX1.out _ _ rfl,?_,r1.up (grown_new w1 _ none),?_,by simp⟩⟩
   ·subst hv
    exact KidsAt.lit (t1.mono fun x hx=>⟨by have:=hx.1;have:=X0.out.lt;omega,hx.2⟩) Z1.out
   ·have:=HSJ.out _ _ _ HJ0.out
    have:=HFEW.out
    simp;omega
 obtain ⟨v,rfl,hfv,hI⟩:=hI
 obtain ⟨k1,Ar,nr,cr,lo1,hi1,Ak,nk,ck,rfl⟩:=hfv
 have HI0:=qh (hI _ _ _ _ _ _ _ _ _ rfl)
 have G1:Hid (w.grownBy (w1.alloc (.cells #[.int .i64 k1,.slice Ar nr cr,.int .i64 lo1,.int .i64 hi1,.slice Ak nk ck] 25)) (some b)):=qh ((G0.out.trans g1).trans (grown_new w1 _ (some b)))
 have X1:Hid (Box (w1.alloc (.cells #[.int .i64 k1,.slice Ar nr cr,.int .i64 lo1,.int .i64 hi1,.slice Ak nk ck] 25)) w.heap.size ndZero 25):=qh ((X0.out.kept g1 (by have:=HLT.out;simp;omega)).kept (grown_new w1 _ none) (by simp))
 clear hI hm g1
 go_wp2_with fail
 go_loopw [5] (fun ov wr=>Hid ((∃ (k:Nat) (T':List Tok) (ks:List Nd),(X=match preL ks (dOrL inner f E q k T') with | .error e=>.error e | .ok (ns,R')=>.ok (togT 4 ns,R'))∧KidsAt wr (w.heap.size+1) ov ks∧IsG wr b T' E f 0 0∧ks.length+T'.length≤1001∧ks≠[])∨(∃ (p x:Int) (T':List Tok) (vs:List (Array Value)),X=.error (p,x)∧x≠0∧RowF wr (w.heap.size+1) ov vs∧IsG wr b T' E f p x∧vs.length≤1001∧vs≠[]))∧Hid (w.grownBy wr (some b))∧Hid (Box wr w.heap.size ndZero 25)) (fun _ wr=>leftE b wr)
 case atStart=>exact ⟨HI0,G1,X1⟩
 case round =>
  clear HI0 G1 X1 G0 X0 HFEW HJT
  obtain ⟨HI,G,X0⟩:=hrel
  rcases HI.out with ⟨k,T',ks,hE,hK,hR,hl,hks⟩ | ⟨p,x,T',vs,hE,hx,hK,hR,hl,hvs⟩
  ·have K:=qh hK
   have Rr:=qh hR
   have HE:=qh hE
   obtain ⟨k,rfl⟩:∃ m,k=m+1:=by
    rcases k with _ | k
    ·exact absurd hE (HNE.out 0)
    ·exact ⟨k,rfl⟩
   obtain ⟨A0,c0,hbx,-,-⟩:=hR.box
   have b4:=(hbx.cell (i:=4) rfl:wr.cell? ⟨b,4,none⟩=some (.int .i64 0))
   have HK:=gkind_any wr b T' E f 0 0 hR
   clear hbx HI
   rcases hc:kindIs T' [5] with _ | _
   ·have HGO:Hid (∃ vs,Gone w wr b E f 4 X u5 vs):=qh (by
     rw [hE,preO_end hc]
     exact Gone.right HLT.out hK hR G.out X0.out (by omega))
    have HNV:Hid (∀ vs,Gone w wr b E f 4 X u5 vs→vs≠[]):=qh fun vs hg e=>by
     subst e
     have h1:=hg.row.own.form
     obtain ⟨A1,c1,h1,-⟩:=h1
     obtain ⟨A2,c2,h2,-⟩:=hK.tree 4
     rw [h2] at h1
     injection h1 with _ h3 _
     exact hks (List.eq_nil_of_length_eq_zero h3)
    obtain ⟨z5,hz5⟩:∃ z,kd T'=z:=⟨_,rfl⟩
    have d5:(z5 == 5)=false:=by
     rcases T' with _ | ⟨s,S⟩
     ·rw [← hz5];rfl
     ·have h7:¬ s.k=5:=by simpa [kindIs] using hc
      rw [← hz5]
      show (s.k == 5)=false
      simpa using h7
    rw [hz5] at HK
    have HKK:=qh HK
    clear hE hK hR hl hks K Rr HE hc HK hz5
    go_wp2_with fail
    refine HKK.out.mono ?_
    rintro e1 w2 ⟨rfl,rfl⟩
    obtain ⟨vs,hgo⟩:=HGO.out
    have GO:=qh hgo
    obtain ⟨A9,c9,hov,-,-,-⟩:=hgo.row.own.form
    subst hov
    have HF9:=qh hgo.fin
    have X9:=qh hgo.box
    clear hgo
    rcases vs with _ | ⟨v,_ | ⟨v2,vs⟩⟩
    ·exact absurd rfl (HNV.out [] GO.out)
    ·have hfv:=GO.out.row.form v (by simp)
     obtain ⟨k1,Ar,nr,cr,lo1,hi1,Ak,nk,ck,rfl⟩:=hfv
     obtain ⟨g,c',hv,-,-,hgl,hcell⟩:=GO.out.row.own.block (by simp)
     injection hv with hA _ _
     subst hA
     have q0:=hcell 0 (by simp)
     have q1:=hcell 1 (by simp)
     have q2:=hcell 2 (by simp)
     have q3:=hcell 3 (by simp)
     have q4:=hcell 4 (by simp)
     simp only [List.flatMap_cons,List.flatMap_nil,List.append_nil,List.getElem?_cons_zero,List.getElem?_cons_succ] at q0 q1 q2 q3 q4
     simp only [List.length_cons,List.length_nil,Nat.zero_add]
     clear hcell
     go_wp2_with (first
      | (refine store_nd wr _ _ w.heap.size ndZero #[.int .i64 k1,.slice Ar nr cr,.int .i64 lo1,.int .i64 hi1,.slice Ak nk ck] rfl rfl rfl rfl rfl X9.out rfl rfl (by simp [Value.oneCell']) ?_;intro w9 x9 g9;have Y9:=qh x9;have F9:=qh (HF9.out w9 g9);clear x9 g9)
      | fail)
     (try simp only [Exit.inBlock,Exit.then])
     exact bodyPost_ret (v:=.agg _) (ret_nd rfl _ _ w.heap.size _ rfl rfl Y9.out) rfl F9.out
    ·obtain ⟨z9,hz9⟩:∃ z,(v :: v2 :: vs).length=z:=⟨_,rfl⟩
     have d0:((z9:Int) == 0)=false:=by simp at hz9 ⊢;omega
     have d1:((z9:Int) == 1)=false:=by simp at hz9 ⊢;omega
     have d2:(z9 == 0)=false:=by simp at hz9 ⊢;omega
     have d3:(z9 == 1)=false:=by simp at hz9 ⊢;omega
     rw [hz9] at HF9 ⊢
     clear hz9
     go_wp2_with (first
      | (refine store_nd wr _ _ w.heap.size ndZero #[.int .i64 4,.slice none 0 0,.int .i64 0,.int .i64 0,.slice A9 z9 c9] rfl rfl rfl rfl rfl X9.out rfl rfl (by simp [Value.oneCell']) ?_;intro w9 x9 g9;have Y9:=qh x9;have F9:=qh (HF9.out w9 g9);clear x9 g9)
      | fail)
     (try simp only [Exit.inBlock,Exit.then])
     exact bodyPost_ret (v:=.agg _) (ret_nd rfl _ _ w.heap.size _ rfl rfl Y9.out) rfl F9.out
   ·obtain ⟨s,S,hT,-⟩:=kindIs_tail hc
    subst hT
    have hs5:s.k=5:=by simpa [kindIs] using hc
    have HER:Hid (∀ e,dJoin inner f E q S=.error e→X=.error e):=qh fun e hr=>by rw [hE,preO_err hc hr]
    have HOK:Hid (∀ n R,dJoin inner f E q S=.ok (n,R)→X=match preL (ks++[n]) (dOrL inner f E q k R) with | .error e=>.error e | .ok (ns,R')=>.ok (togT 4 ns,R')):=qh fun n R hr=>by rw [hE,preO_ok hc hr]
    have hnj:NE (dJoin inner f E q S):=fun p h=>HNE.out p (HER.out _ h)
    have HNJ:=qh hnj
    obtain ⟨gg,off,cs,m,A',hA',hm,hm1,hmc,hg,hb,t0,t1',t2,t3,t4,keep⟩:=hR.next
    have HKK:Hid (Calls Tryz.prog 46 #[.pointer (some ⟨b,0,none⟩)] wr fun e w'=>e=.returned (.int .i64 5)∧wr=w'):=qh (hs5▸HK)
    have HLL:Hid (ks.length+(s :: S).length≤1001):=qh hl
    have HLF:=qh Rr.out.leftR
    have b0:=(hb.cell (i:=0) rfl:wr.cell? ⟨b,0,none⟩=some (.slice (some ⟨gg,off,none⟩) (m+1) cs))
    have q0:(0:Int) < ((m:Int)+1):=by omega
    have q1:(0:Int) < ((m+1:Nat):Int):=by omega
    have HKP:=qh keep
    have HBU:=qh hb
    have HJS:Hid (∀ u,IsG u b S E f 0 0→Calls Tryz.prog 45 #[.pointer (some ⟨b,0,none⟩),.int .i64 deep] u (NdG u b E f (dJoin inner f E q S))):=qh fun u hu=>HJJ.out u S hnj hu
    have HSJS:=qh (HSJ.out S)
    obtain ⟨vs,h0,hrow,hk⟩:=hK.rowF
    have HH0:=qh h0
    have HROW:=qh hrow
    obtain ⟨A3,c3,hov,-,-,-⟩:=hrow.own.form
    subst hov
    obtain ⟨nn,hnn⟩:∃ nn,vs.length=nn:=⟨_,rfl⟩
    have hnl:nn≤1001:=by omega
    have HNN:=qh hnn
    have HKD:Hid (∀ (i:Nat) (h1:i < vs.length) (h2:i < ks.length),Treed wr (fun x=>w.heap.size+1≤x∧x < wr.heap.size∧(Value.slice A3 nn c3).ownBlock≠some x) ks[i] vs[i]):=qh fun i h1 h2=>(hk i h1 h2).mono fun x hx=>⟨hx.1,hx.2.1,by rw [← hnn];exact hx.2.2⟩
    rw [hnn] at HROW K ⊢
    have ZW:Hid (w.heap.size+1≤wr.heap.size):=qh X0.out.lt
    have HSL:Hid ((s :: S).length=S.length+1):=qh rfl
    obtain ⟨AX,hAX⟩:∃ y,dJoin inner f E q S=y:=⟨_,rfl⟩
    rw [hAX] at HJS HSJS HNJ HER HOK
    clear hE hK hR hl hks HE hnj hc hs5 h0 hrow hk hnn HK hm hmc hg hb t0 t1' t2 t3 t4 keep hAX
    go_wp2_with fail
    refine HKK.out.mono ?_
    rintro e1 w2 ⟨rfl,rfl⟩
    go_wp2_with (first
     | (refine store_in _ _ _ b 0 (.slice A' m (cs - 1)) _ rfl rfl rfl tokensInfo rfl rfl rfl HBU.out (by simp) (by simp [maxLen]) ?_;intro w3 x3 g3;have R3:=qh (HKP.out w3 (under g3 (Nat.le_of_lt HBU.out.lt)) x3);have GD:=qh g3;clear x3 g3)
     | fail)
    refine (HJS.out w3 R3.out).mono ?_
    rintro e1 w1 ⟨g1',hm⟩
    have g1:wr.grownBy w1 (some b):=GD.out.trans g1'
    clear b0 b4
    rcases AX with ⟨p,x⟩ | ⟨n,Ra⟩
    ·obtain ⟨v,Ra,rfl,hfv,r1⟩:=hm
     obtain ⟨k1,Ar,nr,cr,lo1,hi1,Ak,nk,ck,rfl⟩:=hfv
     have HEE:Hid (X=.error (p,x)):=qh (HER.out _ rfl)
     have hx:x≠0:=fun e=>HNJ.out p (by rw [e])
     have HXX:=qh hx
     have N2:w1.grownBy (w1.alloc (.cells #[.int .i64 k1,.slice Ar nr cr,.int .i64 lo1,.int .i64 hi1,.slice Ak nk ck] 25)) none:=grown_new w1 _ none
     have GU:Hid (wr.grownBy w1 (some b)):=qh g1
     have XU:Hid (Box w1 w.heap.size ndZero 25):=qh (X0.out.kept g1 (by have:=HLT.out;simp;omega))
     have RU:=qh r1
     have ZU:=qh (Nat.le_trans ZW.out GU.out.size)
     have HOU:Hid (OwnN w1 (w.heap.size+1) 25 5 (.slice A3 nn c3) nn (vs.flatMap Array.toList)):=qh (by
      have h:=HROW.out.own.keep GU.out (.inr fun e=>by have:=(HROW.out.own.inside b e).1;have:=HLT.out;omega)
      rw [HNN.out] at h
      exact h)
     have RPU:Hid (∀ (v':Value) (w':World),OwnN w' (w.heap.size+1) 25 5 v' (nn+1) (vs.flatMap Array.toList++(#[.int .i64 k1,.slice Ar nr cr,.int .i64 lo1,.int .i64 hi1,.slice Ak nk ck]:Array Value).toList)→RowF w' (w.heap.size+1) v' (vs++[#[.int .i64 k1,.slice Ar nr cr,.int .i64 lo1,.int .i64 hi1,.slice Ak nk ck]])):=qh fun v' w' o=>RowF.push HROW.out.form ⟨_,_,_,_,_,_,_,_,_,rfl⟩ (by rw [HNN.out];exact o)
     clear g1 r1 N2 hx g1'
     go_wp2_with (first
      | (at_builtin;go_loud (refine appN_at ndT w1 _ (w.heap.size+1) _ _ _ (.slice A3 nn c3) nn 1 (vs.flatMap Array.toList) [.int .i64 k1,.slice Ar nr cr,.int .i64 lo1,.int .i64 hi1,.slice Ak nk ck] _ _ rfl rfl rfl rfl (HOU.out.alloc _) (Lies.lit (w:=w1) (e:=25) #[.int .i64 k1,.slice Ar nr cr,.int .i64 lo1,.int .i64 hi1,.slice Ak nk ck]) rfl (by simp [Value.oneCell']) ((Below.refl _ _).alloc ZU.out _) (by have:=ZU.out;rw [World.size_alloc];omega) (by unfold maxLen;omega) (by omega) ?_;intro v2 w2 o2 b2 g2 e2;have K2:=qh (RPU.out v2 w2 o2);have G2:=qh (grown_below (G.out.trans GU.out) b2 (Nat.le_succ _));have X2:=qh (XU.out.below b2 (Nat.lt_succ_self _));have R2:=qh (RU.out.below b2 (by have:=HLT.out;omega));clear o2 b2 g2 e2))
      | fail)
     go_roundw
     case rel=>exact ⟨qh (.inr ⟨p,x,_,vs++[#[.int .i64 k1,.slice Ar nr cr,.int .i64 lo1,.int .i64 hi1,.slice Ak nk ck]],HEE.out,HXX.out,K2.out,R2.out,by have h1:=HLL.out;have h2:=HNN.out;have h3:=HH0.out;simp at *;omega,by simp⟩),G2,X2⟩
     case measure=>have h1:=R2.out.leftW HXX.out;have h2:=HLF.out;simp at *;omega
    ·obtain ⟨v,rfl,t1,r1⟩:=hm
     obtain ⟨k1,Ar,nr,cr,lo1,hi1,Ak,nk,ck,hv⟩:=t1.formV
     subst hv
     have N2:w1.grownBy (w1.alloc (.cells #[.int .i64 k1,.slice Ar nr cr,.int .i64 lo1,.int .i64 hi1,.slice Ak nk ck] 25)) none:=grown_new w1 _ none
     have GU:Hid (wr.grownBy w1 (some b)):=qh g1
     have XU:Hid (Box w1 w.heap.size ndZero 25):=qh (X0.out.kept g1 (by have:=HLT.out;simp;omega))
     have RU:=qh r1
     have ZU:=qh (Nat.le_trans ZW.out GU.out.size)
     have HOU:Hid (OwnN w1 (w.heap.size+1) 25 5 (.slice A3 nn c3) nn (vs.flatMap Array.toList)):=qh (by
      have h:=HROW.out.own.keep GU.out (.inr fun e=>by have:=(HROW.out.own.inside b e).1;have:=HLT.out;omega)
      rw [HNN.out] at h
      exact h)
     have TU:Hid (Treed w1 (Fresh wr w1) n #[.int .i64 k1,.slice Ar nr cr,.int .i64 lo1,.int .i64 hi1,.slice Ak nk ck]):=qh (t1.mono fun x hx=>⟨by have:=hx.1;have:=GD.out.size;omega,hx.2⟩)
     have HSR:=qh (HSJS.out n Ra rfl)
     have HEE:=qh (HOK.out n Ra rfl)
     have HKU:Hid (∀ (i:Nat) (h1:i < vs.length) (h2:i < ks.length),Treed w1 (fun x=>w.heap.size+1≤x∧x < w1.heap.size∧(Value.slice A3 nn c3).ownBlock≠some x) ks[i] vs[i]):=qh fun i h1 h2=>((HKD.out i h1 h2).grown GU.out (fun x hx e=>by have:=hx.1;have:=HLT.out;injection e with e;omega)).mono fun x hx=>⟨hx.1,Nat.lt_of_lt_of_le hx.2.1 GU.out.size,hx.2.2⟩
     have HPU:Hid (∀ (lit:Obj) (v':Value) (w':World),OwnN w' (w.heap.size+1) 25 5 v' (nn+1) (vs.flatMap Array.toList++(#[.int .i64 k1,.slice Ar nr cr,.int .i64 lo1,.int .i64 hi1,.slice Ak nk ck]:Array Value).toList)→(w1.alloc lit).grownBy w' (Value.slice A3 nn c3).ownBlock→(v'.ownBlock=(Value.slice A3 nn c3).ownBlock∨∃ q,v'.ownBlock=some q∧(w1.alloc lit).heap.size≤q)→KidsAt w' (w.heap.size+1) v' (ks++[n])):=qh fun lit v' w' o g e=>KidsAt.push (w:=wr) (lit:=lit) HH0.out (by have h1:=HROW.out.own;rw [HH0.out] at h1;exact h1) HKU.out GU.out.size ZW.out TU.out (by rw [← HH0.out,HNN.out];exact o) g e
     clear g1 t1 r1 N2 g1'
     go_wp2_with (first
      | (at_builtin;go_loud (refine appN_at ndT w1 _ (w.heap.size+1) _ _ _ (.slice A3 nn c3) nn 1 (vs.flatMap Array.toList) [.int .i64 k1,.slice Ar nr cr,.int .i64 lo1,.int .i64 hi1,.slice Ak nk ck] _ _ rfl rfl rfl rfl (HOU.out.alloc _) (Lies.lit (w:=w1) (e:=25) #[.int .i64 k1,.slice Ar nr cr,.int .i64 lo1,.int .i64 hi1,.slice Ak nk ck]) rfl (by simp [Value.oneCell']) ((Below.refl _ _).alloc ZU.out _) (by have:=ZU.out;rw [World.size_alloc];omega) (by unfold maxLen;omega) (by omega) ?_;intro v2 w2 o2 b2 g2 e2;have K2:=qh (HPU.out _ v2 w2 o2 g2 e2);have G2:=qh (grown_below (G.out.trans GU.out) b2 (Nat.le_succ _));have X2:=qh (XU.out.below b2 (Nat.lt_succ_self _));have R2:=qh (RU.out.below b2 (by have:=HLT.out;omega));clear o2 b2 g2 e2))
      | fail)
     go_roundw
     case rel=>exact ⟨qh (.inl ⟨k,Ra,ks++[n],HEE.out,K2.out,R2.out,by have h1:=HLL.out;have h2:=HSR.out;simp at *;omega,by simp⟩),G2,X2⟩
     case measure=>have h1:=R2.out.leftR;have h2:=HLF.out;have h3:=HSR.out;simp at *;omega
  ·have HGO:Hid (∃ vs,Gone w wr b E f 4 X u5 vs):=qh ⟨vs,by
    rw [hE]
    exact Gone.wrong HLT.out hK hR G.out X0.out hl⟩
   have HNV:Hid (∀ vs,Gone w wr b E f 4 X u5 vs→vs≠[]):=qh fun vs' hg e=>by
    subst e
    obtain ⟨A1,c1,h1,-⟩:=hg.row.own.form
    obtain ⟨A2,c2,h2,-⟩:=hK.own.form
    rw [h2] at h1
    injection h1 with _ h3 _
    exact hvs (List.eq_nil_of_length_eq_zero h3)
   obtain ⟨A0,c0,hbx,-,-⟩:=hR.box
   have b4:=(hbx.cell (i:=4) rfl:wr.cell? ⟨b,4,none⟩=some (.int .i64 x))
   have d0:(x == 0)=false:=by simpa using hx
   clear hE hK hR hl hbx HI hx hvs
   obtain ⟨vs,hgo⟩:=HGO.out
   have GO:=qh hgo
   obtain ⟨A9,c9,hov,-,-,-⟩:=hgo.row.own.form
   subst hov
   have HF9:=qh hgo.fin
   have X9:=qh hgo.box
   clear hgo
   rcases vs with _ | ⟨v,_ | ⟨v2,vs⟩⟩
   ·exact absurd rfl (HNV.out [] GO.out)
   ·have hfv:=GO.out.row.form v (by simp)
    obtain ⟨k1,Ar,nr,cr,lo1,hi1,Ak,nk,ck,rfl⟩:=hfv
    obtain ⟨g,c',hv,-,-,hgl,hcell⟩:=GO.out.row.own.block (by simp)
    injection hv with hA _ _
    subst hA
    have q0:=hcell 0 (by simp)
    have q1:=hcell 1 (by simp)
    have q2:=hcell 2 (by simp)
    have q3:=hcell 3 (by simp)
    have q4:=hcell 4 (by simp)
    simp only [List.flatMap_cons,List.flatMap_nil,List.append_nil,List.getElem?_cons_zero,List.getElem?_cons_succ] at q0 q1 q2 q3 q4
    simp only [List.length_cons,List.length_nil,Nat.zero_add]
    clear hcell
    go_wp2_with (first
     | (refine store_nd wr _ _ w.heap.size ndZero #[.int .i64 k1,.slice Ar nr cr,.int .i64 lo1,.int .i64 hi1,.slice Ak nk ck] rfl rfl rfl rfl rfl X9.out rfl rfl (by simp [Value.oneCell']) ?_;intro w9 x9 g9;have Y9:=qh x9;have F9:=qh (HF9.out w9 g9);clear x9 g9)
     | fail)
    (try simp only [Exit.inBlock,Exit.then])
    exact bodyPost_ret (v:=.agg _) (ret_nd rfl _ _ w.heap.size _ rfl rfl Y9.out) rfl F9.out
   ·obtain ⟨z9,hz9⟩:∃ z,(v :: v2 :: vs).length=z:=⟨_,rfl⟩
    have d0:((z9:Int) == 0)=false:=by simp at hz9 ⊢;omega
    have d1:((z9:Int) == 1)=false:=by simp at hz9 ⊢;omega
    have d2:(z9 == 0)=false:=by simp at hz9 ⊢;omega
    have d3:(z9 == 1)=false:=by simp at hz9 ⊢;omega
    rw [hz9] at HF9 ⊢
    clear hz9
    go_wp2_with (first
     | (refine store_nd wr _ _ w.heap.size ndZero #[.int .i64 4,.slice none 0 0,.int .i64 0,.int .i64 0,.slice A9 z9 c9] rfl rfl rfl rfl rfl X9.out rfl rfl (by simp [Value.oneCell']) ?_;intro w9 x9 g9;have Y9:=qh x9;have F9:=qh (HF9.out w9 g9);clear x9 g9)
     | fail)
    (try simp only [Exit.inBlock,Exit.then])
    exact bodyPost_ret (v:=.agg _) (ret_nd rfl _ _ w.heap.size _ rfl rfl Y9.out) rfl F9.out
end
section
open Go.RowKit
def groupI (c:Int):Bool:=decide (c=100) || decide (c=119) || decide (c=115) || decide (c=68) || decide (c=87) || decide (c=83)
def groups15:List Int:=[100,119,115,68,87,83]
theorem groups_in {c:Int} (h:c∈groups15):groupI c=true:=by
 simp only [groups15,List.mem_cons,List.mem_nil_iff,or_false] at h
 simp [groupI]
 omega
theorem groups_not {c:Int} (h:∀ s∈groups15,s≠c):groupI c=false:=by
 simp only [groups15,List.mem_cons,List.mem_nil_iff,or_false,forall_eq_or_imp,forall_eq] at h
 simp [groupI]
 omega
theorem among6_any (c:Int) (w:World):Calls Tryz.prog 91 #[.int .i64 c,(.string { data:=#[100,119,115,68,87,83] })] w fun e w'=>e=.returned (.bool (groupI c))∧w=w':=by
 obtain ⟨Z,hZ⟩:∃ Z,groupI c=Z:=⟨_,rfl⟩
 have HY:Hid (c∈groups15→Z=true):=qh fun h=>hZ▸groups_in h
 have HNO:Hid ((∀ s∈groups15.take 6,s≠c)→Z=false):=qh fun h=>hZ▸groups_not h
 rw [hZ]
 clear hZ
 go_enter Tryz.func91,Tryz.ntmps91
 go_wp2_with fail
 go_loopw [5] (fun iv wr=>∃ k:Nat,k≤6∧iv=.int .i64 k∧Hid (∀ s∈groups15.take k,s≠c)∧wr=w) (fun iv _=>6 - (intOf iv).toNat)
 case atStart=>exact ⟨0,by omega,rfl,qh (by simp),rfl⟩
 case round =>
  obtain ⟨k,hk,rfl,HN,rfl⟩:=hrel
  have hc:k=6∨k=0∨k=1∨k=2∨k=3∨k=4∨k=5:=by omega
  rcases hc with rfl | rfl | rfl | rfl | rfl | rfl | rfl
  ·have hz:=HNO.out HN.out
   subst hz
   go_wp2_with fail
   go_ret
   exact ⟨rfl,rfl⟩
  ·have e0:(({ data:=#[100,119,115,68,87,83] }:ByteArray)[0]'(by decide)).toNat=100:=rfl
   rcases hz:((100:Int) == c) with _ | _
   ·have HN2:Hid (∀ s∈groups15.take 1,s≠c):=qh fun s hs=>by
     rw [show groups15.take 1=groups15.take 0++[100] from rfl,List.mem_append,List.mem_singleton] at hs
     rcases hs with hs | rfl
     ·exact HN.out s hs
     ·simpa using hz
    go_wp2_with fail
    go_roundw
    case rel=>exact ⟨1,by omega,by go_num,HN2,trivial⟩
    case measure=>simp [intOf]
   ·have hzt:=HY.out (by rw [← show (100:Int)=c by simpa using hz];decide)
    subst hzt
    go_wp2_with fail
    go_ret
    exact ⟨rfl,rfl⟩
  ·have e0:(({ data:=#[100,119,115,68,87,83] }:ByteArray)[1]'(by decide)).toNat=119:=rfl
   rcases hz:((119:Int) == c) with _ | _
   ·have HN2:Hid (∀ s∈groups15.take 2,s≠c):=qh fun s hs=>by
     rw [show groups15.take 2=groups15.take 1++[119] from rfl,List.mem_append,List.mem_singleton] at hs
     rcases hs with hs | rfl
     ·exact HN.out s hs
     ·simpa using hz
    go_wp2_with fail
    go_roundw
    case rel=>exact ⟨2,by omega,by go_num,HN2,trivial⟩
    case measure=>simp [intOf]
   ·have hzt:=HY.out (by rw [← show (119:Int)=c by simpa using hz];decide)
    subst hzt
    go_wp2_with fail
    go_ret
    exact ⟨rfl,rfl⟩
  ·have e0:(({ data:=#[100,119,115,68,87,83] }:ByteArray)[2]'(by decide)).toNat=115:=rfl
   rcases hz:((115:Int) == c) with _ | _
   ·have HN2:Hid (∀ s∈groups15.take 3,s≠c):=qh fun s hs=>by
     rw [show groups15.take 3=groups15.take 2++[115] from rfl,List.mem_append,List.mem_singleton] at hs
     rcases hs with hs | rfl
     ·exact HN.out s hs
     ·simpa using hz
    go_wp2_with fail
    go_roundw
    case rel=>exact ⟨3,by omega,by go_num,HN2,trivial⟩
    case measure=>simp [intOf]
   ·have hzt:=HY.out (by rw [← show (115:Int)=c by simpa using hz];decide)
    subst hzt
    go_wp2_with fail
    go_ret
    exact ⟨rfl,rfl⟩
  ·have e0:(({ data:=#[100,119,115,68,87,83] }:ByteArray)[3]'(by decide)).toNat=68:=rfl
   rcases hz:((68:Int) == c) with _ | _
   ·have HN2:Hid (∀ s∈groups15.take 4,s≠c):=qh fun s hs=>by
     rw [show groups15.take 4=groups15.take 3++[68] from rfl,List.mem_append,List.mem_singleton] at hs
     rcases hs with hs | rfl
     ·exact HN.out s hs
     ·simpa using hz
    go_wp2_with fail
    go_roundw
    case rel=>exact ⟨4,by omega,by go_num,HN2,trivial⟩
    case measure=>simp [intOf]
   ·have hzt:=HY.out (by rw [← show (68:Int)=c by simpa using hz];decide)
    subst hzt
    go_wp2_with fail
    go_ret
    exact ⟨rfl,rfl⟩
  ·have e0:(({ data:=#[100,119,115,68,87,83] }:ByteArray)[4]'(by decide)).toNat=87:=rfl
   rcases hz:((87:Int) == c) with _ | _
   ·have HN2:Hid (∀ s∈groups15.take 5,s≠c):=qh fun s hs=>by
     rw [show groups15.take 5=groups15.take 4++[87] from rfl,List.mem_append,List.mem_singleton] at hs
     rcases hs with hs | rfl
     ·exact HN.out s hs
     ·simpa using hz
    go_wp2_with fail
    go_roundw
    case rel=>exact ⟨5,by omega,by go_num,HN2,trivial⟩
    case measure=>simp [intOf]
   ·have hzt:=HY.out (by rw [← show (87:Int)=c by simpa using hz];decide)
    subst hzt
    go_wp2_with fail
    go_ret
    exact ⟨rfl,rfl⟩
  ·have e0:(({ data:=#[100,119,115,68,87,83] }:ByteArray)[5]'(by decide)).toNat=83:=rfl
   rcases hz:((83:Int) == c) with _ | _
   ·have HN2:Hid (∀ s∈groups15.take 6,s≠c):=qh fun s hs=>by
     rw [show groups15.take 6=groups15.take 5++[83] from rfl,List.mem_append,List.mem_singleton] at hs
     rcases hs with hs | rfl
     ·exact HN.out s hs
     ·simpa using hz
    go_wp2_with fail
    go_roundw
    case rel=>exact ⟨6,by omega,by go_num,HN2,trivial⟩
    case measure=>simp [intOf]
   ·have hzt:=HY.out (by rw [← show (83:Int)=c by simpa using hz];decide)
    subst hzt
    go_wp2_with fail
    go_ret
    exact ⟨rfl,rfl⟩
theorem escV_is (c:Int):escV c=if c=110 then .tuple #[.int .i64 10,.bool false,.bool true] else if c=116 then .tuple #[.int .i64 9,.bool false,.bool true] else if signI c=true then .tuple #[.int .i64 c,.bool false,.bool true] else if groupI c=true then .tuple #[.int .i64 c,.bool true,.bool true] else .tuple #[.int .i64 0,.bool false,.bool false]:=by
 unfold escV escI
 by_cases h1:c=110
 ·rw [if_pos h1,if_pos h1]
 rw [if_neg h1,if_neg h1]
 by_cases h2:c=116
 ·rw [if_pos h2,if_pos h2]
 rw [if_neg h2,if_neg h2]
 by_cases h3:c=100∨c=119∨c=115∨c=68∨c=87∨c=83
 ·have hs:signI c=false:=by rcases h3 with rfl | rfl | rfl | rfl | rfl | rfl <;> rfl
  have hg:groupI c=true:=by rcases h3 with rfl | rfl | rfl | rfl | rfl | rfl <;> rfl
  rw [if_pos h3,hs,hg,if_neg (by simp),if_pos rfl]
 ·have hg:groupI c=false:=by simp [groupI];omega
  rw [if_neg h3,hg]
  rcases hs:signI c with _ | _
  ·rw [if_neg (by simp),if_neg (by simp),if_neg (by simp)]
  ·rw [if_pos rfl,if_pos rfl]
theorem rescape15_any (x:Int) (w:World):Calls Tryz.prog 83 #[.int .i64 x] w fun e w'=>e=.returned (escV x)∧w=w':=by
 rw [escV_is]
 have HS:=qh (rsign15_any x w)
 have HG:=qh (among6_any x w)
 by_cases h110:x=110
 ·rw [if_pos h110]
  have d1:(x == 110)=true:=by simpa using h110
  clear h110
  go_enter Tryz.func83,Tryz.ntmps83
  go_wp2_with fail
  go_ret3
  exact ⟨rfl,rfl⟩
 rw [if_neg h110]
 have d1:(x == 110)=false:=by simpa using h110
 by_cases h116:x=116
 ·rw [if_pos h116]
  have d2:(x == 116)=true:=by simpa using h116
  clear h110 h116
  go_enter Tryz.func83,Tryz.ntmps83
  go_wp2_with fail
  go_ret3
  exact ⟨rfl,rfl⟩
 rw [if_neg h116]
 have d2:(x == 116)=false:=by simpa using h116
 clear h110 h116
 obtain ⟨s,hs⟩:∃ s,signI x=s:=⟨_,rfl⟩
 obtain ⟨g,hg⟩:∃ g,groupI x=g:=⟨_,rfl⟩
 rw [hs] at HS ⊢
 rw [hg] at HG ⊢
 clear hs hg
 rcases s with _ | _
 ·rw [if_neg (by simp)]
  rcases g with _ | _
  ·rw [if_neg (by simp)]
   go_enter Tryz.func83,Tryz.ntmps83
   go_wp2_with fail
   refine HS.out.mono ?_
   rintro e wq ⟨rfl,rfl⟩
   go_wp2_with fail
   refine HG.out.mono ?_
   rintro e wq ⟨rfl,rfl⟩
   go_wp2_with fail
   go_ret3
   exact ⟨rfl,rfl⟩
  ·rw [if_pos rfl]
   go_enter Tryz.func83,Tryz.ntmps83
   go_wp2_with fail
   refine HS.out.mono ?_
   rintro e wq ⟨rfl,rfl⟩
   go_wp2_with fail
   refine HG.out.mono ?_
   rintro e wq ⟨rfl,rfl⟩
   go_wp2_with fail
   go_ret3
   exact ⟨rfl,rfl⟩
 ·rw [if_pos rfl]
  go_enter Tryz.func83,Tryz.ntmps83
  go_wp2_with fail
  refine HS.out.mono ?_
  rintro e wq ⟨rfl,rfl⟩
  go_wp2_with fail
  go_ret3
  exact ⟨rfl,rfl⟩
end
end Go.Proofs.YtoeocodfndbebaaGreatDoor
