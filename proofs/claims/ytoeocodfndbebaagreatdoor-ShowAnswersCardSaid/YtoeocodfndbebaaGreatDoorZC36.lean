/- Shared texts, shaken for one claim. -/
import Derived.Test.YtoeocodfndbebaaGreatDoorZC35
set_option maxRecDepth 20000
set_option maxHeartbeats 16000000
namespace Go.Proofs.YtoeocodfndbebaaGreatDoor
section
open Go.RowKit
theorem numT_two (D:List Int) (hne:D≠[]) (hD:∀ d∈D,isDig d=true):(numT D=21∧numD D=-1)∨(numT D=numD D∧0≤numD D∧numD D≤20):=by
 have hb:=numFold_bound D 0 (by omega) (by omega) hD
 have h:=numD_is D hD
 have ht:numT D=21∨numT D=D.foldl numF 0:=by
  unfold numT
  rw [if_neg hne]
  split
  ·exact .inl rfl
  ·exact .inr rfl
 by_cases h21:numT D=21
 ·exact .inl ⟨h21,by rw [h,if_pos (.inr h21)]⟩
 ·have hn:numD D=numT D:=by rw [h,if_neg (by rintro (h | h);exact hne h;exact h21 h)]
  refine .inr ⟨hn.symm,?_⟩
  rw [hn]
  rcases ht with ht | ht <;> omega
section
variable {l:List Int} {fr k n:Nat} {D:List Int}
theorem bra_end (hD:digT l k=D) (hn:k+D.length=n) (h:l.length=n):braT l fr k=.error (n,4):=by
 unfold braT;rw [hD,hn,nxT_end (by omega)]
theorem bra_none (hD:digT l k=[]) (hk:k < l.length):braT l fr k=.error (fr,8):=by
 unfold braT;rw [hD,nxT_at (by simpa using hk)]
 simp [numT,shutT,badB]
theorem bra_one (hD:digT l k=D) (hn:k+D.length=n) (hne:D≠[]) (hlt:n < l.length) (h44:l[n]≠44):braT l fr k=if l[n]≠125∨numD D < 0 then .error (fr,8) else .ok (⟨6,0,numD D,numD D,0⟩,n+1):=by
 have h2:=numT_two D hne (hD▸digT_all l k)
 unfold braT;rw [hD,hn,nxT_at hlt]
 simp only [h44,false_and,if_false]
 unfold shutT badB
 by_cases h125:l[n]=125
 ·rcases h2 with ⟨h1,h2⟩ | ⟨h1,h2,h3⟩
  ·rw [h1,h2];simp
  ·rw [h1,if_neg (by simp [h125];omega),if_neg (by simp [h125];omega)]
 ·simp [h125]
theorem bra_end2 (hD:digT l k=D) (hn:k+D.length=n) (hne:D≠[]) (hlt:n < l.length) (h44:l[n]=44) (hl:l.length=n+1):braT l fr k=.error (n+1,4):=by
 unfold braT;rw [hD,hn,nxT_at hlt]
 simp only [h44,hne,ne_eq,not_false_eq_true,and_self,if_true]
 rw [digT_end (by omega),List.length_nil,Nat.add_zero,nxT_end (by omega)]
theorem bra_two {D2:List Int} {n2:Nat} (hD:digT l k=D) (hn:k+D.length=n) (hne:D≠[]) (hlt:n < l.length) (h44:l[n]=44) (hD2:digT l (n+1)=D2) (hn2:n+1+D2.length=n2):braT l fr k=if h:n2 < l.length then (if l[n2]≠125∨numD D < 0∨(D2≠[]∧(numD D2=-1∨numD D2 < numD D)) then .error (fr,8) else .ok (⟨6,0,numD D,numD D2,0⟩,n2+1)) else .error (n2,4):=by
 have h2:=numT_two D hne (hD▸digT_all l k)
 have h3:=numT_two D2
 unfold braT;rw [hD,hn,nxT_at hlt]
 simp only [h44,hne,ne_eq,not_false_eq_true,and_self,if_true]
 rw [hD2,hn2]
 by_cases h:n2 < l.length
 ·rw [dif_pos h,nxT_at h]
  simp only
  unfold shutT badB
  by_cases h125:l[n2]=125
  ·by_cases hd2:D2=[]
   ·subst hd2
    have e1:numT []=-1:=rfl
    have e2:numD []=-1:=by simp [numD]
    rw [e1,e2]
    rcases h2 with ⟨h1,h2⟩ | ⟨h1,h2,h3⟩
    ·rw [h1,h2,if_pos (by simp;omega),if_pos (by simp)]
    ·rw [h1,if_neg (by simp [h125];omega),if_neg (by simp [h125];omega)]
   ·have h4:=h3 hd2 (hD2▸digT_all l (n+1))
    rcases h2 with ⟨h1,h2⟩ | ⟨h1,h2,h3⟩ <;> rcases h4 with ⟨h5,h6⟩ | ⟨h5,h6,h7⟩
    ·rw [h1,h2,h5,h6];simp
    ·rw [h1,h2,if_pos (by simp;omega),if_pos (by simp)]
    ·rw [h1,h5,h6,if_pos (by simp;omega),if_pos (by simp [hd2])]
    ·rw [h1,h5]
     by_cases hlt2:numD D2 < numD D
     ·rw [if_pos (by simp;omega),if_pos (by simp [hd2,hlt2])]
     ·rw [if_neg (by simp [h125];omega),if_neg (by simp [h125,hd2];omega)]
  ·simp [h125]
 ·rw [dif_neg h,nxT_end (by omega)]
end
theorem IsD.charAt {w:World} {b c k g off:Nat} {l:List Int} {tv:Value} {T:List Tok} {p x:Int} (h:IsD w b (some ⟨g,off,none⟩) l c k tv T p x) {i:Nat} (hi:i < l.length) {y:Int} (hy:l[i]=y):w.cell? ⟨g,off+i,none⟩=some (.int .i64 y):=by
 obtain ⟨g',off',hA,-,hc⟩:=h.char hi
 injection hA with hA
 injection hA with e1 e2
 subst e1 e2
 rw [hc,hy]
def BraTo (w:World) (b c:Nat) (A:Option Addr) (l:List Int) (tv:Value) (T:List Tok) (r:Wr (Tok×Nat)) (ed:Ending) (w':World):Prop:=w.grownBy w' (some b)∧match r with
 | .ok (t,k')=>ed=.returned (.tuple #[.int .i64 t.lo,.int .i64 t.hi])∧IsD w' b A l c k' tv T 0 0
 | .error (q,y)=>(∃ u v,ed=.returned (.tuple #[.int .i64 u,.int .i64 v]))∧∃ k',IsD w' b A l c k' tv T q y
theorem dbra_end (w:World) (b c k fr:Nat) (A:Option Addr) (l:List Int) (tv:Value) (T:List Tok) (H:Hid (IsD w b A l c k tv T 0 0)) (n:Nat) (lo:Int) (HN1:Hid (∀ u,IsD u b A l c k tv T 0 0→Calls Tryz.prog 80 #[.pointer (some ⟨b,0,none⟩)] u (NumTo u b c n A l tv T lo))) (hn:l.length=n) (r:Wr (Tok×Nat)) (HR:Hid (r=.error (n,4))) :
 Calls Tryz.prog 66 #[.pointer (some ⟨b,0,none⟩),.int .i64 (fr:Int)] w (BraTo w b c A l tv T r):=by
 have HL:=qh hn
 clear hn
 have c1:=H.out.c1
 go_enter Tryz.func66,Tryz.ntmps66
 go_wp2_with fail
 clear c1
 refine (HN1.out w H.out).mono ?_
 rintro e w1 ⟨rfl,h1,g1⟩
 have H1:=qh h1
 have G1:=qh g1
 have c1:=h1.c1
 clear h1 g1
 go_wp2_with fail
 have H1L:Hid (IsD w1 b A l c l.length tv T 0 0):=qh (by rw [HL.out];exact H1.out)
 refine (dends_end w1 b c A l tv T 0 H1L.out).mono ?_
 rintro e w2 ⟨rfl,h2,g2⟩
 have H2:=qh h2
 have G2:=qh (G1.out.trans g2)
 clear h2 g2
 go_wp2_with fail
 go_ret2
 rw [HR.out]
 have h2:=H2.out
 rw [HL.out] at h2
 exact ⟨G2.out,⟨_,_,rfl⟩,_,h2⟩
theorem dbra_none (w:World) (b c k fr:Nat) (A:Option Addr) (l:List Int) (tv:Value) (T:List Tok) (H:Hid (IsD w b A l c k tv T 0 0)) (n:Nat) (lo:Int) (HN1:Hid (∀ u,IsD u b A l c k tv T 0 0→Calls Tryz.prog 80 #[.pointer (some ⟨b,0,none⟩)] u (NumTo u b c n A l tv T lo))) (hn:n < l.length) (d0:((n:Int) == (k:Int))=true) (r:Wr (Tok×Nat)) (HR:Hid (r=.error (fr,8))) :
 Calls Tryz.prog 66 #[.pointer (some ⟨b,0,none⟩),.int .i64 (fr:Int)] w (BraTo w b c A l tv T r):=by
 have c1:=H.out.c1
 go_enter Tryz.func66,Tryz.ntmps66
 go_wp2_with fail
 clear c1
 refine (HN1.out w H.out).mono ?_
 rintro e w1 ⟨rfl,h1,g1⟩
 have H1:=qh h1
 have G1:=qh g1
 have c1:=h1.c1
 clear h1 g1
 go_wp2_with fail
 refine (dends_not w1 b c n A l tv T 0 0 H1.out hn).mono ?_
 rintro e w2 ⟨rfl,g⟩
 have H2:=qh (H1.out.grown g)
 have G2:=qh (G1.out.trans (grown_any g (some b)))
 clear c1
 have c0:=H2.out.c0
 have c1:=H2.out.c1
 clear g
 go_wp2_with fail
 refine (dfail_new w2 b c n A l tv T 0 H2.out (fr:Int) 8).mono ?_
 rintro e w3 ⟨rfl,h3,g3⟩
 have H3:=qh h3
 have G3:=qh (G2.out.trans g3)
 clear h3 g3
 go_wp2_with fail
 go_ret2
 rw [HR.out]
 exact ⟨G3.out,⟨_,_,rfl⟩,_,H3.out⟩
theorem dbra_onea (w:World) (b c k fr:Nat) (A:Option Addr) (l:List Int) (tv:Value) (T:List Tok) (H:Hid (IsD w b A l c k tv T 0 0)) (n:Nat) (lo:Int) (HN1:Hid (∀ u,IsD u b A l c k tv T 0 0→Calls Tryz.prog 80 #[.pointer (some ⟨b,0,none⟩)] u (NumTo u b c n A l tv T lo))) (hn:n < l.length) (d0:((n:Int) == (k:Int))=false) (y:Int) (hy:l[n]=y) (hy44:(y == 44)=false) (h1:y≠125) (r:Wr (Tok×Nat)) (HR:Hid (r=.error (fr,8))) :
 Calls Tryz.prog 66 #[.pointer (some ⟨b,0,none⟩),.int .i64 (fr:Int)] w (BraTo w b c A l tv T r):=by
 have HLT:=qh hn
 have k0:(0:Int)≤(n:Int):=by omega
 have k1:(n:Int) < (l.length:Int):=by omega
 have hw:=bw n (by have:=H.out.few;omega)
 have e1:(y != 125)=true:=by simpa using h1
 clear h1
 have c1:=H.out.c1
 go_enter Tryz.func66,Tryz.ntmps66
 go_wp2_with fail
 clear c1
 refine (HN1.out w H.out).mono ?_
 rintro e w1 ⟨rfl,h1,g1⟩
 have H1:=qh h1
 have G1:=qh g1
 have c1:=h1.c1
 clear h1 g1
 go_wp2_with fail
 refine (dends_not w1 b c n A l tv T 0 0 H1.out HLT.out).mono ?_
 rintro e w2 ⟨rfl,g⟩
 have H2:=qh (H1.out.grown g)
 have G2:=qh (G1.out.trans (grown_any g (some b)))
 clear c1
 have c0:=H2.out.c0
 have c1:=H2.out.c1
 clear g
 obtain ⟨g,off,hA,-,cc⟩:=H2.out.char HLT.out
 rw [hy] at cc
 subst hA
 clear hy
 go_wp2_with fail
 go_quiet (fail)
 have c0:=(H2.out.grown (grown_draws (grown_refl w2 none) nq)).c0
 have c1:=(H2.out.grown (grown_draws (grown_refl w2 none) nq)).c1
 go_wp2_with fail
 go_quiet (fail)
 go_wp2_with fail
 refine (dfail_new _ b c n _ l tv T 0 (H2.out.grown (grown_draws (grown_refl w2 none) _)) (fr:Int) 8).mono ?_
 rintro e wf ⟨rfl,hf,gf⟩
 have HF:=qh hf
 have GF:Hid (w.grownBy wf (some b)):=qh ((grown_draws G2.out _).trans gf)
 have c1:=hf.c1
 clear hf gf
 go_wp2_with (first
  | (refine storeD_at _ _ _ (n+1) rfl rfl rfl rfl rfl HF.out (by have:=HLT.out;omega) ?_;intro w8 h8 g8;have H8:=qh h8;have G8:=qh (GF.out.trans g8);clear h8 g8)
  | fail)
 all_goals
  go_ret2
  rw [HR.out]
  exact ⟨G8.out,⟨_,_,rfl⟩,_,H8.out⟩
theorem dbra_oneb (w:World) (b c k fr:Nat) (A:Option Addr) (l:List Int) (tv:Value) (T:List Tok) (H:Hid (IsD w b A l c k tv T 0 0)) (n:Nat) (lo:Int) (HN1:Hid (∀ u,IsD u b A l c k tv T 0 0→Calls Tryz.prog 80 #[.pointer (some ⟨b,0,none⟩)] u (NumTo u b c n A l tv T lo))) (hn:n < l.length) (d0:((n:Int) == (k:Int))=false) (y:Int) (hy:l[n]=y) (hy44:(y == 44)=false) (h1:y=125) (h2:lo < 0) (r:Wr (Tok×Nat)) (HR:Hid (r=.error (fr,8))) :
 Calls Tryz.prog 66 #[.pointer (some ⟨b,0,none⟩),.int .i64 (fr:Int)] w (BraTo w b c A l tv T r):=by
 have HLT:=qh hn
 have k0:(0:Int)≤(n:Int):=by omega
 have k1:(n:Int) < (l.length:Int):=by omega
 have hw:=bw n (by have:=H.out.few;omega)
 have e1:(y != 125)=false:=by simpa using h1
 have e2:decide (lo < 0)=true:=decide_eq_true h2
 clear h1 h2
 have c1:=H.out.c1
 go_enter Tryz.func66,Tryz.ntmps66
 go_wp2_with fail
 clear c1
 refine (HN1.out w H.out).mono ?_
 rintro e w1 ⟨rfl,h1,g1⟩
 have H1:=qh h1
 have G1:=qh g1
 have c1:=h1.c1
 clear h1 g1
 go_wp2_with fail
 refine (dends_not w1 b c n A l tv T 0 0 H1.out HLT.out).mono ?_
 rintro e w2 ⟨rfl,g⟩
 have H2:=qh (H1.out.grown g)
 have G2:=qh (G1.out.trans (grown_any g (some b)))
 clear c1
 have c0:=H2.out.c0
 have c1:=H2.out.c1
 clear g
 obtain ⟨g,off,hA,-,cc⟩:=H2.out.char HLT.out
 rw [hy] at cc
 subst hA
 clear hy
 go_wp2_with fail
 go_quiet (fail)
 have c0:=(H2.out.grown (grown_draws (grown_refl w2 none) nq)).c0
 have c1:=(H2.out.grown (grown_draws (grown_refl w2 none) nq)).c1
 go_wp2_with fail
 go_quiet (fail)
 go_wp2_with fail
 refine (dfail_new _ b c n _ l tv T 0 (H2.out.grown (grown_draws (grown_refl w2 none) _)) (fr:Int) 8).mono ?_
 rintro e wf ⟨rfl,hf,gf⟩
 have HF:=qh hf
 have GF:Hid (w.grownBy wf (some b)):=qh ((grown_draws G2.out _).trans gf)
 have c1:=hf.c1
 clear hf gf
 go_wp2_with (first
  | (refine storeD_at _ _ _ (n+1) rfl rfl rfl rfl rfl HF.out (by have:=HLT.out;omega) ?_;intro w8 h8 g8;have H8:=qh h8;have G8:=qh (GF.out.trans g8);clear h8 g8)
  | fail)
 all_goals
  go_ret2
  rw [HR.out]
  exact ⟨G8.out,⟨_,_,rfl⟩,_,H8.out⟩
theorem dbra_onec (w:World) (b c k fr:Nat) (A:Option Addr) (l:List Int) (tv:Value) (T:List Tok) (H:Hid (IsD w b A l c k tv T 0 0)) (n:Nat) (lo:Int) (HN1:Hid (∀ u,IsD u b A l c k tv T 0 0→Calls Tryz.prog 80 #[.pointer (some ⟨b,0,none⟩)] u (NumTo u b c n A l tv T lo))) (hn:n < l.length) (d0:((n:Int) == (k:Int))=false) (y:Int) (hy:l[n]=y) (hy44:(y == 44)=false) (h1:y=125) (h2:¬ lo < 0) (r:Wr (Tok×Nat)) (HR:Hid (r=.ok (⟨6,0,lo,lo,0⟩,n+1))) :
 Calls Tryz.prog 66 #[.pointer (some ⟨b,0,none⟩),.int .i64 (fr:Int)] w (BraTo w b c A l tv T r):=by
 have HLT:=qh hn
 have k0:(0:Int)≤(n:Int):=by omega
 have k1:(n:Int) < (l.length:Int):=by omega
 have hw:=bw n (by have:=H.out.few;omega)
 have e1:(y != 125)=false:=by simpa using h1
 have e2:decide (lo < 0)=false:=decide_eq_false h2
 have e3:(lo == -1)=false:=beq_eq_false_iff_ne.2 (by omega)
 have e4:(lo == -3)=false:=beq_eq_false_iff_ne.2 (by omega)
 have e5:(lo == -2)=false:=beq_eq_false_iff_ne.2 (by omega)
 clear h1 h2
 have c1:=H.out.c1
 go_enter Tryz.func66,Tryz.ntmps66
 go_wp2_with fail
 clear c1
 refine (HN1.out w H.out).mono ?_
 rintro e w1 ⟨rfl,h1,g1⟩
 have H1:=qh h1
 have G1:=qh g1
 have c1:=h1.c1
 clear h1 g1
 go_wp2_with fail
 refine (dends_not w1 b c n A l tv T 0 0 H1.out HLT.out).mono ?_
 rintro e w2 ⟨rfl,g⟩
 have H2:=qh (H1.out.grown g)
 have G2:=qh (G1.out.trans (grown_any g (some b)))
 clear c1
 have c0:=H2.out.c0
 have c1:=H2.out.c1
 clear g
 obtain ⟨g,off,hA,-,cc⟩:=H2.out.char HLT.out
 rw [hy] at cc
 subst hA
 clear hy
 go_wp2_with fail
 go_quiet (fail)
 have c0:=(H2.out.grown (grown_draws (grown_refl w2 none) nq)).c0
 have c1:=(H2.out.grown (grown_draws (grown_refl w2 none) nq)).c1
 go_wp2_with fail
 go_quiet (fail)
 have c1:=(H2.out.grown (grown_draws (grown_refl w2 none) nq)).c1
 go_wp2_with (first
  | (refine storeD_at _ _ _ (n+1) rfl rfl rfl rfl rfl (H2.out.grown (grown_draws (grown_refl w2 none) _)) (by have:=HLT.out;omega) ?_;intro w8 h8 g8;have H8:=qh h8;have G8:Hid (w.grownBy w8 (some b)):=qh ((grown_draws G2.out _).trans g8);clear h8 g8)
  | fail)
 go_ret2
 rw [HR.out]
 exact ⟨G8.out,rfl,H8.out⟩
theorem dbra_end2 (w:World) (b c k fr:Nat) (A:Option Addr) (l:List Int) (tv:Value) (T:List Tok) (H:Hid (IsD w b A l c k tv T 0 0)) (n:Nat) (lo:Int) (HN1:Hid (∀ u,IsD u b A l c k tv T 0 0→Calls Tryz.prog 80 #[.pointer (some ⟨b,0,none⟩)] u (NumTo u b c n A l tv T lo))) (hn:n < l.length) (hl:l.length=n+1) (n1:Nat) (HNN:Hid (n+1=n1)) (d0:((n:Int) == (k:Int))=false) (y:Int) (hy:l[n]'hn=y) (hy44:(y == 44)=true)  (r:Wr (Tok×Nat)) (HR:Hid (r=.error (n1,4))) :
 Calls Tryz.prog 66 #[.pointer (some ⟨b,0,none⟩),.int .i64 (fr:Int)] w (BraTo w b c A l tv T r):=by
 have HL:=qh hl
 clear hl
 have HLT1:=qh hn
 have k0:(0:Int)≤(n:Int):=by omega
 have k1:(n:Int) < (l.length:Int):=by omega
 have hw:IntKind.i64.wrap ((n:Int)+1)=(n1:Int):=by rw [bw n (by have:=H.out.few;omega),HNN.out]
 have hw1:=bw n1 (by have:=H.out.few;have:=HNN.out;omega)
 have c1:=H.out.c1
 go_enter Tryz.func66,Tryz.ntmps66
 go_wp2_with fail
 clear c1
 refine (HN1.out w H.out).mono ?_
 rintro e w1 ⟨rfl,h1,g1⟩
 have H1:=qh h1
 have G1:=qh g1
 have c1:=h1.c1
 clear h1 g1
 go_wp2_with fail
 refine (dends_not w1 b c n A l tv T 0 0 H1.out HLT1.out).mono ?_
 rintro e w2 ⟨rfl,g⟩
 have H2:=qh (H1.out.grown g)
 have G2:=qh (G1.out.trans (grown_any g (some b)))
 clear c1
 have c0:=H2.out.c0
 have c1:=H2.out.c1
 clear g
 obtain ⟨g,off,hA,-,cc⟩:=H2.out.char HLT1.out
 rw [hy] at cc
 subst hA
 clear hy
 go_wp2_with fail
 go_quiet (fail)
 have c0:=(H2.out.grown (grown_draws (grown_refl w2 none) nq)).c0
 have c1:=(H2.out.grown (grown_draws (grown_refl w2 none) nq)).c1
 go_wp2_with (first
  | (refine storeD_at _ _ _ n1 rfl rfl rfl rfl rfl (H2.out.grown (grown_draws (grown_refl w2 none) _)) (by have:=HLT1.out;have:=HNN.out;omega) ?_;intro w3 h3 g3;have H3:=qh h3;have G3:Hid (w.grownBy w3 (some b)):=qh ((grown_draws G2.out _).trans g3);clear h3 g3)
  | fail)
 clear c0 c1
 have c1:=H3.out.c1
 have H3L:=H3.out
 have e:IsD w3 b (some ⟨g,off,none⟩) l c l.length tv T 0 0:=by rw [HL.out,HNN.out];exact H3L
 have HE:=qh e
 clear e H3L c1
 refine (dends_end w3 b c _ l tv T 0 HE.out).mono ?_
 rintro e w4 ⟨rfl,h4,g4⟩
 have H4:=qh h4
 have G4:=qh (G3.out.trans g4)
 clear h4 g4
 go_wp2_with fail
 go_ret2
 rw [HR.out]
 have h4:=H4.out
 have e:((l.length:Nat):Int)=(n1:Int):=by rw [HL.out,HNN.out]
 rw [e] at h4
 exact ⟨G4.out,⟨_,_,rfl⟩,l.length,h4⟩
theorem dbra_opena (w:World) (b c k fr:Nat) (A:Option Addr) (l:List Int) (tv:Value) (T:List Tok) (H:Hid (IsD w b A l c k tv T 0 0)) (n:Nat) (lo:Int) (HN1:Hid (∀ u,IsD u b A l c k tv T 0 0→Calls Tryz.prog 80 #[.pointer (some ⟨b,0,none⟩)] u (NumTo u b c n A l tv T lo))) (hn:n < l.length) (n1:Nat) (HNN:Hid (n+1=n1)) (d0:((n:Int) == (k:Int))=false) (y:Int) (hy:l[n]'hn=y) (hy44:(y == 44)=true) (hn2:n1 < l.length) (y2:Int) (hy2:l[n1]'hn2=y2) (h1:(y2 != 125)=false) (h2:lo < 0) (r:Wr (Tok×Nat)) (HR:Hid (r=.error (fr,8))) :
 Calls Tryz.prog 66 #[.pointer (some ⟨b,0,none⟩),.int .i64 (fr:Int)] w (BraTo w b c A l tv T r):=by
 have e2:decide (lo < 0)=true:=decide_eq_true h2
 clear h2
 have HLT2:=qh hn2
 have HY2:=qh hy2
 have j0:(0:Int)≤(n1:Int):=by omega
 have j1:(n1:Int) < (l.length:Int):=by omega
 clear hy2
 have HLT1:=qh hn
 have k0:(0:Int)≤(n:Int):=by omega
 have k1:(n:Int) < (l.length:Int):=by omega
 have hw:IntKind.i64.wrap ((n:Int)+1)=(n1:Int):=by rw [bw n (by have:=H.out.few;omega),HNN.out]
 have hw1:=bw n1 (by have:=H.out.few;have:=HNN.out;omega)
 have c1:=H.out.c1
 go_enter Tryz.func66,Tryz.ntmps66
 go_wp2_with fail
 clear c1
 refine (HN1.out w H.out).mono ?_
 rintro e w1 ⟨rfl,h1,g1⟩
 have H1:=qh h1
 have G1:=qh g1
 have c1:=h1.c1
 clear h1 g1
 go_wp2_with fail
 refine (dends_not w1 b c n A l tv T 0 0 H1.out HLT1.out).mono ?_
 rintro e w2 ⟨rfl,g⟩
 have H2:=qh (H1.out.grown g)
 have G2:=qh (G1.out.trans (grown_any g (some b)))
 clear c1
 have c0:=H2.out.c0
 have c1:=H2.out.c1
 clear g
 obtain ⟨g,off,hA,-,cc⟩:=H2.out.char HLT1.out
 rw [hy] at cc
 subst hA
 clear hy
 go_wp2_with fail
 go_quiet (fail)
 have c0:=(H2.out.grown (grown_draws (grown_refl w2 none) nq)).c0
 have c1:=(H2.out.grown (grown_draws (grown_refl w2 none) nq)).c1
 go_wp2_with (first
  | (refine storeD_at _ _ _ n1 rfl rfl rfl rfl rfl (H2.out.grown (grown_draws (grown_refl w2 none) _)) (by have:=HLT1.out;have:=HNN.out;omega) ?_;intro w3 h3 g3;have H3:=qh h3;have G3:Hid (w.grownBy w3 (some b)):=qh ((grown_draws G2.out _).trans g3);clear h3 g3)
  | fail)
 clear c0 c1
 have c1:=H3.out.c1
 refine (dends_not w3 b c n1 _ l tv T 0 0 H3.out HLT2.out).mono ?_
 rintro e w4 ⟨rfl,g⟩
 have H4:=qh (H3.out.grown g)
 have G4:=qh (G3.out.trans (grown_any g (some b)))
 clear c1
 have c0:=H4.out.c0
 have c1:=H4.out.c1
 clear g
 clear cc
 have cc:=H4.out.charAt HLT2.out HY2.out
 go_wp2_with fail
 go_quiet (fail)
 obtain ⟨w5,hw5⟩:∃ u,w4.drewN nq=u:=⟨_,rfl⟩
 have H5:Hid (IsD w5 b (some ⟨g,off,none⟩) l c n1 tv T 0 0):=qh (hw5▸H4.out.grown (grown_draws (grown_refl w4 none) _))
 have G5:Hid (w.grownBy w5 (some b)):=qh (hw5▸grown_draws G4.out _)
 rw [hw5]
 clear hw5 c0 c1 cc
 have c0:=H5.out.c0
 have c1:=H5.out.c1
 have cc:=H5.out.charAt HLT2.out HY2.out
 have HLT:=HLT2
 go_wp2_with fail
 go_quiet (fail)
 go_wp2_with fail
 refine (dfail_new _ b c n1 _ l tv T 0 (H5.out.grown (grown_draws (grown_refl w5 none) _)) (fr:Int) 8).mono ?_
 rintro e wf ⟨rfl,hf,gf⟩
 have HF:=qh hf
 have GF:Hid (w.grownBy wf (some b)):=qh ((grown_draws G5.out _).trans gf)
 have c1:=hf.c1
 clear hf gf
 go_wp2_with (first
  | (refine storeD_at _ _ _ (n1+1) rfl rfl rfl rfl rfl HF.out (by have:=HLT.out;omega) ?_;intro w8 h8 g8;have H8:=qh h8;have G8:=qh (GF.out.trans g8);clear h8 g8)
  | fail)
 all_goals
  go_ret2
  rw [HR.out]
  exact ⟨G8.out,⟨_,_,rfl⟩,_,H8.out⟩
theorem dbra_openb (w:World) (b c k fr:Nat) (A:Option Addr) (l:List Int) (tv:Value) (T:List Tok) (H:Hid (IsD w b A l c k tv T 0 0)) (n:Nat) (lo:Int) (HN1:Hid (∀ u,IsD u b A l c k tv T 0 0→Calls Tryz.prog 80 #[.pointer (some ⟨b,0,none⟩)] u (NumTo u b c n A l tv T lo))) (hn:n < l.length) (n1:Nat) (HNN:Hid (n+1=n1)) (d0:((n:Int) == (k:Int))=false) (y:Int) (hy:l[n]'hn=y) (hy44:(y == 44)=true) (hn2:n1 < l.length) (y2:Int) (hy2:l[n1]'hn2=y2) (h1:(y2 != 125)=false) (h2:¬ lo < 0) (r:Wr (Tok×Nat)) (HR:Hid (r=.ok (⟨6,0,lo,-1,0⟩,n1+1))) :
 Calls Tryz.prog 66 #[.pointer (some ⟨b,0,none⟩),.int .i64 (fr:Int)] w (BraTo w b c A l tv T r):=by
 have e2:decide (lo < 0)=false:=decide_eq_false h2
 clear h2
 have HLT2:=qh hn2
 have HY2:=qh hy2
 have j0:(0:Int)≤(n1:Int):=by omega
 have j1:(n1:Int) < (l.length:Int):=by omega
 clear hy2
 have HLT1:=qh hn
 have k0:(0:Int)≤(n:Int):=by omega
 have k1:(n:Int) < (l.length:Int):=by omega
 have hw:IntKind.i64.wrap ((n:Int)+1)=(n1:Int):=by rw [bw n (by have:=H.out.few;omega),HNN.out]
 have hw1:=bw n1 (by have:=H.out.few;have:=HNN.out;omega)
 have c1:=H.out.c1
 go_enter Tryz.func66,Tryz.ntmps66
 go_wp2_with fail
 clear c1
 refine (HN1.out w H.out).mono ?_
 rintro e w1 ⟨rfl,h1,g1⟩
 have H1:=qh h1
 have G1:=qh g1
 have c1:=h1.c1
 clear h1 g1
 go_wp2_with fail
 refine (dends_not w1 b c n A l tv T 0 0 H1.out HLT1.out).mono ?_
 rintro e w2 ⟨rfl,g⟩
 have H2:=qh (H1.out.grown g)
 have G2:=qh (G1.out.trans (grown_any g (some b)))
 clear c1
 have c0:=H2.out.c0
 have c1:=H2.out.c1
 clear g
 obtain ⟨g,off,hA,-,cc⟩:=H2.out.char HLT1.out
 rw [hy] at cc
 subst hA
 clear hy
 go_wp2_with fail
 go_quiet (fail)
 have c0:=(H2.out.grown (grown_draws (grown_refl w2 none) nq)).c0
 have c1:=(H2.out.grown (grown_draws (grown_refl w2 none) nq)).c1
 go_wp2_with (first
  | (refine storeD_at _ _ _ n1 rfl rfl rfl rfl rfl (H2.out.grown (grown_draws (grown_refl w2 none) _)) (by have:=HLT1.out;have:=HNN.out;omega) ?_;intro w3 h3 g3;have H3:=qh h3;have G3:Hid (w.grownBy w3 (some b)):=qh ((grown_draws G2.out _).trans g3);clear h3 g3)
  | fail)
 clear c0 c1
 have c1:=H3.out.c1
 refine (dends_not w3 b c n1 _ l tv T 0 0 H3.out HLT2.out).mono ?_
 rintro e w4 ⟨rfl,g⟩
 have H4:=qh (H3.out.grown g)
 have G4:=qh (G3.out.trans (grown_any g (some b)))
 clear c1
 have c0:=H4.out.c0
 have c1:=H4.out.c1
 clear g
 clear cc
 have cc:=H4.out.charAt HLT2.out HY2.out
 go_wp2_with fail
 go_quiet (fail)
 obtain ⟨w5,hw5⟩:∃ u,w4.drewN nq=u:=⟨_,rfl⟩
 have H5:Hid (IsD w5 b (some ⟨g,off,none⟩) l c n1 tv T 0 0):=qh (hw5▸H4.out.grown (grown_draws (grown_refl w4 none) _))
 have G5:Hid (w.grownBy w5 (some b)):=qh (hw5▸grown_draws G4.out _)
 rw [hw5]
 clear hw5 c0 c1 cc
 have c0:=H5.out.c0
 have c1:=H5.out.c1
 have cc:=H5.out.charAt HLT2.out HY2.out
 have HLT:=HLT2
 go_wp2_with fail
 go_quiet (fail)
 have c1:=(H5.out.grown (grown_draws (grown_refl w5 none) nq)).c1
 go_wp2_with (first
  | (refine storeD_at _ _ _ (n1+1) rfl rfl rfl rfl rfl (H5.out.grown (grown_draws (grown_refl w5 none) _)) (by have:=HLT.out;omega) ?_;intro w8 h8 g8;have H8:=qh h8;have G8:Hid (w.grownBy w8 (some b)):=qh ((grown_draws G5.out _).trans g8);clear h8 g8)
  | fail)
 go_ret2
 rw [HR.out]
 exact ⟨G8.out,rfl,H8.out⟩
theorem dbra_two_end (w:World) (b c k fr:Nat) (A:Option Addr) (l:List Int) (tv:Value) (T:List Tok) (H:Hid (IsD w b A l c k tv T 0 0)) (n:Nat) (lo:Int) (HN1:Hid (∀ u,IsD u b A l c k tv T 0 0→Calls Tryz.prog 80 #[.pointer (some ⟨b,0,none⟩)] u (NumTo u b c n A l tv T lo))) (hn:n < l.length) (n1:Nat) (HNN:Hid (n+1=n1)) (d0:((n:Int) == (k:Int))=false) (y:Int) (hy:l[n]'hn=y) (hy44:(y == 44)=true) (hn2:n1 < l.length) (y2:Int) (hy2:l[n1]'hn2=y2) (h125:(y2 != 125)=true) (n2:Nat) (hi:Int) (HN2:Hid (∀ u A,IsD u b A l c n1 tv T 0 0→Calls Tryz.prog 80 #[.pointer (some ⟨b,0,none⟩)] u (NumTo u b c n2 A l tv T hi))) (hl:l.length=n2) (r:Wr (Tok×Nat)) (HR:Hid (r=.error (n2,4))) :
 Calls Tryz.prog 66 #[.pointer (some ⟨b,0,none⟩),.int .i64 (fr:Int)] w (BraTo w b c A l tv T r):=by
 have HL:=qh hl
 clear hl
 have HLT2:=qh hn2
 have HY2:=qh hy2
 have j0:(0:Int)≤(n1:Int):=by omega
 have j1:(n1:Int) < (l.length:Int):=by omega
 clear hy2
 have HLT1:=qh hn
 have k0:(0:Int)≤(n:Int):=by omega
 have k1:(n:Int) < (l.length:Int):=by omega
 have hw:IntKind.i64.wrap ((n:Int)+1)=(n1:Int):=by rw [bw n (by have:=H.out.few;omega),HNN.out]
 have hw1:=bw n1 (by have:=H.out.few;have:=HNN.out;omega)
 have c1:=H.out.c1
 go_enter Tryz.func66,Tryz.ntmps66
 go_wp2_with fail
 clear c1
 refine (HN1.out w H.out).mono ?_
 rintro e w1 ⟨rfl,h1,g1⟩
 have H1:=qh h1
 have G1:=qh g1
 have c1:=h1.c1
 clear h1 g1
 go_wp2_with fail
 refine (dends_not w1 b c n A l tv T 0 0 H1.out HLT1.out).mono ?_
 rintro e w2 ⟨rfl,g⟩
 have H2:=qh (H1.out.grown g)
 have G2:=qh (G1.out.trans (grown_any g (some b)))
 clear c1
 have c0:=H2.out.c0
 have c1:=H2.out.c1
 clear g
 obtain ⟨g,off,hA,-,cc⟩:=H2.out.char HLT1.out
 rw [hy] at cc
 subst hA
 clear hy
 go_wp2_with fail
 go_quiet (fail)
 have c0:=(H2.out.grown (grown_draws (grown_refl w2 none) nq)).c0
 have c1:=(H2.out.grown (grown_draws (grown_refl w2 none) nq)).c1
 go_wp2_with (first
  | (refine storeD_at _ _ _ n1 rfl rfl rfl rfl rfl (H2.out.grown (grown_draws (grown_refl w2 none) _)) (by have:=HLT1.out;have:=HNN.out;omega) ?_;intro w3 h3 g3;have H3:=qh h3;have G3:Hid (w.grownBy w3 (some b)):=qh ((grown_draws G2.out _).trans g3);clear h3 g3)
  | fail)
 clear c0 c1
 have c1:=H3.out.c1
 refine (dends_not w3 b c n1 _ l tv T 0 0 H3.out HLT2.out).mono ?_
 rintro e w4 ⟨rfl,g⟩
 have H4:=qh (H3.out.grown g)
 have G4:=qh (G3.out.trans (grown_any g (some b)))
 clear c1
 have c0:=H4.out.c0
 have c1:=H4.out.c1
 clear g
 clear cc
 have cc:=H4.out.charAt HLT2.out HY2.out
 go_wp2_with fail
 go_quiet (fail)
 obtain ⟨w5,hw5⟩:∃ u,w4.drewN nq=u:=⟨_,rfl⟩
 have H5:Hid (IsD w5 b (some ⟨g,off,none⟩) l c n1 tv T 0 0):=qh (hw5▸H4.out.grown (grown_draws (grown_refl w4 none) _))
 have G5:Hid (w.grownBy w5 (some b)):=qh (hw5▸grown_draws G4.out _)
 rw [hw5]
 clear hw5 c0 c1 cc
 have c0:=H5.out.c0
 have c1:=H5.out.c1
 have cc:=H5.out.charAt HLT2.out HY2.out
 go_wp2_with fail
 clear c0 c1 cc
 refine (HN2.out w5 _ H5.out).mono ?_
 rintro e w6 ⟨rfl,h6,g6⟩
 have H6:=qh h6
 have G6:=qh (G5.out.trans g6)
 have c1:=h6.c1
 clear h6 g6
 go_wp2_with fail
 have e:IsD w6 b (some ⟨g,off,none⟩) l c l.length tv T 0 0:=by have:=H6.out;rw [← HL.out] at this;exact this
 have HE:=qh e
 clear e c1
 refine (dends_end w6 b c _ l tv T 0 HE.out).mono ?_
 rintro e w7 ⟨rfl,h7,g7⟩
 have H7:=qh h7
 have G7:=qh (G6.out.trans g7)
 clear h7 g7
 go_wp2_with fail
 go_ret2
 rw [HR.out]
 have h7:=H7.out
 have e:((l.length:Nat):Int)=(n2:Int):=by rw [HL.out]
 rw [e] at h7
 exact ⟨G7.out,⟨_,_,rfl⟩,l.length,h7⟩
theorem dbra_two_m (w:World) (b c k fr:Nat) (A:Option Addr) (l:List Int) (tv:Value) (T:List Tok) (H:Hid (IsD w b A l c k tv T 0 0)) (n:Nat) (lo:Int) (HN1:Hid (∀ u,IsD u b A l c k tv T 0 0→Calls Tryz.prog 80 #[.pointer (some ⟨b,0,none⟩)] u (NumTo u b c n A l tv T lo))) (hn:n < l.length) (n1:Nat) (HNN:Hid (n+1=n1)) (d0:((n:Int) == (k:Int))=false) (y:Int) (hy:l[n]'hn=y) (hy44:(y == 44)=true) (hn2:n1 < l.length) (y2:Int) (hy2:l[n1]'hn2=y2) (h125:(y2 != 125)=true) (n2:Nat) (hi:Int) (HN2:Hid (∀ u A,IsD u b A l c n1 tv T 0 0→Calls Tryz.prog 80 #[.pointer (some ⟨b,0,none⟩)] u (NumTo u b c n2 A l tv T hi))) (hn3:n2 < l.length) (y3:Int) (hy3:l[n2]'hn3=y3) (d1:((n2:Int) == (n1:Int))=true) (h3:y3≠125) (r:Wr (Tok×Nat)) (HR:Hid (r=.error (fr,8))) :
 Calls Tryz.prog 66 #[.pointer (some ⟨b,0,none⟩),.int .i64 (fr:Int)] w (BraTo w b c A l tv T r):=by
 have HLT:=qh hn3
 have HY3:=qh hy3
 have i0:(0:Int)≤(n2:Int):=by omega
 have i1:(n2:Int) < (l.length:Int):=by omega
 have hw2:=bw n2 (by have:=H.out.few;omega)
 clear hy3
 have e1:(y3 != 125)=true:=by simpa using h3
 clear h3
 have HLT2:=qh hn2
 have HY2:=qh hy2
 have j0:(0:Int)≤(n1:Int):=by omega
 have j1:(n1:Int) < (l.length:Int):=by omega
 clear hy2
 have HLT1:=qh hn
 have k0:(0:Int)≤(n:Int):=by omega
 have k1:(n:Int) < (l.length:Int):=by omega
 have hw:IntKind.i64.wrap ((n:Int)+1)=(n1:Int):=by rw [bw n (by have:=H.out.few;omega),HNN.out]
 have hw1:=bw n1 (by have:=H.out.few;have:=HNN.out;omega)
 have c1:=H.out.c1
 go_enter Tryz.func66,Tryz.ntmps66
 go_wp2_with fail
 clear c1
 refine (HN1.out w H.out).mono ?_
 rintro e w1 ⟨rfl,h1,g1⟩
 have H1:=qh h1
 have G1:=qh g1
 have c1:=h1.c1
 clear h1 g1
 go_wp2_with fail
 refine (dends_not w1 b c n A l tv T 0 0 H1.out HLT1.out).mono ?_
 rintro e w2 ⟨rfl,g⟩
 have H2:=qh (H1.out.grown g)
 have G2:=qh (G1.out.trans (grown_any g (some b)))
 clear c1
 have c0:=H2.out.c0
 have c1:=H2.out.c1
 clear g
 obtain ⟨g,off,hA,-,cc⟩:=H2.out.char HLT1.out
 rw [hy] at cc
 subst hA
 clear hy
 go_wp2_with fail
 go_quiet (fail)
 have c0:=(H2.out.grown (grown_draws (grown_refl w2 none) nq)).c0
 have c1:=(H2.out.grown (grown_draws (grown_refl w2 none) nq)).c1
 go_wp2_with (first
  | (refine storeD_at _ _ _ n1 rfl rfl rfl rfl rfl (H2.out.grown (grown_draws (grown_refl w2 none) _)) (by have:=HLT1.out;have:=HNN.out;omega) ?_;intro w3 h3 g3;have H3:=qh h3;have G3:Hid (w.grownBy w3 (some b)):=qh ((grown_draws G2.out _).trans g3);clear h3 g3)
  | fail)
 clear c0 c1
 have c1:=H3.out.c1
 refine (dends_not w3 b c n1 _ l tv T 0 0 H3.out HLT2.out).mono ?_
 rintro e w4 ⟨rfl,g⟩
 have H4:=qh (H3.out.grown g)
 have G4:=qh (G3.out.trans (grown_any g (some b)))
 clear c1
 have c0:=H4.out.c0
 have c1:=H4.out.c1
 clear g
 clear cc
 have cc:=H4.out.charAt HLT2.out HY2.out
 go_wp2_with fail
 go_quiet (fail)
 obtain ⟨w5,hw5⟩:∃ u,w4.drewN nq=u:=⟨_,rfl⟩
 have H5:Hid (IsD w5 b (some ⟨g,off,none⟩) l c n1 tv T 0 0):=qh (hw5▸H4.out.grown (grown_draws (grown_refl w4 none) _))
 have G5:Hid (w.grownBy w5 (some b)):=qh (hw5▸grown_draws G4.out _)
 rw [hw5]
 clear hw5 c0 c1 cc
 have c0:=H5.out.c0
 have c1:=H5.out.c1
 have cc:=H5.out.charAt HLT2.out HY2.out
 go_wp2_with fail
 clear c0 c1 cc
 refine (HN2.out w5 _ H5.out).mono ?_
 rintro e w6 ⟨rfl,h6,g6⟩
 have H6:=qh h6
 have G6:=qh (G5.out.trans g6)
 have c1:=h6.c1
 clear h6 g6
 go_wp2_with fail
 refine (dends_not w6 b c n2 _ l tv T 0 0 H6.out HLT.out).mono ?_
 rintro e w7 ⟨rfl,g⟩
 have H7:=qh (H6.out.grown g)
 have G7:=qh (G6.out.trans (grown_any g (some b)))
 clear c1
 have c0:=H7.out.c0
 have c1:=H7.out.c1
 clear g
 have cc:=H7.out.charAt HLT.out HY3.out
 go_wp2_with fail
 go_quiet (fail)
 go_wp2_with fail
 refine (dfail_new _ b c n2 _ l tv T 0 (H7.out.grown (grown_draws (grown_refl w7 none) _)) (fr:Int) 8).mono ?_
 rintro e wf ⟨rfl,hf,gf⟩
 have HF:=qh hf
 have GF:Hid (w.grownBy wf (some b)):=qh ((grown_draws G7.out _).trans gf)
 have c1:=hf.c1
 clear hf gf
 go_wp2_with (first
  | (refine storeD_at _ _ _ (n2+1) rfl rfl rfl rfl rfl HF.out (by have:=HLT.out;omega) ?_;intro w8 h8 g8;have H8:=qh h8;have G8:=qh (GF.out.trans g8);clear h8 g8)
  | fail)
 all_goals
  go_ret2
  rw [HR.out]
  exact ⟨G8.out,⟨_,_,rfl⟩,_,H8.out⟩
theorem dbra_two_a (w:World) (b c k fr:Nat) (A:Option Addr) (l:List Int) (tv:Value) (T:List Tok) (H:Hid (IsD w b A l c k tv T 0 0)) (n:Nat) (lo:Int) (HN1:Hid (∀ u,IsD u b A l c k tv T 0 0→Calls Tryz.prog 80 #[.pointer (some ⟨b,0,none⟩)] u (NumTo u b c n A l tv T lo))) (hn:n < l.length) (n1:Nat) (HNN:Hid (n+1=n1)) (d0:((n:Int) == (k:Int))=false) (y:Int) (hy:l[n]'hn=y) (hy44:(y == 44)=true) (hn2:n1 < l.length) (y2:Int) (hy2:l[n1]'hn2=y2) (h125:(y2 != 125)=true) (n2:Nat) (hi:Int) (HN2:Hid (∀ u A,IsD u b A l c n1 tv T 0 0→Calls Tryz.prog 80 #[.pointer (some ⟨b,0,none⟩)] u (NumTo u b c n2 A l tv T hi))) (hn3:n2 < l.length) (y3:Int) (hy3:l[n2]'hn3=y3) (d1:((n2:Int) == (n1:Int))=false) (h3:y3≠125) (h5:hi < lo) (r:Wr (Tok×Nat)) (HR:Hid (r=.error (fr,8))) :
 Calls Tryz.prog 66 #[.pointer (some ⟨b,0,none⟩),.int .i64 (fr:Int)] w (BraTo w b c A l tv T r):=by
 have HLT:=qh hn3
 have HY3:=qh hy3
 have i0:(0:Int)≤(n2:Int):=by omega
 have i1:(n2:Int) < (l.length:Int):=by omega
 have hw2:=bw n2 (by have:=H.out.few;omega)
 clear hy3
 have e1:(y3 != 125)=true:=by simpa using h3
 have s1:decide (hi < lo)=true:=decide_eq_true h5
 clear h3 h5
 have HLT2:=qh hn2
 have HY2:=qh hy2
 have j0:(0:Int)≤(n1:Int):=by omega
 have j1:(n1:Int) < (l.length:Int):=by omega
 clear hy2
 have HLT1:=qh hn
 have k0:(0:Int)≤(n:Int):=by omega
 have k1:(n:Int) < (l.length:Int):=by omega
 have hw:IntKind.i64.wrap ((n:Int)+1)=(n1:Int):=by rw [bw n (by have:=H.out.few;omega),HNN.out]
 have hw1:=bw n1 (by have:=H.out.few;have:=HNN.out;omega)
 have c1:=H.out.c1
 go_enter Tryz.func66,Tryz.ntmps66
 go_wp2_with fail
 clear c1
 refine (HN1.out w H.out).mono ?_
 rintro e w1 ⟨rfl,h1,g1⟩
 have H1:=qh h1
 have G1:=qh g1
 have c1:=h1.c1
 clear h1 g1
 go_wp2_with fail
 refine (dends_not w1 b c n A l tv T 0 0 H1.out HLT1.out).mono ?_
 rintro e w2 ⟨rfl,g⟩
 have H2:=qh (H1.out.grown g)
 have G2:=qh (G1.out.trans (grown_any g (some b)))
 clear c1
 have c0:=H2.out.c0
 have c1:=H2.out.c1
 clear g
 obtain ⟨g,off,hA,-,cc⟩:=H2.out.char HLT1.out
 rw [hy] at cc
 subst hA
 clear hy
 go_wp2_with fail
 go_quiet (fail)
 have c0:=(H2.out.grown (grown_draws (grown_refl w2 none) nq)).c0
 have c1:=(H2.out.grown (grown_draws (grown_refl w2 none) nq)).c1
 go_wp2_with (first
  | (refine storeD_at _ _ _ n1 rfl rfl rfl rfl rfl (H2.out.grown (grown_draws (grown_refl w2 none) _)) (by have:=HLT1.out;have:=HNN.out;omega) ?_;intro w3 h3 g3;have H3:=qh h3;have G3:Hid (w.grownBy w3 (some b)):=qh ((grown_draws G2.out _).trans g3);clear h3 g3)
  | fail)
 clear c0 c1
 have c1:=H3.out.c1
 refine (dends_not w3 b c n1 _ l tv T 0 0 H3.out HLT2.out).mono ?_
 rintro e w4 ⟨rfl,g⟩
 have H4:=qh (H3.out.grown g)
 have G4:=qh (G3.out.trans (grown_any g (some b)))
 clear c1
 have c0:=H4.out.c0
 have c1:=H4.out.c1
 clear g
 clear cc
 have cc:=H4.out.charAt HLT2.out HY2.out
 go_wp2_with fail
 go_quiet (fail)
 obtain ⟨w5,hw5⟩:∃ u,w4.drewN nq=u:=⟨_,rfl⟩
 have H5:Hid (IsD w5 b (some ⟨g,off,none⟩) l c n1 tv T 0 0):=qh (hw5▸H4.out.grown (grown_draws (grown_refl w4 none) _))
 have G5:Hid (w.grownBy w5 (some b)):=qh (hw5▸grown_draws G4.out _)
 rw [hw5]
 clear hw5 c0 c1 cc
 have c0:=H5.out.c0
 have c1:=H5.out.c1
 have cc:=H5.out.charAt HLT2.out HY2.out
 go_wp2_with fail
 clear c0 c1 cc
 refine (HN2.out w5 _ H5.out).mono ?_
 rintro e w6 ⟨rfl,h6,g6⟩
 have H6:=qh h6
 have G6:=qh (G5.out.trans g6)
 have c1:=h6.c1
 clear h6 g6
 go_wp2_with fail
 refine (dends_not w6 b c n2 _ l tv T 0 0 H6.out HLT.out).mono ?_
 rintro e w7 ⟨rfl,g⟩
 have H7:=qh (H6.out.grown g)
 have G7:=qh (G6.out.trans (grown_any g (some b)))
 clear c1
 have c0:=H7.out.c0
 have c1:=H7.out.c1
 clear g
 have cc:=H7.out.charAt HLT.out HY3.out
 go_wp2_with fail
 go_quiet (fail)
 go_wp2_with fail
 refine (dfail_new _ b c n2 _ l tv T 0 (H7.out.grown (grown_draws (grown_refl w7 none) _)) (fr:Int) 8).mono ?_
 rintro e wf ⟨rfl,hf,gf⟩
 have HF:=qh hf
 have GF:Hid (w.grownBy wf (some b)):=qh ((grown_draws G7.out _).trans gf)
 have c1:=hf.c1
 clear hf gf
 go_wp2_with (first
  | (refine storeD_at _ _ _ (n2+1) rfl rfl rfl rfl rfl HF.out (by have:=HLT.out;omega) ?_;intro w8 h8 g8;have H8:=qh h8;have G8:=qh (GF.out.trans g8);clear h8 g8)
  | fail)
 all_goals
  go_ret2
  rw [HR.out]
  exact ⟨G8.out,⟨_,_,rfl⟩,_,H8.out⟩
theorem dbra_two_b (w:World) (b c k fr:Nat) (A:Option Addr) (l:List Int) (tv:Value) (T:List Tok) (H:Hid (IsD w b A l c k tv T 0 0)) (n:Nat) (lo:Int) (HN1:Hid (∀ u,IsD u b A l c k tv T 0 0→Calls Tryz.prog 80 #[.pointer (some ⟨b,0,none⟩)] u (NumTo u b c n A l tv T lo))) (hn:n < l.length) (n1:Nat) (HNN:Hid (n+1=n1)) (d0:((n:Int) == (k:Int))=false) (y:Int) (hy:l[n]'hn=y) (hy44:(y == 44)=true) (hn2:n1 < l.length) (y2:Int) (hy2:l[n1]'hn2=y2) (h125:(y2 != 125)=true) (n2:Nat) (hi:Int) (HN2:Hid (∀ u A,IsD u b A l c n1 tv T 0 0→Calls Tryz.prog 80 #[.pointer (some ⟨b,0,none⟩)] u (NumTo u b c n2 A l tv T hi))) (hn3:n2 < l.length) (y3:Int) (hy3:l[n2]'hn3=y3) (d1:((n2:Int) == (n1:Int))=false) (h3:y3≠125) (h5:¬ hi < lo) (r:Wr (Tok×Nat)) (HR:Hid (r=.error (fr,8))) :
 Calls Tryz.prog 66 #[.pointer (some ⟨b,0,none⟩),.int .i64 (fr:Int)] w (BraTo w b c A l tv T r):=by
 have HLT:=qh hn3
 have HY3:=qh hy3
 have i0:(0:Int)≤(n2:Int):=by omega
 have i1:(n2:Int) < (l.length:Int):=by omega
 have hw2:=bw n2 (by have:=H.out.few;omega)
 clear hy3
 have e1:(y3 != 125)=true:=by simpa using h3
 have s1:decide (hi < lo)=false:=decide_eq_false h5
 clear h3 h5
 have HLT2:=qh hn2
 have HY2:=qh hy2
 have j0:(0:Int)≤(n1:Int):=by omega
 have j1:(n1:Int) < (l.length:Int):=by omega
 clear hy2
 have HLT1:=qh hn
 have k0:(0:Int)≤(n:Int):=by omega
 have k1:(n:Int) < (l.length:Int):=by omega
 have hw:IntKind.i64.wrap ((n:Int)+1)=(n1:Int):=by rw [bw n (by have:=H.out.few;omega),HNN.out]
 have hw1:=bw n1 (by have:=H.out.few;have:=HNN.out;omega)
 have c1:=H.out.c1
 go_enter Tryz.func66,Tryz.ntmps66
 go_wp2_with fail
 clear c1
 refine (HN1.out w H.out).mono ?_
 rintro e w1 ⟨rfl,h1,g1⟩
 have H1:=qh h1
 have G1:=qh g1
 have c1:=h1.c1
 clear h1 g1
 go_wp2_with fail
 refine (dends_not w1 b c n A l tv T 0 0 H1.out HLT1.out).mono ?_
 rintro e w2 ⟨rfl,g⟩
 have H2:=qh (H1.out.grown g)
 have G2:=qh (G1.out.trans (grown_any g (some b)))
 clear c1
 have c0:=H2.out.c0
 have c1:=H2.out.c1
 clear g
 obtain ⟨g,off,hA,-,cc⟩:=H2.out.char HLT1.out
 rw [hy] at cc
 subst hA
 clear hy
 go_wp2_with fail
 go_quiet (fail)
 have c0:=(H2.out.grown (grown_draws (grown_refl w2 none) nq)).c0
 have c1:=(H2.out.grown (grown_draws (grown_refl w2 none) nq)).c1
 go_wp2_with (first
  | (refine storeD_at _ _ _ n1 rfl rfl rfl rfl rfl (H2.out.grown (grown_draws (grown_refl w2 none) _)) (by have:=HLT1.out;have:=HNN.out;omega) ?_;intro w3 h3 g3;have H3:=qh h3;have G3:Hid (w.grownBy w3 (some b)):=qh ((grown_draws G2.out _).trans g3);clear h3 g3)
  | fail)
 clear c0 c1
 have c1:=H3.out.c1
 refine (dends_not w3 b c n1 _ l tv T 0 0 H3.out HLT2.out).mono ?_
 rintro e w4 ⟨rfl,g⟩
 have H4:=qh (H3.out.grown g)
 have G4:=qh (G3.out.trans (grown_any g (some b)))
 clear c1
 have c0:=H4.out.c0
 have c1:=H4.out.c1
 clear g
 clear cc
 have cc:=H4.out.charAt HLT2.out HY2.out
 go_wp2_with fail
 go_quiet (fail)
 obtain ⟨w5,hw5⟩:∃ u,w4.drewN nq=u:=⟨_,rfl⟩
 have H5:Hid (IsD w5 b (some ⟨g,off,none⟩) l c n1 tv T 0 0):=qh (hw5▸H4.out.grown (grown_draws (grown_refl w4 none) _))
 have G5:Hid (w.grownBy w5 (some b)):=qh (hw5▸grown_draws G4.out _)
 rw [hw5]
 clear hw5 c0 c1 cc
 have c0:=H5.out.c0
 have c1:=H5.out.c1
 have cc:=H5.out.charAt HLT2.out HY2.out
 go_wp2_with fail
 clear c0 c1 cc
 refine (HN2.out w5 _ H5.out).mono ?_
 rintro e w6 ⟨rfl,h6,g6⟩
 have H6:=qh h6
 have G6:=qh (G5.out.trans g6)
 have c1:=h6.c1
 clear h6 g6
 go_wp2_with fail
 refine (dends_not w6 b c n2 _ l tv T 0 0 H6.out HLT.out).mono ?_
 rintro e w7 ⟨rfl,g⟩
 have H7:=qh (H6.out.grown g)
 have G7:=qh (G6.out.trans (grown_any g (some b)))
 clear c1
 have c0:=H7.out.c0
 have c1:=H7.out.c1
 clear g
 have cc:=H7.out.charAt HLT.out HY3.out
 go_wp2_with fail
 go_quiet (fail)
 go_wp2_with fail
 refine (dfail_new _ b c n2 _ l tv T 0 (H7.out.grown (grown_draws (grown_refl w7 none) _)) (fr:Int) 8).mono ?_
 rintro e wf ⟨rfl,hf,gf⟩
 have HF:=qh hf
 have GF:Hid (w.grownBy wf (some b)):=qh ((grown_draws G7.out _).trans gf)
 have c1:=hf.c1
 clear hf gf
 go_wp2_with (first
  | (refine storeD_at _ _ _ (n2+1) rfl rfl rfl rfl rfl HF.out (by have:=HLT.out;omega) ?_;intro w8 h8 g8;have H8:=qh h8;have G8:=qh (GF.out.trans g8);clear h8 g8)
  | fail)
 all_goals
  go_ret2
  rw [HR.out]
  exact ⟨G8.out,⟨_,_,rfl⟩,_,H8.out⟩
theorem dbra_two_c (w:World) (b c k fr:Nat) (A:Option Addr) (l:List Int) (tv:Value) (T:List Tok) (H:Hid (IsD w b A l c k tv T 0 0)) (n:Nat) (lo:Int) (HN1:Hid (∀ u,IsD u b A l c k tv T 0 0→Calls Tryz.prog 80 #[.pointer (some ⟨b,0,none⟩)] u (NumTo u b c n A l tv T lo))) (hn:n < l.length) (n1:Nat) (HNN:Hid (n+1=n1)) (d0:((n:Int) == (k:Int))=false) (y:Int) (hy:l[n]'hn=y) (hy44:(y == 44)=true) (hn2:n1 < l.length) (y2:Int) (hy2:l[n1]'hn2=y2) (h125:(y2 != 125)=true) (n2:Nat) (hi:Int) (HN2:Hid (∀ u A,IsD u b A l c n1 tv T 0 0→Calls Tryz.prog 80 #[.pointer (some ⟨b,0,none⟩)] u (NumTo u b c n2 A l tv T hi))) (hn3:n2 < l.length) (y3:Int) (hy3:l[n2]'hn3=y3) (d1:((n2:Int) == (n1:Int))=false) (h3:y3=125) (h5:hi < lo) (h4:lo < 0) (r:Wr (Tok×Nat)) (HR:Hid (r=.error (fr,8))) :
 Calls Tryz.prog 66 #[.pointer (some ⟨b,0,none⟩),.int .i64 (fr:Int)] w (BraTo w b c A l tv T r):=by
 have HLT:=qh hn3
 have HY3:=qh hy3
 have i0:(0:Int)≤(n2:Int):=by omega
 have i1:(n2:Int) < (l.length:Int):=by omega
 have hw2:=bw n2 (by have:=H.out.few;omega)
 clear hy3
 have e1:(y3 != 125)=false:=by simpa using h3
 have s1:decide (hi < lo)=true:=decide_eq_true h5
 have e2:decide (lo < 0)=true:=decide_eq_true h4
 clear h3 h4 h5
 have HLT2:=qh hn2
 have HY2:=qh hy2
 have j0:(0:Int)≤(n1:Int):=by omega
 have j1:(n1:Int) < (l.length:Int):=by omega
 clear hy2
 have HLT1:=qh hn
 have k0:(0:Int)≤(n:Int):=by omega
 have k1:(n:Int) < (l.length:Int):=by omega
 have hw:IntKind.i64.wrap ((n:Int)+1)=(n1:Int):=by rw [bw n (by have:=H.out.few;omega),HNN.out]
 have hw1:=bw n1 (by have:=H.out.few;have:=HNN.out;omega)
 have c1:=H.out.c1
 go_enter Tryz.func66,Tryz.ntmps66
 go_wp2_with fail
 clear c1
 refine (HN1.out w H.out).mono ?_
 rintro e w1 ⟨rfl,h1,g1⟩
 have H1:=qh h1
 have G1:=qh g1
 have c1:=h1.c1
 clear h1 g1
 go_wp2_with fail
 refine (dends_not w1 b c n A l tv T 0 0 H1.out HLT1.out).mono ?_
 rintro e w2 ⟨rfl,g⟩
 have H2:=qh (H1.out.grown g)
 have G2:=qh (G1.out.trans (grown_any g (some b)))
 clear c1
 have c0:=H2.out.c0
 have c1:=H2.out.c1
 clear g
 obtain ⟨g,off,hA,-,cc⟩:=H2.out.char HLT1.out
 rw [hy] at cc
 subst hA
 clear hy
 go_wp2_with fail
 go_quiet (fail)
 have c0:=(H2.out.grown (grown_draws (grown_refl w2 none) nq)).c0
 have c1:=(H2.out.grown (grown_draws (grown_refl w2 none) nq)).c1
 go_wp2_with (first
  | (refine storeD_at _ _ _ n1 rfl rfl rfl rfl rfl (H2.out.grown (grown_draws (grown_refl w2 none) _)) (by have:=HLT1.out;have:=HNN.out;omega) ?_;intro w3 h3 g3;have H3:=qh h3;have G3:Hid (w.grownBy w3 (some b)):=qh ((grown_draws G2.out _).trans g3);clear h3 g3)
  | fail)
 clear c0 c1
 have c1:=H3.out.c1
 refine (dends_not w3 b c n1 _ l tv T 0 0 H3.out HLT2.out).mono ?_
 rintro e w4 ⟨rfl,g⟩
 have H4:=qh (H3.out.grown g)
 have G4:=qh (G3.out.trans (grown_any g (some b)))
 clear c1
 have c0:=H4.out.c0
 have c1:=H4.out.c1
 clear g
 clear cc
 have cc:=H4.out.charAt HLT2.out HY2.out
 go_wp2_with fail
 go_quiet (fail)
 obtain ⟨w5,hw5⟩:∃ u,w4.drewN nq=u:=⟨_,rfl⟩
 have H5:Hid (IsD w5 b (some ⟨g,off,none⟩) l c n1 tv T 0 0):=qh (hw5▸H4.out.grown (grown_draws (grown_refl w4 none) _))
 have G5:Hid (w.grownBy w5 (some b)):=qh (hw5▸grown_draws G4.out _)
 rw [hw5]
 clear hw5 c0 c1 cc
 have c0:=H5.out.c0
 have c1:=H5.out.c1
 have cc:=H5.out.charAt HLT2.out HY2.out
 go_wp2_with fail
 clear c0 c1 cc
 refine (HN2.out w5 _ H5.out).mono ?_
 rintro e w6 ⟨rfl,h6,g6⟩
 have H6:=qh h6
 have G6:=qh (G5.out.trans g6)
 have c1:=h6.c1
 clear h6 g6
 go_wp2_with fail
 refine (dends_not w6 b c n2 _ l tv T 0 0 H6.out HLT.out).mono ?_
 rintro e w7 ⟨rfl,g⟩
 have H7:=qh (H6.out.grown g)
 have G7:=qh (G6.out.trans (grown_any g (some b)))
 clear c1
 have c0:=H7.out.c0
 have c1:=H7.out.c1
 clear g
 have cc:=H7.out.charAt HLT.out HY3.out
 go_wp2_with fail
 go_quiet (fail)
 go_wp2_with fail
 refine (dfail_new _ b c n2 _ l tv T 0 (H7.out.grown (grown_draws (grown_refl w7 none) _)) (fr:Int) 8).mono ?_
 rintro e wf ⟨rfl,hf,gf⟩
 have HF:=qh hf
 have GF:Hid (w.grownBy wf (some b)):=qh ((grown_draws G7.out _).trans gf)
 have c1:=hf.c1
 clear hf gf
 go_wp2_with (first
  | (refine storeD_at _ _ _ (n2+1) rfl rfl rfl rfl rfl HF.out (by have:=HLT.out;omega) ?_;intro w8 h8 g8;have H8:=qh h8;have G8:=qh (GF.out.trans g8);clear h8 g8)
  | fail)
 all_goals
  go_ret2
  rw [HR.out]
  exact ⟨G8.out,⟨_,_,rfl⟩,_,H8.out⟩
theorem dbra_two_d (w:World) (b c k fr:Nat) (A:Option Addr) (l:List Int) (tv:Value) (T:List Tok) (H:Hid (IsD w b A l c k tv T 0 0)) (n:Nat) (lo:Int) (HN1:Hid (∀ u,IsD u b A l c k tv T 0 0→Calls Tryz.prog 80 #[.pointer (some ⟨b,0,none⟩)] u (NumTo u b c n A l tv T lo))) (hn:n < l.length) (n1:Nat) (HNN:Hid (n+1=n1)) (d0:((n:Int) == (k:Int))=false) (y:Int) (hy:l[n]'hn=y) (hy44:(y == 44)=true) (hn2:n1 < l.length) (y2:Int) (hy2:l[n1]'hn2=y2) (h125:(y2 != 125)=true) (n2:Nat) (hi:Int) (HN2:Hid (∀ u A,IsD u b A l c n1 tv T 0 0→Calls Tryz.prog 80 #[.pointer (some ⟨b,0,none⟩)] u (NumTo u b c n2 A l tv T hi))) (hn3:n2 < l.length) (y3:Int) (hy3:l[n2]'hn3=y3) (d1:((n2:Int) == (n1:Int))=false) (h3:y3=125) (h5:hi < lo) (h4:¬ lo < 0) (r:Wr (Tok×Nat)) (HR:Hid (r=.error (fr,8))) :
 Calls Tryz.prog 66 #[.pointer (some ⟨b,0,none⟩),.int .i64 (fr:Int)] w (BraTo w b c A l tv T r):=by
 have HLT:=qh hn3
 have HY3:=qh hy3
 have i0:(0:Int)≤(n2:Int):=by omega
 have i1:(n2:Int) < (l.length:Int):=by omega
 have hw2:=bw n2 (by have:=H.out.few;omega)
 clear hy3
 have e1:(y3 != 125)=false:=by simpa using h3
 have s1:decide (hi < lo)=true:=decide_eq_true h5
 have e2:decide (lo < 0)=false:=decide_eq_false h4
 clear h3 h4 h5
 have HLT2:=qh hn2
 have HY2:=qh hy2
 have j0:(0:Int)≤(n1:Int):=by omega
 have j1:(n1:Int) < (l.length:Int):=by omega
 clear hy2
 have HLT1:=qh hn
 have k0:(0:Int)≤(n:Int):=by omega
 have k1:(n:Int) < (l.length:Int):=by omega
 have hw:IntKind.i64.wrap ((n:Int)+1)=(n1:Int):=by rw [bw n (by have:=H.out.few;omega),HNN.out]
 have hw1:=bw n1 (by have:=H.out.few;have:=HNN.out;omega)
 have c1:=H.out.c1
 go_enter Tryz.func66,Tryz.ntmps66
 go_wp2_with fail
 clear c1
 refine (HN1.out w H.out).mono ?_
 rintro e w1 ⟨rfl,h1,g1⟩
 have H1:=qh h1
 have G1:=qh g1
 have c1:=h1.c1
 clear h1 g1
 go_wp2_with fail
 refine (dends_not w1 b c n A l tv T 0 0 H1.out HLT1.out).mono ?_
 rintro e w2 ⟨rfl,g⟩
 have H2:=qh (H1.out.grown g)
 have G2:=qh (G1.out.trans (grown_any g (some b)))
 clear c1
 have c0:=H2.out.c0
 have c1:=H2.out.c1
 clear g
 obtain ⟨g,off,hA,-,cc⟩:=H2.out.char HLT1.out
 rw [hy] at cc
 subst hA
 clear hy
 go_wp2_with fail
 go_quiet (fail)
 have c0:=(H2.out.grown (grown_draws (grown_refl w2 none) nq)).c0
 have c1:=(H2.out.grown (grown_draws (grown_refl w2 none) nq)).c1
 go_wp2_with (first
  | (refine storeD_at _ _ _ n1 rfl rfl rfl rfl rfl (H2.out.grown (grown_draws (grown_refl w2 none) _)) (by have:=HLT1.out;have:=HNN.out;omega) ?_;intro w3 h3 g3;have H3:=qh h3;have G3:Hid (w.grownBy w3 (some b)):=qh ((grown_draws G2.out _).trans g3);clear h3 g3)
  | fail)
 clear c0 c1
 have c1:=H3.out.c1
 refine (dends_not w3 b c n1 _ l tv T 0 0 H3.out HLT2.out).mono ?_
 rintro e w4 ⟨rfl,g⟩
 have H4:=qh (H3.out.grown g)
 have G4:=qh (G3.out.trans (grown_any g (some b)))
 clear c1
 have c0:=H4.out.c0
 have c1:=H4.out.c1
 clear g
 clear cc
 have cc:=H4.out.charAt HLT2.out HY2.out
 go_wp2_with fail
 go_quiet (fail)
 obtain ⟨w5,hw5⟩:∃ u,w4.drewN nq=u:=⟨_,rfl⟩
 have H5:Hid (IsD w5 b (some ⟨g,off,none⟩) l c n1 tv T 0 0):=qh (hw5▸H4.out.grown (grown_draws (grown_refl w4 none) _))
 have G5:Hid (w.grownBy w5 (some b)):=qh (hw5▸grown_draws G4.out _)
 rw [hw5]
 clear hw5 c0 c1 cc
 have c0:=H5.out.c0
 have c1:=H5.out.c1
 have cc:=H5.out.charAt HLT2.out HY2.out
 go_wp2_with fail
 clear c0 c1 cc
 refine (HN2.out w5 _ H5.out).mono ?_
 rintro e w6 ⟨rfl,h6,g6⟩
 have H6:=qh h6
 have G6:=qh (G5.out.trans g6)
 have c1:=h6.c1
 clear h6 g6
 go_wp2_with fail
 refine (dends_not w6 b c n2 _ l tv T 0 0 H6.out HLT.out).mono ?_
 rintro e w7 ⟨rfl,g⟩
 have H7:=qh (H6.out.grown g)
 have G7:=qh (G6.out.trans (grown_any g (some b)))
 clear c1
 have c0:=H7.out.c0
 have c1:=H7.out.c1
 clear g
 have cc:=H7.out.charAt HLT.out HY3.out
 go_wp2_with fail
 go_quiet (fail)
 go_wp2_with fail
 refine (dfail_new _ b c n2 _ l tv T 0 (H7.out.grown (grown_draws (grown_refl w7 none) _)) (fr:Int) 8).mono ?_
 rintro e wf ⟨rfl,hf,gf⟩
 have HF:=qh hf
 have GF:Hid (w.grownBy wf (some b)):=qh ((grown_draws G7.out _).trans gf)
 have c1:=hf.c1
 clear hf gf
 go_wp2_with (first
  | (refine storeD_at _ _ _ (n2+1) rfl rfl rfl rfl rfl HF.out (by have:=HLT.out;omega) ?_;intro w8 h8 g8;have H8:=qh h8;have G8:=qh (GF.out.trans g8);clear h8 g8)
  | fail)
 all_goals
  go_ret2
  rw [HR.out]
  exact ⟨G8.out,⟨_,_,rfl⟩,_,H8.out⟩
theorem dbra_two_e (w:World) (b c k fr:Nat) (A:Option Addr) (l:List Int) (tv:Value) (T:List Tok) (H:Hid (IsD w b A l c k tv T 0 0)) (n:Nat) (lo:Int) (HN1:Hid (∀ u,IsD u b A l c k tv T 0 0→Calls Tryz.prog 80 #[.pointer (some ⟨b,0,none⟩)] u (NumTo u b c n A l tv T lo))) (hn:n < l.length) (n1:Nat) (HNN:Hid (n+1=n1)) (d0:((n:Int) == (k:Int))=false) (y:Int) (hy:l[n]'hn=y) (hy44:(y == 44)=true) (hn2:n1 < l.length) (y2:Int) (hy2:l[n1]'hn2=y2) (h125:(y2 != 125)=true) (n2:Nat) (hi:Int) (HN2:Hid (∀ u A,IsD u b A l c n1 tv T 0 0→Calls Tryz.prog 80 #[.pointer (some ⟨b,0,none⟩)] u (NumTo u b c n2 A l tv T hi))) (hn3:n2 < l.length) (y3:Int) (hy3:l[n2]'hn3=y3) (d1:((n2:Int) == (n1:Int))=false) (h3:y3=125) (h5:¬ hi < lo) (h4:lo < 0) (r:Wr (Tok×Nat)) (HR:Hid (r=.error (fr,8))) :
 Calls Tryz.prog 66 #[.pointer (some ⟨b,0,none⟩),.int .i64 (fr:Int)] w (BraTo w b c A l tv T r):=by
 have HLT:=qh hn3
 have HY3:=qh hy3
 have i0:(0:Int)≤(n2:Int):=by omega
 have i1:(n2:Int) < (l.length:Int):=by omega
 have hw2:=bw n2 (by have:=H.out.few;omega)
 clear hy3
 have e1:(y3 != 125)=false:=by simpa using h3
 have s1:decide (hi < lo)=false:=decide_eq_false h5
 have e2:decide (lo < 0)=true:=decide_eq_true h4
 clear h3 h4 h5
 have HLT2:=qh hn2
 have HY2:=qh hy2
 have j0:(0:Int)≤(n1:Int):=by omega
 have j1:(n1:Int) < (l.length:Int):=by omega
 clear hy2
 have HLT1:=qh hn
 have k0:(0:Int)≤(n:Int):=by omega
 have k1:(n:Int) < (l.length:Int):=by omega
 have hw:IntKind.i64.wrap ((n:Int)+1)=(n1:Int):=by rw [bw n (by have:=H.out.few;omega),HNN.out]
 have hw1:=bw n1 (by have:=H.out.few;have:=HNN.out;omega)
 have c1:=H.out.c1
 go_enter Tryz.func66,Tryz.ntmps66
 go_wp2_with fail
 clear c1
 refine (HN1.out w H.out).mono ?_
 rintro e w1 ⟨rfl,h1,g1⟩
 have H1:=qh h1
 have G1:=qh g1
 have c1:=h1.c1
 clear h1 g1
 go_wp2_with fail
 refine (dends_not w1 b c n A l tv T 0 0 H1.out HLT1.out).mono ?_
 rintro e w2 ⟨rfl,g⟩
 have H2:=qh (H1.out.grown g)
 have G2:=qh (G1.out.trans (grown_any g (some b)))
 clear c1
 have c0:=H2.out.c0
 have c1:=H2.out.c1
 clear g
 obtain ⟨g,off,hA,-,cc⟩:=H2.out.char HLT1.out
 rw [hy] at cc
 subst hA
 clear hy
 go_wp2_with fail
 go_quiet (fail)
 have c0:=(H2.out.grown (grown_draws (grown_refl w2 none) nq)).c0
 have c1:=(H2.out.grown (grown_draws (grown_refl w2 none) nq)).c1
 go_wp2_with (first
  | (refine storeD_at _ _ _ n1 rfl rfl rfl rfl rfl (H2.out.grown (grown_draws (grown_refl w2 none) _)) (by have:=HLT1.out;have:=HNN.out;omega) ?_;intro w3 h3 g3;have H3:=qh h3;have G3:Hid (w.grownBy w3 (some b)):=qh ((grown_draws G2.out _).trans g3);clear h3 g3)
  | fail)
 clear c0 c1
 have c1:=H3.out.c1
 refine (dends_not w3 b c n1 _ l tv T 0 0 H3.out HLT2.out).mono ?_
 rintro e w4 ⟨rfl,g⟩
 have H4:=qh (H3.out.grown g)
 have G4:=qh (G3.out.trans (grown_any g (some b)))
 clear c1
 have c0:=H4.out.c0
 have c1:=H4.out.c1
 clear g
 clear cc
 have cc:=H4.out.charAt HLT2.out HY2.out
 go_wp2_with fail
 go_quiet (fail)
 obtain ⟨w5,hw5⟩:∃ u,w4.drewN nq=u:=⟨_,rfl⟩
 have H5:Hid (IsD w5 b (some ⟨g,off,none⟩) l c n1 tv T 0 0):=qh (hw5▸H4.out.grown (grown_draws (grown_refl w4 none) _))
 have G5:Hid (w.grownBy w5 (some b)):=qh (hw5▸grown_draws G4.out _)
 rw [hw5]
 clear hw5 c0 c1 cc
 have c0:=H5.out.c0
 have c1:=H5.out.c1
 have cc:=H5.out.charAt HLT2.out HY2.out
 go_wp2_with fail
 clear c0 c1 cc
 refine (HN2.out w5 _ H5.out).mono ?_
 rintro e w6 ⟨rfl,h6,g6⟩
 have H6:=qh h6
 have G6:=qh (G5.out.trans g6)
 have c1:=h6.c1
 clear h6 g6
 go_wp2_with fail
 refine (dends_not w6 b c n2 _ l tv T 0 0 H6.out HLT.out).mono ?_
 rintro e w7 ⟨rfl,g⟩
 have H7:=qh (H6.out.grown g)
 have G7:=qh (G6.out.trans (grown_any g (some b)))
 clear c1
 have c0:=H7.out.c0
 have c1:=H7.out.c1
 clear g
 have cc:=H7.out.charAt HLT.out HY3.out
 go_wp2_with fail
 go_quiet (fail)
 go_wp2_with fail
 refine (dfail_new _ b c n2 _ l tv T 0 (H7.out.grown (grown_draws (grown_refl w7 none) _)) (fr:Int) 8).mono ?_
 rintro e wf ⟨rfl,hf,gf⟩
 have HF:=qh hf
 have GF:Hid (w.grownBy wf (some b)):=qh ((grown_draws G7.out _).trans gf)
 have c1:=hf.c1
 clear hf gf
 go_wp2_with (first
  | (refine storeD_at _ _ _ (n2+1) rfl rfl rfl rfl rfl HF.out (by have:=HLT.out;omega) ?_;intro w8 h8 g8;have H8:=qh h8;have G8:=qh (GF.out.trans g8);clear h8 g8)
  | fail)
 all_goals
  go_ret2
  rw [HR.out]
  exact ⟨G8.out,⟨_,_,rfl⟩,_,H8.out⟩
theorem dbra_two_f (w:World) (b c k fr:Nat) (A:Option Addr) (l:List Int) (tv:Value) (T:List Tok) (H:Hid (IsD w b A l c k tv T 0 0)) (n:Nat) (lo:Int) (HN1:Hid (∀ u,IsD u b A l c k tv T 0 0→Calls Tryz.prog 80 #[.pointer (some ⟨b,0,none⟩)] u (NumTo u b c n A l tv T lo))) (hn:n < l.length) (n1:Nat) (HNN:Hid (n+1=n1)) (d0:((n:Int) == (k:Int))=false) (y:Int) (hy:l[n]'hn=y) (hy44:(y == 44)=true) (hn2:n1 < l.length) (y2:Int) (hy2:l[n1]'hn2=y2) (h125:(y2 != 125)=true) (n2:Nat) (hi:Int) (HN2:Hid (∀ u A,IsD u b A l c n1 tv T 0 0→Calls Tryz.prog 80 #[.pointer (some ⟨b,0,none⟩)] u (NumTo u b c n2 A l tv T hi))) (hn3:n2 < l.length) (y3:Int) (hy3:l[n2]'hn3=y3) (d1:((n2:Int) == (n1:Int))=false) (h3:y3=125) (h5:¬ hi < lo) (h4:¬ lo < 0) (r:Wr (Tok×Nat)) (HR:Hid (r=.ok (⟨6,0,lo,hi,0⟩,n2+1))) :
 Calls Tryz.prog 66 #[.pointer (some ⟨b,0,none⟩),.int .i64 (fr:Int)] w (BraTo w b c A l tv T r):=by
 have HLT:=qh hn3
 have HY3:=qh hy3
 have i0:(0:Int)≤(n2:Int):=by omega
 have i1:(n2:Int) < (l.length:Int):=by omega
 have hw2:=bw n2 (by have:=H.out.few;omega)
 clear hy3
 have e1:(y3 != 125)=false:=by simpa using h3
 have s1:decide (hi < lo)=false:=decide_eq_false h5
 have e2:decide (lo < 0)=false:=decide_eq_false h4
 have e3:(hi == -1)=false:=beq_eq_false_iff_ne.2 (by omega)
 have e4:(hi == -3)=false:=beq_eq_false_iff_ne.2 (by omega)
 have e5:(hi == -2)=false:=beq_eq_false_iff_ne.2 (by omega)
 clear h3 h4 h5
 have HLT2:=qh hn2
 have HY2:=qh hy2
 have j0:(0:Int)≤(n1:Int):=by omega
 have j1:(n1:Int) < (l.length:Int):=by omega
 clear hy2
 have HLT1:=qh hn
 have k0:(0:Int)≤(n:Int):=by omega
 have k1:(n:Int) < (l.length:Int):=by omega
 have hw:IntKind.i64.wrap ((n:Int)+1)=(n1:Int):=by rw [bw n (by have:=H.out.few;omega),HNN.out]
 have hw1:=bw n1 (by have:=H.out.few;have:=HNN.out;omega)
 have c1:=H.out.c1
 go_enter Tryz.func66,Tryz.ntmps66
 go_wp2_with fail
 clear c1
 refine (HN1.out w H.out).mono ?_
 rintro e w1 ⟨rfl,h1,g1⟩
 have H1:=qh h1
 have G1:=qh g1
 have c1:=h1.c1
 clear h1 g1
 go_wp2_with fail
 refine (dends_not w1 b c n A l tv T 0 0 H1.out HLT1.out).mono ?_
 rintro e w2 ⟨rfl,g⟩
 have H2:=qh (H1.out.grown g)
 have G2:=qh (G1.out.trans (grown_any g (some b)))
 clear c1
 have c0:=H2.out.c0
 have c1:=H2.out.c1
 clear g
 obtain ⟨g,off,hA,-,cc⟩:=H2.out.char HLT1.out
 rw [hy] at cc
 subst hA
 clear hy
 go_wp2_with fail
 go_quiet (fail)
 have c0:=(H2.out.grown (grown_draws (grown_refl w2 none) nq)).c0
 have c1:=(H2.out.grown (grown_draws (grown_refl w2 none) nq)).c1
 go_wp2_with (first
  | (refine storeD_at _ _ _ n1 rfl rfl rfl rfl rfl (H2.out.grown (grown_draws (grown_refl w2 none) _)) (by have:=HLT1.out;have:=HNN.out;omega) ?_;intro w3 h3 g3;have H3:=qh h3;have G3:Hid (w.grownBy w3 (some b)):=qh ((grown_draws G2.out _).trans g3);clear h3 g3)
  | fail)
 clear c0 c1
 have c1:=H3.out.c1
 refine (dends_not w3 b c n1 _ l tv T 0 0 H3.out HLT2.out).mono ?_
 rintro e w4 ⟨rfl,g⟩
 have H4:=qh (H3.out.grown g)
 have G4:=qh (G3.out.trans (grown_any g (some b)))
 clear c1
 have c0:=H4.out.c0
 have c1:=H4.out.c1
 clear g
 clear cc
 have cc:=H4.out.charAt HLT2.out HY2.out
 go_wp2_with fail
 go_quiet (fail)
 obtain ⟨w5,hw5⟩:∃ u,w4.drewN nq=u:=⟨_,rfl⟩
 have H5:Hid (IsD w5 b (some ⟨g,off,none⟩) l c n1 tv T 0 0):=qh (hw5▸H4.out.grown (grown_draws (grown_refl w4 none) _))
 have G5:Hid (w.grownBy w5 (some b)):=qh (hw5▸grown_draws G4.out _)
 rw [hw5]
 clear hw5 c0 c1 cc
 have c0:=H5.out.c0
 have c1:=H5.out.c1
 have cc:=H5.out.charAt HLT2.out HY2.out
 go_wp2_with fail
 clear c0 c1 cc
 refine (HN2.out w5 _ H5.out).mono ?_
 rintro e w6 ⟨rfl,h6,g6⟩
 have H6:=qh h6
 have G6:=qh (G5.out.trans g6)
 have c1:=h6.c1
 clear h6 g6
 go_wp2_with fail
 refine (dends_not w6 b c n2 _ l tv T 0 0 H6.out HLT.out).mono ?_
 rintro e w7 ⟨rfl,g⟩
 have H7:=qh (H6.out.grown g)
 have G7:=qh (G6.out.trans (grown_any g (some b)))
 clear c1
 have c0:=H7.out.c0
 have c1:=H7.out.c1
 clear g
 have cc:=H7.out.charAt HLT.out HY3.out
 go_wp2_with fail
 go_quiet (fail)
 have c1:=(H7.out.grown (grown_draws (grown_refl w7 none) nq)).c1
 go_wp2_with (first
  | (refine storeD_at _ _ _ (n2+1) rfl rfl rfl rfl rfl (H7.out.grown (grown_draws (grown_refl w7 none) _)) (by have:=HLT.out;omega) ?_;intro w8 h8 g8;have H8:=qh h8;have G8:Hid (w.grownBy w8 (some b)):=qh ((grown_draws G7.out _).trans g8);clear h8 g8)
  | fail)
 go_ret2
 rw [HR.out]
 exact ⟨G8.out,rfl,H8.out⟩
theorem dbraces_any (w:World) (b c k fr:Nat) (A:Option Addr) (l:List Int) (tv:Value) (T:List Tok) (h:IsD w b A l c k tv T 0 0) :
 Calls Tryz.prog 66 #[.pointer (some ⟨b,0,none⟩),.int .i64 (fr:Int)] w (BraTo w b c A l tv T (braT l fr k)):=by
 obtain ⟨D,hD⟩:∃ D,digT l k=D:=⟨_,rfl⟩
 obtain ⟨n,hn⟩:∃ n,k+D.length=n:=⟨_,rfl⟩
 have hnl:n≤l.length:=by have:=digT_length l k;have:=h.le;rw [hD] at *;omega
 have HN1:Hid (∀ u,IsD u b A l c k tv T 0 0→Calls Tryz.prog 80 #[.pointer (some ⟨b,0,none⟩)] u (NumTo u b c n A l tv T (numD D))):=qh fun u hu=>by
  have:=dnumber_any u b c k A l tv T hu
  rw [hD,hn] at this
  exact this
 have H:=qh h
 by_cases hend:l.length=n
 ·exact dbra_end w b c k fr A l tv T H n _ HN1 hend _ (qh (bra_end hD hn hend))
 have hlt:n < l.length:=by omega
 by_cases hne:D=[]
 ·subst hne
  have hkn:n=k:=by simpa using hn.symm
  exact dbra_none w b c k fr A l tv T H n _ HN1 hlt (by simp [hkn]) _ (qh (bra_none hD (by omega)))
 have hlen:0 < D.length:=List.length_pos_iff.2 hne
 have d0:((n:Int) == (k:Int))=false:=beq_eq_false_iff_ne.2 (by omega)
 by_cases h44:l[n]=44
 ·obtain ⟨n1,hn1⟩:∃ n1,n+1=n1:=⟨_,rfl⟩
  have HNN:=qh hn1
  have hy44:(l[n] == 44)=true:=by simpa using h44
  by_cases hl1:l.length=n+1
  ·exact dbra_end2 w b c k fr A l tv T H n _ HN1 hlt hl1 n1 HNN d0 _ rfl hy44 _ (qh (by rw [bra_end2 hD hn hne hlt h44 hl1,hn1]))
  have hlt1:n1 < l.length:=by omega
  obtain ⟨D2,hD2⟩:∃ D,digT l n1=D:=⟨_,rfl⟩
  obtain ⟨n2,hn2⟩:∃ n,n1+D2.length=n:=⟨_,rfl⟩
  have HB:=bra_two (fr:=fr) (D2:=D2) (n2:=n2) hD hn hne hlt h44 (by rw [hn1];exact hD2) (by rw [hn1];exact hn2)
  by_cases h125:l[n1]=125
  ·have hD2n:D2=[]:=by rw [← hD2,digT_next hlt1,h125];rfl
   subst hD2n
   have hn12:n2=n1:=by simpa using hn2.symm
   subst hn12
   rw [dif_pos hlt1] at HB
   have e125:(l[n2] != 125)=false:=by simpa using h125
   by_cases h2:numD D < 0
   ·exact dbra_opena w b c k fr A l tv T H n _ HN1 hlt n2 HNN d0 _ rfl hy44 hlt1 _ rfl e125 h2 _ (qh (by rw [HB,if_pos (.inr (.inl h2))]))
   ·exact dbra_openb w b c k fr A l tv T H n _ HN1 hlt n2 HNN d0 _ rfl hy44 hlt1 _ rfl e125 h2 _ (qh (by rw [HB,if_neg (by simp [h125,h2])];rfl))
  have e125:(l[n1] != 125)=true:=by simpa using h125
  have HN2:Hid (∀ u A,IsD u b A l c n1 tv T 0 0→Calls Tryz.prog 80 #[.pointer (some ⟨b,0,none⟩)] u (NumTo u b c n2 A l tv T (numD D2))):=qh fun u A hu=>by
   have:=dnumber_any u b c n1 A l tv T hu
   rw [hD2,hn2] at this
   exact this
  have hnl2:n2≤l.length:=by have:=digT_length l n1;rw [hD2] at this;omega
  by_cases hl2:l.length=n2
  ·exact dbra_two_end w b c k fr A l tv T H n _ HN1 hlt n1 HNN d0 _ rfl hy44 hlt1 _ rfl e125 n2 _ HN2 hl2 _ (qh (by rw [HB,dif_neg (by omega)]))
  have hlt2:n2 < l.length:=by omega
  rw [dif_pos hlt2] at HB
  by_cases hne2:D2=[]
  ·subst hne2
   have hn12:n2=n1:=by simpa using hn2.symm
   subst hn12
   exact dbra_two_m w b c k fr A l tv T H n _ HN1 hlt n2 HNN d0 _ rfl hy44 hlt1 _ rfl e125 n2 _ HN2 hlt2 _ rfl (by simp) h125 _ (qh (by rw [HB,if_pos (.inl h125)]))
  have hlen2:0 < D2.length:=List.length_pos_iff.2 hne2
  have d1:((n2:Int) == (n1:Int))=false:=beq_eq_false_iff_ne.2 (by omega)
  have h6:-1≤numD D2:=by rcases numT_two D2 hne2 (hD2▸digT_all l n1) with h | h <;> omega
  have h7:-1≤numD D:=by rcases numT_two D hne (hD▸digT_all l k) with h | h <;> omega
  by_cases h3:l[n2]=125
  ·by_cases h5:numD D2 < numD D
   ·by_cases h4:numD D < 0
    ·exact dbra_two_c w b c k fr A l tv T H n _ HN1 hlt n1 HNN d0 _ rfl hy44 hlt1 _ rfl e125 n2 _ HN2 hlt2 _ rfl d1 h3 h5 h4 _ (qh (by rw [HB,if_pos (.inr (.inl h4))]))
    ·exact dbra_two_d w b c k fr A l tv T H n _ HN1 hlt n1 HNN d0 _ rfl hy44 hlt1 _ rfl e125 n2 _ HN2 hlt2 _ rfl d1 h3 h5 h4 _ (qh (by rw [HB,if_pos (.inr (.inr ⟨hne2,.inr h5⟩))]))
   ·by_cases h4:numD D < 0
    ·exact dbra_two_e w b c k fr A l tv T H n _ HN1 hlt n1 HNN d0 _ rfl hy44 hlt1 _ rfl e125 n2 _ HN2 hlt2 _ rfl d1 h3 h5 h4 _ (qh (by rw [HB,if_pos (.inr (.inl h4))]))
    ·exact dbra_two_f w b c k fr A l tv T H n _ HN1 hlt n1 HNN d0 _ rfl hy44 hlt1 _ rfl e125 n2 _ HN2 hlt2 _ rfl d1 h3 h5 h4 _ (qh (by rw [HB,if_neg (by simp [h3,h4,hne2];omega)]))
  ·by_cases h5:numD D2 < numD D
   ·exact dbra_two_a w b c k fr A l tv T H n _ HN1 hlt n1 HNN d0 _ rfl hy44 hlt1 _ rfl e125 n2 _ HN2 hlt2 _ rfl d1 h3 h5 _ (qh (by rw [HB,if_pos (.inl h3)]))
   ·exact dbra_two_b w b c k fr A l tv T H n _ HN1 hlt n1 HNN d0 _ rfl hy44 hlt1 _ rfl e125 n2 _ HN2 hlt2 _ rfl d1 h3 h5 _ (qh (by rw [HB,if_pos (.inl h3)]))
 ·have hy44:(l[n] == 44)=false:=beq_eq_false_iff_ne.2 h44
  have HB:=bra_one (fr:=fr) hD hn hne hlt h44
  by_cases h125:l[n]=125
  ·by_cases h2:numD D < 0
   ·exact dbra_oneb w b c k fr A l tv T H n _ HN1 hlt d0 _ rfl hy44 h125 h2 _ (qh (by rw [HB,if_pos (.inr h2)]))
   ·exact dbra_onec w b c k fr A l tv T H n _ HN1 hlt d0 _ rfl hy44 h125 h2 _ (qh (by rw [HB,if_neg (by simp [h125,h2])]))
  ·exact dbra_onea w b c k fr A l tv T H n _ HN1 hlt d0 _ rfl hy44 h125 _ (qh (by rw [HB,if_pos (.inl h125)]))
end
end Go.Proofs.YtoeocodfndbebaaGreatDoor
