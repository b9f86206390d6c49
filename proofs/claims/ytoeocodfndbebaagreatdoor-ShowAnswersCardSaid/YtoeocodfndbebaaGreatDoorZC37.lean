/- Shared texts, shaken for one claim. -/
import Derived.Maps.OwnOps
import Derived.Test.YtoeocodfndbebaaGreatDoorZC6
import Derived.Test.YtoeocodfndbebaaGreatDoorZC20
import Derived.Test.YtoeocodfndbebaaGreatDoorZC36
set_option maxRecDepth 20000
set_option maxHeartbeats 16000000
namespace Go.Proofs.YtoeocodfndbebaaGreatDoor
section
def Tok.on (m:Nat) (t:Tok):Tok:=⟨t.k,t.c,t.lo,t.hi,t.pos+m⟩
section
variable (a b:List Int)
/-! what the first one reads is read in both -/
theorem at_pre {k:Nat} (h:k < a.length):(a++b)[k]?=a[k]?:=List.getElem?_append_left h
end
theorem read_fuel (l:List Int):∀ (n m:Nat) (c:Bool) (k:Nat) (T:List Tok),k≤l.length→l.length - k < n→l.length - k < m→readT l n c k T=readT l m c k T
 | 0,_,_,_,_,_,hn,_=>by omega
 | n+1,0,_,_,_,_,_,hm=>by omega
 | n+1,m+1,false,k,T,hk,hn,hm=>by
  by_cases hke:k=l.length
  ·subst hke;rw [readT_end,readT_end]
  ·rw [readT_out hke,readT_out hke]
   rcases ho:outT l (lastR T) k with e | ⟨t,k'⟩
   ·rfl
   ·have:=outT_ok ho
    exact read_fuel l n m _ k' _ this.2.1 (by omega) (by omega)
 | n+1,m+1,true,k,T,hk,hn,hm=>by
  rw [readT_in,readT_in]
  rcases ho:inT l k with e | ⟨t,k'⟩
  ·rfl
  ·have:=inT_ok ho
   exact read_fuel l n m _ k' _ this.2.1 (by omega) (by omega)
end
section
open Go.RowKit Go.Maps
theorem look_def {w:World} {b n:Nat} {M:Int→Option Int} {ops:Array Oper} {rest:List Oper} {o:Oper} {a:Act} {Q:Exit→Act→World→Prop} (hg:o.guard=none) {t:TypeId} {m x:Operand} (hop:o.op=Op.lookup t m x false) (ht:Tryz.prog.underlying t=some (.map 3 3))
 (hm:a.eval m=.map (some b)) (h:MapAt w b n M) {k:Int} (hx:a.eval x=.int .i64 k) (hk:(Lit.int .i64 k).wf=true)
 (hK:wpList Tryz.prog ops Q rest (a.put o.dst (.int .i64 ((M k).getD 0))) w):wpList Tryz.prog ops Q (o :: rest) a w:=by
 obtain ⟨D,hown,hR⟩:=h
 refine wpList_lookup_own_int w hg m x t hop 3 3 .i64 keyI ht Tryz.underlying3 (by go_simp) b n D hm hown _ (.int .i64 k) hx (keyOf_int_mk Tryz.underlying3 hk) ?_
 intro c hc _
 have h1:=hR.2 k
 cases hM:M k with
 | none =>
  rw [hM] at h1 hK
  rw [atKey_of_not_has h1] at hc
  injection hc with hc
  injection hc with _ hc
  subst hc
  exact hK
 | some y =>
  rw [hM] at h1 hK
  rw [h1] at hc
  injection hc with hc
  injection hc with _ hc
  subst hc
  exact hK
def RD (l:List Int) (cls:Bool) (k:Nat) (T:List Tok):Wr (List Tok):=readT l (l.length+1 - k) cls k T
section
variable {l:List Int} {k:Nat} {T:List Tok}
theorem RD_end:RD l false l.length T=.ok T:=by
 unfold RD;rw [show l.length+1 - l.length=0+1 by omega,readT_end]
theorem RD_in (hk:k≤l.length):RD l true k T=(match inT l k with
 | .error e=>.error e
 | .ok (t,k')=>RD l (t.k != 8) k' (T++[t])):=by
 unfold RD
 rw [show l.length+1 - k=(l.length - k)+1 by omega,readT_in]
 rcases h:inT l k with e | ⟨t,k'⟩
 ·rfl
 ·have:=inT_ok h
  exact read_fuel l _ _ _ k' _ this.2.1 (by omega) (by omega)
theorem RD_out (hk:k < l.length):RD l false k T=(match outT l (lastR T) k with
 | .error e=>.error e
 | .ok (t,k')=>RD l (t.k == 7) k' (T++[t])):=by
 unfold RD
 rw [show l.length+1 - k=(l.length - k)+1 by omega,readT_out (by omega)]
 rcases h:outT l (lastR T) k with e | ⟨t,k'⟩
 ·rfl
 ·have:=outT_ok h
  exact read_fuel l _ _ _ k' _ this.2.1 (by omega) (by omega)
theorem RD_of (h:¬ 200 < l.length):ofT l=RD l false 0 []:=by unfold ofT RD;rw [if_neg h];rfl
end
def StD (w:World) (b c:Nat) (A:Option Addr) (l:List Int) (R:Wr (List Tok)) (k0:Nat):Prop :=
 (∃ k tv T,IsD w b A l c k tv T 0 0∧RD l false k T=R∧T.length≤k∧(lastR T=true→l[k]?≠some 63)∧k0 < k)∨(∃ k tv T p x,IsD w b A l c k tv T (p:Nat) x∧x≠0∧R=.error (p,x)∧T.length≤300)
def RepTo (w:World) (b c k:Nat) (A:Option Addr) (l:List Int) (T:List Tok) (t:Tok) (ed:Ending) (w':World):Prop :=
 ed=.returned (.tuple #[])∧Below b w w'∧∃ tv',if l[k]?=some 63 then IsD w' b A l c (k+1) tv' (T++[t]++[⟨13,0,0,0,(k:Int)⟩]) 0 0 else IsD w' b A l c k tv' (T++[t]) 0 0
theorem drep_any (w:World) (b c k:Nat) (A:Option Addr) (l:List Int) (tv:Value) (T:List Tok) (h:IsD w b A l c k tv T 0 0) (hT:T.length≤900) (at_ lo hi:Int) :
 Calls Tryz.prog 65 #[.pointer (some ⟨b,0,none⟩),.int .i64 at_,.int .i64 lo,.int .i64 hi] w (RepTo w b c k A l T ⟨6,0,lo,hi,at_⟩):=by
 have hw:=bw k (by have:=h.few;have:=h.le;omega)
 obtain ⟨T1,hT1⟩:∃ T1,T++[(⟨6,0,lo,hi,at_⟩:Tok)]=T1:=⟨_,rfl⟩
 have hT1l:T1.length≤1000:=by rw [← hT1];simp;omega
 have HP:=qh (dput_any w b c k A l tv T 0 0 h (by omega) ⟨6,0,lo,hi,at_⟩)
 have HT1:=qh hT1
 rw [hT1] at HP
 have hle:=h.le
 clear h hT1
 by_cases hk:k < l.length
 ·by_cases h63:l[k]=63
  ·have HL:Hid (l[k]?=some 63):=qh (by rw [List.getElem?_eq_getElem hk,h63])
   have HK:=qh hk
   have H63:=qh h63
   have k0:(0:Int)≤(k:Int):=by omega
   have k1:(k:Int) < (l.length:Int):=by omega
   have d0:decide ((k:Int) < (l.length:Int))=true:=decide_eq_true k1
   clear h63
   go_enter Tryz.func65,Tryz.ntmps65
   go_wp2_with fail
   refine HP.out.mono ?_
   rintro e w1 ⟨rfl,⟨tv1,h1⟩,b1⟩
   have H1:=qh h1
   have B1:=qh b1
   have c0:=h1.c0
   have c1:=h1.c1
   have c4:=h1.c4
   obtain ⟨g,off,hA,-,cc⟩:=h1.char HK.out
   rw [H63.out] at cc
   subst hA
   clear h1 b1
   go_wp2_with fail
   go_quiet (fail)
   obtain ⟨w2,hw2⟩:∃ u,w1.drewN nq=u:=⟨_,rfl⟩
   have H2:Hid (IsD w2 b (some ⟨g,off,none⟩) l c k tv1 T1 0 0):=qh (hw2▸H1.out.grown (grown_draws (grown_refl w1 none) _))
   have B2:Hid (Below b w w2):=qh (hw2▸B1.out.trans (below_row (grown_draws (grown_refl w1 (some b)) nq) (Nat.le_refl _) (by have:=H1.out.lt;omega)))
   rw [hw2]
   clear hw2 c0 c1 c4 cc
   have c1:=H2.out.c1
   go_wp2_with fail
   refine (dput_any w2 b c k _ l tv1 T1 0 0 H2.out hT1l ⟨13,0,0,0,(k:Int)⟩).mono ?_
   rintro e w3 ⟨rfl,⟨tv3,h3⟩,b3⟩
   have H3:=qh h3
   have B3:=qh (B2.out.trans b3)
   clear c1
   have c1:=h3.c1
   clear h3 b3
   go_wp2_with (first
    | (refine storeD_at _ _ _ (k+1) rfl rfl rfl rfl rfl H3.out (by have:=HK.out;omega) ?_;intro w4 h4 g4;have H4:=qh h4;have B4:=qh (B3.out.trans (below_row g4 (Nat.le_refl _) (by have:=H3.out.lt;omega)));clear h4 g4)
    | fail)
   refine bodyPost_end (results_none rfl _ _ _) rfl ⟨rfl,B4.out,tv3,?_⟩
   rw [if_pos HL.out,HT1.out]
   exact H4.out
  ·have HL:Hid (¬ l[k]?=some 63):=qh (by rw [List.getElem?_eq_getElem hk];simpa using h63)
   have HK:=qh hk
   obtain ⟨y,hy,h63⟩:∃ y:Int,l[k]'hk=y∧y≠63:=⟨_,rfl,h63⟩
   have HY:Hid (l[k]'hk=y):=qh hy
   have d1:(y == 63)=false:=by simpa using h63
   have k0:(0:Int)≤(k:Int):=by omega
   have k1:(k:Int) < (l.length:Int):=by omega
   have d0:decide ((k:Int) < (l.length:Int))=true:=decide_eq_true k1
   clear h63 hy
   go_enter Tryz.func65,Tryz.ntmps65
   go_wp2_with fail
   refine HP.out.mono ?_
   rintro e w1 ⟨rfl,⟨tv1,h1⟩,b1⟩
   have H1:=qh h1
   have B1:=qh b1
   have c0:=h1.c0
   have c1:=h1.c1
   have c4:=h1.c4
   obtain ⟨g,off,hA,-,cc⟩:=h1.char HK.out
   rw [show l[k]'_=y from HY.out] at cc
   subst hA
   clear h1 b1
   go_wp2_with fail
   go_quiet (fail)
   obtain ⟨w2,hw2⟩:∃ u,w1.drewN nq=u:=⟨_,rfl⟩
   have H2:Hid (IsD w2 b (some ⟨g,off,none⟩) l c k tv1 T1 0 0):=qh (hw2▸H1.out.grown (grown_draws (grown_refl w1 none) _))
   have B2:Hid (Below b w w2):=qh (hw2▸B1.out.trans (below_row (grown_draws (grown_refl w1 (some b)) nq) (Nat.le_refl _) (by have:=H1.out.lt;omega)))
   rw [hw2]
   clear hw2 c0 c1 c4 cc
   go_wp2_with fail
   refine bodyPost_end (results_none rfl _ _ _) rfl ⟨rfl,B2.out,tv1,?_⟩
   rw [if_neg HL.out,HT1.out]
   exact H2.out
 ·have HL:Hid (¬ l[k]?=some 63):=qh (by rw [List.getElem?_eq_none (by omega)];simp)
  have d0:decide ((k:Int) < (l.length:Int))=false:=decide_eq_false (by omega)
  have d00:decide (k < l.length)=false:=decide_eq_false hk
  go_enter Tryz.func65,Tryz.ntmps65
  go_wp2_with fail
  refine HP.out.mono ?_
  rintro e w1 ⟨rfl,⟨tv1,h1⟩,b1⟩
  have H1:=qh h1
  have B1:=qh b1
  have c0:=h1.c0
  have c1:=h1.c1
  have c4:=h1.c4
  clear h1 b1
  go_wp2_with fail
  go_quiet (fail)
  obtain ⟨w2,hw2⟩:∃ u,w1.drewN nq=u:=⟨_,rfl⟩
  have H2:Hid (IsD w2 b A l c k tv1 T1 0 0):=qh (hw2▸H1.out.grown (grown_draws (grown_refl w1 none) _))
  have B2:Hid (Below b w w2):=qh (hw2▸B1.out.trans (below_row (grown_draws (grown_refl w1 (some b)) nq) (Nat.le_refl _) (by have:=H1.out.lt;omega)))
  rw [hw2]
  clear hw2 c0 c1 c4
  go_wp2_with fail
  refine bodyPost_end (results_none rfl _ _ _) rfl ⟨rfl,B2.out,tv1,?_⟩
  rw [if_neg HL.out,HT1.out]
  exact H2.out
theorem drep_bad (w:World) (b c k:Nat) (A:Option Addr) (l:List Int) (tv:Value) (T:List Tok) (p x:Int) (h:IsD w b A l c k tv T p x) (hx:x≠0) (hT:T.length≤900) (at_ lo hi:Int) :
 Calls Tryz.prog 65 #[.pointer (some ⟨b,0,none⟩),.int .i64 at_,.int .i64 lo,.int .i64 hi] w fun e w'=>e=.returned (.tuple #[])∧Below b w w'∧∃ tv',IsD w' b A l c k tv' (T++[⟨6,0,lo,hi,at_⟩]) p x:=by
 obtain ⟨T1,hT1⟩:∃ T1,T++[(⟨6,0,lo,hi,at_⟩:Tok)]=T1:=⟨_,rfl⟩
 have HP:=qh (dput_any w b c k A l tv T p x h (by omega) ⟨6,0,lo,hi,at_⟩)
 rw [hT1] at HP ⊢
 have d0:(x == 0)=false:=by simpa using hx
 clear h hT1 hx hT
 go_enter Tryz.func65,Tryz.ntmps65
 go_wp2_with fail
 refine HP.out.mono ?_
 rintro e w1 ⟨rfl,⟨tv1,h1⟩,b1⟩
 have H1:=qh h1
 have B1:=qh b1
 have c4:=h1.c4
 clear h1 b1
 go_wp2_with fail
 go_quiet (fail)
 obtain ⟨w2,hw2⟩:∃ u,w1.drewN nq=u:=⟨_,rfl⟩
 have H2:Hid (IsD w2 b A l c k tv1 T1 p x):=qh (hw2▸H1.out.grown (grown_draws (grown_refl w1 none) _))
 have B2:Hid (Below b w w2):=qh (hw2▸B1.out.trans (below_row (grown_draws (grown_refl w1 (some b)) nq) (Nat.le_refl _) (by have:=H1.out.lt;omega)))
 rw [hw2]
 clear hw2 c4
 go_wp2_with fail
 exact bodyPost_end (results_none rfl _ _ _) rfl ⟨rfl,B2.out,_,H2.out⟩
end
end Go.Proofs.YtoeocodfndbebaaGreatDoor
