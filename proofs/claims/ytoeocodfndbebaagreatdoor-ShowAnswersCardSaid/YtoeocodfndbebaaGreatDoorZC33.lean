/- Shared texts, shaken for one claim. -/
import Derived.Test.YtoeocodfndbebaaGreatDoorZC32
set_option maxRecDepth 20000
set_option maxHeartbeats 16000000
namespace Go.Proofs.YtoeocodfndbebaaGreatDoor
section
open Go.RowKit
def ShrD (g:List Tok→DR):Prop:=∀ T n R,g T=.ok (n,R)→R.length≤T.length
theorem setT_less {f:Int} {t:Tok} {T:List Tok} {rs:List (Int×Int)} {R:List Tok} (h:setT f t T=some (rs,R)):R.length≤T.length:=by
 unfold setT at h
 split at h
 ·injection h with h;injection h with e1 e2;subst e2;exact Nat.le_refl _
 ·split at h
  ·rcases hc:classL f T with _ | ⟨rs',R'⟩
   ·rw [hc] at h;cases h
   ·rw [hc] at h;injection h with h;injection h with e1 e2;subst e2;exact Nat.le_of_lt (classL_shr hc)
  ·injection h with h;injection h with e1 e2;subst e2;exact Nat.le_refl _
section
variable {inner:Option (List Tok→DR)} {f:Int} {E q:Nat}
theorem dAtom_shr (hin:∀ g,inner=some g→ShrD g) {T:List Tok} {n:Nd} {R:List Tok} (h:dAtom inner f E T=.ok (n,R)):R.length < T.length:=by
 rcases T with _ | ⟨t,T⟩
 ·cases h
 unfold dAtom at h
 simp only at h
 by_cases h3:t.k=3
 ·rw [if_pos h3] at h
  rcases hi:inner with _ | g
  ·rw [hi] at h;cases h
  ·rw [hi] at h
   simp only at h
   rcases hg:g T with x | ⟨m,_ | ⟨s,S⟩⟩
   ·rw [hg] at h;cases h
   ·rw [hg] at h;cases h
   ·rw [hg] at h
    simp only at h
    by_cases h4:s.k=4
    ·rw [if_pos h4] at h
     injection h with h;injection h with h1 h2;subst h2
     have:=hin g hi _ _ _ hg
     simp at this ⊢;omega
    ·rw [if_neg h4] at h;cases h
 rw [if_neg h3] at h
 by_cases h10:t.k=10
 ·rw [if_pos h10] at h;injection h with h;injection h with h1 h2;subst h2;simp
 rw [if_neg h10] at h
 by_cases h11:t.k=11
 ·rw [if_pos h11] at h;injection h with h;injection h with h1 h2;subst h2;simp
 rw [if_neg h11] at h
 by_cases h6:t.k=6
 ·rw [if_pos h6] at h;cases h
 rw [if_neg h6] at h
 rcases hs:setT f t T with _ | ⟨rs,R'⟩
 ·rw [hs] at h;cases h
 ·rw [hs] at h;injection h with h;injection h with h1 h2;subst h2
  have:=setT_less hs
  simp;omega
theorem dRep_shr (hin:∀ g,inner=some g→ShrD g) {T:List Tok} {n:Nd} {R:List Tok} (h:dRep inner f E T=.ok (n,R)):R.length < T.length:=by
 unfold dRep at h
 rcases ha:dAtom inner f E T with x | ⟨m,R'⟩
 ·rw [ha] at h;cases h
 have hm:=dAtom_shr hin ha
 rw [ha] at h
 rcases R' with _ | ⟨t,R'⟩
 ·injection h with h;injection h with h1 h2;subst h2;exact hm
 simp only at h
 by_cases h6:t.k=6
 ·rw [if_pos h6] at h
  have hd:=dropIs_len R' [13]
  rcases he:dropIs R' [13] with _ | ⟨s,S⟩
  ·rw [he] at h;injection h with h;injection h with h1 h2;subst h2;simp at hm ⊢;omega
  ·rw [he] at h hd
   simp only at h
   by_cases hs:s.k=6
   ·rw [if_pos hs] at h;cases h
   ·rw [if_neg hs] at h;injection h with h;injection h with h1 h2;subst h2;simp at hm hd ⊢;omega
 ·rw [if_neg h6] at h;injection h with h;injection h with h1 h2;subst h2;exact hm
theorem dJoinL_shr (hin:∀ g,inner=some g→ShrD g):∀ (k:Nat) {T:List Tok} {ns:List Nd} {R:List Tok},dJoinL inner f E k T=.ok (ns,R)→R.length≤T.length
 | 0,T,ns,R,h=>by cases h
 | k+1,T,ns,R,h=>by
  rw [dJoinL] at h
  by_cases hc:T=[]∨kindIs T [5,4]=true
  ·rw [if_pos hc] at h;injection h with h;injection h with h1 h2;subst h2;exact Nat.le_refl _
  ·rw [if_neg hc] at h
   rcases hr:dRep inner f E T with x | ⟨n,S⟩
   ·rw [hr] at h;cases h
   ·rw [hr] at h
    simp only at h
    have h1:=dRep_shr hin hr
    rcases hj:dJoinL inner f E k S with x | ⟨ms,S'⟩
    ·rw [hj] at h;cases h
    ·rw [hj] at h;injection h with h;injection h with h2 h3;subst h3
     have:=dJoinL_shr hin k hj
     omega
theorem dJoin_shr (hin:∀ g,inner=some g→ShrD g) (k:Nat):ShrD (dJoin inner f E k):=by
 intro T n R h
 unfold dJoin at h
 rcases hj:dJoinL inner f E k T with x | ⟨ms,S'⟩
 ·rw [hj] at h;cases h
 ·rw [hj] at h;injection h with h;injection h with h2 h3;subst h3;exact dJoinL_shr hin k hj
theorem dOrL_shr (hin:∀ g,inner=some g→ShrD g):∀ (k:Nat) {T:List Tok} {ns:List Nd} {R:List Tok},dOrL inner f E q k T=.ok (ns,R)→R.length≤T.length
 | 0,T,ns,R,h=>by cases h
 | k+1,T,ns,R,h=>by
  rw [dOrL] at h
  by_cases hc:kindIs T [5]=true
  ·rw [if_pos hc] at h
   rcases hr:dJoin inner f E q T.tail with x | ⟨n,S⟩
   ·rw [hr] at h;cases h
   ·rw [hr] at h
    simp only at h
    have h1:=dJoin_shr hin q _ _ _ hr
    rcases hj:dOrL inner f E q k S with x | ⟨ms,S'⟩
    ·rw [hj] at h;cases h
    ·rw [hj] at h;injection h with h;injection h with h2 h3;subst h3
     have:=dOrL_shr hin k hj
     simp at h1;omega
  ·rw [if_neg hc] at h;injection h with h;injection h with h1 h2;subst h2;exact Nat.le_refl _
theorem dOr1_shr (hin:∀ g,inner=some g→ShrD g):ShrD (dOr1 inner f E q):=by
 intro T n R h
 unfold dOr1 at h
 rcases hr:dJoin inner f E q T with x | ⟨m,S⟩
 ·rw [hr] at h;cases h
 ·rw [hr] at h
  simp only at h
  have h1:=dJoin_shr hin q _ _ _ hr
  rcases hj:dOrL inner f E q q S with x | ⟨ms,S'⟩
  ·rw [hj] at h;cases h
  ·rw [hj] at h;injection h with h;injection h with h2 h3;subst h3
   have:=dOrL_shr hin q hj
   omega
end
theorem dOr_shr (f:Int) (E q:Nat):∀ d,ShrD (dOr f E q d)
 | 0=>dOr1_shr fun g h=>by cases h
 | d+1=>dOr1_shr fun g h=>by injection h with h;subst h;exact dOr_shr f E q d
def preL (ks:List Nd):Except (Int×Int) (List Nd×List Tok)→Except (Int×Int) (List Nd×List Tok)
 | .error e=>.error e
 | .ok (ns,R)=>.ok (ks++ns,R)
section
variable {inner:Option (List Tok→DR)} {f:Int} {E q k:Nat} {T:List Tok} {ks:List Nd}
theorem preL_nil (y:Except (Int×Int) (List Nd×List Tok)):preL [] y=y:=by rcases y with e | ⟨ns,R⟩ <;> rfl
theorem preL_end (h:T=[]∨kindIs T [5,4]=true):preL ks (dJoinL inner f E (k+1) T)=.ok (ks,T):=by
 rw [dJoinL,if_pos h];simp [preL]
theorem preL_err (h:¬ (T=[]∨kindIs T [5,4]=true)) {e:Int×Int} (hr:dRep inner f E T=.error e):preL ks (dJoinL inner f E (k+1) T)=.error e:=by
 rw [dJoinL,if_neg h,hr];rfl
theorem preL_ok (h:¬ (T=[]∨kindIs T [5,4]=true)) {n:Nd} {R:List Tok} (hr:dRep inner f E T=.ok (n,R)):preL ks (dJoinL inner f E (k+1) T)=preL (ks++[n]) (dJoinL inner f E k R):=by
 rw [dJoinL,if_neg h,hr]
 simp only
 rcases dJoinL inner f E k R with e | ⟨ns,R'⟩ <;> simp [preL]
end
def leftE (b:Nat) (w:World):Nat:=match w.cell? ⟨b,4,none⟩ with
 | some (.int _ z)=>if z=0 then leftAt b w+1 else 0
 | _=>0
theorem IsG.leftR {w:World} {b E:Nat} {T:List Tok} {f p:Int} (h:IsG w b T E f p 0):leftE b w=T.length+1:=by
 have h1:=h.left
 obtain ⟨A,c,hb,-,-⟩:=h.box
 unfold leftE
 rw [hb.cell (i:=4) (u:=.int .i64 0) rfl]
 show (if (0:Int)=0 then leftAt b w+1 else 0)=_
 rw [if_pos rfl,h1]
theorem IsG.leftW {w:World} {b E:Nat} {T:List Tok} {f p x:Int} (h:IsG w b T E f p x) (hx:x≠0):leftE b w=0:=by
 obtain ⟨A,c,hb,-,-⟩:=h.box
 unfold leftE
 rw [hb.cell (i:=4) (u:=.int .i64 x) rfl]
 show (if x=0 then leftAt b w+1 else 0)=0
 rw [if_neg hx]
structure RowF (w:World) (lo:Nat) (ov:Value) (vs:List (Array Value)):Prop where
 own:OwnN w lo 25 5 ov vs.length (vs.flatMap Array.toList)
 form:∀ v∈vs,FormV v
theorem Treed.formV {w:World} {P:Nat→Prop} {n:Nd} {v:Array Value} (h:Treed w P n v):FormV v:=h.form
theorem KidsAt.rowF {w:World} {lo:Nat} {ov:Value} {ks:List Nd} (h:KidsAt w lo ov ks):∃ vs,vs.length=ks.length∧RowF w lo ov vs∧∀ (i:Nat) (h1:i < vs.length) (h2:i < ks.length),Treed w (fun x=>lo≤x∧x < w.heap.size∧ov.ownBlock≠some x) ks[i] vs[i]:=by
 obtain ⟨vs,h0,ho,hk⟩:=h.ex
 refine ⟨vs,h0,⟨h0▸ho,fun v hv=>?_⟩,hk⟩
 obtain ⟨i,hi,rfl⟩:=List.getElem_of_mem hv
 exact (hk i hi (by omega)).formV
theorem RowF.push {w':World} {lo:Nat} {v':Value} {vs:List (Array Value)} {v:Array Value} (h:∀ v∈vs,FormV v) (hv:FormV v) (ho:OwnN w' lo 25 5 v' (vs.length+1) (vs.flatMap Array.toList++v.toList)):RowF w' lo v' (vs++[v]) :=
 ⟨by simpa using ho,fun u hu=>by
  rcases List.mem_append.1 hu with hu | hu
  ·exact h u hu
  ·rw [List.mem_singleton] at hu;exact hu▸hv⟩
def endV (kind:Int) (ov:Value):List (Array Value)→Array Value
 | []=>#[.int .i64 1,.slice none 0 0,.int .i64 0,.int .i64 0,.slice none 0 0]
 | [v]=>v
 | _=>#[.int .i64 kind,.slice none 0 0,.int .i64 0,.int .i64 0,ov]
structure Gone (w wr:World) (b E:Nat) (f kind:Int) (r:DR) (ov:Value) (vs:List (Array Value)):Prop where
 row:RowF wr (w.heap.size+1) ov vs
 grown:w.grownBy wr (some b)
 box:Box wr w.heap.size ndZero 25
 few:vs.length≤1001
 fin:∀ w9,wr.grownBy w9 (some w.heap.size)→NdG w b E f r (.returned (.agg (endV kind ov vs))) w9
theorem Gone.right {w wr:World} {b E:Nat} {f kind:Int} {ov:Value} {ks:List Nd} {R:List Tok} (hb:b < w.heap.size) (K:KidsAt wr (w.heap.size+1) ov ks) (hR:IsG wr b R E f 0 0) (G:w.grownBy wr (some b)) (X:Box wr w.heap.size ndZero 25) (hl:ks.length≤1001) :
 ∃ vs,Gone w wr b E f kind (.ok (togT kind ks,R)) ov vs:=by
 obtain ⟨A,c,hov,ht⟩:=K.tree kind
 obtain ⟨vs,h0,hrow,hk⟩:=K.rowF
 refine ⟨vs,hrow,G,X,by omega,fun w9 g9=>⟨grown_two G g9 (Nat.le_refl _),?_⟩⟩
 have hsz:=g9.size
 refine ⟨_,rfl,?_,hR.grown g9 (fun g e=>by injection e with e;omega)⟩
 rcases ks with _ | ⟨n,_ | ⟨m,ns⟩⟩
 ·obtain rfl:vs=[]:=List.eq_nil_of_length_eq_zero h0
  exact treed_none 1
 ·obtain ⟨v,rfl⟩:∃ v,vs=[v]:=by
   rcases vs with _ | ⟨v,_ | ⟨v',vs⟩⟩
   ·simp at h0
   ·exact ⟨v,rfl⟩
   ·simp at h0
  have hn:=hk 0 (by simp) (by simp)
  simp only [List.getElem_cons_zero] at hn
  exact (hn.grown g9 (fun x hx e=>by injection e with e;have:=hx.1;omega)).mono fun x hx=>⟨by have:=hx.1;omega,Nat.lt_of_lt_of_le hx.2.1 hsz⟩
 ·rcases vs with _ | ⟨v,_ | ⟨v',vs⟩⟩
  ·simp at h0
  ·simp at h0
  ·show Treed w9 _ (.mk kind 0 0 [] (n :: m :: ns)) #[.int .i64 kind,.slice none 0 0,.int .i64 0,.int .i64 0,ov]
   rw [hov]
   exact (ht.grown g9 (fun x hx e=>by injection e with e;have:=hx.1;omega)).mono fun x hx=>⟨by have:=hx.1;omega,Nat.lt_of_lt_of_le hx.2 hsz⟩
theorem endV_form {kind:Int} {ov:Value} {vs:List (Array Value)} (hv:∀ v∈vs,FormV v) (ho:∃ A m c,ov=.slice A m c):FormV (endV kind ov vs):=by
 obtain ⟨A,m,c,rfl⟩:=ho
 rcases vs with _ | ⟨v,_ | ⟨v',vs⟩⟩
 ·exact ⟨_,_,_,_,_,_,_,_,_,rfl⟩
 ·exact hv v (by simp)
 ·exact ⟨_,_,_,_,_,_,_,_,_,rfl⟩
theorem Gone.wrong {w wr:World} {b E:Nat} {f kind p x:Int} {ov:Value} {vs:List (Array Value)} {R:List Tok} (hb:b < w.heap.size) (K:RowF wr (w.heap.size+1) ov vs) (hR:IsG wr b R E f p x) (G:w.grownBy wr (some b)) (X:Box wr w.heap.size ndZero 25) (hl:vs.length≤1001) :
 Gone w wr b E f kind (.error (p,x)) ov vs:=by
 refine ⟨K,G,X,hl,fun w9 g9=>⟨grown_two G g9 (Nat.le_refl _),?_⟩⟩
 obtain ⟨A,c,hov,-,-,-⟩:=K.own.form
 exact ⟨_,R,rfl,endV_form K.form ⟨A,_,c,hov⟩,hR.grown g9 (fun g e=>by injection e with e;omega)⟩
theorem gjoin_any {inner:Option (List Tok→DR)} {b E q:Nat} {f deep:Int} (hin:∀ g,inner=some g→ShrD g) (HA:∀ (u:World) (T:List Tok),¬ T=[]→kindIs T [5,4]=false→NE (dAtom inner f E T)→IsG u b T E f 0 0→Calls Tryz.prog 69 #[.pointer (some ⟨b,0,none⟩),.int .i64 deep] u (NdG u b E f (dAtom inner f E T)))
 (w:World) (T:List Tok) (h:IsG w b T E f 0 0) (hne:NE (dJoin inner f E q T)) :
 Calls Tryz.prog 45 #[.pointer (some ⟨b,0,none⟩),.int .i64 deep] w (NdG w b E f (dJoin inner f E q T)):=by
 have HLT:=qh h.lt
 have HAA:=qh HA
 have HSH:=qh (fun (T:List Tok) (n:Nd) (R:List Tok) (h:dRep inner f E T=.ok (n,R))=>dRep_shr hin h)
 have HSA:=qh (fun (T:List Tok) (n:Nd) (R:List Tok) (h:dAtom inner f E T=.ok (n,R))=>dAtom_shr hin h)
 obtain ⟨JX,hJX⟩:∃ y,dJoinL inner f E q T=y:=⟨_,rfl⟩
 obtain ⟨X,hX⟩:∃ y,dJoin inner f E q T=y:=⟨_,rfl⟩
 have HX:Hid (∀ ks R,JX=.ok (ks,R)→X=.ok (togT 3 ks,R)):=qh fun ks R h=>by rw [← hX];unfold dJoin;rw [hJX,h]
 have HXE:Hid (∀ e,JX=.error e→X=.error e):=qh fun e h=>by rw [← hX];unfold dJoin;rw [hJX,h]
 have HNE:Hid (∀ p,JX≠.error (p,0)):=qh fun p h=>by rw [hX] at hne;exact hne p (HXE.out _ h)
 have HJ0:Hid (preL [] (dJoinL inner f E q T)=JX):=qh (by rw [preL_nil];exact hJX)
 have H0:Hid (IsG (w.alloc (.cells #[.int .i64 0,.slice none 0 0,.int .i64 0,.int .i64 0,.slice none 0 0] 25)) b T E f 0 0):=qh (h.up (grown_new w _ none))
 have G0:Hid (w.grownBy (w.alloc (.cells #[.int .i64 0,.slice none 0 0,.int .i64 0,.int .i64 0,.slice none 0 0] 25)) (some b)):=qh (grown_new w _ _)
 have X0:Hid (Box (w.alloc (.cells #[.int .i64 0,.slice none 0 0,.int .i64 0,.int .i64 0,.slice none 0 0] 25)) w.heap.size ndZero 25):=qh (Box.new w _ _)
 have HFEW:=qh h.few
 rw [hX]
 clear hin HA hne hJX hX h
 go_enter Tryz.func45,Tryz.ntmps45
 go_wp2_with fail
 go_loopw [5] (fun ov wr=>Hid ((∃ (k:Nat) (T':List Tok) (ks:List Nd),preL ks (dJoinL inner f E k T')=JX∧KidsAt wr (w.heap.size+1) ov ks∧IsG wr b T' E f 0 0∧ks.length+T'.length≤1000)∨(∃ (p x:Int) (T':List Tok) (vs:List (Array Value)),JX=.error (p,x)∧x≠0∧RowF wr (w.heap.size+1) ov vs∧IsG wr b T' E f p x∧vs.length≤1001))∧Hid (w.grownBy wr (some b))∧Hid (Box wr w.heap.size ndZero 25)) (fun _ wr=>leftE b wr)
 case atStart=>exact ⟨qh (.inl ⟨q,T,[],HJ0.out,KidsAt.empty _ _,H0.out,by have:=HFEW.out;simp;omega⟩),G0,X0⟩
 case round =>
  clear HJ0 H0 G0 X0 HFEW
  obtain ⟨HI,G,X0⟩:=hrel
  rcases HI.out with ⟨k,T',ks,hE,hK,hR,hl⟩ | ⟨p,x,T',vs,hE,hx,hK,hR,hl⟩
  ·have K:=qh hK
   have Rr:=qh hR
   have HE:=qh hE
   obtain ⟨k,rfl⟩:∃ m,k=m+1:=by
    rcases k with _ | k
    ·exact absurd hE.symm (HNE.out 0)
    ·exact ⟨k,rfl⟩
   obtain ⟨A0,c0,hbx,-,-⟩:=hR.box
   have b0:=(hbx.cell (i:=0) rfl:wr.cell? ⟨b,0,none⟩=some (.slice A0 T'.length c0))
   have b4:=(hbx.cell (i:=4) rfl:wr.cell? ⟨b,4,none⟩=some (.int .i64 0))
   clear hbx HI
   by_cases hc:T'=[]∨kindIs T' [5,4]=true
   ·have HGO:Hid (∃ vs,Gone w wr b E f 3 X u5 vs):=qh (by
     rw [HX.out ks T' (by rw [← hE,preL_end hc])]
     exact Gone.right HLT.out hK hR G.out X0.out (by omega))
    have HRG:=qh hR
    clear hE hK hR hl K Rr HE
    rcases T' with _ | ⟨t,T'⟩
    ·simp only [List.length_nil] at b0
     obtain ⟨vs,hgo⟩:=HGO.out
     have GO:=qh hgo
     obtain ⟨A9,c9,hov,-,-,-⟩:=hgo.row.own.form
     subst hov
     have HF9:=qh hgo.fin
     have X9:=qh hgo.box
     clear hgo
     rcases vs with _ | ⟨v,_ | ⟨v2,vs⟩⟩
     ·simp only [List.length_nil]
      go_wp2_with (first
       | (refine store_nd wr _ _ w.heap.size ndZero #[.int .i64 1,.slice none 0 0,.int .i64 0,.int .i64 0,.slice none 0 0] rfl rfl rfl rfl rfl X9.out rfl rfl (by simp [Value.oneCell']) ?_;intro w9 x9 g9;have Y9:=qh x9;have F9:=qh (HF9.out w9 g9);clear x9 g9)
       | fail)
      (try simp only [Exit.inBlock,Exit.then])
      exact bodyPost_ret (v:=.agg _) (ret_nd rfl _ _ w.heap.size _ rfl rfl Y9.out) rfl F9.out
     ·have hfv:=GO.out.row.form v (by simp)
      obtain ⟨k1,Ar,nr,cr,lo1,hi1,Ak,nk,ck,rfl⟩:=hfv
      obtain ⟨g,c',hv,-,-,hgl,hcell⟩:=GO.out.row.own.block (by simp)
      injection hv with hA _ _
      subst hA
      have q0:=hcell 0 (by simp)
      have q1:=hcell 1 (by simp)
      have q2:=hcell 2 (by simp)
      have q3:=hcell 3 (by simp)
      have q4:=hcell 4 (by simp)
      simp only [List.flatMap_cons,List.flatMap_nil,List.append_nil,List.getElem?_cons_zero,List.getElem?_cons_succ] at q0 q1 q2 q3 q4
      simp only [List.length_cons,List.length_nil,Nat.zero_add]
      clear hcell
      go_wp2_with (first
       | (refine store_nd wr _ _ w.heap.size ndZero #[.int .i64 k1,.slice Ar nr cr,.int .i64 lo1,.int .i64 hi1,.slice Ak nk ck] rfl rfl rfl rfl rfl X9.out rfl rfl (by simp [Value.oneCell']) ?_;intro w9 x9 g9;have Y9:=qh x9;have F9:=qh (HF9.out w9 g9);clear x9 g9)
       | fail)
      (try simp only [Exit.inBlock,Exit.then])
      exact bodyPost_ret (v:=.agg _) (ret_nd rfl _ _ w.heap.size _ rfl rfl Y9.out) rfl F9.out
     ·obtain ⟨z9,hz9⟩:∃ z,(v :: v2 :: vs).length=z:=⟨_,rfl⟩
      have d0:((z9:Int) == 0)=false:=by simp at hz9 ⊢;omega
      have d1:((z9:Int) == 1)=false:=by simp at hz9 ⊢;omega
      have d2:(z9 == 0)=false:=by simp at hz9 ⊢;omega
      have d3:(z9 == 1)=false:=by simp at hz9 ⊢;omega
      rw [hz9] at HF9 ⊢
      clear hz9
      go_wp2_with (first
       | (refine store_nd wr _ _ w.heap.size ndZero #[.int .i64 3,.slice none 0 0,.int .i64 0,.int .i64 0,.slice A9 z9 c9] rfl rfl rfl rfl rfl X9.out rfl rfl (by simp [Value.oneCell']) ?_;intro w9 x9 g9;have Y9:=qh x9;have F9:=qh (HF9.out w9 g9);clear x9 g9)
       | fail)
      (try simp only [Exit.inBlock,Exit.then])
      exact bodyPost_ret (v:=.agg _) (ret_nd rfl _ _ w.heap.size _ rfl rfl Y9.out) rfl F9.out
    ·have hkt:t.k=5∨t.k=4:=by simpa [kindIs] using hc
     obtain ⟨nt,hnt⟩:∃ nt,(t :: T').length=nt:=⟨_,rfl⟩
     have p0:(0:Int) < (nt:Int):=by simp at hnt;omega
     have p1:decide ((0:Int) < (nt:Int))=true:=decide_eq_true p0
     have p2:decide (0 < nt)=true:=decide_eq_true (by omega)
     rw [hnt] at b0
     rcases hkt with hkt | hkt
     ·have HK:Hid (Calls Tryz.prog 46 #[.pointer (some ⟨b,0,none⟩)] wr fun e w'=>e=.returned (.int .i64 5)∧wr=w'):=qh (hkt▸gkind_any wr b (t :: T') E f 0 0 HRG.out)
      clear hkt hnt hc
      go_wp2_with fail
      refine HK.out.mono ?_
      rintro e1 w2 ⟨rfl,rfl⟩
      obtain ⟨vs,hgo⟩:=HGO.out
      have GO:=qh hgo
      obtain ⟨A9,c9,hov,-,-,-⟩:=hgo.row.own.form
      subst hov
      have HF9:=qh hgo.fin
      have X9:=qh hgo.box
      clear hgo
      rcases vs with _ | ⟨v,_ | ⟨v2,vs⟩⟩
      ·simp only [List.length_nil]
       go_wp2_with (first
        | (refine store_nd wr _ _ w.heap.size ndZero #[.int .i64 1,.slice none 0 0,.int .i64 0,.int .i64 0,.slice none 0 0] rfl rfl rfl rfl rfl X9.out rfl rfl (by simp [Value.oneCell']) ?_;intro w9 x9 g9;have Y9:=qh x9;have F9:=qh (HF9.out w9 g9);clear x9 g9)
        | fail)
       (try simp only [Exit.inBlock,Exit.then])
       exact bodyPost_ret (v:=.agg _) (ret_nd rfl _ _ w.heap.size _ rfl rfl Y9.out) rfl F9.out
      ·have hfv:=GO.out.row.form v (by simp)
       obtain ⟨k1,Ar,nr,cr,lo1,hi1,Ak,nk,ck,rfl⟩:=hfv
       obtain ⟨g,c',hv,-,-,hgl,hcell⟩:=GO.out.row.own.block (by simp)
       injection hv with hA _ _
       subst hA
       have q0:=hcell 0 (by simp)
       have q1:=hcell 1 (by simp)
       have q2:=hcell 2 (by simp)
       have q3:=hcell 3 (by simp)
       have q4:=hcell 4 (by simp)
       simp only [List.flatMap_cons,List.flatMap_nil,List.append_nil,List.getElem?_cons_zero,List.getElem?_cons_succ] at q0 q1 q2 q3 q4
       simp only [List.length_cons,List.length_nil,Nat.zero_add]
       clear hcell
       go_wp2_with (first
        | (refine store_nd wr _ _ w.heap.size ndZero #[.int .i64 k1,.slice Ar nr cr,.int .i64 lo1,.int .i64 hi1,.slice Ak nk ck] rfl rfl rfl rfl rfl X9.out rfl rfl (by simp [Value.oneCell']) ?_;intro w9 x9 g9;have Y9:=qh x9;have F9:=qh (HF9.out w9 g9);clear x9 g9)
        | fail)
       (try simp only [Exit.inBlock,Exit.then])
       exact bodyPost_ret (v:=.agg _) (ret_nd rfl _ _ w.heap.size _ rfl rfl Y9.out) rfl F9.out
      ·obtain ⟨z9,hz9⟩:∃ z,(v :: v2 :: vs).length=z:=⟨_,rfl⟩
       have d0:((z9:Int) == 0)=false:=by simp at hz9 ⊢;omega
       have d1:((z9:Int) == 1)=false:=by simp at hz9 ⊢;omega
       have d2:(z9 == 0)=false:=by simp at hz9 ⊢;omega
       have d3:(z9 == 1)=false:=by simp at hz9 ⊢;omega
       rw [hz9] at HF9 ⊢
       clear hz9
       go_wp2_with (first
        | (refine store_nd wr _ _ w.heap.size ndZero #[.int .i64 3,.slice none 0 0,.int .i64 0,.int .i64 0,.slice A9 z9 c9] rfl rfl rfl rfl rfl X9.out rfl rfl (by simp [Value.oneCell']) ?_;intro w9 x9 g9;have Y9:=qh x9;have F9:=qh (HF9.out w9 g9);clear x9 g9)
        | fail)
       (try simp only [Exit.inBlock,Exit.then])
       exact bodyPost_ret (v:=.agg _) (ret_nd rfl _ _ w.heap.size _ rfl rfl Y9.out) rfl F9.out
     ·have HK:Hid (Calls Tryz.prog 46 #[.pointer (some ⟨b,0,none⟩)] wr fun e w'=>e=.returned (.int .i64 4)∧wr=w'):=qh (hkt▸gkind_any wr b (t :: T') E f 0 0 HRG.out)
      clear hkt hnt hc
      go_wp2_with fail
      refine HK.out.mono ?_
      rintro e1 w2 ⟨rfl,rfl⟩
      go_wp2_with fail
      refine HK.out.mono ?_
      rintro e1 w2 ⟨rfl,rfl⟩
      obtain ⟨vs,hgo⟩:=HGO.out
      have GO:=qh hgo
      obtain ⟨A9,c9,hov,-,-,-⟩:=hgo.row.own.form
      subst hov
      have HF9:=qh hgo.fin
      have X9:=qh hgo.box
      clear hgo
      rcases vs with _ | ⟨v,_ | ⟨v2,vs⟩⟩
      ·simp only [List.length_nil]
       go_wp2_with (first
        | (refine store_nd wr _ _ w.heap.size ndZero #[.int .i64 1,.slice none 0 0,.int .i64 0,.int .i64 0,.slice none 0 0] rfl rfl rfl rfl rfl X9.out rfl rfl (by simp [Value.oneCell']) ?_;intro w9 x9 g9;have Y9:=qh x9;have F9:=qh (HF9.out w9 g9);clear x9 g9)
        | fail)
       (try simp only [Exit.inBlock,Exit.then])
       exact bodyPost_ret (v:=.agg _) (ret_nd rfl _ _ w.heap.size _ rfl rfl Y9.out) rfl F9.out
      ·have hfv:=GO.out.row.form v (by simp)
       obtain ⟨k1,Ar,nr,cr,lo1,hi1,Ak,nk,ck,rfl⟩:=hfv
       obtain ⟨g,c',hv,-,-,hgl,hcell⟩:=GO.out.row.own.block (by simp)
       injection hv with hA _ _
       subst hA
       have q0:=hcell 0 (by simp)
       have q1:=hcell 1 (by simp)
       have q2:=hcell 2 (by simp)
       have q3:=hcell 3 (by simp)
       have q4:=hcell 4 (by simp)
       simp only [List.flatMap_cons,List.flatMap_nil,List.append_nil,List.getElem?_cons_zero,List.getElem?_cons_succ] at q0 q1 q2 q3 q4
       simp only [List.length_cons,List.length_nil,Nat.zero_add]
       clear hcell
       go_wp2_with (first
        | (refine store_nd wr _ _ w.heap.size ndZero #[.int .i64 k1,.slice Ar nr cr,.int .i64 lo1,.int .i64 hi1,.slice Ak nk ck] rfl rfl rfl rfl rfl X9.out rfl rfl (by simp [Value.oneCell']) ?_;intro w9 x9 g9;have Y9:=qh x9;have F9:=qh (HF9.out w9 g9);clear x9 g9)
        | fail)
       (try simp only [Exit.inBlock,Exit.then])
       exact bodyPost_ret (v:=.agg _) (ret_nd rfl _ _ w.heap.size _ rfl rfl Y9.out) rfl F9.out
      ·obtain ⟨z9,hz9⟩:∃ z,(v :: v2 :: vs).length=z:=⟨_,rfl⟩
       have d0:((z9:Int) == 0)=false:=by simp at hz9 ⊢;omega
       have d1:((z9:Int) == 1)=false:=by simp at hz9 ⊢;omega
       have d2:(z9 == 0)=false:=by simp at hz9 ⊢;omega
       have d3:(z9 == 1)=false:=by simp at hz9 ⊢;omega
       rw [hz9] at HF9 ⊢
       clear hz9
       go_wp2_with (first
        | (refine store_nd wr _ _ w.heap.size ndZero #[.int .i64 3,.slice none 0 0,.int .i64 0,.int .i64 0,.slice A9 z9 c9] rfl rfl rfl rfl rfl X9.out rfl rfl (by simp [Value.oneCell']) ?_;intro w9 x9 g9;have Y9:=qh x9;have F9:=qh (HF9.out w9 g9);clear x9 g9)
        | fail)
       (try simp only [Exit.inBlock,Exit.then])
       exact bodyPost_ret (v:=.agg _) (ret_nd rfl _ _ w.heap.size _ rfl rfl Y9.out) rfl F9.out
   ·have hcn:¬ T'=[]:=fun e=>hc (.inl e)
    have hck:kindIs T' [5,4]=false:=by simpa using fun e=>hc (.inr e)
    have HER:Hid (∀ e,dRep inner f E T'=.error e→JX=.error e):=qh fun e hr=>by rw [← hE];exact preL_err hc hr
    have HOK:Hid (∀ n R,dRep inner f E T'=.ok (n,R)→preL (ks++[n]) (dJoinL inner f E k R)=JX):=qh fun n R hr=>by rw [← hE];exact (preL_ok hc hr).symm
    have HSHT:=qh (HSH.out T')
    have hna:NE (dAtom inner f E T'):=fun p ha=>by
     refine HNE.out p (HER.out _ ?_)
     unfold dRep
     rw [ha]
    have HAT:=qh (HAA.out wr T' hcn hck hna hR)
    have HREP:Hid (dRep inner f E T'=match dAtom inner f E T' with
     | .error x=>.error x
     | .ok (n,[])=>.ok (n,[])
     | .ok (n,t :: R)=>if t.k=6 then (match dropIs R [13] with
      | []=>.ok (.mk 5 t.lo t.hi [] [n],[])
      | s :: S=>if s.k=6 then .error (s.pos,5) else .ok (.mk 5 t.lo t.hi [] [n],s :: S)) else .ok (n,t :: R)):=qh rfl
    have HSAT:=qh (HSA.out T')
    have HLF:=qh Rr.out.leftR
    have HNA:=qh hna
    obtain ⟨AX,hAX⟩:∃ y,dAtom inner f E T'=y:=⟨_,rfl⟩
    rw [hAX] at HAT HREP HSAT HNA
    rcases T' with _ | ⟨t,T'⟩
    ·exact absurd rfl hcn
    have hkt:¬ t.k=5∧¬ t.k=4:=by simpa [kindIs] using hck
    have HLL:Hid (ks.length+(t :: T').length≤1000):=qh hl
    have HKT:Hid (Calls Tryz.prog 46 #[.pointer (some ⟨b,0,none⟩)] wr fun e w'=>e=.returned (.int .i64 t.k)∧wr=w'):=qh (gkind_any wr b (t :: T') E f 0 0 hR)
    obtain ⟨tk0,htk⟩:∃ z,t.k=z:=⟨_,rfl⟩
    rw [htk] at HKT hkt
    have k5:(tk0 != 5)=true:=by simpa using hkt.1
    have k4:(tk0 != 4)=true:=by simpa using hkt.2
    have k5b:(tk0 == 5)=false:=by simpa using hkt.1
    have k4b:(tk0 == 4)=false:=by simpa using hkt.2
    obtain ⟨nt,hnt⟩:∃ nt,(t :: T').length=nt:=⟨_,rfl⟩
    have p0:(0:Int) < (nt:Int):=by simp at hnt;omega
    have p1:decide ((0:Int) < (nt:Int))=true:=decide_eq_true p0
    have p2:decide (0 < nt)=true:=decide_eq_true (by omega)
    have HNT:=qh hnt
    rw [hnt] at b0
    obtain ⟨vs,h0,hrow,hk⟩:=hK.rowF
    have HH0:=qh h0
    have HROW:=qh hrow
    obtain ⟨A3,c3,hov,-,-,-⟩:=hrow.own.form
    subst hov
    obtain ⟨nn,hnn⟩:∃ nn,vs.length=nn:=⟨_,rfl⟩
    have hnl:nn≤1001:=by omega
    have HNN:=qh hnn
    have HKD:Hid (∀ (i:Nat) (h1:i < vs.length) (h2:i < ks.length),Treed wr (fun x=>w.heap.size+1≤x∧x < wr.heap.size∧(Value.slice A3 nn c3).ownBlock≠some x) ks[i] vs[i]):=qh fun i h1 h2=>(hk i h1 h2).mono fun x hx=>⟨hx.1,hx.2.1,by rw [← hnn];exact hx.2.2⟩
    rw [hnn] at HROW K ⊢
    have ZW:Hid (w.heap.size+1≤wr.heap.size):=qh X0.out.lt
    clear hE hK hR hl HE hna hcn hck hc hAX hkt hnt h0 hrow hk hnn htk
    go_wp2_with fail
    refine HKT.out.mono ?_
    rintro e1 w2 ⟨rfl,rfl⟩
    go_wp2_with fail
    refine HKT.out.mono ?_
    rintro e1 w2 ⟨rfl,rfl⟩
    go_wp2_with fail
    refine HAT.out.mono ?_
    rintro e1 w1 ⟨g1,hm⟩
    clear b0 b4 HAT HKT
    rcases AX with ⟨p,x⟩ | ⟨n,Ra⟩
    ·obtain ⟨v,Ra,rfl,hfv,r1⟩:=hm
     obtain ⟨k1,Ar,nr,cr,lo1,hi1,Ak,nk,ck,rfl⟩:=hfv
     have HEE:Hid (JX=.error (p,x)):=qh (HER.out _ HREP.out)
     have hx:x≠0:=fun e=>HNA.out p (by rw [e])
     have d0:(x == 0)=false:=by simpa using hx
     have HXX:=qh hx
     have N2:w1.grownBy (w1.alloc (.cells #[.int .i64 k1,.slice Ar nr cr,.int .i64 lo1,.int .i64 hi1,.slice Ak nk ck] 25)) none:=grown_new w1 _ none
     have GU:Hid (wr.grownBy (w1.alloc (.cells #[.int .i64 k1,.slice Ar nr cr,.int .i64 lo1,.int .i64 hi1,.slice Ak nk ck] 25)) (some b)):=qh (g1.trans (grown_new w1 _ (some b)))
     have XU:Hid (Box (w1.alloc (.cells #[.int .i64 k1,.slice Ar nr cr,.int .i64 lo1,.int .i64 hi1,.slice Ak nk ck] 25)) w.heap.size ndZero 25):=qh (X0.out.kept GU.out (by have:=HLT.out;simp;omega))
     have RU:=qh (r1.up N2)
     have LLU:Hid (Lies ((w1.alloc (.cells #[.int .i64 k1,.slice Ar nr cr,.int .i64 lo1,.int .i64 hi1,.slice Ak nk ck] 25)).alloc (.cells #[.int .i64 k1,.slice Ar nr cr,.int .i64 lo1,.int .i64 hi1,.slice Ak nk ck] 25)) (w1.heap.size+2) (some ⟨w1.heap.size+1,0,none⟩) [.int .i64 k1,.slice Ar nr cr,.int .i64 lo1,.int .i64 hi1,.slice Ak nk ck]):=qh (by
      have h:=Lies.lit (w:=(w1.alloc (.cells #[.int .i64 k1,.slice Ar nr cr,.int .i64 lo1,.int .i64 hi1,.slice Ak nk ck] 25))) (e:=25) #[.int .i64 k1,.slice Ar nr cr,.int .i64 lo1,.int .i64 hi1,.slice Ak nk ck]
      rw [World.size_alloc] at h
      exact h)
     have ZU:=qh (Nat.le_trans ZW.out GU.out.size)
     have HOU:Hid (OwnN (w1.alloc (.cells #[.int .i64 k1,.slice Ar nr cr,.int .i64 lo1,.int .i64 hi1,.slice Ak nk ck] 25)) (w.heap.size+1) 25 5 (.slice A3 nn c3) nn (vs.flatMap Array.toList)):=qh (by
      have h:=HROW.out.own.keep GU.out (.inr fun e=>by have:=(HROW.out.own.inside b e).1;have:=HLT.out;omega)
      rw [HNN.out] at h
      exact h)
     obtain ⟨A1,c1,hbx,-,-⟩:=RU.out.box
     have b4:=(hbx.cell (i:=4) rfl:(w1.alloc (.cells #[.int .i64 k1,.slice Ar nr cr,.int .i64 lo1,.int .i64 hi1,.slice Ak nk ck] 25)).cell? ⟨b,4,none⟩=some (.int .i64 x))
     have RPU:Hid (∀ (v':Value) (w':World),OwnN w' (w.heap.size+1) 25 5 v' (nn+1) (vs.flatMap Array.toList++(#[.int .i64 k1,.slice Ar nr cr,.int .i64 lo1,.int .i64 hi1,.slice Ak nk ck]:Array Value).toList)→RowF w' (w.heap.size+1) v' (vs++[#[.int .i64 k1,.slice Ar nr cr,.int .i64 lo1,.int .i64 hi1,.slice Ak nk ck]])):=qh fun v' w' o=>RowF.push HROW.out.form ⟨_,_,_,_,_,_,_,_,_,rfl⟩ (by rw [HNN.out];exact o)
     clear g1 r1 N2 hbx hx
     go_wp2_with (first
      | (at_builtin;go_loud (refine appN_at ndT (w1.alloc (.cells #[.int .i64 k1,.slice Ar nr cr,.int .i64 lo1,.int .i64 hi1,.slice Ak nk ck] 25)) _ (w.heap.size+1) _ _ _ (.slice A3 nn c3) nn 1 (vs.flatMap Array.toList) [.int .i64 k1,.slice Ar nr cr,.int .i64 lo1,.int .i64 hi1,.slice Ak nk ck] _ _ rfl rfl rfl rfl (HOU.out.alloc _) LLU.out rfl (by simp [Value.oneCell']) ((Below.refl _ _).alloc ZU.out _) (by have:=ZU.out;rw [World.size_alloc];omega) (by unfold maxLen;omega) (by omega) ?_;intro v2 w2 o2 b2 g2 e2;have K2:=qh (RPU.out v2 w2 o2);have G2:=qh (grown_below (G.out.trans GU.out) b2 (Nat.le_succ _));have X2:=qh (XU.out.below b2 (Nat.lt_succ_self _));have R2:=qh (RU.out.below b2 (by have:=HLT.out;omega));clear o2 b2 g2 e2))
      | fail)
     go_roundw
     case rel=>exact ⟨qh (.inr ⟨p,x,_,vs++[#[.int .i64 k1,.slice Ar nr cr,.int .i64 lo1,.int .i64 hi1,.slice Ak nk ck]],HEE.out,HXX.out,K2.out,R2.out,by have h1:=HLL.out;have h2:=HNN.out;have h3:=HH0.out;simp at *;omega⟩),G2,X2⟩
     case measure=>have h1:=R2.out.leftW HXX.out;have h2:=HLF.out;simp at *;omega
    ·obtain ⟨v,rfl,t1,r1⟩:=hm
     obtain ⟨k1,Ar,nr,cr,lo1,hi1,Ak,nk,ck,hv⟩:=t1.formV
     subst hv
     have N2:w1.grownBy (w1.alloc (.cells #[.int .i64 k1,.slice Ar nr cr,.int .i64 lo1,.int .i64 hi1,.slice Ak nk ck] 25)) none:=grown_new w1 _ none
     have GU:Hid (wr.grownBy (w1.alloc (.cells #[.int .i64 k1,.slice Ar nr cr,.int .i64 lo1,.int .i64 hi1,.slice Ak nk ck] 25)) (some b)):=qh (g1.trans (grown_new w1 _ (some b)))
     have XU:Hid (Box (w1.alloc (.cells #[.int .i64 k1,.slice Ar nr cr,.int .i64 lo1,.int .i64 hi1,.slice Ak nk ck] 25)) w.heap.size ndZero 25):=qh (X0.out.kept GU.out (by have:=HLT.out;simp;omega))
     have RU:=qh (r1.up N2)
     have LLU:Hid (Lies ((w1.alloc (.cells #[.int .i64 k1,.slice Ar nr cr,.int .i64 lo1,.int .i64 hi1,.slice Ak nk ck] 25)).alloc (.cells #[.int .i64 k1,.slice Ar nr cr,.int .i64 lo1,.int .i64 hi1,.slice Ak nk ck] 25)) (w1.heap.size+2) (some ⟨w1.heap.size+1,0,none⟩) [.int .i64 k1,.slice Ar nr cr,.int .i64 lo1,.int .i64 hi1,.slice Ak nk ck]):=qh (by
      have h:=Lies.lit (w:=(w1.alloc (.cells #[.int .i64 k1,.slice Ar nr cr,.int .i64 lo1,.int .i64 hi1,.slice Ak nk ck] 25))) (e:=25) #[.int .i64 k1,.slice Ar nr cr,.int .i64 lo1,.int .i64 hi1,.slice Ak nk ck]
      rw [World.size_alloc] at h
      exact h)
     have ZU:=qh (Nat.le_trans ZW.out GU.out.size)
     have HOU:Hid (OwnN (w1.alloc (.cells #[.int .i64 k1,.slice Ar nr cr,.int .i64 lo1,.int .i64 hi1,.slice Ak nk ck] 25)) (w.heap.size+1) 25 5 (.slice A3 nn c3) nn (vs.flatMap Array.toList)):=qh (by
      have h:=HROW.out.own.keep GU.out (.inr fun e=>by have:=(HROW.out.own.inside b e).1;have:=HLT.out;omega)
      rw [HNN.out] at h
      exact h)
     obtain ⟨A1,c1,hbx,-,-⟩:=RU.out.box
     have b4:=(hbx.cell (i:=4) rfl:(w1.alloc (.cells #[.int .i64 k1,.slice Ar nr cr,.int .i64 lo1,.int .i64 hi1,.slice Ak nk ck] 25)).cell? ⟨b,4,none⟩=some (.int .i64 0))
     have TU:Hid (Treed (w1.alloc (.cells #[.int .i64 k1,.slice Ar nr cr,.int .i64 lo1,.int .i64 hi1,.slice Ak nk ck] 25)) (Fresh wr (w1.alloc (.cells #[.int .i64 k1,.slice Ar nr cr,.int .i64 lo1,.int .i64 hi1,.slice Ak nk ck] 25))) n #[.int .i64 k1,.slice Ar nr cr,.int .i64 lo1,.int .i64 hi1,.slice Ak nk ck]):=qh ((t1.grown N2 (fun x hx e=>by cases e)).mono fun x hx=>⟨by have:=hx.1;have:=g1.size;omega,Nat.lt_of_lt_of_le hx.2 N2.size⟩)
     have HSR:=qh (HSAT.out n Ra rfl)
     by_cases h6:kindIs Ra [6]=false
     ·have HKU0:Hid (∀ z,kd Ra=z→(z == 6)=false):=qh fun z hz=>by
       rcases Ra with _ | ⟨s,S⟩
       ·rw [← hz];rfl
       ·have h7:¬ s.k=6:=by simpa [kindIs] using h6
        rw [← hz]
        show (s.k == 6)=false
        simpa using h7
      have HEE:Hid (preL (ks++[n]) (dJoinL inner f E k Ra)=JX):=qh (HOK.out n Ra (by
       rw [HREP.out]
       rcases Ra with _ | ⟨s,S⟩
       ·rfl
       ·have:¬ s.k=6:=by simpa [kindIs] using h6
        simp only
        rw [if_neg this]))
      have HK:=gkind_any (w1.alloc (.cells #[.int .i64 k1,.slice Ar nr cr,.int .i64 lo1,.int .i64 hi1,.slice Ak nk ck] 25)) b Ra E f 0 0 RU.out
      obtain ⟨z6,hz6⟩:∃ z,kd Ra=z:=⟨_,rfl⟩
      have d6:=HKU0.out z6 hz6
      rw [hz6] at HK
      have HKK:=qh HK
      have HKU:Hid (∀ (i:Nat) (h1:i < vs.length) (h2:i < ks.length),Treed (w1.alloc (.cells #[.int .i64 k1,.slice Ar nr cr,.int .i64 lo1,.int .i64 hi1,.slice Ak nk ck] 25)) (fun x=>w.heap.size+1≤x∧x < (w1.alloc (.cells #[.int .i64 k1,.slice Ar nr cr,.int .i64 lo1,.int .i64 hi1,.slice Ak nk ck] 25)).heap.size∧(Value.slice A3 nn c3).ownBlock≠some x) ks[i] vs[i]):=qh fun i h1 h2=>((HKD.out i h1 h2).grown GU.out (fun x hx e=>by have:=hx.1;have:=HLT.out;injection e with e;omega)).mono fun x hx=>⟨hx.1,Nat.lt_of_lt_of_le hx.2.1 GU.out.size,hx.2.2⟩
      have HPU:Hid (∀ (lit:Obj) (v':Value) (w':World),OwnN w' (w.heap.size+1) 25 5 v' (nn+1) (vs.flatMap Array.toList++(#[.int .i64 k1,.slice Ar nr cr,.int .i64 lo1,.int .i64 hi1,.slice Ak nk ck]:Array Value).toList)→((w1.alloc (.cells #[.int .i64 k1,.slice Ar nr cr,.int .i64 lo1,.int .i64 hi1,.slice Ak nk ck] 25)).alloc lit).grownBy w' (Value.slice A3 nn c3).ownBlock→(v'.ownBlock=(Value.slice A3 nn c3).ownBlock∨∃ q,v'.ownBlock=some q∧((w1.alloc (.cells #[.int .i64 k1,.slice Ar nr cr,.int .i64 lo1,.int .i64 hi1,.slice Ak nk ck] 25)).alloc lit).heap.size≤q)→KidsAt w' (w.heap.size+1) v' (ks++[n])):=qh fun lit v' w' o g e=>KidsAt.push (w:=wr) (lit:=lit) HH0.out (by have h1:=HROW.out.own;rw [HH0.out] at h1;exact h1) HKU.out GU.out.size ZW.out TU.out (by rw [← HH0.out,HNN.out];exact o) g e
      clear g1 t1 r1 N2 hbx h6 HK hz6
      go_wp2_with fail
      refine HKK.out.mono ?_
      rintro e1 w2 ⟨rfl,rfl⟩
      clear b4
      go_wp2_with (first
       | (at_builtin;go_loud (refine appN_at ndT (w1.alloc (.cells #[.int .i64 k1,.slice Ar nr cr,.int .i64 lo1,.int .i64 hi1,.slice Ak nk ck] 25)) _ (w.heap.size+1) _ _ _ (.slice A3 nn c3) nn 1 (vs.flatMap Array.toList) [.int .i64 k1,.slice Ar nr cr,.int .i64 lo1,.int .i64 hi1,.slice Ak nk ck] _ _ rfl rfl rfl rfl (HOU.out.alloc _) LLU.out rfl (by simp [Value.oneCell']) ((Below.refl _ _).alloc ZU.out _) (by have:=ZU.out;rw [World.size_alloc];omega) (by unfold maxLen;omega) (by omega) ?_;intro v2 w2 o2 b2 g2 e2;have K2:=qh (HPU.out _ v2 w2 o2 g2 e2);have G2:=qh (grown_below (G.out.trans GU.out) b2 (Nat.le_succ _));have X2:=qh (XU.out.below b2 (Nat.lt_succ_self _));have R2:=qh (RU.out.below b2 (by have:=HLT.out;omega));clear o2 b2 g2 e2))
       | fail)
      go_roundw
      case rel=>exact ⟨qh (.inl ⟨k,Ra,ks++[n],HEE.out,K2.out,R2.out,by have h1:=HLL.out;have h2:=HSR.out;simp at *;omega⟩),G2,X2⟩
      case measure=>have h1:=R2.out.leftR;have h2:=HLF.out;have h3:=HSR.out;simp at *;omega
     ·obtain ⟨s,S,rfl⟩:∃ s S,Ra=s :: S:=by
       rcases Ra with _ | ⟨s,S⟩
       ·exact absurd rfl h6
       ·exact ⟨s,S,rfl⟩
      have hs6:s.k=6:=by simpa [kindIs] using h6
      have HREP2:Hid (dRep inner f E (t :: T')=match dropIs S [13] with
       | []=>.ok (.mk 5 s.lo s.hi [] [n],[])
       | s' :: S'=>if s'.k=6 then .error (s'.pos,5) else .ok (.mk 5 s.lo s.hi [] [n],s' :: S')):=qh (by rw [HREP.out];simp only;rw [if_pos hs6])
      have TP:Hid (Treed (w1.alloc (.cells #[.int .i64 k1,.slice Ar nr cr,.int .i64 lo1,.int .i64 hi1,.slice Ak nk ck] 25)) (Fresh wr w1) n #[.int .i64 k1,.slice Ar nr cr,.int .i64 lo1,.int .i64 hi1,.slice Ak nk ck]):=qh (t1.grown N2 (fun x hx e=>by cases e))
      have YN:Hid (Box (w1.alloc (.cells #[.int .i64 k1,.slice Ar nr cr,.int .i64 lo1,.int .i64 hi1,.slice Ak nk ck] 25)) w1.heap.size #[.int .i64 k1,.slice Ar nr cr,.int .i64 lo1,.int .i64 hi1,.slice Ak nk ck] 25):=qh (Box.new w1 _ _)
      have HK:Hid (Calls Tryz.prog 46 #[.pointer (some ⟨b,0,none⟩)] (w1.alloc (.cells #[.int .i64 k1,.slice Ar nr cr,.int .i64 lo1,.int .i64 hi1,.slice Ak nk ck] 25)) fun e w'=>e=.returned (.int .i64 6)∧(w1.alloc (.cells #[.int .i64 k1,.slice Ar nr cr,.int .i64 lo1,.int .i64 hi1,.slice Ak nk ck] 25))=w'):=qh (hs6▸gkind_any (w1.alloc (.cells #[.int .i64 k1,.slice Ar nr cr,.int .i64 lo1,.int .i64 hi1,.slice Ak nk ck] 25)) b (s :: S) E f 0 0 RU.out)
      have HLW:Hid (b < w1.heap.size):=qh r1.lt
      have HWW:Hid (wr.heap.size≤w1.heap.size):=qh g1.size
      obtain ⟨wu,hwu⟩:∃ z,(w1.alloc (.cells #[.int .i64 k1,.slice Ar nr cr,.int .i64 lo1,.int .i64 hi1,.slice Ak nk ck] 25))=z:=⟨_,rfl⟩
      have HZU:Hid (wu.heap.size=w1.heap.size+1):=qh (by rw [← hwu];simp)
      rw [hwu] at GU XU RU TP YN HK
      have HWU:=qh hwu
      obtain ⟨g,off,cs,m,A',hA',hm,hm1,hmc,hg,hb,t0,t1',t2,t3,t4,keep⟩:=RU.out.next
      obtain ⟨sk,sc,slo,shi,spos⟩:=s
      simp only at t0 t1' t2 t3 t4 hs6 HREP2
      subst hs6
      have b0:=(hb.cell (i:=0) rfl:wu.cell? ⟨b,0,none⟩=some (.slice (some ⟨g,off,none⟩) (m+1) cs))
      have q0:(0:Int) < ((m:Int)+1):=by omega
      have q1:(0:Int) < ((m+1:Nat):Int):=by omega
      have HKP:=qh keep
      have YT:Hid (Box (wu.alloc (.cells #[.int .i64 6,.int .i64 sc,.int .i64 slo,.int .i64 shi,.int .i64 spos] 56)) wu.heap.size #[.int .i64 6,.int .i64 sc,.int .i64 slo,.int .i64 shi,.int .i64 spos] 56):=qh (Box.new wu _ _)
      have YN1:=qh (YN.out.kept (grown_new wu (.cells #[.int .i64 6,.int .i64 sc,.int .i64 slo,.int .i64 shi,.int .i64 spos] 56) none) (by simp))
      have XU1:=qh (XU.out.kept (grown_new wu (.cells #[.int .i64 6,.int .i64 sc,.int .i64 slo,.int .i64 shi,.int .i64 spos] 56) none) (by simp))
      have TP1:=qh (TP.out.grown (grown_new wu (.cells #[.int .i64 6,.int .i64 sc,.int .i64 slo,.int .i64 shi,.int .i64 spos] 56) none) (fun x hx e=>by cases e))
      have GU1:=qh (GU.out.trans (grown_new wu (.cells #[.int .i64 6,.int .i64 sc,.int .i64 slo,.int .i64 shi,.int .i64 spos] 56) (some b)))
      have HBT:=qh (hb.kept (grown_new wu (.cells #[.int .i64 6,.int .i64 sc,.int .i64 slo,.int .i64 shi,.int .i64 spos] 56) none) (by simp))
      have b0t:=(HBT.out.cell (i:=0) rfl:(wu.alloc (.cells #[.int .i64 6,.int .i64 sc,.int .i64 slo,.int .i64 shi,.int .i64 spos] 56)).cell? ⟨b,0,none⟩=some (.slice (some ⟨g,off,none⟩) (m+1) cs))
      obtain ⟨D,hD⟩:∃ z,dropIs S [13]=z:=⟨_,rfl⟩
      rw [hD] at HREP2
      have HDD:=qh hD
      have HDL:Hid (D.length≤S.length):=qh (by rw [← hD];exact dropIs_len S [13])
      clear g1 t1 r1 N2 hbx hb keep hm hmc hg h6 hD hwu GU XU RU TP YN ZU HOU TU LLU
      go_wp2_with fail
      rw [HWU.out]
      refine HK.out.mono ?_
      rintro e1 w2 ⟨rfl,rfl⟩
      clear b4
      go_wp2_with (first
       | (refine store_in _ _ _ b 0 (.slice A' m (cs - 1)) _ rfl rfl rfl tokensInfo rfl rfl rfl HBT.out (by simp) (by simp [maxLen]) ?_;go_loud (intro w3 x3 g3;have R3:=qh (HKP.out w3 (fun q hq=>(under g3 (Nat.le_of_lt HBT.out.lt) q hq).trans ((grown_new wu (.cells #[.int .i64 6,.int .i64 sc,.int .i64 slo,.int .i64 shi,.int .i64 spos] 56) none).block q (by have:=HLW.out;have:=HZU.out;omega) (by simp))) x3);have YT3:=qh (YT.out.kept g3 (by have:=HLW.out;have:=HZU.out;simp;omega));have YN3:=qh (YN1.out.kept g3 (by have:=HLW.out;simp;omega));have XU3:=qh (XU1.out.kept g3 (by have:=HLT.out;simp;omega));have GU3:=qh (GU1.out.trans g3);have TP3:=qh (TP1.out.grown g3 (fun x hx e=>by injection e with e;have:=hx.1;have:=ZW.out;have:=HLT.out;omega));have y2:w3.cell? ⟨wu.heap.size,2,none⟩=some (.int .i64 slo):=YT3.out.cell rfl;have y3:w3.cell? ⟨wu.heap.size,3,none⟩=some (.int .i64 shi):=YT3.out.cell rfl;have YN4:=qh (YN3.out.kept (grown_new w3 (.cells #[.int .i64 k1,.slice Ar nr cr,.int .i64 lo1,.int .i64 hi1,.slice Ak nk ck] 25) none) (by simp));have YL4:Hid (Box (w3.alloc (.cells #[.int .i64 k1,.slice Ar nr cr,.int .i64 lo1,.int .i64 hi1,.slice Ak nk ck] 25)) w3.heap.size #[.int .i64 k1,.slice Ar nr cr,.int .i64 lo1,.int .i64 hi1,.slice Ak nk ck] 25):=qh (Box.new w3 _ _);clear x3 g3))
       | (refine load_nd _ w1.heap.size #[.int .i64 k1,.slice Ar nr cr,.int .i64 lo1,.int .i64 hi1,.slice Ak nk ck] rfl rfl rfl YN3.out rfl ?_)
       | (refine store_nd _ _ _ w1.heap.size #[.int .i64 k1,.slice Ar nr cr,.int .i64 lo1,.int .i64 hi1,.slice Ak nk ck] #[.int .i64 5,.slice none 0 0,.int .i64 slo,.int .i64 shi,.slice (some ⟨w3.heap.size,0,none⟩) 1 1] rfl rfl rfl rfl rfl YN4.out rfl rfl (by simp [Value.oneCell']) ?_;go_loud (intro w5 x5 g5;have N5:Hid (w3.grownBy w5 (some w1.heap.size)):=qh ((grown_new w3 _ _).trans g5);have Y5:=qh x5;have R5:=qh (R3.out.grown N5.out (fun g e=>by injection e with e;have:=HLW.out;omega));have X5:=qh (XU3.out.kept N5.out (by have:=ZW.out;have:=HWW.out;simp;omega));have G5:=qh (grown_two GU3.out N5.out HWW.out);have HW3:Hid (w1.heap.size < w3.heap.size):=qh YN3.out.lt;have T5:Hid (Treed w5 (Fresh wr w5) (.mk 5 slo shi [] [n]) #[.int .i64 5,.slice none 0 0,.int .i64 slo,.int .i64 shi,.slice (some ⟨w3.heap.size,0,none⟩) 1 1]):=qh (treed_rep slo shi ((TP3.out.grown N5.out (fun x hx e=>by injection e with e;have:=hx.2;omega)).mono fun x hx=>⟨hx.1,by have:=hx.2;have:=Y5.out.lt;omega⟩) (YL4.out.kept g5 (by have:=HW3.out;simp;omega)) ⟨by have:=HW3.out;have:=HWW.out;omega,(YL4.out.kept g5 (by have:=HW3.out;simp;omega)).lt⟩);clear x5 g5))
       | fail)
      clear b0 b0t t0 t1' t2 t3 t4 y2 y3 HBT HKP
      rcases h13:kindIs S [13] with _ | _
      ·have hDS:S=D:=by rw [← HDD.out];exact (dropIs_no h13).symm
       subst hDS
       obtain ⟨kz3,hkz3⟩:∃ z,kd S=z:=⟨_,rfl⟩
       have dz3:(kz3 == 13)=false:=by
        rcases S with _ | ⟨s',S'⟩
        ·rw [← hkz3];rfl
        ·have h7:¬ s'.k=13:=by simpa [kindIs] using h13
         rw [← hkz3]
         show (s'.k == 13)=false
         simpa using h7
       have HKV:Hid (kd S=kz3):=qh hkz3
       clear h13 hkz3
       have HK13:Hid (Calls Tryz.prog 46 #[.pointer (some ⟨b,0,none⟩)] w5 fun e w'=>e=.returned (.int .i64 kz3)∧w5=w'):=qh (by
        have h:=gkind_any w5 b S E f 0 0 R5.out
        rw [HKV.out] at h
        exact h)
       clear HKV
       refine HK13.out.mono ?_
       rintro e1 w2 ⟨rfl,rfl⟩
       rcases hd6:kindIs S [6] with _ | _
       ·obtain ⟨kz,hkz⟩:∃ z,kd S=z:=⟨_,rfl⟩
        have dz:(kz == 6)=false:=by
         rcases S with _ | ⟨s',S'⟩
         ·rw [← hkz];rfl
         ·have h7:¬ s'.k=6:=by simpa [kindIs] using hd6
          rw [← hkz]
          show (s'.k == 6)=false
          simpa using h7
        have HKV:Hid (kd S=kz):=qh hkz
        have HEE:Hid (preL (ks++[(.mk 5 slo shi [] [n])]) (dJoinL inner f E k S)=JX):=qh (HOK.out (.mk 5 slo shi [] [n]) S (by
         rw [HREP2.out]
         rcases S with _ | ⟨s',S'⟩
         ·rfl
         ·have h7:¬ s'.k=6:=by simpa [kindIs] using hd6
          simp only
          rw [if_neg h7]))
        clear hd6 hkz
        have HK6:Hid (Calls Tryz.prog 46 #[.pointer (some ⟨b,0,none⟩)] w5 fun e w'=>e=.returned (.int .i64 kz)∧w5=w'):=qh (by
         have h:=gkind_any w5 b S E f 0 0 R5.out
         rw [HKV.out] at h
         exact h)
        have GU:=G5
        have XU:=X5
        have RU:=R5
        have TU:=T5
        have ZU:=qh (Nat.le_trans ZW.out GU.out.size)
        have HOU:Hid (OwnN w5 (w.heap.size+1) 25 5 (.slice A3 nn c3) nn (vs.flatMap Array.toList)):=qh (by
         have h:=HROW.out.own.keep GU.out (.inr fun e=>by have:=(HROW.out.own.inside b e).1;have:=HLT.out;omega)
         rw [HNN.out] at h
         exact h)
        have HKU:Hid (∀ (i:Nat) (h1:i < vs.length) (h2:i < ks.length),Treed w5 (fun x=>w.heap.size+1≤x∧x < w5.heap.size∧(Value.slice A3 nn c3).ownBlock≠some x) ks[i] vs[i]):=qh fun i h1 h2=>((HKD.out i h1 h2).grown GU.out (fun x hx e=>by have:=hx.1;have:=HLT.out;injection e with e;omega)).mono fun x hx=>⟨hx.1,Nat.lt_of_lt_of_le hx.2.1 GU.out.size,hx.2.2⟩
        have HPU:Hid (∀ (lit:Obj) (v':Value) (w':World),OwnN w' (w.heap.size+1) 25 5 v' (nn+1) (vs.flatMap Array.toList++(#[.int .i64 5,.slice none 0 0,.int .i64 slo,.int .i64 shi,.slice (some ⟨w3.heap.size,0,none⟩) 1 1]:Array Value).toList)→(w5.alloc lit).grownBy w' (Value.slice A3 nn c3).ownBlock→(v'.ownBlock=(Value.slice A3 nn c3).ownBlock∨∃ q,v'.ownBlock=some q∧(w5.alloc lit).heap.size≤q)→KidsAt w' (w.heap.size+1) v' (ks++[(.mk 5 slo shi [] [n])])):=qh fun lit v' w' o g e=>KidsAt.push (w:=wr) (lit:=lit) HH0.out (by have h1:=HROW.out.own;rw [HH0.out] at h1;exact h1) HKU.out GU.out.size ZW.out TU.out (by rw [← HH0.out,HNN.out];exact o) g e
        go_wp2_with fail
        refine HK6.out.mono ?_
        rintro e1 w2 ⟨rfl,rfl⟩
        go_wp2_with (first
         | (refine load_nd _ w1.heap.size #[.int .i64 5,.slice none 0 0,.int .i64 slo,.int .i64 shi,.slice (some ⟨w3.heap.size,0,none⟩) 1 1] rfl rfl rfl Y5.out rfl ?_)
         | (at_builtin;go_loud (refine appN_at ndT w5 _ (w.heap.size+1) _ _ _ (.slice A3 nn c3) nn 1 (vs.flatMap Array.toList) [.int .i64 5,.slice none 0 0,.int .i64 slo,.int .i64 shi,.slice (some ⟨w3.heap.size,0,none⟩) 1 1] _ _ rfl rfl rfl rfl (HOU.out.alloc _) (Lies.lit (w:=w5) (e:=25) #[.int .i64 5,.slice none 0 0,.int .i64 slo,.int .i64 shi,.slice (some ⟨w3.heap.size,0,none⟩) 1 1]) rfl (by simp [Value.oneCell']) ((Below.refl _ _).alloc ZU.out _) (by have:=ZU.out;rw [World.size_alloc];omega) (by unfold maxLen;omega) (by omega) ?_;intro v2 w2 o2 b2 g2 e2;have K2:=qh (HPU.out _ v2 w2 o2 g2 e2);have G2:=qh (grown_below (G.out.trans GU.out) b2 (Nat.le_succ _));have X2:=qh (XU.out.below b2 (Nat.lt_succ_self _));have R2:=qh (RU.out.below b2 (by have:=HLT.out;omega));clear o2 b2 g2 e2))
         | fail)
        go_roundw
        case rel=>exact ⟨qh (.inl ⟨k,S,ks++[(.mk 5 slo shi [] [n])],HEE.out,K2.out,R2.out,by have h1:=HLL.out;have h2:=HSR.out;have h3:=HDL.out;simp at *;omega⟩),G2,X2⟩
        case measure=>have h1:=R2.out.leftR;have h2:=HLF.out;have h3:=HSR.out;have h4:=HDL.out;simp at *;omega
       ·obtain ⟨s',S',hs',-⟩:=kindIs_tail hd6
        subst hs'
        have hk6:s'.k=6:=by simpa [kindIs] using hd6
        have HKV:Hid (kd (s' :: S')=6):=qh hk6
        have HEE:Hid (JX=.error (s'.pos,5)):=qh (HER.out _ (by
         rw [HREP2.out]
         simp only
         rw [if_pos hk6]))
        obtain ⟨g6,off6,c6,m6,A6,hA6,hm6,hm61,hmc6,hg6,hb6,v0,v1,v2',v3,v4,keep6⟩:=R5.out.next
        have c60:=(hb6.cell (i:=0) rfl:w5.cell? ⟨b,0,none⟩=some (.slice (some ⟨g6,off6,none⟩) (m6+1) c6))
        have q60:(0:Int) < ((m6:Int)+1):=by omega
        have q61:(0:Int) < ((m6+1:Nat):Int):=by omega
        obtain ⟨ps,hps⟩:∃ z,s'.pos=z:=⟨_,rfl⟩
        rw [hps] at v4 HEE
        have HK6:Hid (Calls Tryz.prog 46 #[.pointer (some ⟨b,0,none⟩)] w5 fun e w'=>e=.returned (.int .i64 6)∧w5=w'):=qh (by
         have h:=gkind_any w5 b (s' :: S') E f 0 0 R5.out
         rw [HKV.out] at h
         exact h)
        have HFN:=qh (gfail_new w5 b (s' :: S') E f 0 R5.out ps 5)
        clear hd6 hk6 hm6 hmc6 hg6 hb6 v0 v1 v2' v3 keep6 hps hA6
        go_wp2_with fail
        refine HK6.out.mono ?_
        rintro e1 w2 ⟨rfl,rfl⟩
        go_wp2_with fail
        refine HFN.out.mono ?_
        rintro e1 w8 ⟨rfl,r8,g8⟩
        have GU:=qh (G5.out.trans g8)
        have XU:=qh (X5.out.kept g8 (by have:=HLT.out;simp;omega))
        have RU:=qh r8
        have Y8:=qh (Y5.out.kept g8 (by have:=HLW.out;simp;omega))
        have ZU:=qh (Nat.le_trans ZW.out GU.out.size)
        have HOU:Hid (OwnN w8 (w.heap.size+1) 25 5 (.slice A3 nn c3) nn (vs.flatMap Array.toList)):=qh (by
         have h:=HROW.out.own.keep GU.out (.inr fun e=>by have:=(HROW.out.own.inside b e).1;have:=HLT.out;omega)
         rw [HNN.out] at h
         exact h)
        have RPU:Hid (∀ (v':Value) (w':World),OwnN w' (w.heap.size+1) 25 5 v' (nn+1) (vs.flatMap Array.toList++(#[.int .i64 5,.slice none 0 0,.int .i64 slo,.int .i64 shi,.slice (some ⟨w3.heap.size,0,none⟩) 1 1]:Array Value).toList)→RowF w' (w.heap.size+1) v' (vs++[#[.int .i64 5,.slice none 0 0,.int .i64 slo,.int .i64 shi,.slice (some ⟨w3.heap.size,0,none⟩) 1 1]])):=qh fun v' w' o=>RowF.push HROW.out.form ⟨_,_,_,_,_,_,_,_,_,rfl⟩ (by rw [HNN.out];exact o)
        clear r8 g8 c60 v4
        go_wp2_with (first
         | (refine load_nd _ w1.heap.size #[.int .i64 5,.slice none 0 0,.int .i64 slo,.int .i64 shi,.slice (some ⟨w3.heap.size,0,none⟩) 1 1] rfl rfl rfl Y8.out rfl ?_)
         | (at_builtin;go_loud (refine appN_at ndT w8 _ (w.heap.size+1) _ _ _ (.slice A3 nn c3) nn 1 (vs.flatMap Array.toList) [.int .i64 5,.slice none 0 0,.int .i64 slo,.int .i64 shi,.slice (some ⟨w3.heap.size,0,none⟩) 1 1] _ _ rfl rfl rfl rfl (HOU.out.alloc _) (Lies.lit (w:=w8) (e:=25) #[.int .i64 5,.slice none 0 0,.int .i64 slo,.int .i64 shi,.slice (some ⟨w3.heap.size,0,none⟩) 1 1]) rfl (by simp [Value.oneCell']) ((Below.refl _ _).alloc ZU.out _) (by have:=ZU.out;rw [World.size_alloc];omega) (by unfold maxLen;omega) (by omega) ?_;intro v2 w2 o2 b2 g2 e2;have K2:=qh (RPU.out v2 w2 o2);have G2:=qh (grown_below (G.out.trans GU.out) b2 (Nat.le_succ _));have X2:=qh (XU.out.below b2 (Nat.lt_succ_self _));have R2:=qh (RU.out.below b2 (by have:=HLT.out;omega));clear o2 b2 g2 e2))
         | fail)
        go_roundw
        case rel=>exact ⟨qh (.inr ⟨ps,5,_,vs++[#[.int .i64 5,.slice none 0 0,.int .i64 slo,.int .i64 shi,.slice (some ⟨w3.heap.size,0,none⟩) 1 1]],HEE.out,(by decide),K2.out,R2.out,by have h1:=HLL.out;have h2:=HNN.out;have h3:=HH0.out;simp at *;omega⟩),G2,X2⟩
        case measure=>have h1:=R2.out.leftW (by decide);have h2:=HLF.out;simp at *;omega
      ·obtain ⟨s3,S3,hs3,hd3⟩:=kindIs_tail h13
       subst hs3
       have hD3:S3=D:=by rw [← HDD.out,hd3]
       subst hD3
       have hk13:s3.k=13:=by simpa [kindIs] using h13
       have HKV:Hid (kd (s3 :: S3)=13):=qh hk13
       obtain ⟨g7,off7,c7,m7,A7,hA7,hm7,hm71,hmc7,hg7,hb7,v0,v1,v2',v3,v4,keep7⟩:=R5.out.next
       have c70:=(hb7.cell (i:=0) rfl:w5.cell? ⟨b,0,none⟩=some (.slice (some ⟨g7,off7,none⟩) (m7+1) c7))
       have q70:(0:Int) < ((m7:Int)+1):=by omega
       have q71:(0:Int) < ((m7+1:Nat):Int):=by omega
       have HB7:=qh hb7
       have HKP7:=qh keep7
       clear h13 hk13 hd3 hm7 hmc7 hg7 hb7 keep7 v0 v1 v2' v3 v4
       have HK13:Hid (Calls Tryz.prog 46 #[.pointer (some ⟨b,0,none⟩)] w5 fun e w'=>e=.returned (.int .i64 13)∧w5=w'):=qh (by
        have h:=gkind_any w5 b (s3 :: S3) E f 0 0 R5.out
        rw [HKV.out] at h
        exact h)
       clear HKV
       refine HK13.out.mono ?_
       rintro e1 w2 ⟨rfl,rfl⟩
       go_wp2_with (first
        | (refine store_in _ _ _ b 0 (.slice A7 m7 (c7 - 1)) _ rfl rfl rfl tokensInfo rfl rfl rfl HB7.out (by simp) (by simp [maxLen]) ?_;go_loud (intro w7 x7 g7x;have R7:=qh (HKP7.out w7 (under g7x (Nat.le_of_lt HB7.out.lt)) x7);have Y7:=qh (Y5.out.kept g7x (by have:=HLW.out;simp;omega));have X7:=qh (X5.out.kept g7x (by have:=HLT.out;simp;omega));have G7:=qh (G5.out.trans g7x);have T7:=qh ((T5.out.grown g7x (fun x hx e=>by injection e with e;have:=hx.1;have:=ZW.out;have:=HLT.out;omega)).mono (P':=Fresh wr w7) fun x hx=>⟨hx.1,Nat.lt_of_lt_of_le hx.2 g7x.size⟩);clear x7 g7x))
        | fail)
       clear c70
       rcases hd6:kindIs S3 [6] with _ | _
       ·obtain ⟨kz,hkz⟩:∃ z,kd S3=z:=⟨_,rfl⟩
        have dz:(kz == 6)=false:=by
         rcases S3 with _ | ⟨s',S'⟩
         ·rw [← hkz];rfl
         ·have h7:¬ s'.k=6:=by simpa [kindIs] using hd6
          rw [← hkz]
          show (s'.k == 6)=false
          simpa using h7
        have HKV:Hid (kd S3=kz):=qh hkz
        have HEE:Hid (preL (ks++[(.mk 5 slo shi [] [n])]) (dJoinL inner f E k S3)=JX):=qh (HOK.out (.mk 5 slo shi [] [n]) S3 (by
         rw [HREP2.out]
         rcases S3 with _ | ⟨s',S'⟩
         ·rfl
         ·have h7:¬ s'.k=6:=by simpa [kindIs] using hd6
          simp only
          rw [if_neg h7]))
        clear hd6 hkz
        have HK6:Hid (Calls Tryz.prog 46 #[.pointer (some ⟨b,0,none⟩)] w7 fun e w'=>e=.returned (.int .i64 kz)∧w7=w'):=qh (by
         have h:=gkind_any w7 b S3 E f 0 0 R7.out
         rw [HKV.out] at h
         exact h)
        have GU:=G7
        have XU:=X7
        have RU:=R7
        have TU:=T7
        have ZU:=qh (Nat.le_trans ZW.out GU.out.size)
        have HOU:Hid (OwnN w7 (w.heap.size+1) 25 5 (.slice A3 nn c3) nn (vs.flatMap Array.toList)):=qh (by
         have h:=HROW.out.own.keep GU.out (.inr fun e=>by have:=(HROW.out.own.inside b e).1;have:=HLT.out;omega)
         rw [HNN.out] at h
         exact h)
        have HKU:Hid (∀ (i:Nat) (h1:i < vs.length) (h2:i < ks.length),Treed w7 (fun x=>w.heap.size+1≤x∧x < w7.heap.size∧(Value.slice A3 nn c3).ownBlock≠some x) ks[i] vs[i]):=qh fun i h1 h2=>((HKD.out i h1 h2).grown GU.out (fun x hx e=>by have:=hx.1;have:=HLT.out;injection e with e;omega)).mono fun x hx=>⟨hx.1,Nat.lt_of_lt_of_le hx.2.1 GU.out.size,hx.2.2⟩
        have HPU:Hid (∀ (lit:Obj) (v':Value) (w':World),OwnN w' (w.heap.size+1) 25 5 v' (nn+1) (vs.flatMap Array.toList++(#[.int .i64 5,.slice none 0 0,.int .i64 slo,.int .i64 shi,.slice (some ⟨w3.heap.size,0,none⟩) 1 1]:Array Value).toList)→(w7.alloc lit).grownBy w' (Value.slice A3 nn c3).ownBlock→(v'.ownBlock=(Value.slice A3 nn c3).ownBlock∨∃ q,v'.ownBlock=some q∧(w7.alloc lit).heap.size≤q)→KidsAt w' (w.heap.size+1) v' (ks++[(.mk 5 slo shi [] [n])])):=qh fun lit v' w' o g e=>KidsAt.push (w:=wr) (lit:=lit) HH0.out (by have h1:=HROW.out.own;rw [HH0.out] at h1;exact h1) HKU.out GU.out.size ZW.out TU.out (by rw [← HH0.out,HNN.out];exact o) g e
        refine HK6.out.mono ?_
        rintro e1 w2 ⟨rfl,rfl⟩
        go_wp2_with (first
         | (refine load_nd _ w1.heap.size #[.int .i64 5,.slice none 0 0,.int .i64 slo,.int .i64 shi,.slice (some ⟨w3.heap.size,0,none⟩) 1 1] rfl rfl rfl Y7.out rfl ?_)
         | (at_builtin;go_loud (refine appN_at ndT w7 _ (w.heap.size+1) _ _ _ (.slice A3 nn c3) nn 1 (vs.flatMap Array.toList) [.int .i64 5,.slice none 0 0,.int .i64 slo,.int .i64 shi,.slice (some ⟨w3.heap.size,0,none⟩) 1 1] _ _ rfl rfl rfl rfl (HOU.out.alloc _) (Lies.lit (w:=w7) (e:=25) #[.int .i64 5,.slice none 0 0,.int .i64 slo,.int .i64 shi,.slice (some ⟨w3.heap.size,0,none⟩) 1 1]) rfl (by simp [Value.oneCell']) ((Below.refl _ _).alloc ZU.out _) (by have:=ZU.out;rw [World.size_alloc];omega) (by unfold maxLen;omega) (by omega) ?_;intro v2 w2 o2 b2 g2 e2;have K2:=qh (HPU.out _ v2 w2 o2 g2 e2);have G2:=qh (grown_below (G.out.trans GU.out) b2 (Nat.le_succ _));have X2:=qh (XU.out.below b2 (Nat.lt_succ_self _));have R2:=qh (RU.out.below b2 (by have:=HLT.out;omega));clear o2 b2 g2 e2))
         | fail)
        go_roundw
        case rel=>exact ⟨qh (.inl ⟨k,S3,ks++[(.mk 5 slo shi [] [n])],HEE.out,K2.out,R2.out,by have h1:=HLL.out;have h2:=HSR.out;have h3:=HDL.out;simp at *;omega⟩),G2,X2⟩
        case measure=>have h1:=R2.out.leftR;have h2:=HLF.out;have h3:=HSR.out;have h4:=HDL.out;simp at *;omega
       ·obtain ⟨s',S',hs',-⟩:=kindIs_tail hd6
        subst hs'
        have hk6:s'.k=6:=by simpa [kindIs] using hd6
        have HKV:Hid (kd (s' :: S')=6):=qh hk6
        have HEE:Hid (JX=.error (s'.pos,5)):=qh (HER.out _ (by
         rw [HREP2.out]
         simp only
         rw [if_pos hk6]))
        obtain ⟨g6,off6,c6,m6,A6,hA6,hm6,hm61,hmc6,hg6,hb6,v0,v1,v2',v3,v4,keep6⟩:=R7.out.next
        have c60:=(hb6.cell (i:=0) rfl:w7.cell? ⟨b,0,none⟩=some (.slice (some ⟨g6,off6,none⟩) (m6+1) c6))
        have q60:(0:Int) < ((m6:Int)+1):=by omega
        have q61:(0:Int) < ((m6+1:Nat):Int):=by omega
        obtain ⟨ps,hps⟩:∃ z,s'.pos=z:=⟨_,rfl⟩
        rw [hps] at v4 HEE
        have HK6:Hid (Calls Tryz.prog 46 #[.pointer (some ⟨b,0,none⟩)] w7 fun e w'=>e=.returned (.int .i64 6)∧w7=w'):=qh (by
         have h:=gkind_any w7 b (s' :: S') E f 0 0 R7.out
         rw [HKV.out] at h
         exact h)
        have HFN:=qh (gfail_new w7 b (s' :: S') E f 0 R7.out ps 5)
        clear hd6 hk6 hm6 hmc6 hg6 hb6 v0 v1 v2' v3 keep6 hps hA6
        refine HK6.out.mono ?_
        rintro e1 w2 ⟨rfl,rfl⟩
        go_wp2_with fail
        refine HFN.out.mono ?_
        rintro e1 w8 ⟨rfl,r8,g8⟩
        have GU:=qh (G7.out.trans g8)
        have XU:=qh (X7.out.kept g8 (by have:=HLT.out;simp;omega))
        have RU:=qh r8
        have Y8:=qh (Y7.out.kept g8 (by have:=HLW.out;simp;omega))
        have ZU:=qh (Nat.le_trans ZW.out GU.out.size)
        have HOU:Hid (OwnN w8 (w.heap.size+1) 25 5 (.slice A3 nn c3) nn (vs.flatMap Array.toList)):=qh (by
         have h:=HROW.out.own.keep GU.out (.inr fun e=>by have:=(HROW.out.own.inside b e).1;have:=HLT.out;omega)
         rw [HNN.out] at h
         exact h)
        have RPU:Hid (∀ (v':Value) (w':World),OwnN w' (w.heap.size+1) 25 5 v' (nn+1) (vs.flatMap Array.toList++(#[.int .i64 5,.slice none 0 0,.int .i64 slo,.int .i64 shi,.slice (some ⟨w3.heap.size,0,none⟩) 1 1]:Array Value).toList)→RowF w' (w.heap.size+1) v' (vs++[#[.int .i64 5,.slice none 0 0,.int .i64 slo,.int .i64 shi,.slice (some ⟨w3.heap.size,0,none⟩) 1 1]])):=qh fun v' w' o=>RowF.push HROW.out.form ⟨_,_,_,_,_,_,_,_,_,rfl⟩ (by rw [HNN.out];exact o)
        clear r8 g8 c60 v4
        go_wp2_with (first
         | (refine load_nd _ w1.heap.size #[.int .i64 5,.slice none 0 0,.int .i64 slo,.int .i64 shi,.slice (some ⟨w3.heap.size,0,none⟩) 1 1] rfl rfl rfl Y8.out rfl ?_)
         | (at_builtin;go_loud (refine appN_at ndT w8 _ (w.heap.size+1) _ _ _ (.slice A3 nn c3) nn 1 (vs.flatMap Array.toList) [.int .i64 5,.slice none 0 0,.int .i64 slo,.int .i64 shi,.slice (some ⟨w3.heap.size,0,none⟩) 1 1] _ _ rfl rfl rfl rfl (HOU.out.alloc _) (Lies.lit (w:=w8) (e:=25) #[.int .i64 5,.slice none 0 0,.int .i64 slo,.int .i64 shi,.slice (some ⟨w3.heap.size,0,none⟩) 1 1]) rfl (by simp [Value.oneCell']) ((Below.refl _ _).alloc ZU.out _) (by have:=ZU.out;rw [World.size_alloc];omega) (by unfold maxLen;omega) (by omega) ?_;intro v2 w2 o2 b2 g2 e2;have K2:=qh (RPU.out v2 w2 o2);have G2:=qh (grown_below (G.out.trans GU.out) b2 (Nat.le_succ _));have X2:=qh (XU.out.below b2 (Nat.lt_succ_self _));have R2:=qh (RU.out.below b2 (by have:=HLT.out;omega));clear o2 b2 g2 e2))
         | fail)
        go_roundw
        case rel=>exact ⟨qh (.inr ⟨ps,5,_,vs++[#[.int .i64 5,.slice none 0 0,.int .i64 slo,.int .i64 shi,.slice (some ⟨w3.heap.size,0,none⟩) 1 1]],HEE.out,(by decide),K2.out,R2.out,by have h1:=HLL.out;have h2:=HNN.out;have h3:=HH0.out;simp at *;omega⟩),G2,X2⟩
        case measure=>have h1:=R2.out.leftW (by decide);have h2:=HLF.out;simp at *;omega
  ·have HGO:Hid (∃ vs,Gone w wr b E f 3 X u5 vs):=qh ⟨vs,by
    rw [HXE.out _ hE]
    exact Gone.wrong HLT.out hK hR G.out X0.out hl⟩
   obtain ⟨A0,c0,hbx,-,-⟩:=hR.box
   have b4:=(hbx.cell (i:=4) rfl:wr.cell? ⟨b,4,none⟩=some (.int .i64 x))
   have d0:(x == 0)=false:=by simpa using hx
   clear hE hK hR hl hbx HI hx
   obtain ⟨vs,hgo⟩:=HGO.out
   have GO:=qh hgo
   obtain ⟨A9,c9,hov,-,-,-⟩:=hgo.row.own.form
   subst hov
   have HF9:=qh hgo.fin
   have X9:=qh hgo.box
   clear hgo
   rcases vs with _ | ⟨v,_ | ⟨v2,vs⟩⟩
   ·simp only [List.length_nil]
    go_wp2_with (first
     | (refine store_nd wr _ _ w.heap.size ndZero #[.int .i64 1,.slice none 0 0,.int .i64 0,.int .i64 0,.slice none 0 0] rfl rfl rfl rfl rfl X9.out rfl rfl (by simp [Value.oneCell']) ?_;intro w9 x9 g9;have Y9:=qh x9;have F9:=qh (HF9.out w9 g9);clear x9 g9)
     | fail)
    (try simp only [Exit.inBlock,Exit.then])
    exact bodyPost_ret (v:=.agg _) (ret_nd rfl _ _ w.heap.size _ rfl rfl Y9.out) rfl F9.out
   ·have hfv:=GO.out.row.form v (by simp)
    obtain ⟨k1,Ar,nr,cr,lo1,hi1,Ak,nk,ck,rfl⟩:=hfv
    obtain ⟨g,c',hv,-,-,hgl,hcell⟩:=GO.out.row.own.block (by simp)
    injection hv with hA _ _
    subst hA
    have q0:=hcell 0 (by simp)
    have q1:=hcell 1 (by simp)
    have q2:=hcell 2 (by simp)
    have q3:=hcell 3 (by simp)
    have q4:=hcell 4 (by simp)
    simp only [List.flatMap_cons,List.flatMap_nil,List.append_nil,List.getElem?_cons_zero,List.getElem?_cons_succ] at q0 q1 q2 q3 q4
    simp only [List.length_cons,List.length_nil,Nat.zero_add]
    clear hcell
    go_wp2_with (first
     | (refine store_nd wr _ _ w.heap.size ndZero #[.int .i64 k1,.slice Ar nr cr,.int .i64 lo1,.int .i64 hi1,.slice Ak nk ck] rfl rfl rfl rfl rfl X9.out rfl rfl (by simp [Value.oneCell']) ?_;intro w9 x9 g9;have Y9:=qh x9;have F9:=qh (HF9.out w9 g9);clear x9 g9)
     | fail)
    (try simp only [Exit.inBlock,Exit.then])
    exact bodyPost_ret (v:=.agg _) (ret_nd rfl _ _ w.heap.size _ rfl rfl Y9.out) rfl F9.out
   ·obtain ⟨z9,hz9⟩:∃ z,(v :: v2 :: vs).length=z:=⟨_,rfl⟩
    have d0:((z9:Int) == 0)=false:=by simp at hz9 ⊢;omega
    have d1:((z9:Int) == 1)=false:=by simp at hz9 ⊢;omega
    have d2:(z9 == 0)=false:=by simp at hz9 ⊢;omega
    have d3:(z9 == 1)=false:=by simp at hz9 ⊢;omega
    rw [hz9] at HF9 ⊢
    clear hz9
    go_wp2_with (first
     | (refine store_nd wr _ _ w.heap.size ndZero #[.int .i64 3,.slice none 0 0,.int .i64 0,.int .i64 0,.slice A9 z9 c9] rfl rfl rfl rfl rfl X9.out rfl rfl (by simp [Value.oneCell']) ?_;intro w9 x9 g9;have Y9:=qh x9;have F9:=qh (HF9.out w9 g9);clear x9 g9)
     | fail)
    (try simp only [Exit.inBlock,Exit.then])
    exact bodyPost_ret (v:=.agg _) (ret_nd rfl _ _ w.heap.size _ rfl rfl Y9.out) rfl F9.out
end
end Go.Proofs.YtoeocodfndbebaaGreatDoor
