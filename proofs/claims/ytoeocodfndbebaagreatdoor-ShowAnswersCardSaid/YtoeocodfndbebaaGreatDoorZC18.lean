/- Shared texts, shaken for one claim. -/
import Derived.Test.YtoeocodfndbebaaGreatDoorZC17
set_option maxRecDepth 20000
set_option maxHeartbeats 16000000
namespace Go.Proofs.YtoeocodfndbebaaGreatDoor
section
open Go.RowKit
theorem times_any (k lo hi:Int) (s1 s2:Value) (_:s1.oneCell'=true) (_:s2.oneCell'=true) (w:World):Calls Tryz.prog 58 #[.agg #[.int .i64 k,s1,.int .i64 lo,.int .i64 hi,s2]] w fun e w'=>e=.returned (.int .i64 (timesI k lo hi))∧w.grownBy w' none:=by
 by_cases hk:k=5
 ·subst hk
  by_cases hh:hi < 0
  ·have HZ:Hid (timesI 5 lo hi=max (IntKind.i64.wrap (min lo 1000000+1)) 1):=qh (by unfold timesI;rw [if_pos rfl,if_pos hh])
   rw [HZ.out]
   have d1:decide (hi < 0)=true:=decide_eq_true hh
   obtain ⟨a,ha⟩:∃ a,min lo 1000000=a:=⟨_,rfl⟩
   have e1:(if 1000000 < lo then (1000000:Int) else lo)=a:=by rw [← ha];split <;> omega
   rw [ha]
   obtain ⟨x,hx⟩:∃ x,IntKind.i64.wrap (a+1)=x:=⟨_,rfl⟩
   rw [hx]
   obtain ⟨z,hz⟩:∃ z,max x 1=z:=⟨_,rfl⟩
   have e2:(if 1 > x then (1:Int) else x)=z:=by rw [← hz];split <;> omega
   rw [hz]
   clear hh
   go_enter Tryz.func58,Tryz.ntmps58
   go_wp2
   go_ret
   exact ⟨rfl,grown_new w _ none⟩
  ·have HZ:Hid (timesI 5 lo hi=max hi 1):=qh (by unfold timesI;rw [if_pos rfl,if_neg hh])
   rw [HZ.out]
   have d1:decide (hi < 0)=false:=decide_eq_false hh
   obtain ⟨z,hz⟩:∃ z,max hi 1=z:=⟨_,rfl⟩
   have e2:(if 1 > hi then (1:Int) else hi)=z:=by rw [← hz];split <;> omega
   rw [hz]
   clear hh
   go_enter Tryz.func58,Tryz.ntmps58
   go_wp2
   go_ret
   exact ⟨rfl,grown_new w _ none⟩
 ·have HZ:Hid (timesI k lo hi=1):=qh (by unfold timesI;rw [if_neg hk])
  rw [HZ.out]
  have d1:(k != 5)=true:=by simpa using hk
  clear hk
  go_enter Tryz.func58,Tryz.ntmps58
  go_wp2
  go_ret
  exact ⟨rfl,grown_new w _ none⟩
theorem kid_at {w u:World} {P:Nat→Prop} {A:Option Addr} {vs:List (Array Value)} (h:LiesP w P A (vs.flatMap Array.toList)) (h5:∀ v∈vs,v.size=5) (hu:∀ b,P b→b < w.heap.size→u.heap[b]?=w.heap[b]?) {i:Nat} (hi:i < vs.length) :
 ∃ g off,A=some ⟨g,off,none⟩∧g < w.heap.size∧∀ j,j < 5→u.cell? ⟨g,off+i * 5+j,none⟩=vs[i][j]?:=by
 have hl:=nflat_len h5
 obtain ⟨g,off,hA,hP,hg,hc⟩:=h (by intro e;rw [e] at hl;simp at hl;omega)
 refine ⟨g,off,hA,hg,fun j hj=>?_⟩
 have hlt:i * 5+j < (vs.flatMap Array.toList).length:=by omega
 rw [World.cell?_of_block (a:=⟨g,off+i * 5+j,none⟩) (hu g hP hg),Nat.add_assoc,hc (i * 5+j) _ (List.getElem?_eq_getElem hlt),← nflat_at h5 i j hi hj,List.getElem?_eq_getElem hlt]
theorem size_any {w:World} {P:Nat→Prop} {n:Nd} {v:Array Value} (h:Treed w P n v):∀ (u:World),(∀ b,P b→b < w.heap.size→u.heap[b]?=w.heap[b]?)→w.heap.size≤u.heap.size →
 Calls Tryz.prog 41 #[.agg v] u fun e u'=>e=.returned (.int .i64 (sizeI n))∧u.grownBy u' none:=by
 induction h with
 | @mk k lo hi rs ks A A' c c' vs h1 hc h0 h2 hc' hk ih =>
  intro u hu hs
  have HU:=qh hu
  have HIH:=qh ih
  have H2:=qh h2
  have H5:Hid (∀ v∈vs,v.size=5):=qh fun v hv=>by
   obtain ⟨i,hi,rfl⟩:=List.getElem_of_mem hv
   exact (hk i hi (by omega)).size
  have HFO:=qh (fun (i:Nat) (hi:i < vs.length)=>(hk i hi (by omega)).form)
  have HN0:=qh h0
  have HS:=qh hs
  have HSZ:Hid (sizeI (.mk k lo hi rs ks)=finI (sumI ks) (timesI k lo hi)):=qh (by rw [sizeI])
  rw [HSZ.out]
  obtain ⟨t,ht⟩:∃ t,timesI k lo hi=t:=⟨_,rfl⟩
  have HTI:=qh (fun u=>ht▸times_any k lo hi (.slice A rs.length c) (.slice A' ks.length c') rfl rfl u)
  have htp:=times_pos k lo hi
  rw [ht] at htp ⊢
  obtain ⟨Z,hZ⟩:∃ Z,finI (sumI ks) t=Z:=⟨_,rfl⟩
  have HZ:=qh hZ
  rw [hZ]
  have X0:Hid (Box (u.alloc (.cells #[.int .i64 k,.slice A rs.length c,.int .i64 lo,.int .i64 hi,.slice A' ks.length c'] 25)) u.heap.size #[.int .i64 k,.slice A rs.length c,.int .i64 lo,.int .i64 hi,.slice A' ks.length c'] 25):=qh (Box.new u _ _)
  have HLE:=qh (fun k=>sumI_le (ks:=ks) k)
  have HNN:=qh (sumI_nn ks)
  have hkl:ks.length≤9223372036854775807:=by have h1:=hc'.1;have h2:=hc'.2;unfold maxLen at h2;omega
  clear h1 h2 hc hc' hk ih hu hs ht hZ
  go_enter Tryz.func41,Tryz.ntmps41
  go_wp2_with fail
  go_loopw [9,3] (fun iv sv wr=>∃ (i:Nat),i≤ks.length∧iv=.int .i64 i∧sv=.int .i64 (sumI (ks.take i))∧sumI (ks.take i) < 1000000∧Hid (u.grownBy wr none)∧Hid (Box wr u.heap.size #[.int .i64 k,.slice A rs.length c,.int .i64 lo,.int .i64 hi,.slice A' ks.length c'] 25)) (fun iv _ _=>ks.length - (intOf iv).toNat)
  case atStart=>exact ⟨0,by omega,rfl,by simp [sumI],by simp [sumI],qh (grown_new u _ none),X0⟩
  case round =>
   obtain ⟨i,hi',rfl,rfl,hsm,HG,HX⟩:=hrel
   have hnn0:=sumI_nn (ks.take i)
   by_cases hlt:i < ks.length
   ·have hlv:i < vs.length:=by have:=HN0.out;omega
    have hagree:∀ b,P b→b < w.heap.size→wr.heap[b]?=w.heap[b]?:=fun b hb hl=>(HG.out.block b (by have:=HS.out;omega) (by simp)).trans (HU.out b hb hl)
    obtain ⟨g,off,rfl,hg,hcell⟩:=kid_at H2.out H5.out hagree hlv
    obtain ⟨k1,Ar,nr,cr,lo1,hi1,Ak,nk,ck,hv⟩:=HFO.out i hlv
    have q0:wr.cell? ⟨g,off+i * 5,none⟩=vs[i][0]?:=hcell 0 (by decide)
    have q1:=hcell 1 (by decide)
    have q2:=hcell 2 (by decide)
    have q3:=hcell 3 (by decide)
    have q4:=hcell 4 (by decide)
    rw [hv] at q0 q1 q2 q3 q4
    have hrec:=fun u' a b=>HIH.out i hlv hlt u' a b
    rw [hv] at hrec
    have hin:=sizeI_in ks[i]
    have HNX:=qh (sumI_next hlt)
    have HLN:=qh (HLE.out (i+1))
    obtain ⟨s1,hs1⟩:∃ s,sizeI ks[i]=s:=⟨_,rfl⟩
    obtain ⟨s0,hs0⟩:∃ s,sumI (ks.take i)=s:=⟨_,rfl⟩
    rw [hs1] at hrec hin HNX
    rw [hs0] at hsm hnn0 HNX ⊢
    have N1:wr.grownBy (wr.alloc (.cells #[.int .i64 k1,.slice Ar nr cr,.int .i64 lo1,.int .i64 hi1,.slice Ak nk ck] 25)) none:=grown_new _ _ none
    have HRC:=qh (hrec (wr.alloc (.cells #[.int .i64 k1,.slice Ar nr cr,.int .i64 lo1,.int .i64 hi1,.slice Ak nk ck] 25)) (fun b hb hl=>(N1.block b (by have:=HS.out;have:=HG.out.size;omega) (by simp)).trans (hagree b hb hl)) (by have:=HS.out;have:=HG.out.size;have:=N1.size;omega))
    have HGN:=qh (HG.out.trans N1)
    have HXN:=qh (HX.out.kept N1 (by simp))
    have b0:(0:Int)≤(i:Int):=by omega
    have b1:(i:Int) < (ks.length:Int):=by omega
    have hw1:IntKind.i64.wrap (s0+s1)=s0+s1:=IntWalk.i64_in _ (by omega)
    clear hs1 hs0 hcell hv hrec hagree N1
    simp only [List.getElem?_toArray,List.getElem?_cons_zero,List.getElem?_cons_succ] at q0 q1 q2 q3 q4
    go_wp2_with fail
    refine HRC.out.mono ?_
    rintro e w2 ⟨rfl,g2⟩
    have HG2:=qh (HGN.out.trans g2)
    have HX2:=qh (HXN.out.kept g2 (by simp))
    clear g2
    by_cases hge:1000000≤s0+s1
    ·have d1:decide (1000000≤s0+s1)=true:=decide_eq_true hge
     have HF:Hid (finI (sumI ks) t=1000000):=qh (by unfold finI;rw [if_pos (by have:=HNX.out;have:=HLN.out;omega)])
     have hz:=HZ.out.symm.trans HF.out
     subst hz
     clear hge HF
     go_wp2_with fail
     go_ret
     exact ⟨rfl,HG2.out⟩
    ·have d1:decide (1000000≤s0+s1)=false:=decide_eq_false hge
     go_wp2_with fail
     go_roundw
     case rel=>exact ⟨i+1,by omega,by go_num,by rw [HNX.out],by rw [HNX.out];omega,HG2,HX2⟩
     case measure=>simp [intOf];omega
   ·obtain rfl:i=ks.length:=by omega
    rw [List.take_length] at hsm hnn0 ⊢
    have HF:Hid (finI (sumI ks) t=min (1+sumI ks * min t 1000000) 1000000):=qh (by unfold finI;rw [if_neg (by omega)])
    have hzz:=HZ.out.symm.trans HF.out
    obtain ⟨s,hs⟩:∃ s,sumI ks=s:=⟨_,rfl⟩
    rw [hs] at hsm hnn0 hzz ⊢
    obtain ⟨m,hm⟩:∃ m,min t 1000000=m:=⟨_,rfl⟩
    have e1:(if 1000000 < t then (1000000:Int) else t)=m:=by rw [← hm];split <;> omega
    have hm0:1≤m∧m≤1000000:=by omega
    have hp0:0≤s * m:=Int.mul_nonneg hnn0 (by omega)
    have hp1:s * m≤1000000 * 1000000:=Int.le_trans (Int.mul_le_mul_of_nonneg_right (by omega:s≤1000000) (by omega)) (Int.mul_le_mul_of_nonneg_left hm0.2 (by omega))
    rw [hm] at hzz
    obtain ⟨p,hp⟩:∃ p,s * m=p:=⟨_,rfl⟩
    rw [hp] at hp0 hp1 hzz
    have hw1:IntKind.i64.wrap (s * m)=p:=by rw [hp];exact IntWalk.i64_in _ (by omega)
    have hw2:IntKind.i64.wrap (1+p)=1+p:=IntWalk.i64_in _ (by omega)
    obtain ⟨z,hz⟩:∃ z,min (1+p) 1000000=z:=⟨_,rfl⟩
    have e2:(if 1000000 < 1+p then (1000000:Int) else 1+p)=z:=by rw [← hz];split <;> omega
    rw [hz] at hzz
    subst hzz
    clear hs
    go_wp2_with (first
     | (refine load_nd _ u.heap.size _ rfl rfl rfl HX.out rfl ?_)
     | fail)
    refine (HTI.out wr).mono ?_
    rintro e w2 ⟨rfl,g2⟩
    have HG2:=qh (HG.out.trans g2)
    clear g2
    go_wp2_with fail
    go_ret
    exact ⟨rfl,HG2.out⟩
end
section
open Go.RowKit
theorem setT_shr {f:Int} {t:Tok} {T:List Tok} {rs:List (Int×Int)} {R:List Tok} (h:setT f t T=some (rs,R)):R.length≤T.length:=by
 unfold setT at h
 split at h
 ·injection h with h
  injection h with e1 e2
  subst e2
  exact Nat.le_refl _
 ·split at h
  ·rcases hc:classL f T with _ | ⟨rs',R'⟩
   ·rw [hc] at h;cases h
   ·rw [hc] at h
    injection h with h
    injection h with e1 e2
    subst e2
    exact Nat.le_of_lt (classL_shr hc)
  ·injection h with h
   injection h with e1 e2
   subst e2
   exact Nat.le_refl _
def Shr (pat:List Tok→PR):Prop:=∀ (T:List Tok) (n:Nd) (R:List Tok),pat T=some (n,R)→R.length≤T.length
theorem oneT_shr {pat:List Tok→PR} (hp:Shr pat) {f:Int} {T:List Tok} {n:Nd} {R:List Tok} (h:oneT pat f T=some (n,R)):R.length < T.length:=by
 rcases T with _ | ⟨t,T⟩
 ·cases h
 ·unfold oneT at h
  simp only at h
  by_cases h3:t.k=3
  ·rw [if_pos h3] at h
   rcases hq:pat T with _ | ⟨n',R'⟩
   ·rw [hq] at h;cases h
   ·rw [hq] at h
    injection h with h
    injection h with h1 h2
    subst h1 h2
    have h4:=hp T _ _ hq
    have h5:=dropIs_len R' [4]
    simp;omega
  ·rw [if_neg h3] at h
   by_cases h10:t.k=10
   ·rw [if_pos h10] at h
    injection h with h
    injection h with e1 e2
    subst e1 e2
    simp
   rw [if_neg h10] at h
   by_cases h11:t.k=11
   ·rw [if_pos h11] at h
    injection h with h
    injection h with e1 e2
    subst e1 e2
    simp
   rw [if_neg h11] at h
   rcases hs:setT f t T with _ | ⟨rs,R'⟩
   ·rw [hs] at h;cases h
   ·rw [hs] at h
    injection h with h
    injection h with e1 e2
    subst e1 e2
    have:=setT_shr hs
    simp;omega
theorem rpT_shr {pat:List Tok→PR} (hp:Shr pat) {f:Int} {T:List Tok} {n:Nd} {R:List Tok} (h:rpT pat f T=some (n,R)):R.length < T.length:=by
 obtain ⟨m,S,ho,hf⟩:=rpT_form h
 have h1:=oneT_shr hp ho
 rcases hf with ⟨-,-,rfl⟩ | ⟨t,R',rfl,-,-,rfl⟩
 ·have:=dropIs_len S [13];omega
 ·have:=dropIs_len R' [13];simp at h1;omega
theorem joinL_step {pat:List Tok→PR} {f:Int} {k:Nat} {T:List Tok} {ns:List Nd} {R:List Tok} (h:joinL pat f k T=some (ns,R)) :
 ((T=[]∨kindIs T [5,4]=true)∧ns=[]∧R=T)∨(T≠[]∧kindIs T [5,4]=false∧∃ k' n S ms,rpT pat f T=some (n,S)∧joinL pat f k' S=some (ms,R)∧ns=n :: ms):=by
 rcases k with _ | k
 ·cases h
 ·rw [joinL] at h
  by_cases hc:T=[]∨kindIs T [5,4]=true
  ·rw [if_pos hc] at h
   injection h with h
   injection h with h1 h2
   exact .inl ⟨hc,h1.symm,h2.symm⟩
  ·rw [if_neg hc] at h
   refine .inr ⟨fun e=>hc (.inl e),by simpa using fun e=>hc (.inr e),?_⟩
   rcases hr:rpT pat f T with _ | ⟨n,S⟩
   ·rw [hr] at h;cases h
   ·rw [hr] at h
    simp only at h
    rcases hj:joinL pat f k S with _ | ⟨ms,R'⟩
    ·rw [hj] at h;cases h
    ·rw [hj] at h
     injection h with h
     injection h with h1 h2
     subst h2
     exact ⟨k,n,S,ms,rfl,hj,h1.symm⟩
theorem joinL_shr {pat:List Tok→PR} (hp:Shr pat) {f:Int}:∀ (m:Nat) {k:Nat} {T:List Tok} {ns:List Nd} {R:List Tok},T.length≤m→joinL pat f k T=some (ns,R)→R.length≤T.length:=by
 intro m
 induction m with
 | zero =>
  intro k T ns R hm h
  rcases joinL_step h with ⟨-,-,rfl⟩ | ⟨hne,-⟩
  ·exact Nat.le_refl _
  ·exact absurd (List.eq_nil_of_length_eq_zero (by omega)) hne
 | succ m ih =>
  intro k T ns R hm h
  rcases joinL_step h with ⟨-,-,rfl⟩ | ⟨-,-,k',n,S,ms,hr,hj,-⟩
  ·exact Nat.le_refl _
  ·have h1:=rpT_shr hp hr
   have h2:=ih (by omega) hj
   omega
theorem orL_step {pat:List Tok→PR} {f:Int} {q k:Nat} {T:List Tok} {ns:List Nd} {R:List Tok} (h:orL pat f q k T=some (ns,R)) :
 (kindIs T [5]=false∧ns=[]∧R=T)∨(kindIs T [5]=true∧∃ k' js S ms,joinL pat f q T.tail=some (js,S)∧orL pat f q k' S=some (ms,R)∧ns=togT 3 js :: ms):=by
 rcases k with _ | k
 ·cases h
 ·rw [orL] at h
  by_cases hc:kindIs T [5]=true
  ·rw [if_pos hc] at h
   refine .inr ⟨hc,?_⟩
   unfold joinT at h
   rcases hj:joinL pat f q T.tail with _ | ⟨js,S⟩
   ·rw [hj] at h;cases h
   ·rw [hj] at h
    simp only at h
    rcases ho:orL pat f q k S with _ | ⟨ms,R'⟩
    ·rw [ho] at h;cases h
    ·rw [ho] at h
     injection h with h
     injection h with h1 h2
     subst h2
     exact ⟨k,js,S,ms,rfl,ho,h1.symm⟩
  ·rw [if_neg hc] at h
   injection h with h
   injection h with h1 h2
   exact .inl ⟨by simpa using hc,h1.symm,h2.symm⟩
theorem orL_shr {pat:List Tok→PR} (hp:Shr pat) {f:Int} {q:Nat}:∀ (m:Nat) {k:Nat} {T:List Tok} {ns:List Nd} {R:List Tok},T.length≤m→orL pat f q k T=some (ns,R)→R.length≤T.length:=by
 intro m
 induction m with
 | zero =>
  intro k T ns R hm h
  rcases orL_step h with ⟨-,-,rfl⟩ | ⟨hk,-⟩
  ·exact Nat.le_refl _
  ·have:T=[]:=List.eq_nil_of_length_eq_zero (by omega)
   rw [this] at hk;cases hk
 | succ m ih =>
  intro k T ns R hm h
  rcases orL_step h with ⟨-,-,rfl⟩ | ⟨hk,k',js,S,ms,hj,ho,-⟩
  ·exact Nat.le_refl _
  ·have h1:=joinL_shr hp _ (Nat.le_refl _) hj
   rcases T with _ | ⟨t,T⟩
   ·cases hk
   ·simp only [List.tail_cons,List.length_cons] at h1 hm ⊢
    have h2:=ih (by omega) ho
    omega
theorem patT_form {f:Int} {q d:Nat} {T:List Tok} {n:Nd} {R:List Tok} (h:patT f q (d+1) T=some (n,R)):∃ js S ms,joinL (patT f q d) f q T=some (js,S)∧orL (patT f q d) f q q S=some (ms,R)∧n=togT 4 (togT 3 js :: ms):=by
 rw [patT] at h
 unfold joinT at h
 rcases hj:joinL (patT f q d) f q T with _ | ⟨js,S⟩
 ·rw [hj] at h;cases h
 ·rw [hj] at h
  simp only at h
  rcases ho:orL (patT f q d) f q q S with _ | ⟨ms,R'⟩
  ·rw [ho] at h;cases h
  ·rw [ho] at h
   injection h with h
   injection h with h1 h2
   subst h2
   exact ⟨js,S,ms,rfl,ho,h1.symm⟩
theorem patT_shr (f:Int) (q:Nat):∀ d,Shr (patT f q d)
 | 0=>fun T n R h=>by cases h
 | d+1=>fun T n R h=>by
  obtain ⟨js,S,ms,hj,ho,-⟩:=patT_form h
  have h1:=joinL_shr (patT_shr f q d) _ (Nat.le_refl _) hj
  have h2:=orL_shr (patT_shr f q d) _ (Nat.le_refl _) ho
  omega
theorem join_any {pat:List Tok→PR} {b:Nat} {f:Int} (HP:PatOk b f pat) (hs:Shr pat) (hgb:3 < b) (w:World) (T:List Tok) (ns:List Nd) (R:List Tok) (q:Nat) (hT:FoTabs w) (hR:IsT w b T f) (h:joinL pat f q T=some (ns,R)) :
 Calls Tryz.prog 55 #[.pointer (some ⟨b,0,none⟩)] w (NdTo w b f (togT 3 ns) R):=by
 have HJ0:=qh h
 have HREP:=qh (fun (u:World) (T:List Tok) (n:Nd) (S:List Tok) h1 h2 h3=>rep_any HP hgb u T n S h1 h2 h3)
 have HSH:=qh (fun (T:List Tok) (n:Nd) (S:List Tok) (h:rpT pat f T=some (n,S))=>rpT_shr hs h)
 have HFEW:=qh hR.few
 have HT:=qh hT
 have HLT:=qh hR.lt
 obtain ⟨w0,hw0⟩:∃ u,w.alloc (.cells #[.int .i64 0,.slice none 0 0,.int .i64 0,.int .i64 0,.slice none 0 0] 25)=u:=⟨_,rfl⟩
 have G0:Hid (w.grownBy w0 none):=qh (hw0▸grown_new w _ none)
 have X0:Hid (Box w0 w.heap.size ndZero 25):=qh (hw0▸Box.new w _ _)
 have HZ0:Hid (w0.heap.size=w.heap.size+1):=qh (by rw [← hw0];simp)
 have R0:=qh (hR.up G0.out)
 have HW0:=qh hw0
 clear hw0 hT hR
 clear HP hs h
 go_enter Tryz.func55,Tryz.ntmps55
 go_wp2_with fail
 rw [HW0.out]
 go_loopw [3] (fun ov wr=>∃ (k:Nat) (T':List Tok) (ks ns':List Nd),Hid (joinL pat f k T'=some (ns',R))∧Hid (ks++ns'=ns)∧Hid (KidsAt wr (w.heap.size+1) ov ks)∧Hid (IsT wr b T' f)∧Hid (w.grownBy wr (some b))∧Hid (Box wr w.heap.size ndZero 25)∧Hid (w.heap.size+1≤wr.heap.size)∧Hid (ks.length+T'.length≤1000)) (fun _ wr=>leftAt b wr)
 case atStart=>exact ⟨q,T,[],ns,HJ0,qh rfl,qh (KidsAt.empty _ _),R0,qh (grownBy_none G0.out (some b)),X0,qh (by have:=HZ0.out;omega),qh (by have:=HFEW.out;simp;omega)⟩
 case round =>
  obtain ⟨k,T',ks,ns',HJ,HE,K,Rr,G,X,Z,KL⟩:=hrel
  obtain ⟨A0,c0,hbx,-,-⟩:=Rr.out.box
  have b0:=(hbx.cell (i:=0) rfl:wr.cell? ⟨b,0,none⟩=some (.slice A0 T'.length c0))
  clear hbx
  rcases T' with _ | ⟨t,T'⟩
  ·rcases joinL_step HJ.out with ⟨-,rfl,rfl⟩ | ⟨hne,-⟩
   ·have HE2:Hid (ks=ns):=qh (by have:=HE.out;rwa [List.append_nil] at this)
    have hes:=HE2.out
    subst hes
    have HTG:=qh (together_any wr (w.heap.size+1) 3 _ ks K.out Z.out)
    go_wp2_with fail
    refine HTG.out.mono ?_
    rintro e w8 ⟨v8,rfl,t8,g8⟩
    have h5:=t8.size
    have h51:=t8.one
    have T8:=qh t8
    have X8:=qh (X.out.kept g8 (by simp))
    have R8:=qh (Rr.out.up g8)
    have G8:=qh (G.out.trans (grownBy_none g8 (some b)))
    clear t8 g8
    go_wp2_with (first
     | (refine store_nd w8 _ _ w.heap.size ndZero v8 rfl rfl rfl rfl rfl X8.out rfl h5 h51 ?_;intro w9 x9 g9;have X9:=qh x9;have R9:=qh (R8.out.grown g9 (fun g e=>by injection e with e;have:=HLT.out;omega));have G9:=qh (grown_two G8.out g9 (Nat.le_refl _));have T9:=qh (T8.out.grown g9 (fun x hx e=>by injection e with e;have:=hx.1;omega));have HZ9:=qh g9.size;clear x9 g9)
     | fail)
    (try simp only [Exit.inBlock,Exit.then])
    exact bodyPost_ret (v:=.agg _) (ret_nd rfl _ _ w.heap.size _ h5 rfl X9.out) rfl ⟨_,rfl,T9.out.mono fun x hx=>⟨by have:=hx.1;omega,Nat.lt_of_lt_of_le hx.2 HZ9.out⟩,R9.out,G9.out⟩
   ·exact absurd rfl hne
  ·have hlen:(t :: T').length=T'.length+1:=rfl
   obtain ⟨nt,hnt⟩:∃ nt,(t :: T').length=nt:=⟨_,rfl⟩
   have p0:(0:Int) < (nt:Int):=by omega
   have p1:decide ((0:Int) < (nt:Int))=true:=decide_eq_true p0
   have p2:decide (0 < nt)=true:=decide_eq_true (by omega)
   rw [hnt] at b0
   have M:wr.grownBy (wr.alloc (.cells #[.int .i64 5,.int .i64 4] 3)) none:=grown_new _ _ none
   have HSE:=qh (sees_any (wr.alloc (.cells #[.int .i64 5,.int .i64 4] 3)) b (t :: T') f _ (some ⟨wr.heap.size,0,none⟩) [5,4] 2 (Rr.out.up M) (litI wr [5,4]) (by decide) (by simp))
   have HM:=qh M
   clear M
   rcases joinL_step HJ.out with ⟨hk,rfl,rfl⟩ | ⟨-,hk,k',n,S,ms,hrp,hj,rfl⟩
   ·have hk:kindIs (t :: T') [5,4]=true:=by
     rcases hk with e | e
     ·cases e
     ·exact e
    rw [hk] at HSE
    have HE2:Hid (ks=ns):=qh (by have:=HE.out;rwa [List.append_nil] at this)
    have hes:=HE2.out
    subst hes
    clear hk hnt hlen
    go_wp2_with fail
    refine HSE.out.mono ?_
    rintro e w7 ⟨rfl,g7⟩
    have N7:=qh (HM.out.trans g7)
    have K:=qh (K.out.grown N7.out (fun g e=>by cases e))
    have Rr:=qh (Rr.out.up N7.out)
    have G:=qh (G.out.trans (grownBy_none N7.out (some b)))
    have X:=qh (X.out.kept N7.out (by simp))
    have Z:=qh (Nat.le_trans Z.out N7.out.size)
    clear g7
    have HTG:=qh (together_any w7 (w.heap.size+1) 3 _ ks K.out Z.out)
    go_wp2_with fail
    refine HTG.out.mono ?_
    rintro e w8 ⟨v8,rfl,t8,g8⟩
    have h5:=t8.size
    have h51:=t8.one
    have T8:=qh t8
    have X8:=qh (X.out.kept g8 (by simp))
    have R8:=qh (Rr.out.up g8)
    have G8:=qh (G.out.trans (grownBy_none g8 (some b)))
    clear t8 g8
    go_wp2_with (first
     | (refine store_nd w8 _ _ w.heap.size ndZero v8 rfl rfl rfl rfl rfl X8.out rfl h5 h51 ?_;intro w9 x9 g9;have X9:=qh x9;have R9:=qh (R8.out.grown g9 (fun g e=>by injection e with e;have:=HLT.out;omega));have G9:=qh (grown_two G8.out g9 (Nat.le_refl _));have T9:=qh (T8.out.grown g9 (fun x hx e=>by injection e with e;have:=hx.1;omega));have HZ9:=qh g9.size;clear x9 g9)
     | fail)
    (try simp only [Exit.inBlock,Exit.then])
    exact bodyPost_ret (v:=.agg _) (ret_nd rfl _ _ w.heap.size _ h5 rfl X9.out) rfl ⟨_,rfl,T9.out.mono fun x hx=>⟨by have:=hx.1;omega,Nat.lt_of_lt_of_le hx.2 HZ9.out⟩,R9.out,G9.out⟩
   ·rw [hk] at HSE
    have HSR:=qh (HSH.out _ _ _ hrp)
    have HRPE:=qh (fun u h1 h2=>HREP.out u (t :: T') n S h1 h2 hrp)
    have HJ2:=qh hj
    have HEE:Hid ((ks++[n])++ms=ns):=qh (by rw [← HE.out];simp)
    have HLF:Hid (leftAt b wr=nt):=qh (by rw [Rr.out.left,hnt])
    have HNT:=qh hnt
    clear hk hrp hj hlen hnt
    go_wp2_with fail
    refine HSE.out.mono ?_
    rintro e w7 ⟨rfl,g7⟩
    have N7:=qh (HM.out.trans g7)
    have K:=qh (K.out.grown N7.out (fun g e=>by cases e))
    have Rr:=qh (Rr.out.up N7.out)
    have G:=qh (G.out.trans (grownBy_none N7.out (some b)))
    have X:=qh (X.out.kept N7.out (by simp))
    have Z:=qh (Nat.le_trans Z.out N7.out.size)
    have HRX:=qh (HRPE.out w7 (HT.out.grown G.out (by omega)) Rr.out)
    clear g7
    go_wp2_with fail
    refine HRX.out.mono ?_
    rintro e w1 ⟨v1,rfl,t1,r1,g1⟩
    obtain ⟨k1,Ar,nr,cr,lo1,hi1,Ak,nk,ck,rfl⟩:=t1.form
    obtain ⟨vs,h0,ho,hk⟩:=K.out.ex
    have HVS:Hid (∀ v∈vs,v.size=5):=qh fun v hv=>by
     obtain ⟨i,hi,rfl⟩:=List.getElem_of_mem hv
     exact (hk i hi (by omega)).size
    have HO1:=qh (ho.keep g1 (by
     rcases hv:u3.ownBlock with _ | g
     ·exact .inl rfl
     ·exact .inr fun e=>by have:=(ho.inside g hv).1;have:=HLT.out;injection e with e;omega))
    have HK1:=qh (fun (i:Nat) (h1:i < vs.length) (h2:i < ks.length)=>((hk i h1 h2).grown g1 (fun x hx e=>by have:=hx.1;have:=HLT.out;injection e with e;omega)).mono (P':=fun x=>w.heap.size+1≤x∧x < w1.heap.size∧u3.ownBlock≠some x) fun x hx=>⟨hx.1,Nat.lt_of_lt_of_le hx.2.1 g1.size,hx.2.2⟩)
    have HPU:=qh (fun (lit:Obj) (v':Value) (w':World) o g e=>KidsAt.push (lit:=lit) (v':=v') (w':=w') h0 ho HK1.out g1.size Z.out t1 o g e)
    have ZW:=qh (Nat.le_trans Z.out g1.size)
    have R1:=qh r1
    have G1:=qh (G.out.trans g1)
    have X1:=qh (X.out.kept g1 (by have:=HLT.out;simp;omega))
    obtain ⟨nn,hnn⟩:∃ nn,ks.length=nn:=⟨_,rfl⟩
    rw [hnn] at HO1 HPU
    have hnl:nn≤1001:=by have:=KL.out;simp at this;omega
    obtain ⟨A3,c3,hv3,-,-,-⟩:=HO1.out.form
    subst hv3
    clear t1 g1 r1 h0 ho hk hnn HK1
    go_wp2_with (first
     | (at_builtin;refine appN_at ndT w1 _ (w.heap.size+1) _ _ _ (.slice A3 nn c3) nn 1 (vs.flatMap Array.toList) [.int .i64 k1,.slice Ar nr cr,.int .i64 lo1,.int .i64 hi1,.slice Ak nk ck] _ _ rfl rfl rfl rfl (HO1.out.alloc _) (Lies.lit (w:=w1) (e:=25) #[.int .i64 k1,.slice Ar nr cr,.int .i64 lo1,.int .i64 hi1,.slice Ak nk ck]) rfl (by simp [Value.oneCell']) ((Below.refl _ _).alloc ZW.out _) (by have:=ZW.out;simp;omega) (by unfold maxLen;omega) (by omega) ?_;intro v2 w2 o2 b2 g2 e2;have K2:=qh (HPU.out _ v2 w2 o2 g2 e2);have G2:=qh (grown_below G1.out b2 (Nat.le_succ _));have X2:=qh (X1.out.below b2 (Nat.lt_succ_self _));have R2:=qh (R1.out.below b2 (by have:=HLT.out;omega));have Z2:=qh (Nat.le_trans ZW.out b2.size);clear o2 b2 g2 e2)
     | fail)
    go_roundw
    case rel=>exact ⟨k',S,ks++[n],ms,HJ2,HEE,K2,R2,G2,X2,Z2,qh (by have:=KL.out;have:=HSR.out;simp at *;omega)⟩
    case measure=>have h1:=R2.out.left;have h2:=HLF.out;have h3:=HSR.out;have h4:=HNT.out;omega
theorem KidsAt.lit {w1:World} {lo:Nat} {n:Nd} {k1:Int} {Ar:Option Addr} {nr cr:Nat} {lo1 hi1:Int} {Ak:Option Addr} {nk ck:Nat} (t:Treed w1 (fun x=>lo≤x∧x < w1.heap.size) n #[.int .i64 k1,.slice Ar nr cr,.int .i64 lo1,.int .i64 hi1,.slice Ak nk ck]) (hlo:lo≤w1.heap.size) :
 KidsAt (w1.alloc (.cells #[.int .i64 k1,.slice Ar nr cr,.int .i64 lo1,.int .i64 hi1,.slice Ak nk ck] 25)) lo (.slice (some ⟨w1.heap.size,0,none⟩) 1 1) [n]:=by
 refine ⟨[#[.int .i64 k1,.slice Ar nr cr,.int .i64 lo1,.int .i64 hi1,.slice Ak nk ck]],rfl,OwnN.ofLit (n:=1) _ hlo (by decide) rfl,fun i h1 h2=>?_⟩
 simp only [List.length_cons,List.length_nil] at h1
 obtain rfl:i=0:=by omega
 refine (t.grown (grown_new w1 _ none) (fun x _ e=>by cases e)).mono fun x hx=>⟨hx.1,by simp;omega,fun e=>?_⟩
 have e:w1.heap.size=x:=by simpa [Value.ownBlock] using e
 omega
theorem pattern_step {pat:List Tok→PR} {b:Nat} {f:Int} (HP:PatOk b f pat) (hs:Shr pat) (hgb:3 < b) (w:World) (T S0:List Tok) (js ms:List Nd) (R:List Tok) (q q2:Nat) (hT:FoTabs w) (hR:IsT w b T f) (hj:joinL pat f q T=some (js,S0)) (h:orL pat f q q2 S0=some (ms,R)) :
 Calls Tryz.prog 40 #[.pointer (some ⟨b,0,none⟩)] w (NdTo w b f (togT 4 (togT 3 js :: ms)) R):=by
 have HJ0:=qh h
 have HJN:=qh (fun (u:World) (T:List Tok) (ns:List Nd) (S:List Tok) h1 h2 h3=>join_any HP hs hgb u T ns S q h1 h2 h3)
 have HSH:=qh (fun (T:List Tok) (ns:List Nd) (S:List Tok) (h:joinL pat f q T=some (ns,S))=>joinL_shr hs _ (Nat.le_refl _) h)
 have HS0:=qh (Nat.le_trans (HSH.out T js S0 hj) hR.few)
 obtain ⟨n0,hn0⟩:∃ n0,togT 3 js=n0:=⟨_,rfl⟩
 have HJJ:=qh hj
 have HN0:=qh hn0
 rw [hn0]
 obtain ⟨al,hal⟩:∃ al,n0 :: ms=al:=⟨_,rfl⟩
 have HAL:=qh hal
 rw [hal]
 clear hj hn0 hal
 have HT:=qh hT
 have HLT:=qh hR.lt
 obtain ⟨w0,hw0⟩:∃ u,w.alloc (.cells #[.int .i64 0,.slice none 0 0,.int .i64 0,.int .i64 0,.slice none 0 0] 25)=u:=⟨_,rfl⟩
 have G0:Hid (w.grownBy w0 none):=qh (hw0▸grown_new w _ none)
 have X0:Hid (Box w0 w.heap.size ndZero 25):=qh (hw0▸Box.new w _ _)
 have HZ0:Hid (w0.heap.size=w.heap.size+1):=qh (by rw [← hw0];simp)
 have R0:=qh (hR.up G0.out)
 have HW0:=qh hw0
 clear hw0 hT hR
 have HJC:=qh (HJN.out w0 T js S0 (HT.out.grown0 G0.out) R0.out HJJ.out)
 rw [HN0.out] at HJC
 clear HP hs h
 go_enter Tryz.func40,Tryz.ntmps40
 go_wp2_with fail
 rw [HW0.out]
 refine HJC.out.mono ?_
 rintro e wj ⟨vj,rfl,tj,rj,gj⟩
 obtain ⟨k1,Ar,nr,cr,lo1,hi1,Ak,nk,ck,rfl⟩:=tj.form
 have ZJ:Hid (w.heap.size+1≤wj.heap.size):=qh (by have:=gj.size;have:=HZ0.out;omega)
 have KJ:=qh (KidsAt.lit (lo:=w.heap.size+1) (tj.mono fun x hx=>⟨by have:=hx.1;have:=HZ0.out;omega,hx.2⟩) ZJ.out)
 have MJ:wj.grownBy (wj.alloc (.cells #[.int .i64 k1,.slice Ar nr cr,.int .i64 lo1,.int .i64 hi1,.slice Ak nk ck] 25)) none:=grown_new _ _ none
 have RJ:=qh (IsT.up rj MJ)
 have GJ:=qh (((grownBy_none G0.out (some b)).trans gj).trans (grownBy_none MJ (some b)))
 have XJ:=qh ((X0.out.kept gj (by have:=HLT.out;simp;omega)).kept MJ (by simp))
 have ZJ2:=qh (Nat.le_trans ZJ.out MJ.size)
 clear tj rj gj MJ
 go_wp2_with fail
 go_loopw [3] (fun ov wr=>∃ (k:Nat) (T':List Tok) (ks ns':List Nd),Hid (orL pat f q k T'=some (ns',R))∧Hid (ks++ns'=al)∧Hid (KidsAt wr (w.heap.size+1) ov ks)∧Hid (IsT wr b T' f)∧Hid (w.grownBy wr (some b))∧Hid (Box wr w.heap.size ndZero 25)∧Hid (w.heap.size+1≤wr.heap.size)∧Hid (ks.length+T'.length≤1001)) (fun _ wr=>leftAt b wr)
 case atStart=>exact ⟨q2,S0,[n0],ms,HJ0,HAL,KJ,RJ,GJ,XJ,ZJ2,qh (by have:=HS0.out;simp;omega)⟩
 case round =>
  obtain ⟨k,T',ks,ns',HJ,HE,K,Rr,G,X,Z,KL⟩:=hrel
  have M:wr.grownBy (wr.alloc (.cells #[.int .i64 5] 3)) none:=grown_new _ _ none
  have HTK:=qh (takes_any (wr.alloc (.cells #[.int .i64 5] 3)) b T' f _ (some ⟨wr.heap.size,0,none⟩) [5] 1 (Rr.out.up M) (litI wr [5]) (by decide) (by simp))
  have HLF:Hid (leftAt b wr=T'.length):=qh Rr.out.left
  have K:=qh (K.out.grown M (fun g e=>by cases e))
  have G:=qh (G.out.trans (grownBy_none M (some b)))
  have X:=qh (X.out.kept M (by simp))
  have Z:=qh (Nat.le_trans Z.out M.size)
  clear M Rr
  go_wp2_with fail
  refine HTK.out.mono ?_
  rintro e w7 ⟨rfl,r7,g7⟩
  have K:=qh (K.out.grown g7 (fun g e=>by injection e with e;have:=HLT.out;omega))
  have Rr:=qh r7
  have G:=qh (G.out.trans g7)
  have X:=qh (X.out.kept g7 (by have:=HLT.out;simp;omega))
  have Z:=qh (Nat.le_trans Z.out g7.size)
  clear r7 g7
  rcases orL_step HJ.out with ⟨hk,rfl,rfl⟩ | ⟨hk,k',js',S,ms',hj,ho,rfl⟩
  ·have hd:dropIs R [5]=R:=by unfold dropIs;rw [hk];rfl
   rw [hd] at Rr
   rw [hk]
   have HE2:Hid (ks=al):=qh (by have:=HE.out;rwa [List.append_nil] at this)
   have hes:=HE2.out
   subst hes
   clear hk hd
   have HTG:=qh (together_any w7 (w.heap.size+1) 4 _ ks K.out Z.out)
   go_wp2_with fail
   refine HTG.out.mono ?_
   rintro e w8 ⟨v8,rfl,t8,g8⟩
   have h5:=t8.size
   have h51:=t8.one
   have T8:=qh t8
   have X8:=qh (X.out.kept g8 (by simp))
   have R8:=qh (Rr.out.up g8)
   have G8:=qh (G.out.trans (grownBy_none g8 (some b)))
   clear t8 g8
   go_wp2_with (first
    | (refine store_nd w8 _ _ w.heap.size ndZero v8 rfl rfl rfl rfl rfl X8.out rfl h5 h51 ?_;intro w9 x9 g9;have X9:=qh x9;have R9:=qh (R8.out.grown g9 (fun g e=>by injection e with e;have:=HLT.out;omega));have G9:=qh (grown_two G8.out g9 (Nat.le_refl _));have T9:=qh (T8.out.grown g9 (fun x hx e=>by injection e with e;have:=hx.1;omega));have HZ9:=qh g9.size;clear x9 g9)
    | fail)
   (try simp only [Exit.inBlock,Exit.then])
   exact bodyPost_ret (v:=.agg _) (ret_nd rfl _ _ w.heap.size _ h5 rfl X9.out) rfl ⟨_,rfl,T9.out.mono fun x hx=>⟨by have:=hx.1;omega,Nat.lt_of_lt_of_le hx.2 HZ9.out⟩,R9.out,G9.out⟩
  ·obtain ⟨t,T2,rfl,hd⟩:=kindIs_tail hk
   rw [hd] at Rr
   rw [hk]
   have hj:joinL pat f q T2=some (js',S):=hj
   have HSR:=qh (HSH.out _ _ _ hj)
   have HJC2:=qh (HJN.out w7 T2 js' S (HT.out.grown G.out (by omega)) Rr.out hj)
   have HJ2:=qh ho
   have HEE:Hid ((ks++[togT 3 js'])++ms'=al):=qh (by rw [← HE.out];simp)
   clear hk hd hj ho
   go_wp2_with fail
   refine HJC2.out.mono ?_
   rintro e w1 ⟨v1,rfl,t1,r1,g1⟩
   obtain ⟨k1,Ar,nr,cr,lo1,hi1,Ak,nk,ck,rfl⟩:=t1.form
   obtain ⟨vs,h0,ho,hk⟩:=K.out.ex
   have HVS:Hid (∀ v∈vs,v.size=5):=qh fun v hv=>by
    obtain ⟨i,hi,rfl⟩:=List.getElem_of_mem hv
    exact (hk i hi (by omega)).size
   have HO1:=qh (ho.keep g1 (by
    rcases hv:u3.ownBlock with _ | g
    ·exact .inl rfl
    ·exact .inr fun e=>by have:=(ho.inside g hv).1;have:=HLT.out;injection e with e;omega))
   have HK1:=qh (fun (i:Nat) (h1:i < vs.length) (h2:i < ks.length)=>((hk i h1 h2).grown g1 (fun x hx e=>by have:=hx.1;have:=HLT.out;injection e with e;omega)).mono (P':=fun x=>w.heap.size+1≤x∧x < w1.heap.size∧u3.ownBlock≠some x) fun x hx=>⟨hx.1,Nat.lt_of_lt_of_le hx.2.1 g1.size,hx.2.2⟩)
   have HPU:=qh (fun (lit:Obj) (v':Value) (w':World) o g e=>KidsAt.push (lit:=lit) (v':=v') (w':=w') h0 ho HK1.out g1.size Z.out t1 o g e)
   have ZW:=qh (Nat.le_trans Z.out g1.size)
   have R1:=qh r1
   have G1:=qh (G.out.trans g1)
   have X1:=qh (X.out.kept g1 (by have:=HLT.out;simp;omega))
   obtain ⟨nn,hnn⟩:∃ nn,ks.length=nn:=⟨_,rfl⟩
   rw [hnn] at HO1 HPU
   have hnl:nn≤1001:=by have:=KL.out;simp at this;omega
   obtain ⟨A3,c3,hv3,-,-,-⟩:=HO1.out.form
   subst hv3
   clear t1 g1 r1 h0 ho hk hnn HK1
   go_wp2_with (first
    | (at_builtin;refine appN_at ndT w1 _ (w.heap.size+1) _ _ _ (.slice A3 nn c3) nn 1 (vs.flatMap Array.toList) [.int .i64 k1,.slice Ar nr cr,.int .i64 lo1,.int .i64 hi1,.slice Ak nk ck] _ _ rfl rfl rfl rfl (HO1.out.alloc _) (Lies.lit (w:=w1) (e:=25) #[.int .i64 k1,.slice Ar nr cr,.int .i64 lo1,.int .i64 hi1,.slice Ak nk ck]) rfl (by simp [Value.oneCell']) ((Below.refl _ _).alloc ZW.out _) (by have:=ZW.out;simp;omega) (by unfold maxLen;omega) (by omega) ?_;intro v2 w2 o2 b2 g2 e2;have K2:=qh (HPU.out _ v2 w2 o2 g2 e2);have G2:=qh (grown_below G1.out b2 (Nat.le_succ _));have X2:=qh (X1.out.below b2 (Nat.lt_succ_self _));have R2:=qh (R1.out.below b2 (by have:=HLT.out;omega));have Z2:=qh (Nat.le_trans ZW.out b2.size);clear o2 b2 g2 e2)
    | fail)
   go_roundw
   case rel=>exact ⟨k',S,ks++[togT 3 js'],ms',HJ2,HEE,K2,R2,G2,X2,Z2,qh (by have:=KL.out;have:=HSR.out;simp at *;omega)⟩
   case measure=>have h1:=R2.out.left;have h2:=HLF.out;have h3:=HSR.out;simp at h2;omega
theorem pat_ok (b:Nat) (f:Int) (q:Nat) (hgb:3 < b):∀ d,PatOk b f (patT f q d)
 | 0=>fun u T n R _ _ h=>by cases h
 | d+1=>fun u T n R hT hR h=>by
  obtain ⟨js,S,ms,hj,ho,rfl⟩:=patT_form h
  exact pattern_step (pat_ok b f q hgb d) (patT_shr f q d) hgb u T S js ms R q q hT hR hj ho
end
end Go.Proofs.YtoeocodfndbebaaGreatDoor
