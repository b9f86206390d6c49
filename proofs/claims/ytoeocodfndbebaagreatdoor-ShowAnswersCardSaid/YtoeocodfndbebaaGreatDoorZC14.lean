/- Shared texts, shaken for one claim. -/
import Derived.Test.YtoeocodfndbebaaGreatDoorZC7
import Derived.Test.YtoeocodfndbebaaGreatDoorZC8
import Derived.Test.YtoeocodfndbebaaGreatDoorZC12
import Derived.Test.YtoeocodfndbebaaGreatDoorZC13
set_option maxRecDepth 20000
set_option maxHeartbeats 16000000
namespace Go.Proofs.YtoeocodfndbebaaGreatDoor
section
open Go.RowKit
theorem maymirror_any (c:Int) (w:World):Calls Tryz.prog 162 #[.int .i64 c] w fun e w'=>e=.returned (.bool (mayM c))∧w=w':=by
 unfold mayM
 rcases d1:decide (c≤187) with _ | _
 ·rcases d2:decide (8804≤c) with _ | _
  ·rcases d4:decide (12296≤c) with _ | _
   all_goals
    go_enter Tryz.func162,Tryz.ntmps162
    go_wp2
    go_ret
    exact ⟨rfl,rfl⟩
  ·rcases d3:decide (c≤9002) with _ | _
   ·rcases d4:decide (12296≤c) with _ | _
    all_goals
     go_enter Tryz.func162,Tryz.ntmps162
     go_wp2
     go_ret
     exact ⟨rfl,rfl⟩
   ·go_enter Tryz.func162,Tryz.ntmps162
    go_wp2
    go_ret
    exact ⟨rfl,rfl⟩
 ·go_enter Tryz.func162,Tryz.ntmps162
  go_wp2
  go_ret
  exact ⟨rfl,rfl⟩
theorem teller1_any (c f:Int) (b:Nat) (w:World) (hc:I64 c) (hT:FoTabs w) (hb:w.cell? ⟨b,0,none⟩=some (.int .i64 f)) (hlt:b < w.heap.size) :
 Calls Tryz.prog 160 #[.int .i64 c,.pointer (some ⟨b,0,none⟩)] w (Rowed w w.heap.size 3 (ints .i64 (toldI (bits .and .i64 f 1 == 1) (bits .and .i64 f 2 == 2) c))):=by
 have HX:∀ u,Below w.heap.size w u→u.cell? ⟨b,0,none⟩=some (.int .i64 f):=fun u hu=>by rw [hu.cell (p:=⟨b,0,none⟩) hlt];exact hb
 have HXH:=qh HX
 have HK:=qh (kin_any c hc w hT)
 have hkl:=kin_few (fo c)
 have hzz:∀ g1 g2,toldI g1 g2 c=(if g1=true then kin (fo c) else [])++(if (g2 && mayM c)=true then [mir c] else []):=fun _ _=>rfl
 obtain ⟨f1,hf1⟩:∃ x,(bits .and .i64 f 1 == 1)=x:=⟨_,rfl⟩
 obtain ⟨f2,hf2⟩:∃ x,(bits .and .i64 f 2 == 2)=x:=⟨_,rfl⟩
 have g1:=bit_one f
 have g2:=bit_two f
 rw [hf1] at g1
 rw [hf2] at g2
 rw [hf1,hf2]
 have hz:=hzz f1 f2
 obtain ⟨Z,hZ⟩:∃ Z,toldI f1 f2 c=Z:=⟨_,rfl⟩
 rw [hZ] at hz ⊢
 obtain ⟨K,hK⟩:∃ K,kin (fo c)=K:=⟨_,rfl⟩
 rw [hK] at HK hkl hz
 obtain ⟨mm,hmm⟩:∃ x,mayM c=x:=⟨_,rfl⟩
 have HMM:=qh hmm
 rw [hmm] at hz
 obtain ⟨mr,hmr⟩:∃ x,mir c=x:=⟨_,rfl⟩
 have HMR:=qh hmr
 rw [hmr] at hz
 have HZ:=qh hz
 clear hK hf1 hf2 hT hc HX hlt hmm hmr hz hzz hZ
 cases f1
 ·cases f2
  ·go_enter Tryz.func160,Tryz.ntmps160
   go_wp2_with fail
   go_ret
   exact ⟨_,rfl,by rw [HZ.out];exact Own.empty _ _ _,Below.refl _ _⟩
  ·go_enter Tryz.func160,Tryz.ntmps160
   go_wp2_with fail
   refine (maymirror_any c w).mono ?_
   rintro e wq ⟨rfl,rfl⟩
   rw [HMM.out]
   cases mm
   ·go_wp2_with fail
    go_ret
    exact ⟨_,rfl,by rw [HZ.out];exact Own.empty _ _ _,Below.refl _ _⟩
   ·go_wp2_with fail
    refine (mirror_any c w).mono ?_
    rintro e w1 ⟨rfl,b1⟩
    rw [HMR.out]
    have B1:=qh b1
    clear b1
    go_wp2_with (first
     | (at_builtin;refine appN_at intsT.wide w1 _ w.heap.size _ _ _ (.slice none 0 0) 0 1 [] [.int .i64 mr] _ _ rfl rfl rfl rfl (OwnN.empty _ _ _ _) (Lies.lit (w:=w1) (e:=3) #[.int .i64 mr]) rfl (by simp [Value.oneCell']) ((Below.refl _ _).alloc B1.out.size _) (by have:=B1.out.size;simp;omega) (by decide) (by decide) ?_;intro v2 w2 o2 b2 _ _;have O2:Hid (Own w2 w.heap.size 3 v2 (ints .i64 [mr])):=qh o2;have B2:=qh (B1.out.trans b2);clear o2 b2)
     | fail)
    go_ret
    exact ⟨_,rfl,by rw [HZ.out];exact O2.out,B2.out⟩
 ·go_enter Tryz.func160,Tryz.ntmps160
  go_wp2_with fail
  refine HK.out.mono ?_
  rintro e w1 ⟨v1,rfl,o1,b1⟩
  have O1:=qh o1
  have B1:=qh b1
  have hb1:=HXH.out w1 b1
  clear o1 b1
  have e5:(ints .i64 K).length=K.length:=by simp [ints]
  have E5:=qh e5
  obtain ⟨A1,c1,hv1,-,-,-⟩:=O1.out.form
  rw [e5] at hv1
  subst hv1
  clear e5
  cases f2
  ·go_wp2_with fail
   go_ret
   exact ⟨_,rfl,by rw [HZ.out];simpa using O1.out,B1.out⟩
  ·go_wp2_with fail
   refine (maymirror_any c w1).mono ?_
   rintro e wq ⟨rfl,rfl⟩
   rw [HMM.out]
   cases mm
   ·go_wp2_with fail
    go_ret
    exact ⟨_,rfl,by rw [HZ.out];simpa using O1.out,B1.out⟩
   ·go_wp2_with fail
    refine (mirror_any c w1).mono ?_
    rintro e w2 ⟨rfl,b2⟩
    rw [HMR.out]
    have B2:=qh (below_then B1.out b2)
    have O2:Hid (OwnN w2 w.heap.size 3 1 (.slice A1 K.length c1) K.length (ints .i64 K)):=qh (by have:=OwnN.below O1.out b2 (Nat.le_refl _);rwa [E5.out] at this)
    clear b2
    go_wp2_with (first
     | (at_builtin;refine appN_at intsT.wide w2 _ w.heap.size _ _ _ (.slice A1 K.length c1) K.length 1 (ints .i64 K) [.int .i64 mr] _ _ rfl rfl rfl rfl (O2.out.alloc _) (Lies.lit (w:=w2) (e:=3) #[.int .i64 mr]) rfl (by simp [Value.oneCell']) ((Below.refl _ _).alloc B2.out.size _) (by have:=B2.out.size;simp;omega) (by unfold maxLen;omega) (by omega) ?_;intro v3 w3 o3 b3 _ _;have O3:Hid (Own w3 w.heap.size 3 v3 (ints .i64 (K++[mr]))):=qh (by unfold Own;have e:ints .i64 (K++[mr])=ints .i64 K++[.int .i64 mr]:=(by simp [ints]);rw [e,List.length_append,E5.out];exact o3);have B3:=qh (B2.out.trans b3);clear o3 b3)
     | fail)
    go_ret
    exact ⟨_,rfl,by rw [HZ.out];exact O3.out,B3.out⟩
theorem teller_any (f:Int) (w:World):Calls Tryz.prog 152 #[.int .i64 f] w fun e w'=>e=.returned (.func (.func 160) #[] #[.pointer (some ⟨w.heap.size,0,none⟩)])∧w'.cell? ⟨w.heap.size,0,none⟩=some (.int .i64 f)∧w.heap.size < w'.heap.size∧Below w.heap.size w w':=by
 go_enter Tryz.func152,Tryz.ntmps152
 go_wp2_with fail
 go_ret
 exact ⟨rfl,(Box.new w _ _).cell rfl,by simp,below_alloc w _⟩
theorem clonerg_any (w:World) (A:Option Addr) (R:List (Int×Int)) (c:Nat) (h:Lies w w.heap.size A (prC R)) (hl:R.length≤1000000) :
 Calls Tryz.prog 153 #[.slice A R.length c] w (RowedRg w R):=by
 have H:=qh h
 clear h
 rcases A with _ | p
 ·have:R=[]:=by
   rcases R with _ | ⟨x,l⟩
   ·rfl
   ·obtain ⟨p,hp,_⟩:=H.out (by simp [prC]);cases hp
  subst this
  have he:∀ W,(binOp .eql 22 (.slice none 0 c) (.slice none 0 0)).run Tryz.prog W=.ok (.bool true) W:=fun W=>Lib.run_eql_slice_nil W _ _ _ _ _ _ _ Tryz.underlying22
  go_enter Tryz.func153,Tryz.ntmps153
  go_wp2
  go_ret
  exact ⟨_,rfl,OwnN.empty _ _ _ _,Below.refl _ _⟩
 ·have he:∀ W,(binOp .eql 22 (.slice (some p) R.length c) (.slice none 0 0)).run Tryz.prog W=.ok (.bool false) W:=fun W=>Lib.run_eql_slice_nil W _ _ _ _ _ _ _ Tryz.underlying22
  have HN:=qh (prC_length R)
  go_enter Tryz.func153,Tryz.ntmps153
  go_wp2_with (first
   | (at_builtin;refine appN_at rgT w (w.alloc (.cells #[] 66)) w.heap.size w.heap.size _ _ _ 0 R.length [] (prC R) (some p) c rfl rfl rfl rfl (OwnN.ofLit #[] (Nat.le_refl _) (by decide) rfl) (H.out.alloc (Nat.le_refl _) _) HN.out (prC_one _) (below_alloc _ _) (by simp) (by unfold maxLen;omega) (by omega) ?_;intro v2 w2 o2 b2 _ _;have O2:=qh o2;have B2:=qh b2;clear o2 b2)
   | fail)
  go_ret
  exact ⟨_,rfl,by simpa using O2.out,B2.out⟩
end
section
open Go.RowKit
theorem addQ_all (R:List (Int×Int)) (f1 f2:Bool) {T:List (Int×Int)} (hT:T=R++addQ R f1 f2 (R.take R.length)):T=R++addQ R f1 f2 R:=by rw [hT,List.take_length]
structure BehW (w1 wy:World) (gb:Nat) (lo hi:Int) (ov:Value) (T:List (Int×Int)):Prop where
 own:OwnN wy w1.heap.size 66 2 ov T.length (prC T)
 below:Below w1.heap.size w1 wy
 box:Box wy gb #[.int .i64 lo,.int .i64 hi] 66
 far:ov.ownBlock≠some gb
section
variable {w1 wy wz:World} {gb:Nat} {lo hi:Int} {ov:Value} {T:List (Int×Int)}
theorem BehW.start (o:OwnN wy w1.heap.size 66 2 ov T.length (prC T)) (b:Below w1.heap.size w1 wy):BehW w1 (wy.alloc (.cells #[.int .i64 lo,.int .i64 hi] 66)) wy.heap.size lo hi ov T :=
 ⟨o.alloc _,b.alloc b.size _,Box.new wy _ _,fun e=>by have:=(o.inside _ e).2;omega⟩
theorem BehW.up (h:BehW w1 wy gb lo hi ov T) (hb:Below wy.heap.size wy wz):BehW w1 wz gb lo hi ov T :=
 ⟨h.own.below hb (Nat.le_refl _),h.below.trans (hb.mono h.below.size),h.box.below hb h.box.lt,h.far⟩
theorem BehW.app (h:BehW w1 wy gb lo hi ov T) {v':Value} {w':World} {lit:Obj} {p:Int×Int} (o:OwnN w' w1.heap.size 66 2 v' (T.length+1) (prC T++prC [p])) (b:Below w1.heap.size wy w') (g:(wy.alloc lit).grownBy w' ov.ownBlock) (e:v'.ownBlock=ov.ownBlock∨∃ q,v'.ownBlock=some q∧(wy.alloc lit).heap.size≤q):BehW w1 w' gb lo hi v' (T++[p]) :=
 ⟨by rw [prC_append,List.length_append];exact o,h.below.trans b,(h.box.kept (grown_new wy lit none) (by simp)).kept g h.far,fresh_ne (W:=wy.alloc lit) h.far (by have:=h.box.lt;simp;omega) e⟩
theorem BehW.kept (h:BehW w1 wy gb lo hi ov T) {w':World} {lit:Obj} {B:Nat} {vt:Value} {xs:List Value} (k:Own wy B 3 vt xs) (g:(wy.alloc lit).grownBy w' ov.ownBlock):Own w' B 3 vt xs :=
 OwnN.keep (OwnN.alloc k lit) g (OwnN.unlike (OwnN.alloc k lit) (h.own.alloc lit) (by decide))
end
theorem behind_any (w:World) (hT:FoTabs w) (A:Option Addr) (R:List (Int×Int)) (c:Nat) (f:Int) (h:Lies w w.heap.size A (prC R)) (hl:R.length≤1000) (hw:totW R≤20000) :
 Calls Tryz.prog 141 #[.slice A R.length c,.int .i64 f] w (RowedRg w (behR (bits .and .i64 f 1 == 1) (bits .and .i64 f 2 == 2) R)):=by
 have HL:=qh h
 have HT:=qh hT
 have HTL:Hid (∀ (b:Nat) (u:World) (t:Int),I64 t→Below w.heap.size w u→u.cell? ⟨b,0,none⟩=some (.int .i64 f)→b < u.heap.size→Calls Tryz.prog 160 #[.int .i64 t,.pointer (some ⟨b,0,none⟩)] u (Rowed u u.heap.size 3 (ints .i64 (toldI (bits .and .i64 f 1 == 1) (bits .and .i64 f 2 == 2) t)))) :=
  qh fun b u t ht hu h1 h2=>teller1_any t f b u ht (hT.below hu hT.big) h1 h2
 have HTE:=qh (teller_any f w)
 obtain ⟨f1,hf1⟩:∃ x,(bits .and .i64 f 1 == 1)=x:=⟨_,rfl⟩
 obtain ⟨f2,hf2⟩:∃ x,(bits .and .i64 f 2 == 2)=x:=⟨_,rfl⟩
 rw [hf1,hf2] at HTL ⊢
 have HLS:Hid (∀ (u:World) (A':Option Addr) (c':Nat),Lies u u.heap.size A' (prC (R++addQ R f1 f2 R))→Calls Tryz.prog 79 #[.slice A' (R++addQ R f1 f2 R).length c'] u (RowedRg u (behR f1 f2 R))) :=
  qh fun u A' c' hu=>least_any u A' _ c' hu (by have:=addQ_len R f1 f2 R;rw [List.length_append];omega)
 obtain ⟨Z,hZ⟩:∃ Z,behR f1 f2 R=Z:=⟨_,rfl⟩
 rw [hZ] at HLS ⊢
 have henter:=fun args u=>call_ok Tryz.func160 (by kernel_rfl) rfl args u
 have hwk:=qh (fun (k:Nat) (hk:k < R.length)=>totW_at hk)
 have hql:=qh (fun (Q:List (Int×Int))=>addQ_len R f1 f2 Q)
 clear h hT hf1 hf2 hZ
 go_enter Tryz.func141,Tryz.ntmps141
 go_wp2_with fail
 refine HTE.out.mono ?_
 rintro e w1 ⟨rfl,hbx,hblt,b1⟩
 have HL1:=qh (HL.out.up b1)
 have B1:=qh b1
 have HBX:Hid (∀ u,Below w1.heap.size w1 u→u.cell? ⟨w.heap.size,0,none⟩=some (.int .i64 f)∧w.heap.size < u.heap.size):=qh fun u hu=>⟨by rw [hu.cell (p:=⟨w.heap.size,0,none⟩) hblt];exact hbx,Nat.lt_of_lt_of_le hblt hu.size⟩
 have HB0:Hid (∀ u,Below w1.heap.size w1 u→Below w.heap.size w u):=qh fun u hu=>below_then b1 hu
 clear hbx hblt b1
 have HCL:=qh (clonerg_any w1 A R c HL1.out (by omega))
 go_wp2_with fail
 refine HCL.out.mono ?_
 rintro e w2 ⟨v2,rfl,o2,b2⟩
 have O2:Hid (OwnN w2 w1.heap.size 66 2 v2 (R++addQ R f1 f2 (R.take 0)).length (prC (R++addQ R f1 f2 (R.take 0)))):=qh (by simpa [addQ] using o2)
 have B2:=qh b2
 clear o2 b2
 go_wp2_with fail
 go_loopw [18,6] (fun iv ov wr=>∃ (k:Nat) (T:List (Int×Int)),k≤R.length∧iv=.int .i64 k∧Hid (T=R++addQ R f1 f2 (R.take k))∧Hid (OwnN wr w1.heap.size 66 2 ov T.length (prC T))∧Hid (Below w1.heap.size w1 wr)) (fun iv _ _=>R.length - (intOf iv).toNat)
 case atStart=>exact ⟨0,_,by omega,rfl,qh rfl,O2,B2⟩
 case round =>
  obtain ⟨k,T,hk,rfl,HTT,HO,HB⟩:=hrel
  by_cases hlt:k < R.length
  ·obtain ⟨g,off,rfl,-,c0,c1⟩:=prC_at (HL1.out.below HB.out) hlt
   have k0:(0:Int)≤(k:Int):=by omega
   have k1:(k:Int) < (R.length:Int):=by omega
   have hwk1:=hwk.out k hlt
   have HNX:=qh (addQ_next (R:=R) (f1:=f1) (f2:=f2) hlt)
   obtain ⟨p,hp⟩:∃ p,R[k]=p:=⟨_,rfl⟩
   rw [hp] at c0 c1 hwk1 HNX
   obtain ⟨lo,hi⟩:=p
   simp only at c0 c1
   unfold lowW at HNX
   obtain ⟨a,ha⟩:∃ a,max lo 0=a:=⟨_,rfl⟩
   have e1:(if 0 > lo then (0:Int) else lo)=a:=by rw [← ha];split <;> omega
   obtain ⟨z,hz⟩:∃ z,min hi 12305=z:=⟨_,rfl⟩
   have e2:(if 12305 < hi then (12305:Int) else hi)=z:=by rw [← hz];split <;> omega
   have hwd:widW (lo,hi)=(z - a+1).toNat:=by unfold widW highW lowW;rw [← ha,← hz]
   have ha0:0≤a:=by omega
   have hz0:z≤12305:=by omega
   obtain ⟨n,hn⟩:∃ n,widW (lo,hi)=n:=⟨_,rfl⟩
   rw [hn] at hwd hwk1 HNX
   simp only at HNX
   rw [ha] at HNX
   have hq0:=hql.out (R.take k)
   have HBZ:Hid (w1.heap.size≤wr.heap.size):=qh HB.out.size
   clear hp
   have HBS:=qh (BehW.start (lo:=lo) (hi:=hi) HO.out HB.out)
   have HTT0:Hid (T=R++addQ R f1 f2 (R.take k)++addW R f1 f2 a 0):=qh (by rw [HTT.out];simp [addW])
   have HQ0:Hid ((addQ R f1 f2 (R.take k)).length+5 * n≤100000):=qh (by omega)
   have HRL:Hid (R.length≤1000):=qh hl
   go_wp2_with fail
   obtain ⟨gb,hgb⟩:∃ gb,wr.heap.size=gb:=⟨_,rfl⟩
   rw [hgb] at HBS ⊢
   clear hk c0 c1 hgb
   go_loopw [9,6] (fun cv ov wr=>∃ (m:Nat) (T':List (Int×Int)),m≤n∧cv=.int .i64 (a+(m:Int))∧Hid (T'=R++addQ R f1 f2 (R.take k)++addW R f1 f2 a m)∧Hid (BehW w1 wr gb lo hi ov T')) (fun cv _ _=>(z+1 - intOf cv).toNat)
   case atStart=>exact ⟨0,T,by omega,by simp,HTT0,HBS⟩
   case round =>
    obtain ⟨m,T',hm,rfl,HTW,HBW⟩:=hrel
    have q1:=(HBW.out.box.cell (i:=1) rfl:wr.cell? ⟨gb,1,none⟩=some (.int .i64 hi))
    by_cases hlt2:m < n
    ·have d1:decide (a+(m:Int)≤z)=true:=decide_eq_true (by omega)
     have HC:=qh (HTL.out w.heap.size wr (a+(m:Int)) (by unfold I64;omega) (HB0.out wr HBW.out.below) (HBX.out wr HBW.out.below).1 (HBX.out wr HBW.out.below).2)
     have hl5:=toldI_len f1 f2 (a+(m:Int))
     have HWN:=qh (addW_next R f1 f2 a m)
     obtain ⟨l,hll⟩:∃ l,toldI f1 f2 (a+(m:Int))=l:=⟨_,rfl⟩
     rw [hll] at HC hl5 HWN
     have e5:(ints .i64 l).length=l.length:=by simp [ints]
     have E5:=qh e5
     have hwm:=hwk.out
     have htl:T'.length≤102000:=by
      have h1:=HTW.out
      have h2:=HQ0.out
      have h3:=addW_len R f1 f2 a m
      have h4:=HRL.out
      rw [h1,List.length_append,List.length_append]
      omega
     clear hll e5 hwm
     go_wp2_with fail
     refine HC.out.mono ?_
     rintro e w3 ⟨vt,rfl,ot,bt⟩
     obtain ⟨At,ct,hvt,-,-,-⟩:=ot.form
     rw [E5.out] at hvt
     subst hvt
     have HB3:=qh (HBW.out.up bt)
     have HOT:Hid (Own w3 w1.heap.size 3 (.slice At l.length ct) (ints .i64 l)):=qh (OwnN.weaken ot HBW.out.below.size)
     clear ot bt q1
     go_wp2_with fail
     go_loopw [36,6] (fun jv ov wr=>∃ (j:Nat) (T2:List (Int×Int)),j≤l.length∧jv=.int .i64 j∧Hid (T2=T'++addC R (l.take j))∧Hid (BehW w1 wr gb lo hi ov T2)∧Hid (Own wr w1.heap.size 3 (.slice At l.length ct) (ints .i64 l))) (fun jv _ _=>l.length - (intOf jv).toNat)
     case atStart=>exact ⟨0,T',by omega,rfl,qh (by simp [addC]),HB3,HOT⟩
     case round =>
      obtain ⟨j,T2,hj,rfl,HT2,HBY,HOY⟩:=hrel
      by_cases hlt3:j < l.length
      ·obtain ⟨A2,c2,hv2,lt2,-,-⟩:=HOY.out.form
       obtain ⟨p2,hA2,-,hcell⟩:=lt2.int hlt3
       have hAA:At=A2:=by injection hv2
       have hAt:At=some p2:=hAA.trans hA2
       subst hAt
       have HCN:=qh (addC_next (R:=R) hlt3)
       obtain ⟨x,hx⟩:∃ x,l[j]=x:=⟨_,rfl⟩
       rw [hx] at hcell HCN
       have j0:(0:Int)≤(j:Int):=by omega
       have j1:(j:Int) < (l.length:Int):=by omega
       clear hx hv2 lt2 hA2 hAA
       obtain ⟨hh,hhh⟩:∃ x',hasR R x=x':=⟨_,rfl⟩
       have HHH:=qh hhh
       rw [hhh] at HCN
       have ht2:T2.length≤102005:=by
        have h1:=HT2.out
        have h3:=addC_len R (l.take j)
        rw [List.length_take] at h3
        rw [h1,List.length_append]
        omega
       have HHC:=qh (trhas_any wr _ R c x (HL1.out.up HBY.out.below) (by have:=HRL.out;omega))
       clear hhh
       go_wp2_with fail
       refine HHC.out.mono ?_
       rintro e w4 ⟨rfl,b4⟩
       rw [HHH.out]
       have HB4:=qh (HBY.out.up b4)
       have HO4:Hid (Own w4 w1.heap.size 3 (.slice (some p2) l.length ct) (ints .i64 l)):=qh (OwnN.below HOY.out b4 (Nat.le_refl _))
       clear b4 hcell
       cases hh
       ·obtain ⟨n2,hn2⟩:∃ n2,T2.length=n2:=⟨_,rfl⟩
        have HN2:=qh hn2
        rw [hn2] at ht2
        have HOW:=qh HB4.out.own
        rw [hn2] at HOW
        obtain ⟨A4,c4,hv4,-,-,-⟩:=HOW.out.form
        subst hv4
        have HBZ4:Hid (w1.heap.size≤w4.heap.size):=qh HB4.out.below.size
        clear hn2
        go_wp2_with (first
         | (at_builtin;refine appN_at rgT w4 _ w1.heap.size _ _ _ (.slice A4 n2 c4) n2 1 (prC T2) (prC [(x,x)]) _ _ rfl rfl rfl rfl (HOW.out.alloc _) (rg_lit w4 (x,x)) rfl (prC_one _) ((Below.refl _ _).alloc HBZ4.out _) (by have:=HBZ4.out;simp;omega) (by unfold maxLen;omega) (by omega) ?_;intro v5 w5 o5 b5 g5 e5;have HB5:Hid (BehW w1 w5 gb lo hi v5 (T2++[(x,x)])):=qh (HB4.out.app (by rw [HN2.out];exact o5) b5 g5 e5);have HO5:=qh (HB4.out.kept HO4.out g5);clear o5 b5 g5 e5)
         | fail)
        go_roundw
        case rel=>exact ⟨j+1,_,by omega,by go_num,qh (by rw [HCN.out,HT2.out];simp),HB5,HO5⟩
        case measure=>simp [intOf];omega
       ·go_wp2_with fail
        go_roundw
        case rel=>exact ⟨j+1,_,by omega,by go_num,qh (by rw [HCN.out,HT2.out];simp),HB4,HO4⟩
        case measure=>simp [intOf];omega
      ·obtain rfl:j=l.length:=by omega
       have HTN:Hid (T2=R++addQ R f1 f2 (R.take k)++addW R f1 f2 a (m+1)):=qh (by rw [HT2.out,HTW.out,HWN.out,List.take_length,List.append_assoc (R++_)])
       have hw1:IntKind.i64.wrap (a+(m:Int)+1)=a+((m+1:Nat):Int):=by rw [IntWalk.i64_in _ (by omega)];omega
       go_wp2_with fail
       go_roundw
       case rel=>exact ⟨m+1,T2,by omega,by first | rfl | go_num,HTN,HBY⟩
       case measure=>simp [intOf];omega
    ·obtain rfl:m=n:=by omega
     have d1:decide (a+(m:Int)≤z)=false:=decide_eq_false (by omega)
     have HTN:Hid (T'=R++addQ R f1 f2 (R.take (k+1))):=qh (by rw [HTW.out,HNX.out,List.append_assoc])
     go_wp2_with fail
     go_roundw
     case rel=>exact ⟨k+1,T',by omega,by go_num,HTN,qh HBW.out.own,qh HBW.out.below⟩
     case measure=>simp [intOf];omega
  ·obtain rfl:k=R.length:=by omega
   have HTN:=qh (addQ_all R f1 f2 HTT.out)
   obtain ⟨A4,c4,rfl,l4,-,-⟩:=HO.out.form
   rw [HTN.out] at l4
   have HCC:=qh (HLS.out wr A4 c4 l4)
   rw [← HTN.out] at HCC
   have HBW:Hid (Below w.heap.size w wr):=qh (HB0.out wr HB.out)
   clear l4
   go_wp2_with fail
   refine HCC.out.mono ?_
   rintro e w5 ⟨v5,rfl,o5,b5⟩
   have O5:Hid (OwnN w5 w.heap.size 66 2 v5 Z.length (prC Z)):=qh (o5.weaken HBW.out.size)
   have B5:=qh (below_then HBW.out b5)
   clear o5 b5
   go_wp2_with fail
   go_ret
   exact ⟨_,rfl,O5.out,B5.out⟩
end
section
open Go.RowKit
def LiesP (w:World) (P:Nat→Prop) (A:Option Addr) (xs:List Value):Prop :=
 xs≠[]→∃ g off,A=some ⟨g,off,none⟩∧P g∧g < w.heap.size∧∀ i u,xs[i]?=some u→w.cell? ⟨g,off+i,none⟩=some u
section
variable {w w':World} {P P':Nat→Prop} {A:Option Addr} {xs:List Value}
theorem LiesP.keep (h:LiesP w P A xs) (hw:∀ b,P b→b < w.heap.size→w'.heap[b]?=w.heap[b]?) (hs:w.heap.size≤w'.heap.size):LiesP w' P A xs:=fun hn=>by
 obtain ⟨g,off,hA,hP,hg,hc⟩:=h hn
 exact ⟨g,off,hA,hP,by omega,fun i u hu=>(World.cell?_of_block (a:=⟨g,off+i,none⟩) (hw g hP hg)).trans (hc i u hu)⟩
theorem LiesP.mono (h:LiesP w P A xs) (hp:∀ b,P b→P' b):LiesP w P' A xs:=fun hn=>by
 obtain ⟨g,off,hA,hP,hg,hc⟩:=h hn
 exact ⟨g,off,hA,hp g hP,hg,hc⟩
theorem LiesP.none:LiesP w P A []:=fun h=>absurd rfl h
theorem LiesP.lies (h:LiesP w P A xs):Lies w w.heap.size A xs:=fun hn=>by
 obtain ⟨g,off,hA,hP,hg,hc⟩:=h hn
 exact ⟨⟨g,off,Option.none⟩,hA,hg,fun i u hu=>by rw [add_plain];exact hc i u hu⟩
theorem LiesP.own {B:Nat} {e:TypeId} {size n:Nat} {v:Value} (h:OwnN w B e size v n xs) (hP:∀ b,B≤b→b < w.heap.size→v.ownBlock=some b→P b):∃ A c,v=.slice A n c∧(n≤c∧c≤maxLen)∧LiesP w P A xs:=by
 obtain ⟨A,c,hv,hl,hc⟩:=h.form
 refine ⟨A,c,hv,hc,fun hn=>?_⟩
 have hlen:xs.length=n * size:=h.1
 have h0:0 < n:=by
  rcases Nat.eq_zero_or_pos n with h0 | h0
  ·subst h0
   exact absurd (List.eq_nil_of_length_eq_zero (by simpa using hlen)) hn
  ·exact h0
 obtain ⟨g,c',hv',-,hB,hg,hcell⟩:=h.block h0
 rw [hv'] at hv
 injection hv with hA
 subst hA
 refine ⟨g,0,rfl,hP g hB hg (by rw [hv'];rfl),hg,fun i u hu=>?_⟩
 have:=(List.getElem?_eq_some_iff.1 hu).1
 rw [Nat.zero_add,hcell i (by omega),hu]
end
inductive Treed (w:World) (P:Nat→Prop):Nd→Array Value→Prop
 | mk {k lo hi:Int} {rs:List (Int×Int)} {ks:List Nd} {A A':Option Addr} {c c':Nat} (vs:List (Array Value)) (h1:LiesP w P A (prC rs)) (hc:rs.length≤c∧c≤maxLen) (h0:vs.length=ks.length) (h2:LiesP w P A' (vs.flatMap Array.toList)) (hc':ks.length≤c'∧c'≤maxLen)
  (hk:∀ (i:Nat) (h1:i < vs.length) (h2:i < ks.length),Treed w P ks[i] vs[i]):Treed w P (.mk k lo hi rs ks) #[.int .i64 k,.slice A rs.length c,.int .i64 lo,.int .i64 hi,.slice A' ks.length c']
section
variable {w w':World} {P P':Nat→Prop} {n:Nd} {v:Array Value}
theorem Treed.keep (h:Treed w P n v) (hw:∀ b,P b→b < w.heap.size→w'.heap[b]?=w.heap[b]?) (hs:w.heap.size≤w'.heap.size):Treed w' P n v:=by
 induction h with
 | mk vs h1 hc h0 h2 hc' _ ih=>exact .mk vs (h1.keep hw hs) hc h0 (h2.keep hw hs) hc' ih
theorem Treed.mono (h:Treed w P n v) (hp:∀ b,P b→P' b):Treed w P' n v:=by
 induction h with
 | mk vs h1 hc h0 h2 hc' _ ih=>exact .mk vs (h1.mono hp) hc h0 (h2.mono hp) hc' ih
theorem Treed.size (h:Treed w P n v):v.size=5:=by cases h;rfl
theorem Treed.one (h:Treed w P n v):v.all (·.oneCell')=true:=by cases h;simp [Value.oneCell']
theorem Treed.form (h:Treed w P n v):∃ k A m c lo hi A' m' c',v=#[.int .i64 k,.slice A m c,.int .i64 lo,.int .i64 hi,.slice A' m' c']:=by
 cases h;exact ⟨_,_,_,_,_,_,_,_,_,rfl⟩
theorem Treed.grown (h:Treed w P n v) {row:Option Nat} (hg:w.grownBy w' row) (hr:∀ b,P b→row≠some b):Treed w' P n v :=
 h.keep (fun b hb hl=>hg.block b hl (fun e=>hr b hb e.symm)) hg.size
end
theorem nflat_at {vs:List (Array Value)} (h5:∀ v∈vs,v.size=5):∀ (i j:Nat) (hi:i < vs.length),j < 5→(vs.flatMap Array.toList)[i * 5+j]?=vs[i][j]?:=by
 induction vs with
 | nil=>intro i j hi;simp at hi
 | cons v vs ih =>
  intro i j hi hj
  have hv:v.toList.length=5:=by simpa using h5 v (by simp)
  rw [List.flatMap_cons]
  rcases i with _ | i
  ·rw [List.getElem?_append_left (by omega)]
   simp
  ·rw [List.getElem?_append_right (by omega),hv,show (i+1) * 5+j - 5=i * 5+j by omega,ih (fun v hv=>h5 v (by simp [hv])) i j (by simpa using hi) hj]
   simp
theorem nflat_len {vs:List (Array Value)} (h5:∀ v∈vs,v.size=5):(vs.flatMap Array.toList).length=vs.length * 5:=by
 induction vs with
 | nil=>rfl
 | cons v vs ih =>
  have hv:v.toList.length=5:=by simpa using h5 v (by simp)
  rw [List.flatMap_cons,List.length_append,hv,ih (fun v hv=>h5 v (by simp [hv])),List.length_cons];omega
def ndZero:Array Value:=#[.int .i64 0,.slice none 0 0,.int .i64 0,.int .i64 0,.slice none 0 0]
theorem ndInfo {v:Array Value} (h:v.size=5):(Tryz.prog.info? 25).map (·.size)=some v.size:=by
 rw [h];kernel_rfl
theorem store_nd {ops:Array Oper} {rest:List Oper} {o:Oper} {a:Act} {Q:Exit→Act→World→Prop} (W:World) (x y:Operand) (g:Nat) (s t:Array Value)
 (hgd:o.guard=none) (hd:o.dst=none) (ho:o.op=.store 25 x y) (hx:a.eval x=.pointer (some ⟨g,0,none⟩)) (hy:a.eval y=.agg t) (hb:Box W g s 25) (hs:s.size=5) (ht:t.size=5) (h1:t.all (·.oneCell')=true)
 (h:∀ w',Box w' g t 25→W.grownBy w' (some g)→wpList Tryz.prog ops Q rest a w'):wpList Tryz.prog ops Q (o :: rest) a W :=
 store_box W x y g s t hgd hd ho hx hy hb (by omega) (ndInfo ht) h1 h
theorem load_nd {ops:Array Oper} {rest:List Oper} {o:Oper} {a:Act} {Q:Exit→Act→World→Prop} {W:World} (x:Operand) (g:Nat) (t:Array Value)
 (hgd:o.guard=none) (ho:o.op=.load 25 x) (hx:a.eval x=.pointer (some ⟨g,0,none⟩)) (hb:Box W g t 25) (ht:t.size=5)
 (h:wpList Tryz.prog ops Q rest (a.put o.dst (.agg t)) W):wpList Tryz.prog ops Q (o :: rest) a W :=
 load_box x g t _ hgd ho hx hb Tryz.underlying25 rfl (ndInfo ht) h
theorem ret_nd {fn:Func} {p:Nat} (h:fn.results=#[.cell p 25]) (tmps:Array Value) (w:World) (g:Nat) (t:Array Value) (ht:t.size=5) (hp:tmps.getD p undef=.pointer (some ⟨g,0,none⟩)) (hg:Box w g t 25) :
 (results fn tmps).run Tryz.prog w=.ok (.agg t) w :=
 results_cell_row h tmps w g 25 t (0,0) _ hp hg Tryz.underlying25 rfl (ndInfo ht)
theorem ndT:SliceOfN Tryz.prog 23 25 (.agg ndZero) 5 72:=⟨by kernel_rfl,by kernel_rfl,rfl,by decide⟩
structure IsT (w:World) (b:Nat) (T:List Tok) (f:Int):Prop where
 box:∃ A c,Box w b #[.slice A T.length c,.int .i64 f] 72∧Lies w b A (tokCells T)∧T.length≤c
 few:T.length≤1000
section
variable {w w':World} {b:Nat} {T:List Tok} {f:Int}
theorem IsT.lt (h:IsT w b T f):b < w.heap.size:=by obtain ⟨A,c,hb,-,-⟩:=h.box;exact hb.lt
theorem IsT.grown (h:IsT w b T f) {row:Option Nat} (hg:w.grownBy w' row) (hr:∀ g,row=some g→b < g):IsT w' b T f:=by
 obtain ⟨A,c,hb,hl,hc⟩:=h.box
 exact ⟨⟨A,c,hb.kept hg (fun e=>by have:=hr b e;omega),hl.same (fun q hq=>World.cell?_of_block (hg.block q.block (by have:=hb.lt;omega) (fun e=>by have:=hr _ e.symm;omega))),hc⟩,h.few⟩
theorem IsT.up (h:IsT w b T f) (hg:w.grownBy w' none):IsT w' b T f:=h.grown hg (fun g e=>by cases e)
def leftAt (b:Nat) (w:World):Nat:=match w.cell? ⟨b,0,none⟩ with
 | some (.slice _ n _)=>n
 | _=>0
theorem IsT.left (h:IsT w b T f):leftAt b w=T.length:=by
 obtain ⟨A,c,hb,-,-⟩:=h.box
 unfold leftAt
 rw [hb.cell (i:=0) (u:=.slice A T.length c) rfl]
end
theorem grownBy_none {a b:World} (h:a.grownBy b none) (row:Option Nat):a.grownBy b row:=⟨h.os,h.tape,h.output,h.size,fun i hi _=>h.block i hi (by simp)⟩
end
end Go.Proofs.YtoeocodfndbebaaGreatDoor
