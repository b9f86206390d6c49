/- Shared texts, shaken for one claim. -/
import Derived.Test.YtoeocodfndbebaaGreatDoorZC4
import Derived.Test.YtoeocodfndbebaaGreatDoorZC13
import Derived.Test.YtoeocodfndbebaaGreatDoorZC15
set_option maxRecDepth 20000
set_option maxHeartbeats 16000000
namespace Go.Proofs.YtoeocodfndbebaaGreatDoor
section
open Go.RowKit
theorem pairUp_at:∀ {l:List Int} {i k:Nat} (_:i=k * 2) (h:i+1 < l.length),pairUp (l.take (i+2))=pairUp (l.take i)++[(l[i],l[i+1])]
 | [],_,_,_,h=>by simp at h
 | [a],_,_,_,h=>by simp at h
 | a :: b :: r,0,_,_,_=>by simp [pairUp]
 | a :: b :: r,1,k,hi,_=>by omega
 | a :: b :: r,i+2,0,hi,_=>by omega
 | a :: b :: r,i+2,k+1,hi,h=>by
  have ih:=pairUp_at (l:=r) (i:=i) (k:=k) (by omega) (by simp at h;omega)
  simp only [List.take_succ_cons,pairUp,List.getElem_cons_succ,List.cons_append]
  rw [ih]
theorem pairUp_len:∀ (l:List Int),(pairUp l).length≤l.length
 | []=>by simp [pairUp]
 | [_]=>by simp [pairUp]
 | a :: b :: r=>by have:=pairUp_len r;simp [pairUp];omega
theorem ranges_any (w:World) (A:Option Addr) (l:List Int) (c m:Nat) (h:Lies w w.heap.size A (ints .i64 l)) (hm:l.length=m * 2) (hl:m≤1000) :
 Calls Tryz.prog 140 #[.slice A l.length c] w (RowedRg w (pairUp l)):=by
 have HL:=qh h
 have HM:=qh hm
 clear h hm
 go_enter Tryz.func140,Tryz.ntmps140
 go_wp2_with fail
 go_loopw [4,3] (fun iv ov wr=>∃ k:Nat,k≤m∧iv=.int .i64 ((k * 2:Nat):Int)∧Hid (OwnN wr w.heap.size 66 2 ov (pairUp (l.take (k * 2))).length (prC (pairUp (l.take (k * 2)))))∧Hid (Below w.heap.size w wr)) (fun iv _ _=>l.length - (intOf iv).toNat)
 case atStart=>exact ⟨0,by omega,rfl,qh (OwnN.empty _ _ _ _),qh (Below.refl _ _)⟩
 case round =>
  obtain ⟨k,hk,rfl,HO,HB⟩:=hrel
  by_cases hlt:k < m
  ·have h2:k * 2+1 < l.length:=by have:=HM.out;omega
   have HNX:=qh (pairUp_at rfl h2)
   obtain ⟨b,off,rfl,hb,hcell⟩:=(HL.out.up HB.out).plainInts (by omega)
   have q0:=hcell (k * 2) (by omega)
   have q1:=hcell (k * 2+1) h2
   have hpl:=pairUp_len (l.take (k * 2))
   rw [List.length_take] at hpl
   obtain ⟨x,hx⟩:∃ x,l[k * 2]=x:=⟨_,rfl⟩
   obtain ⟨y,hy⟩:∃ y,l[k * 2+1]=y:=⟨_,rfl⟩
   rw [hx] at q0 HNX
   rw [hy] at q1 HNX
   obtain ⟨T,hT⟩:∃ T,pairUp (l.take (k * 2))=T:=⟨_,rfl⟩
   rw [hT] at HO HNX hpl
   obtain ⟨n,hn⟩:∃ n,T.length=n:=⟨_,rfl⟩
   have HN:=qh hn
   rw [hn] at HO hpl
   obtain ⟨AO,co,rfl,-,-,-⟩:=HO.out.form
   obtain ⟨i,hi⟩:∃ i,k * 2=i:=⟨_,rfl⟩
   rw [hi] at q0 q1 h2 ⊢
   have HI:=qh hi
   have i0:(0:Int)≤(i:Int):=by omega
   have i1:(i:Int) < (l.length:Int):=by omega
   have i2:(0:Int)≤(i:Int)+1:=by omega
   have i3:(i:Int)+1 < (l.length:Int):=by omega
   have hw1:IntKind.i64.wrap ((i:Int)+1)=(i:Int)+1:=IntWalk.i64_in _ (by have:=HM.out;omega)
   have hw2:IntKind.i64.wrap ((i:Int)+2)=(i:Int)+2:=IntWalk.i64_in _ (by have:=HM.out;omega)
   have hlm:l.length≤2000:=by have:=HM.out;omega
   have hbz:w.heap.size≤wr.heap.size:=HB.out.size
   have HBZ:=qh hbz
   have HK:Hid (∀ u:World,u.heap=wr.heap→u.cell? ⟨b,off+i,none⟩=some (.int .i64 x)∧u.cell? ⟨b,off+(i+1),none⟩=some (.int .i64 y)):=qh fun u hu=>by unfold World.cell? at *;rw [hu];exact ⟨q0,q1⟩
   clear hx hy hT hn hcell hi hb
   go_wp2_with fail
   refine wp_region_E (S:=fun u=>u.cell? ⟨b,off+i,none⟩=some (.int .i64 x)∧u.cell? ⟨b,off+(i+1),none⟩=some (.int .i64 y)) [11,12,13] (by kernel_rfl) (HK.out _ rfl) (fun hHeld hZ=>?_)
   refine' eX 0 hZ fun hZ=>?_
   try simp only [Act.put,ZA,ZB,ZD,ZE,ZF]
   refine' eY 1 hHeld hZ fun hZ=>?_
   try simp only [Act.put,ZA,ZB,ZC,ZD,ZE,ZF]
   refine' eY 2 hHeld hZ fun hZ=>?_
   try simp only [Act.put,ZA,ZB,ZC,ZD,ZE,ZF]
   refine' eY 3 hHeld hZ fun hZ=>?_
   try simp only [Act.put,ZA,ZB,ZC,ZD,ZE,ZF]
   refine' eY 4 hHeld hZ fun hZ=>?_
   try simp only [Act.put,ZA,ZB,ZC,ZD,ZE,ZF]
   refine' eY 5 hHeld hZ fun hZ=>?_
   try simp only [Act.put,ZA,ZB,ZC,ZD,ZE,ZF]
   refine' eY 6 hHeld hZ fun hZ=>?_
   try simp only [Act.put,ZA,ZB,ZC,ZD,ZE,ZF]
   refine' eY 7 hHeld hZ fun hZ=>?_
   try simp only [Act.put,ZA,ZB,ZC,ZD,ZE,ZF]
   refine' eY 8 hHeld hZ fun hZ=>?_
   try simp only [Act.put,ZA,ZB,ZC,ZD,ZE,ZF]
   refine' eY 9 hHeld hZ fun hZ=>?_
   try simp only [Act.put,ZA,ZB,ZC,ZD,ZE,ZF]
   refine' eY 10 hHeld hZ fun hZ=>?_
   try simp only [Act.put,ZA,ZB,ZC,ZD,ZE,ZF]
   refine eA 11 fun K hK=>?_
   go_simp
   refine eE hK hZ fun hZ=>?_
   clear hK K
   try simp only [Act.put,ZA,ZB,ZC,ZD,ZE,ZF]
   refine eA 12 fun K hK=>?_
   refine step_appN rgT wr _ w.heap.size _ (.tmp 11) (.tmp 22) (.slice AO n co) n 1 (prC T) (prC [(x,y)]) _ _ rfl rfl rfl rfl (OwnN.same (HO.out.alloc _) rfl) (Lies.sameHeap (rg_lit wr (x,y)) rfl) rfl (prC_one _) (below_same ((Below.refl _ _).alloc HBZ.out _) rfl rfl rfl rfl) (by have:=HBZ.out;simp;omega) (by unfold maxLen;omega) (by omega) ?_
   intro v2 w2 o2 b2 _ _
   have O2:Hid (OwnN w2 w.heap.size 66 2 v2 (T++[(x,y)]).length (prC (T++[(x,y)]))):=qh (by rw [prC_append,List.length_append,HN.out];exact o2)
   have B2:=qh (HB.out.trans b2)
   clear o2 b2
   refine eE hK hZ fun hZ=>?_
   clear hK K
   try simp only [Act.put,ZA,ZB,ZC,ZD,ZE,ZF]
   refine' eX 13 hZ fun hZ=>?_
   try simp only [Act.put,ZA,ZB,ZC,ZD,ZE,ZF]
   refine wpAnyE_done (by kernel_rfl) ?_ _
   clear hZ
   go_wp2_with fail
   rw [← HNX.out] at O2
   go_roundw
   case rel=>exact ⟨k+1,by omega,by have:=HI.out;first | (congr 1;omega) | go_num,by rw [show (k+1) * 2=k * 2+2 by omega];exact O2,B2⟩
   case measure=>simp [intOf];omega
  ·obtain rfl:k=m:=by omega
   have hd:((k * 2:Nat):Int)=(l.length:Int):=by have:=HM.out;omega
   have d1:decide (((k * 2:Nat):Int) < (l.length:Int))=false:=decide_eq_false (by omega)
   have HT:Hid (l.take (k * 2)=l):=qh (by rw [← HM.out,List.take_length])
   rw [HT.out] at HO
   obtain ⟨i,hi⟩:∃ i,k * 2=i:=⟨_,rfl⟩
   rw [hi] at d1 ⊢
   have d2:decide (i < l.length)=false:=decide_eq_false (by have:=HM.out;omega)
   clear hd hi
   go_wp2_with fail
   go_ret
   exact ⟨_,rfl,HO.out,HB.out⟩
end
section
open Go.RowKit
theorem litI (u:World) (l:List Int):Lies (u.alloc (.cells (l.map fun x=>Value.int .i64 x).toArray 3)) (u.heap.size+1) (some ⟨u.heap.size,0,none⟩) (ints .i64 l):=by
 have:=Lies.lit (w:=u) (e:=3) (l.map fun x=>Value.int .i64 x).toArray
 rw [List.toList_toArray] at this
 exact this
theorem part_any (w:World) (b:Nat) (T:List Tok) (f:Int) (t:Tok) (hT:FoTabs w) (hR:IsT w b T f) (hk:t.k=1) :
 Calls Tryz.prog 132 #[.pointer (some ⟨b,0,none⟩),.agg t.arr] w (RowedRg w (behR (flag1 f) (flag2 f) [(t.c,t.c)])):=by
 obtain ⟨Z,hZ⟩:∃ Z,behR (flag1 f) (flag2 f) [(t.c,t.c)]=Z:=⟨_,rfl⟩
 rw [hZ]
 have HBH:Hid (∀ (u:World) (A:Option Addr) (c:Nat),Below w.heap.size w u→Lies u u.heap.size A (prC [(t.c,t.c)])→Calls Tryz.prog 141 #[.slice A 1 c,.int .i64 f] u (RowedRg u Z)) :=
  qh fun u A c hu hl=>hZ▸behind_any u (hT.below hu hT.big) A [(t.c,t.c)] c f hl (by simp) (by simp [totW,widW,lowW,highW];omega)
 have HR:=qh hR
 obtain ⟨k,ch,lo,hi,pos⟩:=t
 simp only at hk HBH
 subst hk
 clear hZ hT hR
 have X0:Hid (Box (w.alloc (.cells #[.int .i64 1,.int .i64 ch,.int .i64 lo,.int .i64 hi,.int .i64 pos] 56)) w.heap.size (⟨1,ch,lo,hi,pos⟩:Tok).arr 56):=qh (Box.new w _ _)
 have HO1:=qh (isof_any ((w.alloc (.cells #[.int .i64 1,.int .i64 ch,.int .i64 lo,.int .i64 hi,.int .i64 pos] 56)).alloc (.cells #[.int .i64 9] 3)) ⟨1,ch,lo,hi,pos⟩ _ (some ⟨w.heap.size+1,0,none⟩) [9] 1 (by have:=litI (w.alloc (.cells #[.int .i64 1,.int .i64 ch,.int .i64 lo,.int .i64 hi,.int .i64 pos] 56)) [9];rw [World.size_alloc] at this;exact this) (by decide) (by simp))
 have HG0:Hid (w.grownBy ((w.alloc (.cells #[.int .i64 1,.int .i64 ch,.int .i64 lo,.int .i64 hi,.int .i64 pos] 56)).alloc (.cells #[.int .i64 9] 3)) none):=qh ((grown_new w _ none).trans (grown_new _ _ none))
 go_enter Tryz.func132,Tryz.ntmps132
 go_wp2_with fail
 refine HO1.out.mono ?_
 rintro e w1 ⟨rfl,g1⟩
 have X1:=qh ((X0.out.kept (grown_new _ _ none) (by simp)).kept g1 (by simp))
 have G1:=qh (HG0.out.trans g1)
 clear g1
 rw [show ([9]:List Int).contains (1:Int)=false from rfl]
 go_wp2_with (first
  | (refine load_box _ w.heap.size _ _ rfl rfl rfl X1.out Tryz.underlying56 rfl (tokInfo _) ?_)
  | fail)
 refine (isof_any _ ⟨1,ch,lo,hi,pos⟩ _ (some ⟨w1.heap.size,0,none⟩) [1] 1 (litI w1 [1]) (by decide) (by simp)).mono ?_
 rintro e w2 ⟨rfl,g2⟩
 have X2:=qh ((X1.out.kept (grown_new _ _ none) (by simp)).kept g2 (by simp))
 have G2:=qh (G1.out.trans ((grown_new _ _ none).trans g2))
 clear g2
 rw [show ([1]:List Int).contains (1:Int)=true from rfl]
 have HR2:=qh (HR.out.up G2.out)
 obtain ⟨A2,c2,hb2,-,-⟩:=HR2.out.box
 have q0:=(hb2.cell (i:=1) rfl:w2.cell? ⟨b,1,none⟩=some (.int .i64 f))
 have q1:=(X2.out.cell (i:=1) rfl:w2.cell? ⟨w.heap.size,1,none⟩=some (.int .i64 ch))
 have HK:Hid (∀ u:World,Below w2.heap.size w2 u→u.cell? ⟨w.heap.size,1,none⟩=some (.int .i64 ch)∧u.cell? ⟨b,1,none⟩=some (.int .i64 f)):=qh fun u hu=>by
  rw [hu.cell (p:=⟨w.heap.size,1,none⟩) X2.out.lt,hu.cell (p:=⟨b,1,none⟩) hb2.lt]
  exact ⟨q1,q0⟩
 have B2:=qh (below_row_none G2.out (Nat.le_refl _))
 have HLI:Hid (∀ u:World,u.heap=(w2.alloc (.cells #[.int .i64 ch,.int .i64 ch] 3)).heap→Lies u u.heap.size (some ⟨w2.heap.size,0,none⟩) (ints .i64 [ch,ch])):=qh fun u hu=>by
  have h1:=(litI w2 [ch,ch]).sameHeap hu
  exact h1.wider (by rw [hu];simp)
 clear hb2
 go_wp2_with fail
 refine wp_region_E (S:=fun u=>u.cell? ⟨w.heap.size,1,none⟩=some (.int .i64 ch)∧u.cell? ⟨b,1,none⟩=some (.int .i64 f)) [11] (by kernel_rfl) (HK.out _ (by exact below_same (Below.refl _ w2) rfl rfl rfl rfl)) (fun hHeld hZ=>?_)
 refine' eY 0 hHeld hZ fun hZ=>?_
 try simp only [Act.put,ZA,ZB,ZD,ZE,ZF]
 refine' eY 1 hHeld hZ fun hZ=>?_
 try simp only [Act.put,ZA,ZB,ZC,ZD,ZE,ZF]
 refine' eY 2 hHeld hZ fun hZ=>?_
 try simp only [Act.put,ZA,ZB,ZC,ZD,ZE,ZF]
 refine' eY 3 hHeld hZ fun hZ=>?_
 try simp only [Act.put,ZA,ZB,ZC,ZD,ZE,ZF]
 refine' eY 6 hHeld hZ fun hZ=>?_
 try simp only [Act.put,ZA,ZB,ZC,ZD,ZE,ZF]
 refine' eY 7 hHeld hZ fun hZ=>?_
 try simp only [Act.put,ZA,ZB,ZC,ZD,ZE,ZF]
 refine' eY 8 hHeld hZ fun hZ=>?_
 try simp only [Act.put,ZA,ZB,ZC,ZD,ZE,ZF]
 refine' eY 9 hHeld hZ fun hZ=>?_
 try simp only [Act.put,ZA,ZB,ZC,ZD,ZE,ZF]
 refine eA 4 fun K hK=>?_
 go_simp
 refine eB hK hZ (HK.out _ (by exact below_same (below_alloc w2 _) rfl rfl rfl rfl)) fun hHeld hZ=>?_
 clear hK K
 try simp only [Act.put,ZA,ZB,ZC,ZD,ZE,ZF]
 refine eA 5 fun K hK=>?_
 go_simp
 refine (ranges_any (w2.alloc (.cells #[.int .i64 ch,.int .i64 ch] 3)).drew (some ⟨w2.heap.size,0,none⟩) [ch,ch] 2 1 (HLI.out _ rfl) rfl (by decide)).mono ?_
 rintro e w3 ⟨v3,rfl,o3,b3⟩
 rw [show pairUp [ch,ch]=[(ch,ch)] from rfl] at o3
 obtain ⟨A3,c3,rfl,l3,-,-⟩:=o3.form
 have B3:Hid (Below w2.heap.size w2 w3):=qh (Below.trans (by exact below_same (below_alloc w2 _) rfl rfl rfl rfl) (b3.mono (by simp)))
 have L3:=qh l3
 clear o3 b3 l3
 refine eB hK hZ (HK.out _ B3.out) fun hHeld hZ=>?_
 clear hK K
 try simp only [Act.put,ZA,ZB,ZC,ZD,ZE,ZF]
 refine eA 10 fun K hK=>?_
 go_simp
 refine (HBH.out w3 A3 c3 (below_then B2.out B3.out) L3.out).mono ?_
 rintro e w4 ⟨v4,rfl,o4,b4⟩
 have O4:=qh o4
 have B4:=qh b4
 clear o4 b4
 refine eB hK hZ (HK.out _ (below_then B3.out B4.out)) fun hHeld hZ=>?_
 clear hK K
 try simp only [Act.put,ZA,ZB,ZC,ZD,ZE,ZF]
 refine' eX 11 hZ fun hZ=>?_
 try simp only [Act.put,ZA,ZB,ZC,ZD,ZE,ZF]
 refine wpAnyE_done (by kernel_rfl) ?_ _
 clear hZ
 go_wp2_with fail
 go_ret
 exact ⟨_,rfl,O4.out.weaken (Nat.le_trans B2.out.size B3.out.size),below_then (below_then B2.out B3.out) B4.out⟩
end
section
open Go.RowKit
theorem group_any (c:Int) (w:World):Calls Tryz.prog 142 #[.int .i64 c] w (RowedRg w (groupR c)):=by
 have HR:=qh (fun (l:List Int) (m:Nat) (hm:l.length=m * 2) (hl:m≤1000)=>ranges_any (w.alloc (.cells (l.map fun x=>Value.int .i64 x).toArray 3)) (some ⟨w.heap.size,0,none⟩) l l.length m ((litI w l).wider (by simp)) hm hl)
 by_cases h1:c=100
 ·subst h1
  have HZ:Hid (groupR 100=pairUp [48,57]):=qh rfl
  rw [HZ.out]
  have HC:=qh (HR.out [48,57] 1 rfl (by decide))
  go_enter Tryz.func142,Tryz.ntmps142
  go_wp2_with fail
  refine HC.out.mono ?_
  rintro e w1 ⟨v,rfl,o,b⟩
  have O:=qh o
  have B:=qh (below_then (below_alloc w _) b)
  clear o b
  go_wp2_with fail
  go_ret
  exact ⟨_,rfl,O.out.weaken (by simp),B.out⟩
 by_cases h2:c=68
 ·subst h2
  have HZ:Hid (groupR 68=pairUp [48,57]):=qh rfl
  rw [HZ.out]
  have HC:=qh (HR.out [48,57] 1 rfl (by decide))
  go_enter Tryz.func142,Tryz.ntmps142
  go_wp2_with fail
  refine HC.out.mono ?_
  rintro e w1 ⟨v,rfl,o,b⟩
  have O:=qh o
  have B:=qh (below_then (below_alloc w _) b)
  clear o b
  go_wp2_with fail
  go_ret
  exact ⟨_,rfl,O.out.weaken (by simp),B.out⟩
 by_cases h3:c=115
 ·subst h3
  have HZ:Hid (groupR 115=pairUp [9,13,32,32,133,133,160,160,8232,8233]):=qh rfl
  rw [HZ.out]
  have HC:=qh (HR.out [9,13,32,32,133,133,160,160,8232,8233] 5 rfl (by decide))
  go_enter Tryz.func142,Tryz.ntmps142
  go_wp2_with fail
  refine HC.out.mono ?_
  rintro e w1 ⟨v,rfl,o,b⟩
  have O:=qh o
  have B:=qh (below_then (below_alloc w _) b)
  clear o b
  go_wp2_with fail
  go_ret
  exact ⟨_,rfl,O.out.weaken (by simp),B.out⟩
 by_cases h4:c=83
 ·subst h4
  have HZ:Hid (groupR 83=pairUp [9,13,32,32,133,133,160,160,8232,8233]):=qh rfl
  rw [HZ.out]
  have HC:=qh (HR.out [9,13,32,32,133,133,160,160,8232,8233] 5 rfl (by decide))
  go_enter Tryz.func142,Tryz.ntmps142
  go_wp2_with fail
  refine HC.out.mono ?_
  rintro e w1 ⟨v,rfl,o,b⟩
  have O:=qh o
  have B:=qh (below_then (below_alloc w _) b)
  clear o b
  go_wp2_with fail
  go_ret
  exact ⟨_,rfl,O.out.weaken (by simp),B.out⟩
 ·have HZ:Hid (groupR c=pairUp [48,57,65,90,95,95,97,122,192,214,216,246,248,591,880,1023,1024,1279,1488,1514,1568,1610,1632,1641]):=qh (by unfold groupR groupL;rw [if_neg (by simp [h1,h2]),if_neg (by simp [h3,h4])])
  rw [HZ.out]
  have HC:=qh (HR.out [48,57,65,90,95,95,97,122,192,214,216,246,248,591,880,1023,1024,1279,1488,1514,1568,1610,1632,1641] 12 rfl (by decide))
  have d1:(c == 100)=false:=by simpa using h1
  have d2:(c == 68)=false:=by simpa using h2
  have d3:(c == 115)=false:=by simpa using h3
  have d4:(c == 83)=false:=by simpa using h4
  clear h1 h2 h3 h4
  go_enter Tryz.func142,Tryz.ntmps142
  go_wp2_with fail
  refine HC.out.mono ?_
  rintro e w1 ⟨v,rfl,o,b⟩
  have O:=qh o
  have B:=qh (below_then (below_alloc w _) b)
  clear o b
  go_wp2_with fail
  go_ret
  exact ⟨_,rfl,O.out.weaken (by simp),B.out⟩
end
section
open Go.RowKit
theorem group_small (c:Int):(groupR c).length≤1000∧totW (groupR c)≤20000:=by
 unfold groupR groupL
 split
 ·decide
 ·split
  ·decide
  ·decide
theorem behR_len {R:List (Int×Int)} (f1 f2:Bool):(behR f1 f2 R).length≤R.length+5 * totW R:=by
 have h1:=setR_length (R++addQ R f1 f2 R)
 have h2:=addQ_len R f1 f2 R
 rw [List.length_append] at h1
 unfold behR
 omega
theorem wid_one (lo hi:Int):totW [(lo,hi)]≤20000:=by
 simp [totW,widW,lowW,highW]
 omega
theorem part_range (w:World) (b:Nat) (T:List Tok) (f:Int) (k ch lo hi pos:Int) (hT:FoTabs w) (hR:IsT w b T f) (hk:k=9) :
 Calls Tryz.prog 132 #[.pointer (some ⟨b,0,none⟩),.agg #[.int .i64 k,.int .i64 ch,.int .i64 lo,.int .i64 hi,.int .i64 pos]] w (RowedRg w (behR (flag1 f) (flag2 f) [(lo,hi)])):=by
 subst hk
 obtain ⟨Z,hZ⟩:∃ Z,behR (flag1 f) (flag2 f) [(lo,hi)]=Z:=⟨_,rfl⟩
 rw [hZ]
 have HBH:Hid (∀ (u:World) (A:Option Addr) (c:Nat),Below w.heap.size w u→Lies u u.heap.size A (prC [(lo,hi)])→Calls Tryz.prog 141 #[.slice A 1 c,.int .i64 f] u (RowedRg u Z)) :=
  qh fun u A c hu hl=>hZ▸behind_any u (hT.below hu hT.big) A [(lo,hi)] c f hl (by simp) (wid_one lo hi)
 clear hZ
 have HR:=qh hR
 clear hR hT
 have X0:Hid (Box (w.alloc (.cells #[.int .i64 9,.int .i64 ch,.int .i64 lo,.int .i64 hi,.int .i64 pos] 56)) w.heap.size (⟨9,ch,lo,hi,pos⟩:Tok).arr 56):=qh (Box.new w _ _)
 have HO1:=qh (isof_any ((w.alloc (.cells #[.int .i64 9,.int .i64 ch,.int .i64 lo,.int .i64 hi,.int .i64 pos] 56)).alloc (.cells #[.int .i64 9] 3)) ⟨9,ch,lo,hi,pos⟩ _ (some ⟨w.heap.size+1,0,none⟩) [9] 1 (by have:=litI (w.alloc (.cells #[.int .i64 9,.int .i64 ch,.int .i64 lo,.int .i64 hi,.int .i64 pos] 56)) [9];rw [World.size_alloc] at this;exact this) (by decide) (by simp))
 have HG0:Hid (w.grownBy ((w.alloc (.cells #[.int .i64 9,.int .i64 ch,.int .i64 lo,.int .i64 hi,.int .i64 pos] 56)).alloc (.cells #[.int .i64 9] 3)) none):=qh ((grown_new w _ none).trans (grown_new _ _ none))
 go_enter Tryz.func132,Tryz.ntmps132
 go_wp2_with fail
 refine HO1.out.mono ?_
 rintro e w1 ⟨rfl,g1⟩
 have X1:=qh ((X0.out.kept (grown_new _ _ none) (by simp)).kept g1 (by simp))
 have G1:=qh (HG0.out.trans g1)
 clear g1
 rw [show ([9]:List Int).contains (9:Int)=true from rfl]
 have HRw1:=qh (HR.out.up G1.out)
 obtain ⟨Aw1,cw1,hbw1,-,-⟩:=HRw1.out.box
 have q0:=(hbw1.cell (i:=1) rfl:w1.cell? ⟨b,1,none⟩=some (.int .i64 f))
 have q2:=(X1.out.cell (i:=2) rfl:w1.cell? ⟨w.heap.size,2,none⟩=some (.int .i64 lo))
 have q3:=(X1.out.cell (i:=3) rfl:w1.cell? ⟨w.heap.size,3,none⟩=some (.int .i64 hi))
 have HK:Hid (∀ u:World,Below w1.heap.size w1 u→u.cell? ⟨w.heap.size,2,none⟩=some (.int .i64 lo)∧u.cell? ⟨w.heap.size,3,none⟩=some (.int .i64 hi)∧u.cell? ⟨b,1,none⟩=some (.int .i64 f)):=qh fun u hu=>by
  rw [hu.cell (p:=⟨w.heap.size,2,none⟩) X1.out.lt,hu.cell (p:=⟨w.heap.size,3,none⟩) X1.out.lt,hu.cell (p:=⟨b,1,none⟩) hbw1.lt]
  exact ⟨q2,q3,q0⟩
 have B2:=qh (below_row_none G1.out (Nat.le_refl _))
 clear hbw1
 have HLI:Hid (∀ u:World,u.heap=(w1.alloc (.cells #[.int .i64 lo,.int .i64 hi] 3)).heap→Lies u u.heap.size (some ⟨w1.heap.size,0,none⟩) (ints .i64 [lo,hi])):=qh fun u hu=>by
  have h1:=(litI w1 [lo,hi]).sameHeap hu
  exact h1.wider (by rw [hu];simp)
 go_wp2_with fail
 refine wp_region_E (S:=fun u=>u.cell? ⟨w.heap.size,2,none⟩=some (.int .i64 lo)∧u.cell? ⟨w.heap.size,3,none⟩=some (.int .i64 hi)∧u.cell? ⟨b,1,none⟩=some (.int .i64 f)) [11] (by kernel_rfl) (HK.out _ (by exact below_same (Below.refl _ w1) rfl rfl rfl rfl)) (fun hHeld hZ=>?_)
 refine' eY 0 hHeld hZ fun hZ=>?_
 try simp only [Act.put,ZA,ZB,ZD,ZE,ZF]
 refine' eY 1 hHeld hZ fun hZ=>?_
 try simp only [Act.put,ZA,ZB,ZC,ZD,ZE,ZF]
 refine' eY 2 hHeld hZ fun hZ=>?_
 try simp only [Act.put,ZA,ZB,ZC,ZD,ZE,ZF]
 refine' eY 3 hHeld hZ fun hZ=>?_
 try simp only [Act.put,ZA,ZB,ZC,ZD,ZE,ZF]
 refine' eY 6 hHeld hZ fun hZ=>?_
 try simp only [Act.put,ZA,ZB,ZC,ZD,ZE,ZF]
 refine' eY 7 hHeld hZ fun hZ=>?_
 try simp only [Act.put,ZA,ZB,ZC,ZD,ZE,ZF]
 refine' eY 8 hHeld hZ fun hZ=>?_
 try simp only [Act.put,ZA,ZB,ZC,ZD,ZE,ZF]
 refine' eY 9 hHeld hZ fun hZ=>?_
 try simp only [Act.put,ZA,ZB,ZC,ZD,ZE,ZF]
 refine eA 4 fun K hK=>?_
 go_simp
 refine eB hK hZ (HK.out _ (by exact below_same (below_alloc w1 _) rfl rfl rfl rfl)) fun hHeld hZ=>?_
 clear hK K
 try simp only [Act.put,ZA,ZB,ZC,ZD,ZE,ZF]
 refine eA 5 fun K hK=>?_
 go_simp
 refine (ranges_any (w1.alloc (.cells #[.int .i64 lo,.int .i64 hi] 3)).drew (some ⟨w1.heap.size,0,none⟩) [lo,hi] 2 1 (HLI.out _ rfl) rfl (by decide)).mono ?_
 rintro e w3 ⟨v3,rfl,o3,b3⟩
 rw [show pairUp [lo,hi]=[(lo,hi)] from rfl] at o3
 obtain ⟨A3,c3,rfl,l3,-,-⟩:=o3.form
 have B3:Hid (Below w1.heap.size w1 w3):=qh (Below.trans (by exact below_same (below_alloc w1 _) rfl rfl rfl rfl) (b3.mono (by simp)))
 have L3:=qh l3
 clear o3 b3 l3
 refine eB hK hZ (HK.out _ B3.out) fun hHeld hZ=>?_
 clear hK K
 try simp only [Act.put,ZA,ZB,ZC,ZD,ZE,ZF]
 refine eA 10 fun K hK=>?_
 go_simp
 refine (HBH.out w3 A3 c3 (below_then B2.out B3.out) L3.out).mono ?_
 rintro e w4 ⟨v4,rfl,o4,b4⟩
 have O4:=qh o4
 have B4:=qh b4
 clear o4 b4
 refine eB hK hZ (HK.out _ (below_then B3.out B4.out)) fun hHeld hZ=>?_
 clear hK K
 try simp only [Act.put,ZA,ZB,ZC,ZD,ZE,ZF]
 refine' eX 11 hZ fun hZ=>?_
 try simp only [Act.put,ZA,ZB,ZC,ZD,ZE,ZF]
 refine wpAnyE_done (by kernel_rfl) ?_ _
 clear hZ
 go_wp2_with fail
 go_ret
 exact ⟨_,rfl,O4.out.weaken (Nat.le_trans B2.out.size B3.out.size),below_then (below_then B2.out B3.out) B4.out⟩
theorem part_group (w:World) (b:Nat) (T:List Tok) (f:Int) (k ch lo hi pos:Int) (hT:FoTabs w) (hR:IsT w b T f) (hk:k≠9) (hk1:k≠1) :
 Calls Tryz.prog 132 #[.pointer (some ⟨b,0,none⟩),.agg #[.int .i64 k,.int .i64 ch,.int .i64 lo,.int .i64 hi,.int .i64 pos]] w (RowedRg w (if ([68,83,87]:List Int).contains ch=true then setP fun c=>!hasR (behR (flag1 f) (flag2 f) (groupR ch)) c else behR (flag1 f) (flag2 f) (groupR ch))):=by
 have hgs:=group_small ch
 obtain ⟨L,hL⟩:∃ L,behR (flag1 f) (flag2 f) (groupR ch)=L:=⟨_,rfl⟩
 have hll:L.length≤1000000:=by have:=behR_len (R:=groupR ch) (flag1 f) (flag2 f);rw [← hL];omega
 have hcn:Canon 0 L:=by rw [← hL];exact setP_canon _
 rw [hL]
 have HBH:Hid (∀ (u:World) (A:Option Addr) (c:Nat),Below w.heap.size w u→Lies u u.heap.size A (prC (groupR ch))→Calls Tryz.prog 141 #[.slice A (groupR ch).length c,.int .i64 f] u (RowedRg u L)) :=
  qh fun u A c hu hl=>hL▸behind_any u (hT.below hu hT.big) A (groupR ch) c f hl hgs.1 hgs.2
 have HTU:Hid (∀ (u:World) (A:Option Addr) (c:Nat),Lies u u.heap.size A (prC L)→Calls Tryz.prog 139 #[.slice A L.length c] u (RowedRg u (setP fun c=>!hasR L c))):=qh fun u A c hl=>turned_any u A L c hl hll hcn
 have n9:([9]:List Int).contains k=false:=by simp;omega
 have n1:([1]:List Int).contains k=false:=by simp;omega
 obtain ⟨GR,hGR⟩:∃ G,groupR ch=G:=⟨_,rfl⟩
 have HGC:=qh (fun u=>hGR▸group_any ch u)
 rw [hGR] at HBH
 obtain ⟨tw,htw⟩:∃ z,([68,83,87]:List Int).contains ch=z:=⟨_,rfl⟩
 have HTW:=qh htw
 rw [htw]
 obtain ⟨Z,hZ⟩:∃ Z,(if tw=true then setP fun c=>!hasR L c else L)=Z:=⟨_,rfl⟩
 have HZ:=qh hZ
 rw [hZ]
 clear hL hk hk1 hgs hll hcn hGR htw hZ
 have HR:=qh hR
 clear hR hT
 have X0:Hid (Box (w.alloc (.cells #[.int .i64 k,.int .i64 ch,.int .i64 lo,.int .i64 hi,.int .i64 pos] 56)) w.heap.size (⟨k,ch,lo,hi,pos⟩:Tok).arr 56):=qh (Box.new w _ _)
 have HO1:=qh (isof_any ((w.alloc (.cells #[.int .i64 k,.int .i64 ch,.int .i64 lo,.int .i64 hi,.int .i64 pos] 56)).alloc (.cells #[.int .i64 9] 3)) ⟨k,ch,lo,hi,pos⟩ _ (some ⟨w.heap.size+1,0,none⟩) [9] 1 (by have:=litI (w.alloc (.cells #[.int .i64 k,.int .i64 ch,.int .i64 lo,.int .i64 hi,.int .i64 pos] 56)) [9];rw [World.size_alloc] at this;exact this) (by decide) (by simp))
 have HG0:Hid (w.grownBy ((w.alloc (.cells #[.int .i64 k,.int .i64 ch,.int .i64 lo,.int .i64 hi,.int .i64 pos] 56)).alloc (.cells #[.int .i64 9] 3)) none):=qh ((grown_new w _ none).trans (grown_new _ _ none))
 go_enter Tryz.func132,Tryz.ntmps132
 go_wp2_with fail
 refine HO1.out.mono ?_
 rintro e w1 ⟨rfl,g1⟩
 have X1:=qh ((X0.out.kept (grown_new _ _ none) (by simp)).kept g1 (by simp))
 have G1:=qh (HG0.out.trans g1)
 clear g1
 rw [n9]
 go_wp2_with (first
  | (refine load_box _ w.heap.size _ _ rfl rfl rfl X1.out Tryz.underlying56 rfl (tokInfo ⟨k,ch,lo,hi,pos⟩) ?_)
  | fail)
 refine (isof_any _ ⟨k,ch,lo,hi,pos⟩ _ (some ⟨w1.heap.size,0,none⟩) [1] 1 (litI w1 [1]) (by decide) (by simp)).mono ?_
 rintro e w2 ⟨rfl,g2⟩
 have X2:=qh ((X1.out.kept (grown_new _ _ none) (by simp)).kept g2 (by simp))
 have G2:=qh (G1.out.trans ((grown_new _ _ none).trans g2))
 clear g2
 rw [n1]
 have HRw2:=qh (HR.out.up G2.out)
 obtain ⟨Aw2,cw2,hbw2,-,-⟩:=HRw2.out.box
 have q0:=(hbw2.cell (i:=1) rfl:w2.cell? ⟨b,1,none⟩=some (.int .i64 f))
 have q1:=(X2.out.cell (i:=1) rfl:w2.cell? ⟨w.heap.size,1,none⟩=some (.int .i64 ch))
 have HK:Hid (∀ u:World,Below w2.heap.size w2 u→u.cell? ⟨w.heap.size,1,none⟩=some (.int .i64 ch)∧u.cell? ⟨b,1,none⟩=some (.int .i64 f)):=qh fun u hu=>by
  rw [hu.cell (p:=⟨w.heap.size,1,none⟩) X2.out.lt,hu.cell (p:=⟨b,1,none⟩) hbw2.lt]
  exact ⟨q1,q0⟩
 have B2:=qh (below_row_none G2.out (Nat.le_refl _))
 clear hbw2
 go_wp2_with fail
 refine wp_region_E (S:=fun u=>u.cell? ⟨w.heap.size,1,none⟩=some (.int .i64 ch)∧u.cell? ⟨b,1,none⟩=some (.int .i64 f)) [8] (by kernel_rfl) (HK.out _ (by exact below_same (Below.refl _ w2) rfl rfl rfl rfl)) (fun hHeld hZ=>?_)
 refine' eY 0 hHeld hZ fun hZ=>?_
 try simp only [Act.put,ZA,ZB,ZD,ZE,ZF]
 refine' eY 1 hHeld hZ fun hZ=>?_
 try simp only [Act.put,ZA,ZB,ZC,ZD,ZE,ZF]
 refine' eY 3 hHeld hZ fun hZ=>?_
 try simp only [Act.put,ZA,ZB,ZC,ZD,ZE,ZF]
 refine' eY 4 hHeld hZ fun hZ=>?_
 try simp only [Act.put,ZA,ZB,ZC,ZD,ZE,ZF]
 refine' eY 5 hHeld hZ fun hZ=>?_
 try simp only [Act.put,ZA,ZB,ZC,ZD,ZE,ZF]
 refine' eY 6 hHeld hZ fun hZ=>?_
 try simp only [Act.put,ZA,ZB,ZC,ZD,ZE,ZF]
 refine eA 2 fun K hK=>?_
 go_simp
 refine (HGC.out w2.drew).mono ?_
 rintro e w3 ⟨v3,rfl,o3,b3⟩
 obtain ⟨A3,c3,rfl,l3,-,-⟩:=o3.form
 have B3:Hid (Below w2.heap.size w2 w3):=qh (below_then_drew b3)
 have L3:=qh l3
 clear o3 b3 l3
 refine eB hK hZ (HK.out _ B3.out) fun hHeld hZ=>?_
 clear hK K
 try simp only [Act.put,ZA,ZB,ZC,ZD,ZE,ZF]
 refine eA 7 fun K hK=>?_
 go_simp
 refine (HBH.out w3 A3 c3 (below_then B2.out B3.out) L3.out).mono ?_
 rintro e w4 ⟨v4,rfl,o4,b4⟩
 obtain ⟨A4,c4,rfl,l4,-,-⟩:=o4.form
 have O4:=qh o4
 have L4:=qh l4
 have B4:=qh (below_then B3.out b4)
 have Z4:=qh (Nat.le_trans B2.out.size B3.out.size)
 clear o4 b4 l4
 refine eB hK hZ (HK.out _ B4.out) fun hHeld hZ=>?_
 clear hK K
 try simp only [Act.put,ZA,ZB,ZC,ZD,ZE,ZF]
 refine' eX 8 hZ fun hZ=>?_
 try simp only [Act.put,ZA,ZB,ZC,ZD,ZE,ZF]
 refine wpAnyE_done (by kernel_rfl) ?_ _
 clear hZ
 obtain ⟨w5,hw5⟩:∃ u,w4.alloc (.cells #[.int .i64 68,.int .i64 83,.int .i64 87] 3)=u:=⟨_,rfl⟩
 have B5:Hid (Below w4.heap.size w4 w5):=qh (hw5▸below_alloc w4 _)
 have q6:w5.cell? ⟨w.heap.size,1,none⟩=some (.int .i64 ch):=(HK.out w5 (below_then B4.out B5.out)).1
 have C6:=qh (contains_any w5 _ (some ⟨w4.heap.size,0,none⟩) [68,83,87] 3 ch (hw5▸litI w4 [68,83,87]) (by decide))
 rw [HTW.out] at C6
 have O5:=qh (O4.out.below B5.out (Nat.le_refl _))
 have L5:=qh (L4.out.up B5.out)
 subst hw5
 go_wp2_with fail
 refine C6.out.mono ?_
 rintro e wq ⟨rfl,rfl⟩
 cases tw
 ·have HZ2:Hid (L=Z):=qh HZ.out
  go_wp2_with fail
  go_ret
  refine ⟨_,rfl,?_,below_then B2.out (below_then B4.out B5.out)⟩
  rw [← HZ2.out]
  exact O5.out.weaken Z4.out
 ·have HZ2:Hid ((setP fun c=>!hasR L c)=Z):=qh HZ.out
  go_wp2_with fail
  refine (HTU.out _ A4 c4 L5.out).mono ?_
  rintro e w7 ⟨v7,rfl,o7,b7⟩
  have O7:=qh o7
  have B7:=qh b7
  clear o7 b7
  go_wp2_with fail
  go_ret
  refine ⟨_,rfl,?_,below_then (below_then B2.out (below_then B4.out B5.out)) B7.out⟩
  rw [← HZ2.out]
  exact O7.out.weaken (Nat.le_trans B2.out.size (Nat.le_trans B4.out.size B5.out.size))
theorem partg_any (w:World) (b:Nat) (T:List Tok) (f:Int) (t:Tok) (hT:FoTabs w) (hR:IsT w b T f) :
 Calls Tryz.prog 132 #[.pointer (some ⟨b,0,none⟩),.agg t.arr] w (RowedRg w (partR f t)):=by
 unfold partR
 by_cases h9:t.k=9
 ·rw [if_pos h9]
  exact part_range w b T f t.k t.c t.lo t.hi t.pos hT hR h9
 ·rw [if_neg h9]
  by_cases h1:t.k=1
  ·rw [if_pos h1]
   exact part_any w b T f t hT hR h1
  ·rw [if_neg h1]
   exact part_group w b T f t.k t.c t.lo t.hi t.pos hT hR h9 h1
end
section
open Go.RowKit
theorem grown_below {a b c:World} {row:Option Nat} {B:Nat} (h:a.grownBy b row) (hb:Below B b c) (hB:a.heap.size≤B):a.grownBy c row :=
 ⟨hb.os.trans h.os,hb.tape.trans h.tape,hb.output.trans h.output,Nat.le_trans h.size hb.size,fun k hk hr=>(hb.block k (by omega)).trans (h.block k hk hr)⟩
theorem FoTabs.grown {w w':World} {b:Nat} (h:FoTabs w) (hg:w.grownBy w' (some b)) (hb:3≠b):FoTabs w' :=
 ⟨Nat.lt_of_lt_of_le h.big hg.size,fun i v hi=>(World.cell?_of_block (a:=⟨_,_,none⟩) (hg.block _ h.big (fun e=>hb (Option.some.inj e).symm.symm))).trans (h.cells i v hi)⟩
theorem FoTabs.grown0 {w w':World} (h:FoTabs w) (hg:w.grownBy w' none):FoTabs w' :=
 ⟨Nat.lt_of_lt_of_le h.big hg.size,fun i v hi=>(World.cell?_of_block (a:=⟨_,_,none⟩) (hg.block _ h.big (by simp))).trans (h.cells i v hi)⟩
theorem IsT.below {w w':World} {b B:Nat} {T:List Tok} {f:Int} (h:IsT w b T f) (hb:Below B w w') (hB:b < B):IsT w' b T f:=by
 obtain ⟨A,c,hx,hl,hc⟩:=h.box
 exact ⟨⟨A,c,hx.below hb hB,hl.same (fun q hq=>hb.cell (by omega)),hc⟩,h.few⟩
theorem beh_set (f1 f2:Bool) {R:List (Int×Int)} (hl:R.length≤500):behR f1 f2 R=behR f1 f2 (setR R):=by
 unfold behR
 refine setP_congr fun c h0 h1=>?_
 have hc:inTop c:=⟨h0,h1⟩
 have hs:∀ k,inTop k→hasR (setR R) k=hasR R k:=fun k hk=>by
  rw [setR_has hl]
  unfold inTop at hk
  simp [hk.1,hk.2]
 rw [Bool.eq_iff_iff,beh_has hc,beh_has hc,hs c hc]
 constructor
 ·rintro (h | ⟨e,k,hk,hf,h⟩ | ⟨e,h,hm⟩)
  ·exact .inl h
  ·exact .inr (.inl ⟨e,k,hk,hf,by rw [hs k hk];exact h⟩)
  ·exact .inr (.inr ⟨e,by rw [hs _ hm];exact h,hm⟩)
 ·rintro (h | ⟨e,k,hk,hf,h⟩ | ⟨e,h,hm⟩)
  ·exact .inl h
  ·exact .inr (.inl ⟨e,k,hk,hf,by rw [← hs k hk];exact h⟩)
  ·exact .inr (.inr ⟨e,by rw [← hs _ hm];exact h,hm⟩)
theorem beh_few (f1 f2:Bool) {R:List (Int×Int)} (hl:R.length≤60):(behR f1 f2 R).length≤500:=by
 rw [beh_set f1 f2 (by omega),beh_close f1 f2 hl]
 exact closeR_le _ _ _
theorem not_few {L:List (Int×Int)} (hc:Canon 0 L) (hl:L.length≤500):(setP fun c=>!hasR L c).length≤501:=by
 have h:=turnR_len (R:=L) hl
 unfold turnR at h
 rw [setR_is hc hl] at h
 omega
theorem group_few (c:Int):(groupR c).length≤60:=by
 unfold groupR groupL
 split
 ·decide
 ·split
  ·decide
  ·decide
theorem part_few (f:Int) (t:Tok):(partR f t).length≤501:=by
 have h1:=beh_few (flag1 f) (flag2 f) (R:=[(t.lo,t.hi)]) (by simp)
 have h2:=beh_few (flag1 f) (flag2 f) (R:=[(t.c,t.c)]) (by simp)
 have h3:=beh_few (flag1 f) (flag2 f) (group_few t.c)
 have h4:=not_few (L:=behR (flag1 f) (flag2 f) (groupR t.c)) (setP_canon _) h3
 unfold partR
 split
 ·omega
 ·split
  ·omega
  ·split
   ·exact h4
   ·omega
theorem dot_any (w:World) (b:Nat) (T:List Tok) (f:Int) (hR:IsT w b T f) :
 Calls Tryz.prog 130 #[.pointer (some ⟨b,0,none⟩)] w (RowedRg w (dotR f)):=by
 obtain ⟨A,c,hb,-,-⟩:=hR.box
 have q0:=(hb.cell (i:=1) rfl:w.cell? ⟨b,1,none⟩=some (.int .i64 f))
 have C1:=qh (turned_any w none [] 0 Lies.empty (by simp) trivial)
 have C2:=qh (ranges_any (w.alloc (.cells #[.int .i64 10,.int .i64 10] 3)) (some ⟨w.heap.size,0,none⟩) [10,10] 2 1 ((litI w [10,10]).wider (by simp)) rfl (by decide))
 have HTU:Hid (∀ (u:World) (A:Option Addr) (c:Nat),Lies u u.heap.size A (prC [(10,10)])→Calls Tryz.prog 139 #[.slice A 1 c] u (RowedRg u (setP fun c=>!hasR [(10,10)] c))):=qh fun u A c hl=>turned_any u A [(10,10)] c hl (by simp) ⟨by decide,by decide,by decide,trivial⟩
 have hz1:flag4 f=true→dotR f=setP fun c=>!hasR [] c:=fun h=>by unfold dotR;rw [h,if_pos rfl]
 have hz2:flag4 f=false→dotR f=setP fun c=>!hasR [(10,10)] c:=fun h=>by unfold dotR;rw [h,if_neg (by simp)]
 obtain ⟨Z,hZ⟩:∃ Z,dotR f=Z:=⟨_,rfl⟩
 rw [hZ] at hz1 hz2 ⊢
 have HZ1:=qh hz1
 have HZ2:=qh hz2
 clear hb hR hZ hz1 hz2
 rcases hf:(bits .and .i64 f 4 != 0) with _ | _
 ·have HE:=qh (HZ2.out hf)
  go_enter Tryz.func130,Tryz.ntmps130
  go_wp2_with fail
  refine C2.out.mono ?_
  rintro e w1 ⟨v,rfl,o,b1⟩
  rw [show pairUp [10,10]=[(10,10)] from rfl] at o
  obtain ⟨A1,c1,rfl,l1,-,-⟩:=o.form
  have L1:=qh (HTU.out w1 A1 c1 l1)
  have B1:=qh (below_then (below_alloc w _) b1)
  clear o b1 l1
  go_wp2_with fail
  refine L1.out.mono ?_
  rintro e w2 ⟨v,rfl,o,b2⟩
  have O:=qh o
  have B2:=qh (below_then B1.out b2)
  clear o b2
  go_wp2_with fail
  go_ret
  refine ⟨_,rfl,?_,B2.out⟩
  rw [HE.out]
  exact O.out.weaken B1.out.size
 ·have HE:=qh (HZ1.out hf)
  go_enter Tryz.func130,Tryz.ntmps130
  go_wp2_with fail
  refine C1.out.mono ?_
  rintro e w1 ⟨v,rfl,o,b1⟩
  have O:=qh o
  have B1:=qh b1
  clear o b1
  go_wp2_with fail
  go_ret
  refine ⟨_,rfl,?_,B1.out⟩
  rw [HE.out]
  exact O.out
def RgTo (w:World) (b:Nat) (f:Int) (rs:List (Int×Int)) (R:List Tok) (ed:Ending) (w':World):Prop :=
 ∃ v,ed=.returned v∧OwnN w' w.heap.size 66 2 v rs.length (prC rs)∧IsT w' b R f∧w.grownBy w' (some b)
theorem class_any (w:World) (b:Nat) (T:List Tok) (f:Int) (round:Bool) (rs:List (Int×Int)) (R:List Tok) (hT:FoTabs w) (hgb:3 < b) (hR:IsT w b T f) (h:classL f T=some (rs,R)) :
 Calls Tryz.prog 131 #[.pointer (some ⟨b,0,none⟩),.bool round] w (RgTo w b f (classR round rs) R):=by
 have HJ0:=qh h
 have HT:=qh hT
 have HLT:=qh hR.lt
 have R0:=qh hR
 have HFEW:=qh hR.few
 have HPF:=qh (fun t=>part_few f t)
 have HPA:=qh (fun (u:World) (T:List Tok) (t:Tok) h1 h2=>partg_any u b T f t h1 h2)
 have HC0:Hid (round=false→classR round rs=setP (hasR rs)):=qh fun h=>by unfold classR;rw [h,if_neg (by simp)]
 have HC1:Hid (round=true→classR round rs=setP fun c=>!hasR (setP (hasR rs)) c):=qh fun h=>by unfold classR;rw [h,if_pos rfl]
 obtain ⟨Z,hZ⟩:∃ Z,classR round rs=Z:=⟨_,rfl⟩
 rw [hZ] at HC0 HC1 ⊢
 clear hT hR h hZ
 go_enter Tryz.func131,Tryz.ntmps131
 go_wp2_with fail
 go_loopw [5] (fun ov wr=>∃ (T':List Tok) (acc rs':List (Int×Int)),Hid (classL f T'=some (rs',R))∧Hid (acc++rs'=rs)∧Hid (OwnN wr w.heap.size 66 2 ov acc.length (prC acc))∧Hid (IsT wr b T' f)∧Hid (w.grownBy wr (some b))∧Hid (acc.length+501 * T'.length≤501000)) (fun _ wr=>leftAt b wr)
 case atStart=>exact ⟨T,[],rs,HJ0,qh rfl,qh (OwnN.empty _ _ _ _),R0,qh (grown_refl _ _),qh (by have:=HFEW.out;simp;omega)⟩
 case round =>
  obtain ⟨T',acc,rs',HJ,HE,HO,Rr,G,KL⟩:=hrel
  have M:wr.grownBy (wr.alloc (.cells #[.int .i64 8] 3)) none:=grown_new _ _ none
  have HTK:=qh (takes_any (wr.alloc (.cells #[.int .i64 8] 3)) b T' f _ (some ⟨wr.heap.size,0,none⟩) [8] 1 (Rr.out.up M) (litI wr [8]) (by decide) (by simp))
  have HLF:Hid (leftAt b wr=T'.length):=qh Rr.out.left
  have G:=qh (G.out.trans (grownBy_none M (some b)))
  obtain ⟨nA,hnA⟩:∃ n,acc.length=n:=⟨_,rfl⟩
  have HNA:=qh hnA
  rw [hnA] at HO
  obtain ⟨A0,c0,rfl,-,-,-⟩:=HO.out.form
  have HO:=qh (HO.out.alloc (.cells #[.int .i64 8] 3))
  clear M Rr hnA
  go_wp2_with fail
  refine HTK.out.mono ?_
  rintro e w7 ⟨rfl,r7,g7⟩
  have HO:=qh (HO.out.keep g7 (by
   rcases hv:(Value.slice A0 nA c0).ownBlock with _ | g
   ·exact .inl rfl
   ·exact .inr fun e=>by have:=(HO.out.inside g hv).1;have:=HLT.out;injection e with e;omega))
  have Rr:=qh r7
  have G:=qh (G.out.trans g7)
  clear r7 g7
  rcases T' with _ | ⟨t,T'⟩
  ·have:=HJ.out
   cases this
  ·have hj:=HJ.out
   rw [classL] at hj
   by_cases h8:t.k=8
   ·rw [if_pos h8] at hj
    injection hj with hj
    injection hj with e1 e2
    subst e1 e2
    have hk:kindIs (t :: T') [8]=true:=by simp [kindIs,h8]
    have hd:dropIs (t :: T') [8]=T':=by unfold dropIs;rw [hk];rfl
    rw [hd] at Rr
    rw [hk]
    have HE2:Hid (acc=rs):=qh (by have:=HE.out;rwa [List.append_nil] at this)
    have hacc:nA≤501000:=by have:=KL.out;have:=HNA.out;omega
    have HLE:=qh (fun (u:World) (A:Option Addr) (c:Nat) hl=>HNA.out▸least_any u A acc c hl (by have:=HNA.out;omega))
    rw [HE2.out] at HLE HO
    obtain ⟨AO,cO,hvO,lO,-,-⟩:=HO.out.form
    injection hvO with hA _ hcO
    subst hA hcO
    have HLC:=qh (HLE.out w7 A0 c0 lO)
    have HTU:Hid (∀ (u:World) (A:Option Addr) (c:Nat),Lies u u.heap.size A (prC (setP (hasR rs)))→Calls Tryz.prog 139 #[.slice A (setP (hasR rs)).length c] u (RowedRg u (setP fun c=>!hasR (setP (hasR rs)) c))):=qh fun u A c hl=>turned_any u A _ c hl (by have:=setR_length rs;have:=HNA.out;rw [HE2.out] at this;omega) (setP_canon _)
    obtain ⟨Y,hY⟩:∃ Y,setP (hasR rs)=Y:=⟨_,rfl⟩
    rw [hY] at HLC HTU HC0 HC1
    have HGZ:=qh G.out.size
    clear hk hd h8 lO hY
    go_wp2_with fail
    refine HLC.out.mono ?_
    rintro e w8 ⟨v8,rfl,o8,b8⟩
    obtain ⟨A8,c8,rfl,l8,-,-⟩:=o8.form
    have O8:=qh o8
    have L8:=qh l8
    have G8:=qh (G.out.trans (grown_of_below b8 (some b)))
    have R8:=qh (Rr.out.up (grown_of_below b8 none))
    clear o8 b8 l8
    cases round
    ·have HZ2:=qh (HC0.out rfl)
     go_wp2_with fail
     go_ret
     refine ⟨_,rfl,?_,R8.out,G8.out⟩
     rw [HZ2.out]
     exact O8.out.weaken HGZ.out
    ·have HZ2:=qh (HC1.out rfl)
     go_wp2_with fail
     refine (HTU.out w8 A8 c8 L8.out).mono ?_
     rintro e w9 ⟨v9,rfl,o9,b9⟩
     have O9:=qh o9
     have G9:=qh (G8.out.trans (grown_of_below b9 (some b)))
     have R9:=qh (R8.out.up (grown_of_below b9 none))
     have HGZ9:=qh G8.out.size
     clear o9 b9
     go_wp2_with fail
     go_ret
     refine ⟨_,rfl,?_,R9.out,G9.out⟩
     rw [HZ2.out]
     exact O9.out.weaken HGZ9.out
   ·rw [if_neg h8] at hj
    rcases hc:classL f T' with _ | ⟨rs2,R2⟩
    ·rw [hc] at hj;cases hj
    ·rw [hc] at hj
     injection hj with hj
     injection hj with e1 e2
     subst e1 e2
     have hk:kindIs (t :: T') [8]=false:=by simp [kindIs,h8]
     have hd:dropIs (t :: T') [8]=t :: T':=by unfold dropIs;rw [hk];rfl
     rw [hd] at Rr
     rw [hk]
     have HJ2:=qh hc
     have HEE:Hid ((acc++partR f t)++rs2=rs):=qh (by rw [← HE.out,List.append_assoc])
     have HNX:=qh (next_any w7 b t T' f Rr.out)
     have hpf:=HPF.out t
     have HKL2:Hid ((acc++partR f t).length+501 * T'.length≤501000):=qh (by have:=KL.out;simp at this ⊢;omega)
     clear hk hd h8 hc
     go_wp2_with fail
     refine HNX.out.mono ?_
     rintro e w8 ⟨rfl,r8,g8⟩
     have HO8:=qh (HO.out.keep g8 (by
      rcases hv:(Value.slice A0 nA c0).ownBlock with _ | g
      ·exact .inl rfl
      ·exact .inr fun e=>by have:=(HO.out.inside g hv).1;have:=HLT.out;injection e with e;omega))
     have R8:=qh r8
     have G8:=qh (G.out.trans g8)
     clear r8 g8
     have HPC:=qh (HPA.out w8 T' t (HT.out.grown G8.out (by omega)) R8.out)
     obtain ⟨P,hP⟩:∃ P,partR f t=P:=⟨_,rfl⟩
     rw [hP] at HPC HEE HKL2 hpf
     clear hP
     go_wp2_with fail
     refine HPC.out.mono ?_
     rintro e w9 ⟨v9,rfl,o9,b9⟩
     obtain ⟨A9,c9,rfl,l9,-,-⟩:=o9.form
     have L9:=qh l9
     have HO9:=qh (HO8.out.below b9 (Nat.le_refl _))
     have G9:=qh (G8.out.trans (grown_of_below b9 (some b)))
     have R9:=qh (R8.out.up (grown_of_below b9 none))
     have HGZ:=qh G9.out.size
     have hnl:nA≤501000:=by have:=KL.out;have:=HNA.out;omega
     clear o9 b9 l9
     go_wp2_with (first
      | (at_builtin;refine appN_at rgT w9 _ w.heap.size _ _ _ (.slice A0 nA c0) nA P.length (prC acc) (prC P) _ _ rfl rfl rfl rfl HO9.out L9.out (prC_length P) (prC_one _) (Below.refl _ _) HGZ.out (by unfold maxLen;omega) (by omega) ?_;intro v2 w2 o2 b2 _ _;have O2:Hid (OwnN w2 w.heap.size 66 2 v2 (acc++P).length (prC (acc++P))):=qh (by rw [prC_append,List.length_append,HNA.out];exact o2);have G2:=qh (grown_below G9.out b2 (Nat.le_refl _));have R2':=qh (R9.out.below b2 HLT.out);clear o2 b2)
      | fail)
     go_roundw
     case rel=>exact ⟨T',acc++P,rs2,HJ2,HEE,O2,R2',G2,HKL2⟩
     case measure=>have h1:=R2'.out.left;have h2:=HLF.out;simp at h2;omega
end
end Go.Proofs.YtoeocodfndbebaaGreatDoor
