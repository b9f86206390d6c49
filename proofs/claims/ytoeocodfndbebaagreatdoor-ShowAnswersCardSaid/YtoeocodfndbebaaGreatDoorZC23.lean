/- Shared texts, shaken for one claim. -/
import Derived.Test.YtoeocodfndbebaaGreatDoorZC22
set_option maxRecDepth 20000
set_option maxHeartbeats 16000000
namespace Go.Proofs.YtoeocodfndbebaaGreatDoor
section
open Go.RowKit
theorem shright_any {w:World} {P:Nat→Prop} {n:Nd} {v:Array Value} (h:Treed w P n v) (u:World) (hu:∀ b,P b→b < w.heap.size→u.heap[b]?=w.heap[b]?) (hs:w.heap.size≤u.heap.size) :
 Calls Tryz.prog 14 #[.agg v] u fun e u'=>e=.returned (.bool (rightN n))∧u.grownBy u' none:=by
 obtain ⟨k,A,m,c,lo,hi,A',m',c',hv⟩:=h.form
 subst hv
 have HM:Hid (Box ((u.alloc (.cells #[.int .i64 k,.slice A m c,.int .i64 lo,.int .i64 hi,.slice A' m' c'] 25)).alloc (.cells #[.int .i64 0,.int .i64 0] 43)) (u.heap.size+1) #[.int .i64 ((0:Nat):Int),.int .i64 ((0:Nat):Int)] 43):=qh (by
  have:=Box.new (u.alloc (.cells #[.int .i64 k,.slice A m c,.int .i64 lo,.int .i64 hi,.slice A' m' c'] 25)) #[.int .i64 0,.int .i64 0] 43
  rw [World.size_alloc] at this
  exact this)
 have G0:Hid (u.grownBy ((u.alloc (.cells #[.int .i64 k,.slice A m c,.int .i64 lo,.int .i64 hi,.slice A' m' c'] 25)).alloc (.cells #[.int .i64 0,.int .i64 0] 43)) none):=qh ((grown_new u _ none).trans (grown_new _ _ none))
 have HC:=qh (right_any h _ (u.heap.size+1) 1 0 0 (fun b hb hl=>(G0.out.block b (by omega) (by simp)).trans (hu b hb hl)) (Nat.le_trans hs G0.out.size) (fun x _ hl=>by omega) HM.out (by omega) (by omega) (by omega))
 rw [right_mt]
 clear h hu hs
 go_enter Tryz.func14,Tryz.ntmps14
 go_wp2_with fail
 refine HC.out.mono ?_
 rintro e w1 ⟨rfl,-,g1⟩
 have G1:=qh (grown_two G0.out g1 (Nat.le_succ _))
 clear g1
 go_wp2_with fail
 go_ret
 exact ⟨rfl,G1.out⟩
theorem itemsI_append:∀ (a b:List (Int×Int)),itemsI (a++b)=itemsI a++itemsI b
 | [],b=>rfl
 | r :: a,b=>by rw [List.cons_append,itemsI,itemsI,itemsI_append a b];simp
theorem itemsI_next {R:List (Int×Int)} {k:Nat} (h:k < R.length):itemsI (R.take (k+1))=itemsI (R.take k)++(quoC R[k].1++(if R[k].2≠R[k].1 then 45 :: quoC R[k].2 else [])):=by
 rw [List.take_succ_eq_append_getElem h,itemsI_append]
 simp [itemsI]
theorem itemsI_take_len (R:List (Int×Int)) (k:Nat) (h:R.length≤1000):(itemsI (R.take k)).length≤5000:=by
 have h1:=itemsI_len (R.take k)
 rw [List.length_take] at h1
 omega
theorem setI_two {R:List (Int×Int)} (h:∀ r,R=[r]→¬ r.1=r.2):setI R=91 :: (itemsI R++[93]):=by
 unfold setI
 split
 ·rename_i r
  rw [if_neg (h r rfl)]
 ·rfl
theorem shset_many (w:World) (A:Option Addr) (R:List (Int×Int)) (c:Nat) (h:Lies w w.heap.size A (prC R)) (hl:R.length≤1000) (h1:∀ r,R=[r]→¬ r.1=r.2) :
 Calls Tryz.prog 30 #[.slice A R.length c] w (Rowed w w.heap.size 3 (ints .i64 (setI R))):=by
 rw [setI_two h1]
 have HL:=qh h
 have HTL:=qh (fun k=>itemsI_take_len R k hl)
 have HNX:=qh (fun k (hk:k < R.length)=>itemsI_next hk)
 have HCH:=qh (fun u=>chars_any ⟨#[91]⟩ u (by decide) (by decide))
 have e91:strI ⟨#[91]⟩=[91]:=by decide
 rw [e91] at HCH
 have HA1:Hid ((R.length == 1)=false∨∃ r:Int×Int,R=[r]∧(r.1 == r.2)=false):=qh (by
  rcases hb:R.length == 1 with _ | _
  ·exact .inl rfl
  ·right
   rcases R with _ | ⟨r,_ | ⟨s,R⟩⟩
   ·simp at hb
   ·exact ⟨r,rfl,by simpa using h1 r rfl⟩
   ·simp at hb)
 -- behind the test
 have HREST:Hid (∀ (B1:Prop),True):=qh fun _=>trivial
 clear h h1 e91
 have HTEST:Hid (∃ b:Bool,((R.length:Int) == 1)=b∧(b=true→∃ g off p1 p2,A=some ⟨g,off,none⟩∧R.length=1∧(p1 == p2)=false∧∀ u,Below w.heap.size w u→u.cell? ⟨g,off,none⟩=some (.int .i64 p1)∧u.cell? ⟨g,off+1,none⟩=some (.int .i64 p2))):=qh (by
  rcases HA1.out with h | ⟨r,rfl,hr⟩
  ·refine ⟨false,?_,fun h=>(by cases h)⟩
   simp at h ⊢;omega
  ·refine ⟨true,by simp,fun _=>?_⟩
   obtain ⟨g,off,hA,hg,hc⟩:=HL.out.plain (by rw [prC_length];simp)
   obtain ⟨p1,p2⟩:=r
   refine ⟨g,off,p1,p2,hA,rfl,hr,fun u hu=>?_⟩
   have c0:=hc 0 (by rw [prC_length];simp)
   have c1:=hc 1 (by rw [prC_length];simp)
   rw [Nat.add_zero] at c0
   exact ⟨by rw [hu.cell (p:=⟨g,off,none⟩) hg,c0];rfl,by rw [hu.cell (p:=⟨g,off+1,none⟩) hg,c1];rfl⟩)
 obtain ⟨b,hb,hyes⟩:=HTEST.out
 have hpass:∀ (Q:Bool→Prop),True:=fun _=>trivial
 clear hpass HTEST HREST HA1
 rcases b with _ | _
 ·go_enter Tryz.func30,Tryz.ntmps30
  go_wp2_with fail
  go_quiet (fail)
  go_wp2_with fail
  refine (HCH.out _).mono ?_
  rintro e w1 ⟨v1,rfl,o1,b1⟩
  have B1:Hid (Below w.heap.size w w1):=qh (below_then (by exact below_drawn (Below.refl _ _) _) b1)
  have O1:Hid (Own w1 w.heap.size 3 v1 (ints .i64 (91 :: itemsI (R.take 0)))):=qh (by simpa [itemsI] using o1.weaken (by simp))
  clear o1 b1
  go_wp2_with fail
  go_loopw [28,3] (fun iv ov wr=>∃ k:Nat,k≤R.length∧iv=.int .i64 k∧Hid (Own wr w.heap.size 3 ov (ints .i64 (91 :: itemsI (R.take k))))∧Hid (Below w.heap.size w wr)) (fun iv _ _=>R.length - (intOf iv).toNat)
  case atStart=>exact ⟨0,by omega,rfl,O1,B1⟩
  case round =>
   obtain ⟨k,hk,rfl,HO,HB⟩:=hrel
   by_cases hlt:k < R.length
   ·have HN:=qh (HNX.out k hlt)
    have hdl:=HTL.out k
    obtain ⟨g,off,hA,hg,c0,c1⟩:=prC_at (HL.out.up HB.out) hlt
    subst hA
    obtain ⟨p,hp⟩:∃ x,R[k]=x:=⟨_,rfl⟩
    rw [hp] at c0 c1 HN
    obtain ⟨q1,q2⟩:=p
    simp only at c0 c1 HN
    obtain ⟨D,hD⟩:∃ D,itemsI (R.take k)=D:=⟨_,rfl⟩
    rw [hD] at HO HN hdl
    have k0:(0:Int)≤(k:Int):=by omega
    have k1:(k:Int) < (R.length:Int):=by omega
    have hq1:=quoC_len q1
    have hq2:=quoC_len q2
    have HDL:=qh (And.intro hdl (And.intro hq1 hq2))
    have HQ1:=qh (fun u=>shquoted_any u q1)
    have HQ2:=qh (fun u=>shquoted_any u q2)
    have X0:Hid (Box (wr.alloc (.cells #[.int .i64 q1,.int .i64 q2] 66)) wr.heap.size #[.int .i64 q1,.int .i64 q2] 66):=qh (Box.new wr _ _)
    have B0:Hid (Below w.heap.size w (wr.alloc (.cells #[.int .i64 q1,.int .i64 q2] 66))):=qh (HB.out.alloc HB.out.size _)
    have O0:=qh (HO.out.alloc (.cells #[.int .i64 q1,.int .i64 q2] 66))
    have HNE:Hid (∀ x,u3.ownBlock=some x→x < wr.heap.size):=qh fun x hx=>(HO.out.inside x hx).2
    clear hp hD hdl hq1 hq2
    go_wp2_with fail
    refine (HQ1.out _).mono ?_
    rintro e w2 ⟨v2,rfl,o2,b2⟩
    have X2:=qh (X0.out.below b2 X0.out.lt)
    have O2:=qh (O0.out.below b2 (Nat.le_refl _))
    have B2:=qh (B0.out.trans (b2.mono B0.out.size))
    obtain ⟨A2,c2,rfl,l2,-,-⟩:=o2.form
    have L2:=qh l2
    have m0:w2.cell? ⟨wr.heap.size,0,none⟩=some (.int .i64 q1):=X2.out.cell rfl
    have m1:w2.cell? ⟨wr.heap.size,1,none⟩=some (.int .i64 q2):=X2.out.cell rfl
    clear o2 b2 l2
    simp only [ints,List.length_map]
    by_cases hq:q2=q1
    ·obtain rfl:q1=q2:=hq.symm
     have hne:(q1 != q1)=false:=by simp
     have HI:Hid (itemsI (R.take (k+1))=D++quoC q1):=qh (by rw [HN.out];simp)
     go_wp2_with (first
      | (at_builtin;refine app_src intsT w w2 w.heap.size w2.heap.size _ _ _ (ints .i64 (91 :: D)) (ints .i64 (quoC q1)) A2 _ c2 rfl rfl rfl rfl (by simp) O2.out L2.out (ints_one _ _) B2.out B2.out.size (by have:=HDL.out;unfold maxLen;simp;omega) (by have:=HDL.out;simp;omega) ?_;intro v3 w3 o3 b3 g3 e3
         have O3:=qh o3
         have B3:=qh b3
         have X3:=qh (X2.out.kept g3 (fun e=>Nat.lt_irrefl _ (HNE.out _ e)))
         have HN3:Hid (∀ x,v3.ownBlock=some x→x≠wr.heap.size):=qh fun x hx=>by
          rcases e3 with e3 | ⟨q,e3,hq⟩
          ·have:=HNE.out x (e3▸hx);omega
          ·rw [e3] at hx
           injection hx with hx
           have:=X2.out.lt
           omega
         have n0:w3.cell? ⟨wr.heap.size,0,none⟩=some (.int .i64 q1):=X3.out.cell rfl
         have n1:w3.cell? ⟨wr.heap.size,1,none⟩=some (.int .i64 q1):=X3.out.cell rfl
         clear o3 b3 g3 e3 m0 m1)
      | fail)
     go_roundw
     case rel=>exact ⟨k+1,by omega,by go_num,by rw [HI.out];simpa [ints] using O3,B3⟩
     case measure=>simp [intOf];omega
    ·have hne:(q2 != q1)=true:=by simpa using hq
     have HI:Hid (itemsI (R.take (k+1))=D++quoC q1++(45 :: quoC q2)):=qh (by rw [HN.out,if_pos hq];simp)
     clear hq
     go_wp2_with (first
      | (at_builtin;refine app_src intsT w w2 w.heap.size w2.heap.size _ _ _ (ints .i64 (91 :: D)) (ints .i64 (quoC q1)) A2 _ c2 rfl rfl rfl rfl (by simp) O2.out L2.out (ints_one _ _) B2.out B2.out.size (by have:=HDL.out;unfold maxLen;simp;omega) (by have:=HDL.out;simp;omega) ?_;intro v3 w3 o3 b3 g3 e3
         have O3:=qh o3
         have B3:=qh b3
         have X3:=qh (X2.out.kept g3 (fun e=>Nat.lt_irrefl _ (HNE.out _ e)))
         have HN3:Hid (∀ x,v3.ownBlock=some x→x≠wr.heap.size):=qh fun x hx=>by
          rcases e3 with e3 | ⟨q,e3,hq⟩
          ·have:=HNE.out x (e3▸hx);omega
          ·rw [e3] at hx
           injection hx with hx
           have:=X2.out.lt
           omega
         have n0:w3.cell? ⟨wr.heap.size,0,none⟩=some (.int .i64 q1):=X3.out.cell rfl
         have n1:w3.cell? ⟨wr.heap.size,1,none⟩=some (.int .i64 q2):=X3.out.cell rfl
         clear o3 b3 g3 e3 m0 m1)
      | (at_builtin;refine app_lit intsT w w3 w.heap.size _ _ #[.int .i64 45] 1 _ _ rfl rfl rfl rfl O3.out (by simp [Value.oneCell']) B3.out B3.out.size (by have:=HDL.out;unfold maxLen;simp;omega) (by have:=HDL.out;simp;omega) ?_;intro v4 w4 o4 b4 g4 e4
         have O4:=qh o4
         have B4:=qh b4
         have X4:=qh (X3.out.kept g4 (fun e=>HN3.out _ e rfl))
         have HN4:Hid (∀ x,v4.ownBlock=some x→x≠wr.heap.size):=qh fun x hx=>by
          rcases e4 with e4 | ⟨q,e4,hq⟩
          ·exact HN3.out x (e4▸hx)
          ·rw [e4] at hx
           injection hx with hx
           have:=X3.out.lt
           omega
         clear n1
         have n1:w4.cell? ⟨wr.heap.size,1,none⟩=some (.int .i64 q2):=X4.out.cell rfl
         clear o4 b4 g4 e4)
      | fail)
     refine (HQ2.out _).mono ?_
     rintro e w5 ⟨v5,rfl,o5,b5⟩
     have O5:=qh (O4.out.below b5 (Nat.le_refl _))
     have B5:=qh (B4.out.trans (b5.mono B4.out.size))
     obtain ⟨A5,c5,rfl,l5,-,-⟩:=o5.form
     have L5:=qh l5
     clear o5 b5 l5 n1
     simp only [ints,List.length_map]
     go_wp2_with (first
      | (at_builtin;refine app_src intsT w w5 w.heap.size w5.heap.size _ _ _ _ (ints .i64 (quoC q2)) A5 _ c5 rfl rfl rfl rfl (by simp) O5.out L5.out (ints_one _ _) B5.out B5.out.size (by have:=HDL.out;unfold maxLen;simp;omega) (by have:=HDL.out;simp;omega) ?_;intro v6 w6 o6 b6 _ _;have O6:=qh o6;have B6:=qh b6;clear o6 b6)
      | fail)
     go_roundw
     case rel=>exact ⟨k+1,by omega,by go_num,by rw [HI.out];simpa [ints] using O6,B6⟩
     case measure=>simp [intOf];omega
   ·obtain rfl:k=R.length:=by omega
    rw [List.take_length] at HO
    have hdl:=HTL.out R.length
    rw [List.take_length] at hdl
    go_wp2_with (first
     | (at_builtin;refine app_lit intsT w wr w.heap.size _ _ #[.int .i64 93] 1 _ _ rfl rfl rfl rfl HO.out (by simp [Value.oneCell']) HB.out HB.out.size (by unfold maxLen;simp;omega) (by simp;omega) ?_;intro v2 w2 o2 b2 _ _;have O2:=qh o2;have B2:=qh b2;clear o2 b2)
     | fail)
    go_ret
    exact rowed_ret O2.out B2.out (by simp [ints])
 ·obtain ⟨g,off,p1,p2,rfl,hR1,hpq,hcell⟩:=hyes rfl
  have k0:(0:Int) < (R.length:Int):=by omega
  obtain ⟨c0,c1⟩:=hcell w (Below.refl _ _)
  clear hyes hcell
  have HR1:=qh hR1
  clear hR1
  go_enter Tryz.func30,Tryz.ntmps30
  go_wp2_with fail
  go_quiet (fail)
  go_wp2_with fail
  refine (HCH.out _).mono ?_
  rintro e w1 ⟨v1,rfl,o1,b1⟩
  have B1:Hid (Below w.heap.size w w1):=qh (below_then (by exact below_drawn (Below.refl _ _) _) b1)
  have O1:Hid (Own w1 w.heap.size 3 v1 (ints .i64 (91 :: itemsI (R.take 0)))):=qh (by simpa [itemsI] using o1.weaken (by simp))
  clear o1 b1
  go_wp2_with fail
  go_loopw [28,3] (fun iv ov wr=>∃ k:Nat,k≤R.length∧iv=.int .i64 k∧Hid (Own wr w.heap.size 3 ov (ints .i64 (91 :: itemsI (R.take k))))∧Hid (Below w.heap.size w wr)) (fun iv _ _=>R.length - (intOf iv).toNat)
  case atStart=>exact ⟨0,by omega,rfl,O1,B1⟩
  case round =>
   obtain ⟨k,hk,rfl,HO,HB⟩:=hrel
   by_cases hlt:k < R.length
   ·have HN:=qh (HNX.out k hlt)
    have hdl:=HTL.out k
    obtain ⟨g,off,hA,hg,c0,c1⟩:=prC_at (HL.out.up HB.out) hlt
    injection hA with hA
    injection hA with e1 e2
    subst e1 e2
    obtain ⟨p,hp⟩:∃ x,R[k]=x:=⟨_,rfl⟩
    rw [hp] at c0 c1 HN
    obtain ⟨q1,q2⟩:=p
    simp only at c0 c1 HN
    obtain ⟨D,hD⟩:∃ D,itemsI (R.take k)=D:=⟨_,rfl⟩
    rw [hD] at HO HN hdl
    have k0:(0:Int)≤(k:Int):=by omega
    have k1:(k:Int) < (R.length:Int):=by omega
    have hq1:=quoC_len q1
    have hq2:=quoC_len q2
    have HDL:=qh (And.intro hdl (And.intro hq1 hq2))
    have HQ1:=qh (fun u=>shquoted_any u q1)
    have HQ2:=qh (fun u=>shquoted_any u q2)
    have X0:Hid (Box (wr.alloc (.cells #[.int .i64 q1,.int .i64 q2] 66)) wr.heap.size #[.int .i64 q1,.int .i64 q2] 66):=qh (Box.new wr _ _)
    have B0:Hid (Below w.heap.size w (wr.alloc (.cells #[.int .i64 q1,.int .i64 q2] 66))):=qh (HB.out.alloc HB.out.size _)
    have O0:=qh (HO.out.alloc (.cells #[.int .i64 q1,.int .i64 q2] 66))
    have HNE:Hid (∀ x,u3.ownBlock=some x→x < wr.heap.size):=qh fun x hx=>(HO.out.inside x hx).2
    clear hp hD hdl hq1 hq2
    go_wp2_with fail
    refine (HQ1.out _).mono ?_
    rintro e w2 ⟨v2,rfl,o2,b2⟩
    have X2:=qh (X0.out.below b2 X0.out.lt)
    have O2:=qh (O0.out.below b2 (Nat.le_refl _))
    have B2:=qh (B0.out.trans (b2.mono B0.out.size))
    obtain ⟨A2,c2,rfl,l2,-,-⟩:=o2.form
    have L2:=qh l2
    have m0:w2.cell? ⟨wr.heap.size,0,none⟩=some (.int .i64 q1):=X2.out.cell rfl
    have m1:w2.cell? ⟨wr.heap.size,1,none⟩=some (.int .i64 q2):=X2.out.cell rfl
    clear o2 b2 l2
    simp only [ints,List.length_map]
    by_cases hq:q2=q1
    ·obtain rfl:q1=q2:=hq.symm
     have hne:(q1 != q1)=false:=by simp
     have HI:Hid (itemsI (R.take (k+1))=D++quoC q1):=qh (by rw [HN.out];simp)
     go_wp2_with (first
      | (at_builtin;refine app_src intsT w w2 w.heap.size w2.heap.size _ _ _ (ints .i64 (91 :: D)) (ints .i64 (quoC q1)) A2 _ c2 rfl rfl rfl rfl (by simp) O2.out L2.out (ints_one _ _) B2.out B2.out.size (by have:=HDL.out;unfold maxLen;simp;omega) (by have:=HDL.out;simp;omega) ?_;intro v3 w3 o3 b3 g3 e3
         have O3:=qh o3
         have B3:=qh b3
         have X3:=qh (X2.out.kept g3 (fun e=>Nat.lt_irrefl _ (HNE.out _ e)))
         have HN3:Hid (∀ x,v3.ownBlock=some x→x≠wr.heap.size):=qh fun x hx=>by
          rcases e3 with e3 | ⟨q,e3,hq⟩
          ·have:=HNE.out x (e3▸hx);omega
          ·rw [e3] at hx
           injection hx with hx
           have:=X2.out.lt
           omega
         have n0:w3.cell? ⟨wr.heap.size,0,none⟩=some (.int .i64 q1):=X3.out.cell rfl
         have n1:w3.cell? ⟨wr.heap.size,1,none⟩=some (.int .i64 q1):=X3.out.cell rfl
         clear o3 b3 g3 e3 m0 m1)
      | fail)
     go_roundw
     case rel=>exact ⟨k+1,by omega,by go_num,by rw [HI.out];simpa [ints] using O3,B3⟩
     case measure=>simp [intOf];omega
    ·have hne:(q2 != q1)=true:=by simpa using hq
     have HI:Hid (itemsI (R.take (k+1))=D++quoC q1++(45 :: quoC q2)):=qh (by rw [HN.out,if_pos hq];simp)
     clear hq
     go_wp2_with (first
      | (at_builtin;refine app_src intsT w w2 w.heap.size w2.heap.size _ _ _ (ints .i64 (91 :: D)) (ints .i64 (quoC q1)) A2 _ c2 rfl rfl rfl rfl (by simp) O2.out L2.out (ints_one _ _) B2.out B2.out.size (by have:=HDL.out;unfold maxLen;simp;omega) (by have:=HDL.out;simp;omega) ?_;intro v3 w3 o3 b3 g3 e3
         have O3:=qh o3
         have B3:=qh b3
         have X3:=qh (X2.out.kept g3 (fun e=>Nat.lt_irrefl _ (HNE.out _ e)))
         have HN3:Hid (∀ x,v3.ownBlock=some x→x≠wr.heap.size):=qh fun x hx=>by
          rcases e3 with e3 | ⟨q,e3,hq⟩
          ·have:=HNE.out x (e3▸hx);omega
          ·rw [e3] at hx
           injection hx with hx
           have:=X2.out.lt
           omega
         have n0:w3.cell? ⟨wr.heap.size,0,none⟩=some (.int .i64 q1):=X3.out.cell rfl
         have n1:w3.cell? ⟨wr.heap.size,1,none⟩=some (.int .i64 q2):=X3.out.cell rfl
         clear o3 b3 g3 e3 m0 m1)
      | (at_builtin;refine app_lit intsT w w3 w.heap.size _ _ #[.int .i64 45] 1 _ _ rfl rfl rfl rfl O3.out (by simp [Value.oneCell']) B3.out B3.out.size (by have:=HDL.out;unfold maxLen;simp;omega) (by have:=HDL.out;simp;omega) ?_;intro v4 w4 o4 b4 g4 e4
         have O4:=qh o4
         have B4:=qh b4
         have X4:=qh (X3.out.kept g4 (fun e=>HN3.out _ e rfl))
         have HN4:Hid (∀ x,v4.ownBlock=some x→x≠wr.heap.size):=qh fun x hx=>by
          rcases e4 with e4 | ⟨q,e4,hq⟩
          ·exact HN3.out x (e4▸hx)
          ·rw [e4] at hx
           injection hx with hx
           have:=X3.out.lt
           omega
         clear n1
         have n1:w4.cell? ⟨wr.heap.size,1,none⟩=some (.int .i64 q2):=X4.out.cell rfl
         clear o4 b4 g4 e4)
      | fail)
     refine (HQ2.out _).mono ?_
     rintro e w5 ⟨v5,rfl,o5,b5⟩
     have O5:=qh (O4.out.below b5 (Nat.le_refl _))
     have B5:=qh (B4.out.trans (b5.mono B4.out.size))
     obtain ⟨A5,c5,rfl,l5,-,-⟩:=o5.form
     have L5:=qh l5
     clear o5 b5 l5 n1
     simp only [ints,List.length_map]
     go_wp2_with (first
      | (at_builtin;refine app_src intsT w w5 w.heap.size w5.heap.size _ _ _ _ (ints .i64 (quoC q2)) A5 _ c5 rfl rfl rfl rfl (by simp) O5.out L5.out (ints_one _ _) B5.out B5.out.size (by have:=HDL.out;unfold maxLen;simp;omega) (by have:=HDL.out;simp;omega) ?_;intro v6 w6 o6 b6 _ _;have O6:=qh o6;have B6:=qh b6;clear o6 b6)
      | fail)
     go_roundw
     case rel=>exact ⟨k+1,by omega,by go_num,by rw [HI.out];simpa [ints] using O6,B6⟩
     case measure=>simp [intOf];omega
   ·obtain rfl:k=R.length:=by omega
    rw [List.take_length] at HO
    have hdl:=HTL.out R.length
    rw [List.take_length] at hdl
    go_wp2_with (first
     | (at_builtin;refine app_lit intsT w wr w.heap.size _ _ #[.int .i64 93] 1 _ _ rfl rfl rfl rfl HO.out (by simp [Value.oneCell']) HB.out HB.out.size (by unfold maxLen;simp;omega) (by simp;omega) ?_;intro v2 w2 o2 b2 _ _;have O2:=qh o2;have B2:=qh b2;clear o2 b2)
     | fail)
    go_ret
    exact rowed_ret O2.out B2.out (by simp [ints])
theorem shset_one (w:World) (A:Option Addr) (x y:Int) (c:Nat) (h:Lies w w.heap.size A (prC [(x,y)])) (hxy:x=y) :
 Calls Tryz.prog 30 #[.slice A 1 c] w (Rowed w w.heap.size 3 (ints .i64 (quoC x))):=by
 obtain ⟨g,off,rfl,hg,hc⟩:=h.plain (by rw [prC_length];simp)
 have c0:w.cell? ⟨g,off,none⟩=some (.int .i64 x):=by have:=hc 0 (by rw [prC_length];simp);rw [Nat.add_zero] at this;rw [this];rfl
 have c1:w.cell? ⟨g,off+1,none⟩=some (.int .i64 y):=by have:=hc 1 (by rw [prC_length];simp);rw [this];rfl
 have hpq:(x == y)=true:=by simpa using hxy
 have HC:=qh (fun u=>shquoted_any u x)
 clear h hxy hc
 go_enter Tryz.func30,Tryz.ntmps30
 go_wp2_with fail
 go_quiet (fail)
 go_wp2_with fail
 refine (HC.out _).mono ?_
 rintro e w1 ⟨v,rfl,o,b⟩
 have O:=qh o
 have B:=qh b
 clear o b
 go_wp2_with fail
 go_ret
 exact rowed_ret O.out (below_then (by exact below_drawn (Below.refl _ _) _) B.out) rfl
theorem shset_any (w:World) (A:Option Addr) (R:List (Int×Int)) (c:Nat) (h:Lies w w.heap.size A (prC R)) (hl:R.length≤1000) :
 Calls Tryz.prog 30 #[.slice A R.length c] w (Rowed w w.heap.size 3 (ints .i64 (setI R))):=by
 by_cases h1:∃ r,R=[r]∧r.1=r.2
 ·obtain ⟨⟨x,y⟩,rfl,he⟩:=h1
  have he:x=y:=he
  have hs:setI [(x,y)]=quoC x:=by unfold setI;simp [he]
  rw [hs]
  exact shset_one w A x y c h he
 ·exact shset_many w A R c h hl fun r hr he=>h1 ⟨r,hr,he⟩
end
end Go.Proofs.YtoeocodfndbebaaGreatDoor
