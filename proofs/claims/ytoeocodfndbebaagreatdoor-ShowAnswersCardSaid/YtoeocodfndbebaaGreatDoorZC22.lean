/- Shared texts, shaken for one claim. -/
import Derived.Test.YtoeocodfndbebaaGreatDoorChecked
import Derived.Shelf.Spec.SlicesGrow
import Derived.Shelf.Strconv.Itoa3
import Derived.Lib.OthersKept
import Derived.WalkSmall
import Derived.Laws.RangeString
import Derived.Test.YtoeocodfndbebaaGreatDoorZC1
import Derived.Test.YtoeocodfndbebaaGreatDoorZC4
import Derived.Test.YtoeocodfndbebaaGreatDoorZC6
import Derived.Test.YtoeocodfndbebaaGreatDoorZC8
import Derived.Test.YtoeocodfndbebaaGreatDoorZC12
import Derived.Test.YtoeocodfndbebaaGreatDoorZC15
import Derived.Test.YtoeocodfndbebaaGreatDoorZC18
import Derived.Test.YtoeocodfndbebaaGreatDoorZC21
set_option maxRecDepth 20000
set_option maxHeartbeats 16000000
namespace Go.Proofs.YtoeocodfndbebaaGreatDoor
section
open Go.RowKit
theorem fits_any (w:World) (k lo hi:Int) (A A':Option Addr) (rs:List (Int×Int)) (ks:List Nd) (c c':Nat) (h:Lies w w.heap.size A (prC rs)) (hl:rs.length≤9223372036854775807) :
 Calls Tryz.prog 42 #[.agg #[.int .i64 k,.slice A rs.length c,.int .i64 lo,.int .i64 hi,.slice A' ks.length c']] w fun e w'=>e=.returned (.bool (nodeI (.mk k lo hi rs ks)))∧Below w.heap.size w w':=by
 rw [← nodeM_is]
 by_cases h1:k=1
 ·subst h1;exact fits_empty w lo hi A A' rs c ks.length c'
 by_cases h6:k=6
 ·subst h6;exact fits_start w lo hi A A' rs c ks.length c'
 by_cases h7:k=7
 ·subst h7;exact fits_stop w lo hi A A' rs c ks.length c'
 by_cases h2:k=2
 ·subst h2;exact fits_set w lo hi A A' rs c ks.length c' h hl
 by_cases h3:k=3
 ·subst h3;exact fits_join w lo hi A A' rs c ks.length c'
 by_cases h4:k=4
 ·subst h4;exact fits_or w lo hi A A' rs c ks.length c'
 by_cases h5:k=5
 ·subst h5;exact fits_repeat w lo hi A A' rs c ks.length c'
 have:=fits_none w k lo hi A A' rs c ks.length c' (by omega)
 unfold nodeM
 rw [if_neg (by omega),if_neg (by omega),if_neg (by omega),if_neg (by omega)]
 exact this
def MetTo (u:World) (b:Nat) (r:Bool×(Nat×Nat)) (ed:Ending) (u':World):Prop :=
 ed=.returned (.bool r.1)∧(r.1=true→Box u' b #[.int .i64 (r.2.1:Int),.int .i64 (r.2.2:Int)] 43)∧u.grownBy u' (some b)
theorem node_few {k lo hi:Int} {rs:List (Int×Int)} {ks:List Nd} (h:nodeI (.mk k lo hi rs ks)=true):rs.length≤1000000:=by
 obtain ⟨-,-,hr,-,-,-,h2⟩:=node_plain h
 by_cases h2k:k=2
 ·have:=(setR_le rs).1
  rw [h2 h2k] at this
  omega
 ·rw [hr h2k];simp
theorem mt_in {d a b:Nat} {n:Nd} (ha:a≤400) (hb:b≤400) (h:(mtN d n (a,b)).1=true):(mtN d n (a,b)).2.1≤400∧(mtN d n (a,b)).2.2≤400:=by
 have hs:=mtN_spec n d a b ha hb
 rw [hs.2 h]
 have:=hs.1.1 h
 exact ⟨this.1,this.2.1⟩
theorem right_any {w:World} {P:Nat→Prop} {n:Nd} {v:Array Value} (h:Treed w P n v):∀ (u:World) (b d p1 p2:Nat),(∀ x,P x→x < w.heap.size→u.heap[x]?=w.heap[x]?)→w.heap.size≤u.heap.size→(∀ x,P x→x < w.heap.size→x≠b) →
 Box u b #[.int .i64 (p1:Int),.int .i64 (p2:Int)] 43→p1≤400→p2≤400→d≤101 →
 Calls Tryz.prog 21 #[.pointer (some ⟨b,0,none⟩),.agg v,.int .i64 (d:Int)] u (MetTo u b (mtN d n (p1,p2))):=by
 induction h with
 | @mk k lo hi rs ks A A' c c' vs h1 hc h0 h2 hc' hk ih =>
  intro u b d p1 p2 hu hs hPb hB hp1 hp2 hd
  have HU:=qh hu
  have HIH:=qh ih
  have H1:=qh h1
  have H2:=qh h2
  have H5:Hid (∀ v∈vs,v.size=5):=qh fun v hv=>by
   obtain ⟨i,hi,rfl⟩:=List.getElem_of_mem hv
   exact (hk i hi (by omega)).size
  have HFO:=qh (fun (i:Nat) (hi:i < vs.length)=>(hk i hi (by omega)).form)
  have HN0:=qh h0
  have HS:=qh hs
  have HPB:=qh hPb
  have hbl:b < u.heap.size:=hB.lt
  have HBL:=qh hbl
  have hkl:ks.length≤9223372036854775807:=by have h1:=hc'.1;have h2:=hc'.2;unfold maxLen at h2;omega
  have hrl:rs.length≤9223372036854775807:=by have h1:=hc.1;have h2:=hc.2;unfold maxLen at h2;omega
  have hfew:nodeI (.mk k lo hi rs ks)=true→rs.length≤1000000:=node_few
  have HAG:Hid (∀ x,u.grownBy x (some b)→(∀ y,P y→y < w.heap.size→x.heap[y]?=w.heap[y]?)∧w.heap.size≤x.heap.size):=qh fun x g=>⟨fun y hy hl=>(g.block y (Nat.lt_of_lt_of_le hl hs) (fun e=>hPb y hy hl (by injection e))).trans (hu y hy hl),Nat.le_trans hs g.size⟩
  have HFI:Hid (∀ x,u.grownBy x (some b)→Calls Tryz.prog 42 #[.agg #[.int .i64 k,.slice A rs.length c,.int .i64 lo,.int .i64 hi,.slice A' ks.length c']] x fun e w'=>e=.returned (.bool (nodeI (.mk k lo hi rs ks)))∧Below x.heap.size x w'):=qh fun x g=>fits_any x k lo hi A A' rs ks c c' ((h1.keep (HAG.out x g).1 (HAG.out x g).2).lies) (by omega)
  have G0:Hid (u.grownBy (u.alloc (.cells #[.int .i64 k,.slice A rs.length c,.int .i64 lo,.int .i64 hi,.slice A' ks.length c'] 25)) (some b)):=qh (grown_new u _ (some b))
  have X0:Hid (Box (u.alloc (.cells #[.int .i64 k,.slice A rs.length c,.int .i64 lo,.int .i64 hi,.slice A' ks.length c'] 25)) u.heap.size #[.int .i64 k,.slice A rs.length c,.int .i64 lo,.int .i64 hi,.slice A' ks.length c'] 25):=qh (Box.new u _ _)
  -- the answer,and how it is come by
  obtain ⟨Z,hZ⟩:∃ Z,mtN d (.mk k lo hi rs ks) (p1,p2)=Z:=⟨_,rfl⟩
  have HZ:Hid ((if 400 < p1+1∨400 < p2+rs.length∨100 < d∨nodeI (.mk k lo hi rs ks)=false then (false,(p1+1,p2+rs.length)) else mtL (d+1) ks (p1+1,p2+rs.length))=Z):=qh (by rw [← hZ,mtN_def])
  rw [hZ]
  obtain ⟨nb,hnb⟩:∃ r,nodeI (.mk k lo hi rs ks)=r:=⟨_,rfl⟩
  rw [hnb] at HFI HZ hfew
  obtain ⟨y1,hy1⟩:∃ y:Int,(p1:Int)=y:=⟨_,rfl⟩
  obtain ⟨y2,hy2⟩:∃ y:Int,(p2:Int)=y:=⟨_,rfl⟩
  obtain ⟨dd,hdd⟩:∃ y:Int,(d:Int)=y:=⟨_,rfl⟩
  obtain ⟨x1,hx1⟩:∃ y:Int,((p1+1:Nat):Int)=y:=⟨_,rfl⟩
  obtain ⟨x2,hw2⟩:∃ y:Int,IntKind.i64.wrap (y2+(rs.length:Int))=y:=⟨_,rfl⟩
  have hx2:nb=true→((p2+rs.length:Nat):Int)=x2:=fun e=>by
   have:=hfew e
   rw [← hw2,IntWalk.i64_in _ (by omega)];omega
  obtain ⟨d1,hd1⟩:∃ y:Int,((d+1:Nat):Int)=y:=⟨_,rfl⟩
  have hw1:IntKind.i64.wrap (y1+1)=x1:=by rw [IntWalk.i64_in _ (by omega)];omega
  have hw3:IntKind.i64.wrap (dd+1)=d1:=by rw [IntWalk.i64_in _ (by omega)];omega
  have M0:Hid (Box (u.alloc (.cells #[.int .i64 k,.slice A rs.length c,.int .i64 lo,.int .i64 hi,.slice A' ks.length c'] 25)) b #[.int .i64 y1,.int .i64 y2] 43):=qh (hy1▸hy2▸hB.kept (grown_new u _ none) (by simp))
  have m0:(u.alloc (.cells #[.int .i64 k,.slice A rs.length c,.int .i64 lo,.int .i64 hi,.slice A' ks.length c'] 25)).cell? ⟨b,0,none⟩=some (.int .i64 y1):=M0.out.cell rfl
  rw [hdd]
  have HX1:=qh hx1
  have HD1:=qh hd1
  have t1:decide (400 < x1)=decide (400 < p1+1):=by congr 1;rw [← hx1];exact propext ⟨fun h=>by omega,fun h=>by omega⟩
  have t3:decide (100 < dd)=decide (100 < d):=by congr 1;rw [← hdd];exact propext ⟨fun h=>by omega,fun h=>by omega⟩
  obtain ⟨b1,hb1⟩:∃ r,decide (400 < p1+1)=r:=⟨_,rfl⟩
  obtain ⟨b2,hb2⟩:∃ r,decide (400 < x2)=r:=⟨_,rfl⟩
  obtain ⟨b3,hb3⟩:∃ r,decide (100 < d)=r:=⟨_,rfl⟩
  rw [hb1] at t1
  rw [hb3] at t3
  have t1':decide (x1 > 400)=b1:=t1
  have t2':decide (x2 > 400)=b2:=hb2
  have t3':decide (dd > 100)=b3:=t3
  have HNO:Hid (b1=true∨b2=true∨b3=true∨nb=false→Z.1=false):=qh fun h=>by
   rw [← HZ.out,if_pos]
   cases hn:nb
   ·exact .inr (.inr (.inr rfl))
   ·have hx:=hx2 hn
    rcases h with h | h | h | h
    ·exact .inl (by rw [h] at hb1;simpa using hb1)
    ·refine .inr (.inl ?_)
     rw [h] at hb2
     simp at hb2
     omega
    ·exact .inr (.inr (.inl (by rw [h] at hb3;simpa using hb3)))
    ·rw [hn] at h;cases h
  have HYES:Hid (b1=false→b2=false→b3=false→nb=true→Z=mtL (d+1) ks (p1+1,p2+rs.length)∧p1+1≤400∧p2+rs.length≤400∧d≤100∧((p2+rs.length:Nat):Int)=x2):=qh fun e1 e2 e3 e4=>by
   have hx:=hx2 e4
   rw [e1] at hb1
   rw [e2] at hb2
   rw [e3] at hb3
   simp at hb1 hb2 hb3
   refine ⟨?_,by omega,by omega,by omega,hx⟩
   rw [← HZ.out,if_neg]
   simp only [not_or]
   exact ⟨by omega,by omega,by omega,by simp [e4]⟩
  clear hfew h1 h2 hc hc' h0 hk ih hu hs hPb hB hZ hnb hy1 hy2 hdd hx1 hx2 hd1 hb1 hb2 hb3 t1 t3 hp1 hp2
  go_enter Tryz.func21,Tryz.ntmps21
  go_wp2_with (first
   | (refine store_in _ _ _ b 0 (.int .i64 x1) #[.int .i64 y1,.int .i64 y2] rfl rfl rfl intInfo rfl rfl rfl M0.out (by simp) (by simp [maxLen]) ?_;intro w1 m1 g1
      have M1:Hid (Box w1 b #[.int .i64 x1,.int .i64 y2] 43):=qh m1
      have X1:=qh (X0.out.kept g1 (by simp;have:=HBL.out;omega))
      have G1:=qh (G0.out.trans g1)
      clear m1 g1)
   | fail)
  refine wp_region_E (S:=fun w'=>w'.cell? ⟨b,1,none⟩=some (.int .i64 y2)∧w'.cell? ⟨u.heap.size,1,none⟩=some (.slice A rs.length c)) [10] (by kernel_rfl) (by exact ⟨M1.out.cell rfl,X1.out.cell rfl⟩) (fun hHeld hZ=>?_)
  refine' eY 0 hHeld hZ fun hZ=>?_
  try simp only [Act.put,ZA,ZB,ZD,ZE,ZF]
  refine' eY 1 hHeld hZ fun hZ=>?_
  try simp only [Act.put,ZA,ZB,ZC,ZD,ZE,ZF]
  refine' eY 2 hHeld hZ fun hZ=>?_
  try simp only [Act.put,ZA,ZB,ZC,ZD,ZE,ZF]
  refine' eY 3 hHeld hZ fun hZ=>?_
  try simp only [Act.put,ZA,ZB,ZC,ZD,ZE,ZF]
  refine' eY 4 hHeld hZ fun hZ=>?_
  try simp only [Act.put,ZA,ZB,ZC,ZD,ZE,ZF]
  refine' eY 5 hHeld hZ fun hZ=>?_
  try simp only [Act.put,ZA,ZB,ZC,ZD,ZE,ZF]
  refine' eY 6 hHeld hZ fun hZ=>?_
  try simp only [Act.put,ZA,ZB,ZC,ZD,ZE,ZF]
  refine' eY 7 hHeld hZ fun hZ=>?_
  try simp only [Act.put,ZA,ZB,ZC,ZD,ZE,ZF]
  refine' eY 8 hHeld hZ fun hZ=>?_
  try simp only [Act.put,ZA,ZB,ZC,ZD,ZE,ZF]
  refine' eY 9 hHeld hZ fun hZ=>?_
  try simp only [Act.put,ZA,ZB,ZC,ZD,ZE,ZF]
  refine eA 10 fun K hK=>?_
  refine step_in _ _ _ b 1 (.int .i64 x2) #[.int .i64 x1,.int .i64 y2] rfl rfl rfl intInfo rfl rfl rfl (by exact M1.out.same rfl) (by simp) (by simp [maxLen]) ?_
  intro w2 m2 g2
  have M2:Hid (Box w2 b #[.int .i64 x1,.int .i64 x2] 43):=qh m2
  have X2:Hid (Box w2 u.heap.size #[.int .i64 k,.slice A rs.length c,.int .i64 lo,.int .i64 hi,.slice A' ks.length c'] 25):=qh (Box.kept (by exact X1.out.same rfl) g2 (by simp;have:=HBL.out;omega))
  have G2:Hid (u.grownBy w2 (some b)):=qh (World.grownBy.trans (by exact grown_draw G1.out) g2)
  clear m2 g2
  refine eE hK hZ fun hZ=>?_
  clear hK K
  try simp only [Act.put,ZA,ZB,ZC,ZD,ZE,ZF]
  refine wpAnyE_done (by kernel_rfl) ?_ _
  clear hZ
  have c0:w2.cell? ⟨b,0,none⟩=some (.int .i64 x1):=M2.out.cell rfl
  have c1:w2.cell? ⟨b,1,none⟩=some (.int .i64 x2):=M2.out.cell rfl
  have e0:w2.cell? ⟨u.heap.size,0,none⟩=some (.int .i64 k):=X2.out.cell rfl
  have e1:w2.cell? ⟨u.heap.size,1,none⟩=some (.slice A rs.length c):=X2.out.cell rfl
  have e2:w2.cell? ⟨u.heap.size,2,none⟩=some (.int .i64 lo):=X2.out.cell rfl
  have e3:w2.cell? ⟨u.heap.size,3,none⟩=some (.int .i64 hi):=X2.out.cell rfl
  have e4:w2.cell? ⟨u.heap.size,4,none⟩=some (.slice A' ks.length c'):=X2.out.cell rfl
  clear m0
  rcases b1 with _ | _
  case true =>
   have HE:=qh (HNO.out (by simp))
   go_wp2_with fail
   go_ret
   exact ⟨by rw [HE.out];rfl,fun hq=>(by rw [HE.out] at hq;cases hq),G2.out⟩
  rcases b2 with _ | _
  case true =>
   have HE:=qh (HNO.out (by simp))
   go_wp2_with fail
   go_ret
   exact ⟨by rw [HE.out];rfl,fun hq=>(by rw [HE.out] at hq;cases hq),G2.out⟩
  rcases b3 with _ | _
  case true =>
   have HE:=qh (HNO.out (by simp))
   go_wp2_with fail
   go_ret
   exact ⟨by rw [HE.out];rfl,fun hq=>(by rw [HE.out] at hq;cases hq),G2.out⟩
  go_wp2_with fail
  refine (HFI.out _ G2.out).mono ?_
  rintro e w3 ⟨rfl,f3⟩
  have M3:=qh (M2.out.below f3 M2.out.lt)
  have X3:=qh (X2.out.below f3 X2.out.lt)
  have G3:=qh (G2.out.trans (grown_of_below f3 (some b)))
  clear f3 c0 c1 e0 e1 e2 e3 e4
  have q4:w3.cell? ⟨u.heap.size,4,none⟩=some (.slice A' ks.length c'):=X3.out.cell rfl
  rcases nb with _ | _
  ·have HE:=qh (HNO.out (by simp))
   go_wp2_with fail
   go_ret
   exact ⟨by rw [HE.out];rfl,fun hq=>(by rw [HE.out] at hq;cases hq),G3.out⟩
  obtain ⟨hZ,hl1,hl2,hd100,hx2⟩:=HYES.out (by trivial) (by trivial) (by trivial) (by trivial)
  have HZ2:=qh hZ
  have HX2:=qh hx2
  have HL12:=qh (And.intro hl1 (And.intro hl2 hd100))
  clear hZ hl1 hl2 hd100 hd hx2
  go_wp2_with fail
  go_loopw [50] (fun iv wr=>∃ (i q1 q2:Nat),i≤ks.length∧iv=.int .i64 i∧Hid (mtL (d+1) (ks.drop i) (q1,q2)=Z∧q1≤400∧q2≤400)∧Hid (u.grownBy wr (some b))∧Hid (Box wr b #[.int .i64 (q1:Int),.int .i64 (q2:Int)] 43)∧Hid (Box wr u.heap.size #[.int .i64 k,.slice A rs.length c,.int .i64 lo,.int .i64 hi,.slice A' ks.length c'] 25)) (fun iv _=>ks.length - (intOf iv).toNat)
  case atStart=>exact ⟨0,p1+1,p2+rs.length,by omega,rfl,qh ⟨by rw [List.drop_zero];exact HZ2.out.symm,HL12.out.1,HL12.out.2.1⟩,G3,by rw [HX1.out,HX2.out];exact M3,X3⟩
  case round =>
   obtain ⟨i,q1,q2,hi',rfl,HR,HG,HM,HX⟩:=hrel
   by_cases hlt:i < ks.length
   ·have hlv:i < vs.length:=by have:=HN0.out;omega
    obtain ⟨hagree,hsz⟩:=HAG.out wr HG.out
    obtain ⟨g,off,rfl,hg,hcell⟩:=kid_at H2.out H5.out hagree hlv
    obtain ⟨k1,Ar,nr,cr,lo1,hi1,Ak,nk,ck,hv⟩:=HFO.out i hlv
    have r0:wr.cell? ⟨g,off+i * 5,none⟩=vs[i][0]?:=hcell 0 (by decide)
    have r1:=hcell 1 (by decide)
    have r2:=hcell 2 (by decide)
    have r3:=hcell 3 (by decide)
    have r4:=hcell 4 (by decide)
    rw [hv] at r0 r1 r2 r3 r4
    have N1:wr.grownBy (wr.alloc (.cells #[.int .i64 k1,.slice Ar nr cr,.int .i64 lo1,.int .i64 hi1,.slice Ak nk ck] 25)) none:=grown_new _ _ none
    have HMN:=qh (HM.out.kept N1 (by simp))
    have HXN:=qh (HX.out.kept N1 (by simp))
    have HGN:=qh (HG.out.trans (grown_new wr (.cells #[.int .i64 k1,.slice Ar nr cr,.int .i64 lo1,.int .i64 hi1,.slice Ak nk ck] 25) (some b)))
    have hrec:=HIH.out i hlv hlt (wr.alloc (.cells #[.int .i64 k1,.slice Ar nr cr,.int .i64 lo1,.int .i64 hi1,.slice Ak nk ck] 25)) b (d+1) q1 q2 (HAG.out _ HGN.out).1 (HAG.out _ HGN.out).2 HPB.out HMN.out HR.out.2.1 HR.out.2.2 (by have:=HL12.out.2.2;omega)
    rw [hv,HD1.out] at hrec
    have HRC:=qh hrec
    have HST:Hid ((if (mtN (d+1) ks[i] (q1,q2)).1=false then (false,(mtN (d+1) ks[i] (q1,q2)).2) else mtL (d+1) (ks.drop (i+1)) (mtN (d+1) ks[i] (q1,q2)).2)=Z):=qh (by
     rw [← HR.out.1,List.drop_eq_getElem_cons hlt,mtL_next])
    have HIN:Hid ((mtN (d+1) ks[i] (q1,q2)).1=true→(mtN (d+1) ks[i] (q1,q2)).2.1≤400∧(mtN (d+1) ks[i] (q1,q2)).2.2≤400):=qh fun hq=>mt_in HR.out.2.1 HR.out.2.2 hq
    obtain ⟨r,hr⟩:∃ r,mtN (d+1) ks[i] (q1,q2)=r:=⟨_,rfl⟩
    rw [hr] at HRC HST HIN
    have b0:(0:Int)≤(i:Int):=by omega
    have b1:(i:Int) < (ks.length:Int):=by omega
    clear hcell hv hrec hagree N1 hr hsz q4
    simp only [List.getElem?_toArray,List.getElem?_cons_zero,List.getElem?_cons_succ] at r0 r1 r2 r3 r4
    go_wp2_with fail
    refine HRC.out.mono ?_
    rintro e w4 ⟨rfl,m4,g4⟩
    obtain ⟨rb,r1',r2'⟩:=r
    have HG4:=qh (HGN.out.trans g4)
    have HX4:=qh (HXN.out.kept g4 (by simp;have:=HBL.out;omega))
    have HM4':=qh m4
    clear m4 g4
    rcases rb with _ | _
    ·have HE:Hid (Z=(false,(r1',r2'))):=qh (by rw [← HST.out];rfl)
     go_wp2_with fail
     go_ret
     exact ⟨by rw [HE.out];rfl,fun hq=>(by rw [HE.out] at hq;cases hq),HG4.out⟩
    ·have HM4:=qh (HM4'.out rfl)
     have HE:Hid (mtL (d+1) (ks.drop (i+1)) (r1',r2')=Z∧r1'≤400∧r2'≤400):=qh ⟨by rw [← HST.out];rfl,(HIN.out (by trivial)).1,(HIN.out (by trivial)).2⟩
     go_wp2_with fail
     go_roundw
     case rel=>exact ⟨i+1,r1',r2',by omega,by go_num,HE,HG4,HM4,HX4⟩
     case measure=>simp [intOf];omega
   ·obtain rfl:i=ks.length:=by omega
    have HE:Hid (Z=(true,(q1,q2))):=qh (by rw [← HR.out.1,List.drop_length,mtL])
    go_wp2_with fail
    go_ret
    exact ⟨by rw [HE.out];rfl,fun _=>by rw [HE.out];exact HM.out,HG.out⟩
end
section
open Go.RowKit Go.Shelf
def growI_ren:Go.Shelf.Ren:=⟨fun | 4=>48 | n=>n,fun | 22=>26 | 25=>3 | 3=>3 | 4=>4 | 9=>9 | 20=>20 | 0=>0 | n=>n,fun | n=>n⟩
theorem growI:Go.Proofs.Lays8.n4 Tryz.prog growI_ren:={
 mixed:=by kernel_rfl
 f4:=⟨Tryz.f48.name,by decide,Tryz.func48.trans (congrArg some (by kernel_rfl))⟩
 t0:=Tryz.underlying0
 a0:=Tryz.isAgg0
 z0:=Tryz.sizeOf0
 v0:=Tryz.zeroValue0
 t3:=Tryz.underlying3
 a3:=Tryz.isAgg3
 z3:=Tryz.sizeOf3
 v3:=Tryz.zeroValue3
 t4:=Tryz.underlying4
 a4:=Tryz.isAgg4
 z4:=Tryz.sizeOf4
 v4:=Tryz.zeroValue4
 t9:=Tryz.underlying9
 a9:=Tryz.isAgg9
 z9:=Tryz.sizeOf9
 v9:=Tryz.zeroValue9
 t20:=Tryz.underlying20
 a20:=Tryz.isAgg20
 z20:=Tryz.sizeOf20
 v20:=Tryz.zeroValue20
 t22:=Tryz.underlying26
 a22:=Tryz.isAgg26
 z22:=Tryz.sizeOf26
 v22:=Tryz.zeroValue26 }
end
section
open Go.RowKit Go.Shelf Go.Sort
def laysM171_ren:Go.Shelf.Ren:=⟨fun | 171=>50 | 243=>72 | 246=>90 | 283=>98 | 284=>99 | 285=>100 | 286=>101 | 129=>122 | 317=>121 | 318=>123 | 319=>124 | 320=>125 | 337=>137 | 338=>138 | n=>n,fun | 3=>3 | 9=>9 | 2=>2 | 4=>4 | 171=>117 | 0=>0 | 53=>118 | 37=>121 | 5=>5 | 173=>122 | 212=>137 | 51=>138 | 20=>20 | 213=>139 | 46=>140 | 232=>156 | 233=>157 | n=>n,fun | 17=>0 | 18=>1 | 19=>2 | n=>n⟩
theorem laysM171:Go.Proofs.LaysM.n171 Tryz.prog laysM171_ren:={
 mixed:=by kernel_rfl
 f129:=Tryz.func122.trans (congrArg some (by kernel_rfl))
 f171:=Tryz.func50.trans (congrArg some (by kernel_rfl))
 f243:=Tryz.func72.trans (congrArg some (by kernel_rfl))
 f246:=Tryz.func90.trans (congrArg some (by kernel_rfl))
 f283:=Tryz.func98.trans (congrArg some (by kernel_rfl))
 f284:=Tryz.func99.trans (congrArg some (by kernel_rfl))
 f285:=Tryz.func100.trans (congrArg some (by kernel_rfl))
 f286:=Tryz.func101.trans (congrArg some (by kernel_rfl))
 f317:=Tryz.func121.trans (congrArg some (by kernel_rfl))
 f318:=Tryz.func123.trans (congrArg some (by kernel_rfl))
 f319:=Tryz.func124.trans (congrArg some (by kernel_rfl))
 f320:=Tryz.func125.trans (congrArg some (by kernel_rfl))
 f337:=Tryz.func137.trans (congrArg some (by kernel_rfl))
 f338:=Tryz.func138.trans (congrArg some (by kernel_rfl))
 t0:=Tryz.underlying0
 a0:=Tryz.isAgg0
 z0:=Tryz.sizeOf0
 v0:=Tryz.zeroValue0
 t2:=Tryz.underlying2
 a2:=Tryz.isAgg2
 z2:=Tryz.sizeOf2
 v2:=Tryz.zeroValue2
 t3:=Tryz.underlying3
 a3:=Tryz.isAgg3
 z3:=Tryz.sizeOf3
 v3:=Tryz.zeroValue3
 t4:=Tryz.underlying4
 a4:=Tryz.isAgg4
 z4:=Tryz.sizeOf4
 v4:=Tryz.zeroValue4
 t5:=Tryz.underlying5
 a5:=Tryz.isAgg5
 z5:=Tryz.sizeOf5
 v5:=Tryz.zeroValue5
 t9:=Tryz.underlying9
 a9:=Tryz.isAgg9
 z9:=Tryz.sizeOf9
 v9:=Tryz.zeroValue9
 t20:=Tryz.underlying20
 a20:=Tryz.isAgg20
 z20:=Tryz.sizeOf20
 v20:=Tryz.zeroValue20
 t37:=Tryz.underlying121
 a37:=Tryz.isAgg121
 z37:=Tryz.sizeOf121
 v37:=Tryz.zeroValue121
 t46:=Tryz.underlying140
 a46:=Tryz.isAgg140
 z46:=Tryz.sizeOf140
 v46:=Tryz.zeroValue140
 t51:=Tryz.underlying138
 a51:=Tryz.isAgg138
 z51:=Tryz.sizeOf138
 v51:=Tryz.zeroValue138
 t53:=Tryz.underlying118
 a53:=Tryz.isAgg118
 z53:=Tryz.sizeOf118
 v53:=Tryz.zeroValue118
 t171:=Tryz.underlying117
 a171:=Tryz.isAgg117
 z171:=Tryz.sizeOf117
 v171:=Tryz.zeroValue117
 t173:=Tryz.underlying122
 a173:=Tryz.isAgg122
 z173:=Tryz.sizeOf122
 v173:=Tryz.zeroValue122
 t212:=Tryz.underlying137
 a212:=Tryz.isAgg137
 z212:=Tryz.sizeOf137
 v212:=Tryz.zeroValue137
 t213:=Tryz.underlying139
 a213:=Tryz.isAgg139
 z213:=Tryz.sizeOf139
 t232:=Tryz.underlying156
 a232:=Tryz.isAgg156
 z232:=Tryz.sizeOf156
 v232:=Tryz.zeroValue156
 t233:=Tryz.underlying157
 a233:=Tryz.isAgg157
 z233:=Tryz.sizeOf157
 v233:=Tryz.zeroValue157
 g17:=by kernel_rfl
 g18:=by kernel_rfl
 g19:=by kernel_rfl
 i0:=by kernel_rfl
 i2:=by kernel_rfl
 i3:=by kernel_rfl
 i4:=by kernel_rfl
 i5:=by kernel_rfl
 i9:=by kernel_rfl
 i20:=by kernel_rfl
 i37:=by kernel_rfl
 i46:=by kernel_rfl
 i51:=by kernel_rfl
 i53:=by kernel_rfl
 i171:=by kernel_rfl
 i173:=by kernel_rfl
 i212:=by kernel_rfl
 i232:=by kernel_rfl
 i233:=by kernel_rfl
 m17:=by kernel_rfl
 m18:=by kernel_rfl
 m19:=by kernel_rfl }
end
section
open Go.RowKit
def strI (s:ByteArray):List Int:=s.data.toList.map fun b=>(b.toNat:Int)
theorem strI_length (s:ByteArray):(strI s).length=s.size:=by simp [strI]
theorem strI_at (s:ByteArray) (i:Nat) (h:i < s.size):(strI s)[i]'(by rw [strI_length];exact h)=((s[i]'h).toNat:Int):=by
 simp [strI]
 try rfl
theorem itoa_any (n:Int) (h0:-9223372036854775808≤n) (h1:n≤9223372036854775807) (w:World) (ht:Lib.TabIs Tryz.prog w "internal/strconv.uint64pow10" .u64 Lib.pow10Tab) :
 Calls Tryz.prog 50 #[.int .i64 n] w fun e w'=>e=.returned (.string ⟨(Lib.itoa n).toArray⟩)∧w.grownBy w' none:=by
 refine (Any.strconv_Itoa laysM171 n h0 h1 w ht).mono ?_
 rintro e w' ⟨he,k,os,rfl⟩
 refine ⟨he,rfl,rfl,rfl,by simp [Sort.grow],fun i hi _=>?_⟩
 show (w.heap++os)[i]?=w.heap[i]?
 exact Array.getElem?_append_left hi
structure PowT (w:World):Prop where
 big:0 < w.heap.size
 tab:Lib.TabIs Tryz.prog w "internal/strconv.uint64pow10" .u64 Lib.pow10Tab
theorem gPow:Tryz.prog.globalNamed "internal/strconv.uint64pow10"=some 0:=by kernel_rfl
theorem PowT.grown {w w':World} (h:PowT w) (hg:w.grownBy w' none):PowT w' :=
 ⟨Nat.lt_of_lt_of_le h.big hg.size,var?_below (below_row_none hg (Nat.le_refl _)) gPow h.big h.tab⟩
theorem PowT.below {w w':World} (h:PowT w) (hg:Below w.heap.size w w'):PowT w' :=
 ⟨Nat.lt_of_lt_of_le h.big hg.size,var?_below hg gPow h.big h.tab⟩
theorem chars_any (s:ByteArray) (w:World) (hs:s.size≤100) (ha:∀ i (h:i < s.size),(s[i]'h).toNat < 128) :
 Calls Tryz.prog 29 #[.string s] w (Rowed w w.heap.size 3 (ints .i64 (strI s))):=by
 have HA:=qh ha
 have HLN:=qh (strI_length s)
 clear ha
 go_enter Tryz.func29,Tryz.ntmps29
 go_wp2
 go_loopw [3] (fun v wr=>∃ pos:Nat,wr.heap[w.heap.size]?=some (.stringIter s pos)∧Own wr (w.heap.size+1) 3 v (ints .i64 ((strI s).take pos))∧Below w.heap.size w wr∧pos≤s.size) (fun _ wr=>s.size - wr.iterPos w.heap.size)
 case atStart=>exact ⟨0,World.iter_heap w s 0,Own.empty _ _ _,(Below.refl _ _).alloc (Nat.le_refl _) _,by omega⟩
 case round =>
  obtain ⟨pos,hit,ho,hb,hp⟩:=hrel
  have hpos0:=iterPos_eq hit
  have hlt:=heap_lt hit
  by_cases hps:pos < s.size
  ·have hnx:∀ ty,(Instr.next (.pointer (some ⟨w.heap.size,0,none⟩)) true ty).run Tryz.prog wr=_:=fun ty=>Lib.run_next_any_at wr w.heap.size s pos ty hit hps
   have hasc:=HA.out pos hps
   rw [decode_ascii s pos hps hasc] at hnx
   simp only at hnx
   have hch:=strI_at s pos hps
   obtain ⟨x,hx⟩:∃ x,(s[pos]'hps).toNat=x:=⟨_,rfl⟩
   rw [hx] at hnx hasc hch
   have HN:Hid ((strI s).take (pos+1)=(strI s).take pos++[(x:Int)]):=qh (by rw [List.take_succ_eq_append_getElem (by rw [strI_length];exact hps),hch])
   have hit2:=Lib.iterAt_heap wr w.heap.size s pos (pos+1) hit
   have hb2:=Lib.below_iterAt hb (k:=w.heap.size) (Nat.le_refl _) s (pos+1)
   have p1:=ho.iterAt (k:=w.heap.size) (by omega) s (pos+1)
   have hz:w.heap.size+1≤(wr.iterAt w.heap.size s (pos+1)).heap.size:=by have:=heap_lt hit2;omega
   obtain ⟨W1,hW1⟩:∃ W1,W1=wr.iterAt w.heap.size s (pos+1):=⟨_,rfl⟩
   rw [← hW1] at hnx hit2 hb2 p1 hz
   have hdl:(ints .i64 ((strI s).take pos)).length≤100:=by simp;omega
   have hw1:IntKind.i64.wrap (x:Int)=(x:Int):=IntWalk.i64_in _ (by omega)
   have Q1:=qh p1
   have QI:=qh hit2
   have QP:=qh hpos0
   clear hW1 hit ho hb hx hch p1 hit2 hpos0 hasc
   go_wp2_with (first
    | (at_builtin;refine app_lit intsT W1 _ (w.heap.size+1) _ _ _ _ _ _ rfl rfl rfl rfl Q1.out (by simp [Value.oneCell']) (Below.refl _ _) hz (by unfold maxLen;simp only [List.size_toArray,List.length_cons,List.length_nil];omega) (by simp only [List.size_toArray,List.length_cons,List.length_nil];omega) ?_;intro v1' w2 o1 b1 g1 l1
       have o1':=qh o1
       clear o1 g1 l1 Q1))
   have hit3:w2.heap[w.heap.size]?=some (.stringIter s (pos+1)):=(b1.block _ (by omega)).trans QI.out
   have hb3:=hb2.trans (b1.mono (by omega))
   go_roundw
   case rel=>exact ⟨_,hit3,by rw [HN.out];simpa [ints] using o1'.out,hb3,by omega⟩
   case measure=>rw [iterPos_eq hit3,QP.out];omega
  ·have hnx:∀ ty,(Instr.next (.pointer (some ⟨w.heap.size,0,none⟩)) true ty).run Tryz.prog wr=_:=fun ty=>Lib.run_next_end_at wr w.heap.size s pos ty hit hps
   obtain rfl:pos=s.size:=by omega
   have Q1:=qh ho
   have HT:Hid ((strI s).take s.size=strI s):=qh (by rw [← HLN.out,List.take_length])
   clear ho hit hpos0
   go_wp2
   go_ret
   exact rowed_ret (Q1.out.weaken (Nat.le_succ _)) hb (by rw [HT.out])
end
section
open Go.RowKit
theorem quoteI_one (c:Int):quoteI [c]=quoC c:=by simp [quoteI,quoC]
theorem shquoted_any (w:World) (c:Int):Calls Tryz.prog 47 #[.int .i64 c] w (Rowed w w.heap.size 3 (ints .i64 (quoC c))):=by
 have HL:=qh (Lies.litUp (w:=w) (e:=3) #[.int .i64 c])
 have HC:=qh (tkquote_any (w.alloc (.cells #[.int .i64 c] 3)) _ [c] 1 HL.out (by simp))
 rw [quoteI_one] at HC
 go_enter Tryz.func47,Tryz.ntmps47
 go_wp2_with fail
 refine HC.out.mono ?_
 rintro e w1 ⟨v,rfl,o,b⟩
 have O:=qh o
 have B:=qh (below_then (below_alloc w _) b)
 clear o b
 go_wp2_with fail
 go_ret
 exact rowed_ret (O.out.weaken (by simp)) B.out rfl
theorem growz_any (w:World) (n:Nat) (hn:n≤20000):Calls Tryz.prog 48 #[.slice none 0 0,.int .i64 n] w fun e w'=>∃ v,e=.returned v∧Own w' w.heap.size 3 v []∧w.grownBy w' none:=by
 rcases Nat.eq_zero_or_pos n with rfl | h0
 ·refine (Any8.slices_Grow_room growI none 0 0 0 w (by decide) (by decide) (by decide) (by decide)).mono ?_
  rintro e w' ⟨rfl,rfl⟩
  exact ⟨_,rfl,Own.empty _ _ _,grown_refl _ _⟩
 ·have hsome:(Tryz.prog.info? 3).isSome=true:=by kernel_rfl
  obtain ⟨i0,hi0⟩:=Option.isSome_iff_exists.1 hsome
  have hz:i0.zero=some (.int .i64 0):=by
   have h:(Tryz.prog.info? 3).bind (·.zero)=some (.int .i64 0):=by kernel_rfl
   rw [hi0] at h;exact h
  have hs:i0.size=1:=by
   have h:(Tryz.prog.info? 3).map (·.size)=some 1:=by kernel_rfl
   rw [hi0] at h;injection h
  have hb:i0.bytes=8:=by
   have h:(Tryz.prog.info? 3).map (·.bytes)=some 8:=by kernel_rfl
   rw [hi0] at h;injection h
  refine (Any8.slices_Grow_grow growI i0 (.int .i64 0) hi0 hz (by omega) none 0 0 n [] w (by omega) (by omega) (by rw [hb];omega) (by omega) (by simp) (fun _=>rfl) (fun a h=>by cases h)).mono ?_
  rintro e w' ⟨rfl,rfl⟩
  obtain ⟨G,hG⟩:∃ G,grownCap w (0+n) 0 (growI_ren.t 25)=G:=⟨_,rfl⟩
  have h1:n≤G:=by rw [← hG];have:=grownCap_ge w (0+n) 0 (growI_ren.t 25);omega
  have h2:G≤maxLen:=by rw [← hG];exact grownCap_le_maxLen w (0+n) 0 _ (by unfold maxLen;omega)
  rw [hG]
  obtain ⟨cs,hcs⟩:∃ cs,(([]:List Value).toArray++Builtin.zeroCells (Value.int .i64 0).cells (0+n - 0)++Builtin.zeroCells (Value.int .i64 0).cells (G - (0+n)))=cs:=⟨_,rfl⟩
  have hsz:cs.size=G * 1:=by
   rw [← hcs]
   simp only [Array.size_append,size_zeroCells]
   simp [Value.cells]
   omega
  rw [hcs]
  have o:OwnN (w.drew.alloc (.cells cs 3)) w.heap.size 3 1 (.slice (some ⟨w.heap.size,0,none⟩) G G) G cs.toList:=OwnN.ofLit (w:=w.drew) cs (Nat.le_refl _) h2 hsz
  obtain ⟨A,c,hv,-,o2⟩:=o.short (Nat.zero_le _)
  injection hv with e1 e2 e3
  subst e1 e3
  refine ⟨_,rfl,?_,?_⟩
  ·have o3:OwnN (w.drew.alloc (.cells cs 3)) w.heap.size 3 1 (.slice (some ⟨w.heap.size,0,none⟩) 0 G) 0 []:=by simpa using o2
   exact o3
  ·exact World.grownBy.trans (grown_draw (grown_refl w none)) (grown_new w.drew _ none)
abbrev RowsL:=List (Option Addr×List Int×Nat)
def rowV (x:Option Addr×List Int×Nat):Value:=.slice x.1 x.2.1.length x.2.2
def sumLen (L:RowsL):Nat:=(L.flatMap (·.2.1)).length
theorem sumLen_next {L:RowsL} {k:Nat} (h:k < L.length):sumLen (L.take (k+1))=sumLen (L.take k)+L[k].2.1.length:=by
 unfold sumLen
 rw [List.take_succ_eq_append_getElem h,List.flatMap_append,List.length_append,List.flatMap_cons,List.flatMap_nil,List.append_nil]
theorem sumLen_le (L:RowsL) (k:Nat):sumLen (L.take k)≤sumLen L:=by
 have:sumLen L=sumLen (L.take k)+sumLen (L.drop k):=by
  unfold sumLen
  rw [← List.length_append,← List.flatMap_append,List.take_append_drop]
 omega
theorem concat_any (w:World) (A:Option Addr) (L:RowsL) (c:Nat) (h:Lies w w.heap.size A (L.map rowV)) (hL:∀ x∈L,Lies w w.heap.size x.1 (ints .i64 x.2.1)) (hn:L.length≤10) (hs:sumLen L≤20000) :
 Calls Tryz.prog 32 #[.slice A L.length c] w (Rowed w w.heap.size 3 (ints .i64 (L.flatMap (·.2.1)))):=by
 have H:=qh h
 have HL:=qh hL
 have HSM:=qh hs
 have HNX:=qh (fun k (hk:k < L.length)=>sumLen_next hk)
 have HLE:=qh (fun k=>sumLen_le L k)
 have HC:Hid (∀ (u:World) k (_:k < L.length),Below w.heap.size w u→∃ g off,A=some ⟨g,off,none⟩∧u.cell? ⟨g,off+k,none⟩=some (rowV L[k])):=qh fun u k hk b=>by
  obtain ⟨g,off,rfl,hp,hc⟩:=h.plain (by simp;omega)
  exact ⟨g,off,rfl,by rw [b.cell (p:=⟨g,off+k,none⟩) hp,hc k (by simpa using hk)];simp⟩
 clear h hL hs
 go_enter Tryz.func32,Tryz.ntmps32
 go_wp2_with fail
 go_loopw [11,3] (fun iv sv wr=>∃ k:Nat,k≤L.length∧iv=.int .i64 k∧sv=.int .i64 (sumLen (L.take k))∧wr=w) (fun iv _ _=>L.length - (intOf iv).toNat)
 case atStart=>exact ⟨0,by omega,rfl,rfl,rfl⟩
 case round =>
  obtain ⟨k,hk,rfl,rfl,rfl⟩:=hrel
  by_cases hlt:k < L.length
  ·obtain ⟨g,off,rfl,hc⟩:=HC.out wr k hlt (Below.refl _ _)
   have HN:=qh (HNX.out k hlt)
   have hle:=HLE.out (k+1)
   have hsm:=HSM.out
   obtain ⟨x,hx⟩:∃ x,L[k]=x:=⟨_,rfl⟩
   rw [hx] at hc HN
   obtain ⟨x1,x2,x3⟩:=x
   simp only [rowV] at hc HN
   obtain ⟨s,hs⟩:∃ s,sumLen (L.take k)=s:=⟨_,rfl⟩
   obtain ⟨m,hm⟩:∃ m,x2.length=m:=⟨_,rfl⟩
   rw [hs,hm] at HN
   rw [hm] at hc
   rw [HN.out] at hle
   rw [hs]
   have k0:(0:Int)≤(k:Int):=by omega
   have k1:(k:Int) < (L.length:Int):=by omega
   obtain ⟨y,hy⟩:∃ y:Int,((s+m:Nat):Int)=y:=⟨_,rfl⟩
   have hw1:IntKind.i64.wrap ((s:Int)+(m:Int))=y:=by rw [IntWalk.i64_in _ (by omega)];omega
   have hy0:decide (y < 0)=false:=decide_eq_false (by omega)
   have HY:=qh hy
   clear hx hs hm hle hsm hy
   go_wp2_with fail
   go_roundw
   case rel=>exact ⟨k+1,by omega,by go_num,by rw [HN.out,HY.out],trivial⟩
   case measure=>simp [intOf];omega
  ·obtain rfl:k=L.length:=by omega
   rw [List.take_length]
   obtain ⟨s,hs⟩:∃ s,sumLen L=s:=⟨_,rfl⟩
   rw [hs] at HSM ⊢
   have HG:=qh (growz_any wr s HSM.out)
   have HZ:=qh hs
   clear hs
   go_wp2_with fail
   refine HG.out.mono ?_
   rintro e w1 ⟨v,rfl,o1,g1⟩
   have O1:=qh o1
   have B1:=qh (below_row_none g1 (Nat.le_refl _))
   clear o1 g1
   obtain ⟨w,rfl⟩:∃ w,w=wr:=⟨_,rfl⟩
   go_wp2_with fail
   go_loopw [27,6] (fun iv ov wr=>∃ k:Nat,k≤L.length∧iv=.int .i64 k∧Hid (Own wr w.heap.size 3 ov (ints .i64 ((L.take k).flatMap (·.2.1))))∧Hid (Below w.heap.size w wr)) (fun iv _ _=>L.length - (intOf iv).toNat)
   case atStart=>exact ⟨0,by omega,rfl,by simpa [ints] using O1,B1⟩
   case round =>
    obtain ⟨k,hk,rfl,HO,HB⟩:=hrel
    by_cases hlt:k < L.length
    ·obtain ⟨g,off,rfl,hc⟩:=HC.out wr k hlt HB.out
     have HN:Hid ((L.take (k+1)).flatMap (·.2.1)=(L.take k).flatMap (·.2.1)++L[k].2.1):=qh (by rw [List.take_succ_eq_append_getElem hlt,List.flatMap_append,List.flatMap_cons,List.flatMap_nil,List.append_nil])
     have hle:=HLE.out (k+1)
     have hsm:=HSM.out
     have hz:=HZ.out
     have HX:=HL.out L[k] (List.getElem_mem hlt)
     obtain ⟨x,hx⟩:∃ x,L[k]=x:=⟨_,rfl⟩
     rw [hx] at hc HN HX
     obtain ⟨x1,x2,x3⟩:=x
     simp only [rowV] at hc HN HX
     have hX:Lies wr wr.heap.size x1 (ints .i64 x2):=HX.up HB.out
     obtain ⟨D,hD⟩:∃ D,(L.take k).flatMap (·.2.1)=D:=⟨_,rfl⟩
     rw [hD] at HO HN
     have hlen:D.length+x2.length≤20000:=by
      have:sumLen (L.take (k+1))=D.length+x2.length:=by unfold sumLen;rw [HN.out,List.length_append]
      omega
     have LX:=qh hX
     have k0:(0:Int)≤(k:Int):=by omega
     have k1:(k:Int) < (L.length:Int):=by omega
     clear hx hle hsm hz HX hX hD
     go_wp2_with (first
      | (at_builtin;refine app_src intsT w wr w.heap.size wr.heap.size _ _ _ (ints .i64 D) (ints .i64 x2) x1 _ x3 rfl rfl rfl rfl (by simp) HO.out LX.out (ints_one _ _) HB.out HB.out.size (by unfold maxLen;simp;omega) (by simp;omega) ?_;intro v2 w2 o2 b2 _ _;have O2:=qh o2;have B2:=qh b2;clear o2 b2)
      | fail)
     go_roundw
     case rel=>exact ⟨k+1,by omega,by go_num,by rw [HN.out];simpa [ints] using O2,B2⟩
     case measure=>simp [intOf];omega
    ·obtain rfl:k=L.length:=by omega
     rw [List.take_length] at HO
     go_wp2_with fail
     go_ret
     exact rowed_ret HO.out HB.out rfl
end
end Go.Proofs.YtoeocodfndbebaaGreatDoor
