/- P17.2, ShowBack: what is shown is parsed as it was, unless it is too deep, or too great; what is neat stays so. Any tree, any pattern, any flags. -/
import Derived.Test.YtoeocodfndbebaaGreatDoorZB11
import Derived.Test.YtoeocodfndbebaaGreatDoorZB38
import Derived.Test.YtoeocodfndbebaaGreatDoorZB39
set_option maxRecDepth 20000
set_option maxHeartbeats 16000000
namespace Go.Proofs.YtoeocodfndbebaaGreatDoor.lawBack
open Go.ChangeShapes Go.WideShapes Go.ChangeAt Go.RowKit
theorem walk (w:World) (hT:Tabs4 w) (n:Nd) (V:Array Value) (tn:Treed w (fun x=>x < w.heap.size) n V) (A:Option Addr) (l:List Int) (c:Nat) (hc:l.length≤c) (hm:c≤maxLen) (h:Lies w w.heap.size A (ints .i64 l)) (wf:∀ x∈l,(Lit.int .i64 x).wf=true) (f:Int) (_:(Lit.int .i64 f).wf=true) :
 Calls Tryz.prog 4 #[.agg V,.slice A l.length c,.int .i64 f] w fun e w'=>e=.returned (.bool true)∧Below w.heap.size w w':=by
 obtain ⟨A1,m1,c1,lo1,hi1,K1,n1,d1,hva⟩:=tn.kind
 obtain ⟨kn,hkn⟩:∃ x,kindN n=x:=⟨_,rfl⟩
 rw [hkn] at hva
 subst hva
 have hll:l.length≤9223372036854775807:=by unfold maxLen at hm;omega
 have B0:Hid (Below w.heap.size w (w.alloc (.cells #[.int .i64 kn,.slice A1 m1 c1,.int .i64 lo1,.int .i64 hi1,.slice K1 n1 d1] 25))):=qh (below_alloc w _)
 have X0:Hid (Box (w.alloc (.cells #[.int .i64 kn,.slice A1 m1 c1,.int .i64 lo1,.int .i64 hi1,.slice K1 n1 d1] 25)) w.heap.size #[.int .i64 kn,.slice A1 m1 c1,.int .i64 lo1,.int .i64 hi1,.slice K1 n1 d1] 25):=qh (Box.new w _ _)
 have HAG:Hid (∀ u,Below w.heap.size w u→Agree w (fun x=>x < w.heap.size) u):=qh fun u hb=>⟨fun x hx _=>hb.block x hx,hb.size⟩
 have TN:=qh tn
 obtain ⟨pa,hpa⟩:∃ x,patI n=x:=⟨_,rfl⟩
 have HWA:=qh (fun u (hb:Below w.heap.size w u)=>weight_some tn u 0 (HAG.out u hb).1 (HAG.out u hb).2 (by decide) (by decide))
 have HPA:=fun u (hb:Below w.heap.size w u)=>shpattern_any tn u (HAG.out u hb) (hT.below hb).pow
 rw [hpa] at HPA
 have QA:=qh HPA
 have HPN:=qh hpa
 have HLV:=qh (live_any (w.alloc (.cells #[.int .i64 kn,.slice A1 m1 c1,.int .i64 lo1,.int .i64 hi1,.slice K1 n1 d1] 25)) (hT.below B0.out))
 have HNT:Hid (∀ u,Below w.heap.size w u→Calls Tryz.prog 11 #[.slice A l.length c,.int .i64 f] u (Neat3 u (neatI l f))):=qh fun u hb=>neat_any u (hT.below hb).fo (hT.below hb).pow A l c f (h.up hb) hc
 have HNX:Hid (∀ (u:World) (A2:Option Addr) (x:List Int) (c2:Nat),Below w.heap.size w u→Lies u u.heap.size A2 (ints .i64 x)→x.length≤c2→Calls Tryz.prog 11 #[.slice A2 x.length c2,.int .i64 0] u (Neat3 u (neatI x 0))):=qh fun u A2 x c2 hb h2 h3=>neat_any u (hT.below hb).fo (hT.below hb).pow A2 x c2 0 h2 h3
 obtain ⟨px,pe⟩:=pa
 simp only at QA
 clear hT tn hkn hpa HPA hc hm h wf
 go_enter Tryz.func4,Tryz.ntmps4
 go_wp2_with fail
 refine HLV.out.mono ?_
 rintro e w1 ⟨rfl,b1⟩
 have B1:=qh (below_then B0.out b1)
 have X1:=qh (X0.out.below b1 X0.out.lt)
 clear b1
 have a0:w1.cell? ⟨w.heap.size,0,none⟩=some (.int .i64 kn):=X1.out.cell rfl
 have a1:w1.cell? ⟨w.heap.size,1,none⟩=some (.slice A1 m1 c1):=X1.out.cell rfl
 have a2:w1.cell? ⟨w.heap.size,2,none⟩=some (.int .i64 lo1):=X1.out.cell rfl
 have a3:w1.cell? ⟨w.heap.size,3,none⟩=some (.int .i64 hi1):=X1.out.cell rfl
 have a4:w1.cell? ⟨w.heap.size,4,none⟩=some (.slice K1 n1 d1):=X1.out.cell rfl
 go_wp2_with fail
 refine (HWA.out _ B1.out).mono ?_
 rintro e w2 ⟨⟨z1,rfl⟩,g2⟩
 have B2:=qh (below_then B1.out (below_row_none g2 (Nat.le_refl _)))
 have X2:=qh (X1.out.kept g2 (by simp))
 clear g2 a0 a1 a2 a3 a4
 rcases hz1:decide (1000 < z1) with _ | _
 case true =>
  have hz1':decide (z1 > 1000)=true:=hz1
  go_wp2_with fail
  go_ret
  exact ⟨rfl,B2.out⟩
 have hz1':decide (z1 > 1000)=false:=hz1
 by_cases hl:300 < l.length
 case pos =>
  have e1:decide (300 < (l.length:Int))=true:=decide_eq_true (by omega)
  have e2:decide ((l.length:Int) > 300)=true:=e1
  have e3:decide (300 < l.length)=true:=decide_eq_true hl
  clear hl
  go_wp2_with fail
  go_ret
  exact ⟨rfl,B2.out⟩
 have e1:decide (300 < (l.length:Int))=false:=decide_eq_false (by omega)
 have e2:decide ((l.length:Int) > 300)=false:=e1
 have e3:decide (300 < l.length)=false:=decide_eq_false (by omega)
 clear hl
 have a0:w2.cell? ⟨w.heap.size,0,none⟩=some (.int .i64 kn):=X2.out.cell rfl
 have a1:w2.cell? ⟨w.heap.size,1,none⟩=some (.slice A1 m1 c1):=X2.out.cell rfl
 have a2:w2.cell? ⟨w.heap.size,2,none⟩=some (.int .i64 lo1):=X2.out.cell rfl
 have a3:w2.cell? ⟨w.heap.size,3,none⟩=some (.int .i64 hi1):=X2.out.cell rfl
 have a4:w2.cell? ⟨w.heap.size,4,none⟩=some (.slice K1 n1 d1):=X2.out.cell rfl
 go_wp2_with fail
 refine (QA.out _ B2.out).mono ?_
 rintro e w4 ⟨v4,rfl,o4,b4⟩
 obtain ⟨A4,c4,rfl,l4,hc4,-⟩:=o4.form
 have L4:=qh l4
 have B4:=qh (below_then B2.out b4)
 have X4:=qh (X2.out.below b4 X2.out.lt)
 clear o4 l4 b4 a0 a1 a2 a3 a4
 simp only [ints,List.length_map]
 go_upto_if 34 with fail
 go_cut [] (fun wx=>Hid (Below w.heap.size w wx))
 case first =>
  rcases hpe:(pe == 0) with _ | _
  ·go_wp2_with fail
   go_meet
   exact B4
  ·have hz:pe=0:=by simpa using hpe
   subst hz
   have hpat:=HPN.out
   have hxw:=pat_wf hpat
   obtain ⟨-,ha,-⟩:=patI_ok hpat
   have HA:=qh ha
   have HWAY:=qh (shown_parse hpat (f:=0) (by omega) (closN_zero n))
   have HXW:=qh hxw
   clear hpat hxw ha hpe
   rcases HWAY.out with ⟨hq,-⟩ | ⟨q,hq⟩ | ⟨-,hq⟩
   ·have HP:=qh (rp_ok (c:=c4) L4.out HXW.out hq)
    clear hq
    go_wp2_with fail
    refine HP.out.mono ?_
    rintro e w5 ⟨v,rfl,t5,b5⟩
    obtain ⟨km,Am,mm,cm,lm,hm,Km,nm,dm,hv⟩:=t5.form
    subst hv
    have T5:=qh t5
    have B5:=qh (below_then B4.out b5)
    have N5:Hid (Below w5.heap.size w5 (w5.alloc (.cells #[.int .i64 km,.slice Am mm cm,.int .i64 lm,.int .i64 hm,.slice Km nm dm] 25))):=qh (below_alloc w5 _)
    have B5b:=qh (below_then B5.out N5.out)
    have X5:=qh ((X4.out.below b5 X4.out.lt).below N5.out (Nat.lt_of_lt_of_le X4.out.lt b5.size))
    have Y5:Hid (Box (w5.alloc (.cells #[.int .i64 km,.slice Am mm cm,.int .i64 lm,.int .i64 hm,.slice Km nm dm] 25)) w5.heap.size #[.int .i64 km,.slice Am mm cm,.int .i64 lm,.int .i64 hm,.slice Km nm dm] 25):=qh (Box.new w5 _ _)
    have HS:=qh (same_at T5.out TN.out HA.out N5.out B5b.out)
    clear t5 b5
    have a0:(w5.alloc (.cells #[.int .i64 km,.slice Am mm cm,.int .i64 lm,.int .i64 hm,.slice Km nm dm] 25)).cell? ⟨w.heap.size,0,none⟩=some (.int .i64 kn):=X5.out.cell rfl
    have a1:(w5.alloc (.cells #[.int .i64 km,.slice Am mm cm,.int .i64 lm,.int .i64 hm,.slice Km nm dm] 25)).cell? ⟨w.heap.size,1,none⟩=some (.slice A1 m1 c1):=X5.out.cell rfl
    have a2:(w5.alloc (.cells #[.int .i64 km,.slice Am mm cm,.int .i64 lm,.int .i64 hm,.slice Km nm dm] 25)).cell? ⟨w.heap.size,2,none⟩=some (.int .i64 lo1):=X5.out.cell rfl
    have a3:(w5.alloc (.cells #[.int .i64 km,.slice Am mm cm,.int .i64 lm,.int .i64 hm,.slice Km nm dm] 25)).cell? ⟨w.heap.size,3,none⟩=some (.int .i64 hi1):=X5.out.cell rfl
    have a4:(w5.alloc (.cells #[.int .i64 km,.slice Am mm cm,.int .i64 lm,.int .i64 hm,.slice Km nm dm] 25)).cell? ⟨w.heap.size,4,none⟩=some (.slice K1 n1 d1):=X5.out.cell rfl
    go_wp2_with fail
    refine HS.out.mono ?_
    rintro e w6 ⟨rfl,b6⟩
    have B6:=qh (below_then B5b.out b6)
    clear b6 a0 a1 a2 a3 a4
    go_wp2_with fail
    go_meet
    exact B6
   ·have HP:=qh (rp_no (c:=c4) L4.out HXW.out hq)
    clear hq
    go_wp2_with fail
    refine HP.out.mono ?_
    rintro e w5 ⟨rfl,b5⟩
    have B5:Hid (Below w.heap.size w (w5.alloc (.cells #[.int .i64 0,.slice none 0 0,.int .i64 0,.int .i64 0,.slice none 0 0] 25))):=qh (below_then (below_then B4.out b5) (below_alloc w5 _))
    clear b5
    unfold ndZero
    go_wp2_with fail
    go_meet
    exact B5
   ·have HP:=qh (rp_no (c:=c4) L4.out HXW.out hq)
    clear hq
    go_wp2_with fail
    refine HP.out.mono ?_
    rintro e w5 ⟨rfl,b5⟩
    have B5:Hid (Below w.heap.size w (w5.alloc (.cells #[.int .i64 0,.slice none 0 0,.int .i64 0,.int .i64 0,.slice none 0 0] 25))):=qh (below_then (below_then B4.out b5) (below_alloc w5 _))
    clear b5
    unfold ndZero
    go_wp2_with fail
    go_meet
    exact B5
 case rest =>
  have BC:=hcut
  clear hcut B4 L4 X4 B2 X2 X1 B1 QA HPN HWA
  have HN1:=qh (HNT.out wc BC.out)
  obtain ⟨q,hq⟩:∃ q,neatI l f=q:=⟨_,rfl⟩
  have HQ:=qh hq
  rw [hq] at HN1
  obtain ⟨x,p,z⟩:=q
  clear hq
  by_cases hz:z=0
  case neg =>
   have hx:x=[]:=by
    have h1:=neat_wrong (l:=l) (f:=f) (by rw [HQ.out];exact hz)
    rw [HQ.out] at h1
    exact h1
   subst hx
   have dz:(z != 0)=true:=by simpa using hz
   have dz2:(z == 0)=false:=by simpa using hz
   clear hz
   go_wp2_with fail
   refine HN1.out.mono ?_
   rintro e w6 ⟨v,rfl,o6,b6⟩
   obtain ⟨A6,c6,rfl,-,-,-⟩:=o6.form
   have B6:=qh (below_then BC.out b6)
   clear o6 b6
   simp only [ints,List.map_nil,List.length_nil]
   go_wp2_with fail
   go_ret
   exact ⟨rfl,B6.out⟩
  subst hz
  obtain ⟨n2,hn2,hp2,-⟩:=neat_parts HQ.out
  have hx2:=(patI_ok hp2).2.2
  have HX2:=qh hx2
  clear n2 hn2 hp2 hx2
  go_wp2_with fail
  refine HN1.out.mono ?_
  rintro e w6 ⟨v,rfl,o6,b6⟩
  obtain ⟨A6,c6,rfl,l6,hc6,-⟩:=o6.form
  have B6:=qh (below_then BC.out b6)
  have L6:=qh l6
  have HN2:=HNX.out w6 A6 x c6 B6.out l6 (by simpa [ints] using hc6)
  clear o6 b6 l6 hc6
  simp only [ints,List.length_map]
  rcases neat_again HQ.out with hq | ⟨q,hq⟩
  ·rw [hq] at HN2
   have HN3:=qh HN2
   clear hq HN2
   go_wp2_with fail
   refine HN3.out.mono ?_
   rintro e w7 ⟨v,rfl,o7,b7⟩
   obtain ⟨A7,c7,rfl,l7,-,-⟩:=o7.form
   have B7:=qh (below_then B6.out b7)
   have HI:=qh (ints_ok A6 A7 x c6 c7 w7 (L6.out.up b7) l7 (by have:=HX2.out;omega))
   clear o7 b7 l7
   simp only [ints,List.length_map]
   go_wp2_with fail
   refine HI.out.mono ?_
   rintro e w8 ⟨rfl,b8⟩
   have B8:=qh (below_then B7.out b8)
   clear b8
   go_wp2_with fail
   go_ret
   exact ⟨rfl,B8.out⟩
  ·rw [hq] at HN2
   have HN3:=qh HN2
   clear hq HN2
   go_wp2_with fail
   refine HN3.out.mono ?_
   rintro e w7 ⟨v,rfl,o7,b7⟩
   obtain ⟨A7,c7,rfl,-,-,-⟩:=o7.form
   have B7:=qh (below_then B6.out b7)
   clear o7 b7
   go_wp2_with fail
   go_ret
   exact ⟨rfl,B7.out⟩
-- WRAP
theorem spec:LawSpec Rows.showBackSpec 3:=⟨rfl,fun H ds h=>by
 match ds,h with
 | [d0,d1,d2],_=>rfl⟩
theorem params_ok:∀ t∈Tryz.f4.params.toList,Tryz.prog.readableRec t=true∧t < Tryz.prog.types.size:=by
 rw [Tryz.params4]
 intro t ht
 simp only [List.mem_cons,List.mem_nil_iff,or_false] at ht
 rcases ht with rfl | rfl | rfl
 all_goals exact ⟨by kernel_rfl,of_decide_eq_true (by kernel_rfl)⟩
set_option maxRecDepth 100000 in
theorem contract (H:Type) (enc:TypeId×Value→H) (W:World) (base:Nat) (args:Array Value) (ds gs:List (DataW H)) (before:List MemPlace)
 (hval:∀ (j:Nat) t v,Tryz.f4.params[j]?=some t→args[j]?=some v→Value.okWide Tryz.prog W .any base t v)
 (hW:DataW.Whole enc Tryz.prog Tryz.f4.params.toList Rows.showBackSpec.vars false W args.toList ds gs before) (hL:laidMetH Tryz.prog laidList4 W) :
 Calls Tryz.prog 4 args W fun e W'=>∃ v,e=.returned v∧Rows.showBackSpec.post enc Tryz.prog Tryz.f4 false true false false W args v W':=by
 have hW':=hW
 obtain ⟨p,q,hA0,hV,rfl,hfz,hnd⟩:=hW
 have hA:DataW.TrodAll enc Tryz.prog W 0 (fun _=>true) true Tryz.f4.params.toList args.toList ds p:=hA0
 rw [Tryz.params4] at hA hval
 obtain ⟨v0,vs0,d0,ds0,p0,q0,hargs,rfl,rfl,h0,r0⟩:=trodAll_cons hA
 obtain ⟨v1,vs1,d1,ds1,p1,q1,rfl,rfl,rfl,h1,r1⟩:=trodAll_cons r0
 obtain ⟨v2,vs2,d2,ds2,p2,q2,rfl,rfl,rfl,h2,r2⟩:=trodAll_cons r1
 obtain ⟨rfl,rfl,rfl⟩:=trodAll_nil r2
 obtain rfl:args=#[v0,v1,v2]:=by cases args;simp_all
 obtain ⟨n0,V0,rfl,t0⟩:=open_node (hval 0 25 v0 rfl rfl) h0
 obtain ⟨A1,l1,c1,rfl,hc1,hm1,hl1,wf1⟩:=open_list Tryz.underlying26 Tryz.underlying3 (by kernel_rfl) (hval 1 26 v1 rfl rfl) h1
 obtain ⟨a2,rfl,rfl,rfl,w2⟩:=open_int Tryz.underlying3 (hval 2 3 v2 rfl rfl) h2
 exact (walk W (tabs_of4 hL) n0 V0 t0 A1 l1 c1 hc1 hm1 hl1 wf1 a2 w2).mono fun e W' ⟨he,hg⟩=>⟨_,he,law_post spec (by rw [Tryz.params4];rfl) (by kernel_rfl) params_ok (by kernel_rfl) Tryz.underlying4 hW' hg⟩
set_option maxRecDepth 100000 in
theorem laid_met (os:Os):laidMet Tryz.prog Rows.showBackRow.laid ((laidWorld4 os #[.agg #[.int .i64 0,.slice none 0 0,.int .i64 0,.int .i64 0,.slice none 0 0],.slice none 0 0,.int .i64 0]).forCall (fun _ _=>0) ⟨#[],#[.agg #[.int .i64 0,.slice none 0 0,.int .i64 0,.int .i64 0,.slice none 0 0],.slice none 0 0,.int .i64 0],[]⟩).memory :=
 laidMet_of_run' 8 (by kernel_rfl) (by kernel_rfl)
set_option maxRecDepth 100000 in
theorem reads (os:Os) {H:Type} (enc:TypeId×Value→H):∃ places,DataW.whole enc Tryz.prog ((laidWorld4 os #[.agg #[.int .i64 0,.slice none 0 0,.int .i64 0,.int .i64 0,.slice none 0 0],.slice none 0 0,.int .i64 0]).forCall (fun _ _=>0) ⟨#[],#[.agg #[.int .i64 0,.slice none 0 0,.int .i64 0,.int .i64 0,.slice none 0 0],.slice none 0 0,.int .i64 0],[]⟩).memory Tryz.f4.params.toList Rows.showBackSpec.vars false #[.agg #[.int .i64 0,.slice none 0 0,.int .i64 0,.int .i64 0,.slice none 0 0],.slice none 0 0,.int .i64 0].toList 8=some ([.agg [.lit (.int .i64 0),.nil,.lit (.int .i64 0),.lit (.int .i64 0),.nil],.nil,.lit (.int .i64 0)],[],places) :=
 ⟨[],by kernel_rfl⟩
set_option maxRecDepth 100000 in
theorem lifted (os:Os) (started:os.Started) (H:Type) (enc:TypeId×Value→H) (F:Stop.Interp) :
 ReturnsInHanded {} Tryz.checked os 4 .any ((OpenSpec.ofChange Rows.showBackSpec).preRow enc Tryz.prog Tryz.f4 Rows.showBackRow.domain false Rows.showBackRow.laid) (((OpenSpec.ofChange Rows.showBackSpec).at F).post enc Tryz.prog Tryz.f4 false true false false):=by
 obtain ⟨places,hx⟩:=reads os enc
 refine returnsInHanded_of_row (C:=Tryz.checked) (s:=OpenSpec.ofChange Rows.showBackSpec) own started (by kernel_rfl) Tryz.func4
  (witness_row_at (enc:=enc) (C:=Tryz.checked) false (laidWorld4 os #[.agg #[.int .i64 0,.slice none 0 0,.int .i64 0,.int .i64 0,.slice none 0 0],.slice none 0 0,.int .i64 0]) #[.agg #[.int .i64 0,.slice none 0 0,.int .i64 0,.int .i64 0,.slice none 0 0],.slice none 0 0,.int .i64 0] rfl (by kernel_rfl) (by kernel_rfl) (by kernel_rfl)
   (OpenSpec.preRow_of_cond 8 hx (by kernel_rfl) (fun k hk=>by cases hk) (by kernel_rfl) (laid_met os))) ?_
 intro W base args ds gs before hval hW _ _ _ hL _ _
 exact contract H enc W base args ds gs before hval hW hL
set_option maxRecDepth 100000 in
theorem said:Rows.ShowBackSaid :=
 OpenClaim.holds_of_cond 4 Tryz.f4 rfl rfl rfl rfl rfl rfl rfl ⟨rfl,rfl,rfl,rfl,rfl⟩ rfl rfl rfl rfl rfl (by kernel_rfl) Tryz.func4 (by kernel_rfl)
  (of_decide_eq_true (by kernel_rfl)) (by unfold Func.isWrapper;first | (rw [if_pos (by decide +kernel)];kernel_rfl) | (rw [if_neg (by decide +kernel)];exact ⟨rfl,rfl⟩))
  (fun os started H enc _ F=>by rw [OpenClaim.pre_eq_preRow];exact lifted os started H enc F)
set_option maxRecDepth 100000 in
theorem card:Rows.ShowBackCardSaid :=
 Claim7.holds_tied_plain_at .later [] _ _ _ _ said (fun _ h=>by cases h) (by kernel_rfl) (fun _ h=>by cases h) showBack_row_tie rfl ⟨rfl,rfl⟩ (by kernel_rfl) rfl
  (plainOf "ductus/ductuslaw17.ShowBack" 4 Tryz.f4 (by kernel_rfl) Tryz.func4 (by kernel_rfl) (fun j t ht=>by
   rw [Tryz.params4] at ht
   have hm:=Array.mem_of_getElem? ht
   simp only [List.mem_toArray,List.mem_cons,List.mem_nil_iff,or_false] at hm
   rcases hm with rfl | rfl | rfl
   all_goals (show Tryz.prog.wantsStandIn _=false;kernel_rfl))) (by kernel_rfl)
end Go.Proofs.YtoeocodfndbebaaGreatDoor.lawBack
