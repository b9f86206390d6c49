/- P17.2, ShowFlags: with flags a pattern is shown as what it comes to, and that needs none any more. Any pattern, any flags. -/
import Derived.Test.YtoeocodfndbebaaGreatDoorZB11
import Derived.Test.YtoeocodfndbebaaGreatDoorZB38
import Derived.Test.YtoeocodfndbebaaGreatDoorZB39
set_option maxRecDepth 20000
set_option maxHeartbeats 16000000
namespace Go.Proofs.YtoeocodfndbebaaGreatDoor.lawFlags
open Go.ChangeShapes Go.WideShapes Go.ChangeAt Go.RowKit
theorem walk_no (w:World) (hT:Tabs4 w) (A:Option Addr) (l:List Int) (c:Nat) (hc:l.length≤c) (h:Lies w w.heap.size A (ints .i64 l)) (hl:l.length≤100) (f:Int) (wr:(neatI l f).2.2≠0) :
 Calls Tryz.prog 6 #[.slice A l.length c,.int .i64 f] w fun e w'=>e=.returned (.bool true)∧Below w.heap.size w w':=by
 have d1:decide (100 < (l.length:Int))=false:=decide_eq_false (by omega)
 have d2:decide ((l.length:Int) > 100)=false:=d1
 have d3:decide (100 < l.length)=false:=decide_eq_false (by omega)
 have HLV:=qh (live_any w hT)
 have HNT:Hid (∀ u,Below w.heap.size w u→Calls Tryz.prog 11 #[.slice A l.length c,.int .i64 f] u (Neat3 u (neatI l f))):=qh fun u hb=>neat_any u (hT.below hb).fo (hT.below hb).pow A l c f (h.up hb) hc
 obtain ⟨q,hq⟩:∃ q,neatI l f=q:=⟨_,rfl⟩
 have hx:=neat_wrong wr
 rw [hq] at HNT hx wr
 obtain ⟨x,p,z⟩:=q
 simp only at hx wr
 subst hx
 have dz:(z != 0)=true:=by simpa using wr
 have dz2:(z == 0)=false:=by simpa using wr
 clear hT h hl hc wr hq
 go_enter Tryz.func6,Tryz.ntmps6
 go_wp2_with fail
 refine HLV.out.mono ?_
 rintro e w1 ⟨rfl,b1⟩
 have B1:=qh b1
 have HN1:=qh (HNT.out w1 b1)
 clear b1
 go_wp2_with fail
 refine HN1.out.mono ?_
 rintro e w2 ⟨v,rfl,o2,b2⟩
 obtain ⟨A2,c2,rfl,-,-,-⟩:=o2.form
 have B2:=qh (below_then B1.out b2)
 clear o2 b2
 simp only [ints,List.map_nil,List.length_nil]
 go_wp2_with fail
 go_ret
 exact ⟨rfl,B2.out⟩
theorem walk_yy (w:World) (hT:Tabs4 w) (A:Option Addr) (l:List Int) (c:Nat) (hc:l.length≤c) (h:Lies w w.heap.size A (ints .i64 l)) (hl:l.length≤100) (f:Int) (wf:∀ x∈l,(Lit.int .i64 x).wf=true) (x:List Int) (p:Int) (hq:neatI l f=(x,p,0)) (n:Nd) (hn:parseD l f=.ok n) (hm:parseD x 0=.ok n) (hk:parseD x f=.ok n) :
 Calls Tryz.prog 6 #[.slice A l.length c,.int .i64 f] w fun e w'=>e=.returned (.bool true)∧Below w.heap.size w w':=by
 have d1:decide (100 < (l.length:Int))=false:=decide_eq_false (by omega)
 have d2:decide ((l.length:Int) > 100)=false:=d1
 have d3:decide (100 < l.length)=false:=decide_eq_false (by omega)
 have HLV:=qh (live_any w hT)
 have HNT:Hid (∀ u,Below w.heap.size w u→Calls Tryz.prog 11 #[.slice A l.length c,.int .i64 f] u (Neat3 u (neatI l f))):=qh fun u hb=>neat_any u (hT.below hb).fo (hT.below hb).pow A l c f (h.up hb) hc
 rw [hq] at HNT
 obtain ⟨ha,hxl,hxw⟩:=parsed_all hq hn
 have HA:=qh ha
 have HP1:Hid (∀ u,Below w.heap.size w u→Calls Tryz.prog 16 #[.slice A l.length c,.int .i64 f] u (ParsedTo u n)):=qh fun u hb=>rp_ok (h.up hb) wf hn
 have HP2:Hid (∀ (u:World) (A2:Option Addr) (c2:Nat),Lies u u.heap.size A2 (ints .i64 x)→Calls Tryz.prog 16 #[.slice A2 x.length c2,.int .i64 0] u (ParsedTo u n)):=qh fun u A2 c2 h2=>rp_ok h2 hxw hm
 have HP3:Hid (∀ (u:World) (A2:Option Addr) (c2:Nat),Lies u u.heap.size A2 (ints .i64 x)→Calls Tryz.prog 16 #[.slice A2 x.length c2,.int .i64 f] u (ParsedTo u n)):=qh fun u A2 c2 h2=>rp_ok h2 hxw hk
 clear hT h hl hc hq hn hm hk wf ha hxw hxl
 go_enter Tryz.func6,Tryz.ntmps6
 go_wp2_with fail
 refine HLV.out.mono ?_
 rintro e w1 ⟨rfl,b1⟩
 have B1:=qh b1
 have HN1:=qh (HNT.out w1 b1)
 clear b1
 go_wp2_with fail
 refine HN1.out.mono ?_
 rintro e w2 ⟨v,rfl,o2,b2⟩
 obtain ⟨A2,c2,rfl,l2,-,-⟩:=o2.form
 have B2:=qh (below_then B1.out b2)
 have L2:=qh l2
 clear o2 b2 l2
 simp only [ints,List.length_map]
 go_wp2_with fail
 refine (HP1.out w2 B2.out).mono ?_
 rintro e w3 ⟨v,rfl,t3,b3⟩
 obtain ⟨kn1,Ar1,nr1,cr1,lo1,hi1,Ak1,nk1,ck1,hv⟩:=t3.form
 subst hv
 have T3:=qh t3
 obtain ⟨u3,hu3⟩:∃ z,w3.alloc (.cells #[.int .i64 kn1,.slice Ar1 nr1 cr1,.int .i64 lo1,.int .i64 hi1,.slice Ak1 nk1 ck1] 25)=z:=⟨_,rfl⟩
 have E3:=qh b3
 have F3:Hid (Below w3.heap.size w3 u3):=qh (hu3▸below_alloc w3 _)
 have Y3:Hid (Box u3 w3.heap.size #[.int .i64 kn1,.slice Ar1 nr1 cr1,.int .i64 lo1,.int .i64 hi1,.slice Ak1 nk1 ck1] 25):=qh (hu3▸Box.new w3 _ _)
 have HU3:=qh hu3
 clear b3 hu3 t3
 have B3:=qh (below_then (below_then B2.out E3.out) F3.out)
 have D3:=F3
 have L3:=qh ((L2.out.up E3.out).up F3.out)
 go_wp2_with fail
 rw [HU3.out]
 refine (HP2.out u3 A2 c2 L3.out).mono ?_
 rintro e w4 ⟨v,rfl,t4,b4⟩
 obtain ⟨kn2,Ar2,nr2,cr2,lo2,hi2,Ak2,nk2,ck2,hv⟩:=t4.form
 subst hv
 have T4:=qh t4
 obtain ⟨u4,hu4⟩:∃ z,w4.alloc (.cells #[.int .i64 kn2,.slice Ar2 nr2 cr2,.int .i64 lo2,.int .i64 hi2,.slice Ak2 nk2 ck2] 25)=z:=⟨_,rfl⟩
 have E4:=qh b4
 have F4:Hid (Below w4.heap.size w4 u4):=qh (hu4▸below_alloc w4 _)
 have Y4:Hid (Box u4 w4.heap.size #[.int .i64 kn2,.slice Ar2 nr2 cr2,.int .i64 lo2,.int .i64 hi2,.slice Ak2 nk2 ck2] 25):=qh (hu4▸Box.new w4 _ _)
 have HU4:=qh hu4
 clear b4 hu4 t4
 have B4:=qh (below_then (below_then B3.out E4.out) F4.out)
 have D34:=qh (below_then (below_then D3.out E4.out) F4.out)
 have L4:=qh ((L3.out.up E4.out).up F4.out)
 go_wp2_with fail
 rw [HU4.out]
 refine (HP3.out u4 A2 c2 L4.out).mono ?_
 rintro e w5 ⟨v,rfl,t5,b5⟩
 obtain ⟨kn3,Ar3,nr3,cr3,lo3,hi3,Ak3,nk3,ck3,hv⟩:=t5.form
 subst hv
 have T5:=qh t5
 obtain ⟨u5,hu5⟩:∃ z,w5.alloc (.cells #[.int .i64 kn3,.slice Ar3 nr3 cr3,.int .i64 lo3,.int .i64 hi3,.slice Ak3 nk3 ck3] 25)=z:=⟨_,rfl⟩
 have E5:=qh b5
 have F5:Hid (Below w5.heap.size w5 u5):=qh (hu5▸below_alloc w5 _)
 have Y5:Hid (Box u5 w5.heap.size #[.int .i64 kn3,.slice Ar3 nr3 cr3,.int .i64 lo3,.int .i64 hi3,.slice Ak3 nk3 ck3] 25):=qh (hu5▸Box.new w5 _ _)
 have HU5:=qh hu5
 clear b5 hu5 t5
 have B5:=qh (below_then (below_then B4.out E5.out) F5.out)
 have D35:=qh (below_then (below_then D34.out E5.out) F5.out)
 have D45:=qh (below_then (below_then F4.out E5.out) F5.out)
 have Y35:=qh (((Y3.out.below E4.out Y3.out.lt).below F4.out (Nat.lt_of_lt_of_le Y3.out.lt E4.out.size)).below (below_then E5.out F5.out) (Nat.lt_of_lt_of_le Y3.out.lt (Nat.le_trans E4.out.size F4.out.size)))
 have Y45:=qh (Y4.out.below (below_then E5.out F5.out) Y4.out.lt)
 have a0:(w5.alloc (.cells #[.int .i64 kn3,.slice Ar3 nr3 cr3,.int .i64 lo3,.int .i64 hi3,.slice Ak3 nk3 ck3] 25)).cell? ⟨w3.heap.size,0,none⟩=some (.int .i64 kn1):=(HU5.out▸Y35.out:Box (w5.alloc (.cells #[.int .i64 kn3,.slice Ar3 nr3 cr3,.int .i64 lo3,.int .i64 hi3,.slice Ak3 nk3 ck3] 25)) w3.heap.size #[.int .i64 kn1,.slice Ar1 nr1 cr1,.int .i64 lo1,.int .i64 hi1,.slice Ak1 nk1 ck1] 25).cell rfl
 have a1:(w5.alloc (.cells #[.int .i64 kn3,.slice Ar3 nr3 cr3,.int .i64 lo3,.int .i64 hi3,.slice Ak3 nk3 ck3] 25)).cell? ⟨w3.heap.size,1,none⟩=some (.slice Ar1 nr1 cr1):=(HU5.out▸Y35.out:Box (w5.alloc (.cells #[.int .i64 kn3,.slice Ar3 nr3 cr3,.int .i64 lo3,.int .i64 hi3,.slice Ak3 nk3 ck3] 25)) w3.heap.size #[.int .i64 kn1,.slice Ar1 nr1 cr1,.int .i64 lo1,.int .i64 hi1,.slice Ak1 nk1 ck1] 25).cell rfl
 have a2:(w5.alloc (.cells #[.int .i64 kn3,.slice Ar3 nr3 cr3,.int .i64 lo3,.int .i64 hi3,.slice Ak3 nk3 ck3] 25)).cell? ⟨w3.heap.size,2,none⟩=some (.int .i64 lo1):=(HU5.out▸Y35.out:Box (w5.alloc (.cells #[.int .i64 kn3,.slice Ar3 nr3 cr3,.int .i64 lo3,.int .i64 hi3,.slice Ak3 nk3 ck3] 25)) w3.heap.size #[.int .i64 kn1,.slice Ar1 nr1 cr1,.int .i64 lo1,.int .i64 hi1,.slice Ak1 nk1 ck1] 25).cell rfl
 have a3:(w5.alloc (.cells #[.int .i64 kn3,.slice Ar3 nr3 cr3,.int .i64 lo3,.int .i64 hi3,.slice Ak3 nk3 ck3] 25)).cell? ⟨w3.heap.size,3,none⟩=some (.int .i64 hi1):=(HU5.out▸Y35.out:Box (w5.alloc (.cells #[.int .i64 kn3,.slice Ar3 nr3 cr3,.int .i64 lo3,.int .i64 hi3,.slice Ak3 nk3 ck3] 25)) w3.heap.size #[.int .i64 kn1,.slice Ar1 nr1 cr1,.int .i64 lo1,.int .i64 hi1,.slice Ak1 nk1 ck1] 25).cell rfl
 have a4:(w5.alloc (.cells #[.int .i64 kn3,.slice Ar3 nr3 cr3,.int .i64 lo3,.int .i64 hi3,.slice Ak3 nk3 ck3] 25)).cell? ⟨w3.heap.size,4,none⟩=some (.slice Ak1 nk1 ck1):=(HU5.out▸Y35.out:Box (w5.alloc (.cells #[.int .i64 kn3,.slice Ar3 nr3 cr3,.int .i64 lo3,.int .i64 hi3,.slice Ak3 nk3 ck3] 25)) w3.heap.size #[.int .i64 kn1,.slice Ar1 nr1 cr1,.int .i64 lo1,.int .i64 hi1,.slice Ak1 nk1 ck1] 25).cell rfl
 have b0:(w5.alloc (.cells #[.int .i64 kn3,.slice Ar3 nr3 cr3,.int .i64 lo3,.int .i64 hi3,.slice Ak3 nk3 ck3] 25)).cell? ⟨w4.heap.size,0,none⟩=some (.int .i64 kn2):=(HU5.out▸Y45.out:Box (w5.alloc (.cells #[.int .i64 kn3,.slice Ar3 nr3 cr3,.int .i64 lo3,.int .i64 hi3,.slice Ak3 nk3 ck3] 25)) w4.heap.size #[.int .i64 kn2,.slice Ar2 nr2 cr2,.int .i64 lo2,.int .i64 hi2,.slice Ak2 nk2 ck2] 25).cell rfl
 have b1:(w5.alloc (.cells #[.int .i64 kn3,.slice Ar3 nr3 cr3,.int .i64 lo3,.int .i64 hi3,.slice Ak3 nk3 ck3] 25)).cell? ⟨w4.heap.size,1,none⟩=some (.slice Ar2 nr2 cr2):=(HU5.out▸Y45.out:Box (w5.alloc (.cells #[.int .i64 kn3,.slice Ar3 nr3 cr3,.int .i64 lo3,.int .i64 hi3,.slice Ak3 nk3 ck3] 25)) w4.heap.size #[.int .i64 kn2,.slice Ar2 nr2 cr2,.int .i64 lo2,.int .i64 hi2,.slice Ak2 nk2 ck2] 25).cell rfl
 have b2:(w5.alloc (.cells #[.int .i64 kn3,.slice Ar3 nr3 cr3,.int .i64 lo3,.int .i64 hi3,.slice Ak3 nk3 ck3] 25)).cell? ⟨w4.heap.size,2,none⟩=some (.int .i64 lo2):=(HU5.out▸Y45.out:Box (w5.alloc (.cells #[.int .i64 kn3,.slice Ar3 nr3 cr3,.int .i64 lo3,.int .i64 hi3,.slice Ak3 nk3 ck3] 25)) w4.heap.size #[.int .i64 kn2,.slice Ar2 nr2 cr2,.int .i64 lo2,.int .i64 hi2,.slice Ak2 nk2 ck2] 25).cell rfl
 have b3:(w5.alloc (.cells #[.int .i64 kn3,.slice Ar3 nr3 cr3,.int .i64 lo3,.int .i64 hi3,.slice Ak3 nk3 ck3] 25)).cell? ⟨w4.heap.size,3,none⟩=some (.int .i64 hi2):=(HU5.out▸Y45.out:Box (w5.alloc (.cells #[.int .i64 kn3,.slice Ar3 nr3 cr3,.int .i64 lo3,.int .i64 hi3,.slice Ak3 nk3 ck3] 25)) w4.heap.size #[.int .i64 kn2,.slice Ar2 nr2 cr2,.int .i64 lo2,.int .i64 hi2,.slice Ak2 nk2 ck2] 25).cell rfl
 have b4:(w5.alloc (.cells #[.int .i64 kn3,.slice Ar3 nr3 cr3,.int .i64 lo3,.int .i64 hi3,.slice Ak3 nk3 ck3] 25)).cell? ⟨w4.heap.size,4,none⟩=some (.slice Ak2 nk2 ck2):=(HU5.out▸Y45.out:Box (w5.alloc (.cells #[.int .i64 kn3,.slice Ar3 nr3 cr3,.int .i64 lo3,.int .i64 hi3,.slice Ak3 nk3 ck3] 25)) w4.heap.size #[.int .i64 kn2,.slice Ar2 nr2 cr2,.int .i64 lo2,.int .i64 hi2,.slice Ak2 nk2 ck2] 25).cell rfl
 have HS1:=qh (same_at T3.out T4.out HA.out D35.out D45.out)
 go_wp2_with fail
 rw [HU5.out]
 refine HS1.out.mono ?_
 rintro e w6 ⟨rfl,b6⟩
 have B6:=qh (below_then B5.out b6)
 have E6:=qh b6
 clear b6 a0 a1 a2 a3 a4 b0 b1 b2 b3 b4
 have Y36:=qh (Y35.out.below E6.out Y35.out.lt)
 have Y56:=qh (Y5.out.below E6.out Y5.out.lt)
 have a0:w6.cell? ⟨w3.heap.size,0,none⟩=some (.int .i64 kn1):=Y36.out.cell rfl
 have a1:w6.cell? ⟨w3.heap.size,1,none⟩=some (.slice Ar1 nr1 cr1):=Y36.out.cell rfl
 have a2:w6.cell? ⟨w3.heap.size,2,none⟩=some (.int .i64 lo1):=Y36.out.cell rfl
 have a3:w6.cell? ⟨w3.heap.size,3,none⟩=some (.int .i64 hi1):=Y36.out.cell rfl
 have a4:w6.cell? ⟨w3.heap.size,4,none⟩=some (.slice Ak1 nk1 ck1):=Y36.out.cell rfl
 have b0:w6.cell? ⟨w5.heap.size,0,none⟩=some (.int .i64 kn3):=Y56.out.cell rfl
 have b1:w6.cell? ⟨w5.heap.size,1,none⟩=some (.slice Ar3 nr3 cr3):=Y56.out.cell rfl
 have b2:w6.cell? ⟨w5.heap.size,2,none⟩=some (.int .i64 lo3):=Y56.out.cell rfl
 have b3:w6.cell? ⟨w5.heap.size,3,none⟩=some (.int .i64 hi3):=Y56.out.cell rfl
 have b4:w6.cell? ⟨w5.heap.size,4,none⟩=some (.slice Ak3 nk3 ck3):=Y56.out.cell rfl
 have HS2:=qh (same_at T5.out T3.out HA.out (below_then F5.out E6.out) (below_then D35.out E6.out))
 go_wp2_with fail
 refine HS2.out.mono ?_
 rintro e w7 ⟨rfl,b7⟩
 have B7:=qh (below_then B6.out b7)
 clear b7
 go_wp2_with fail
 go_ret
 exact ⟨rfl,B7.out⟩
theorem walk_yn (w:World) (hT:Tabs4 w) (A:Option Addr) (l:List Int) (c:Nat) (hc:l.length≤c) (h:Lies w w.heap.size A (ints .i64 l)) (hl:l.length≤100) (f:Int) (wf:∀ x∈l,(Lit.int .i64 x).wf=true) (x:List Int) (p:Int) (hq:neatI l f=(x,p,0)) (n:Nd) (hn:parseD l f=.ok n) (hm:parseD x 0=.ok n) (pk:Int) (hk:parseD x f=.error (pk,9)) :
 Calls Tryz.prog 6 #[.slice A l.length c,.int .i64 f] w fun e w'=>e=.returned (.bool true)∧Below w.heap.size w w':=by
 have d1:decide (100 < (l.length:Int))=false:=decide_eq_false (by omega)
 have d2:decide ((l.length:Int) > 100)=false:=d1
 have d3:decide (100 < l.length)=false:=decide_eq_false (by omega)
 have HLV:=qh (live_any w hT)
 have HNT:Hid (∀ u,Below w.heap.size w u→Calls Tryz.prog 11 #[.slice A l.length c,.int .i64 f] u (Neat3 u (neatI l f))):=qh fun u hb=>neat_any u (hT.below hb).fo (hT.below hb).pow A l c f (h.up hb) hc
 rw [hq] at HNT
 obtain ⟨ha,hxl,hxw⟩:=parsed_all hq hn
 have HA:=qh ha
 have HP1:Hid (∀ u,Below w.heap.size w u→Calls Tryz.prog 16 #[.slice A l.length c,.int .i64 f] u (ParsedTo u n)):=qh fun u hb=>rp_ok (h.up hb) wf hn
 have HP2:Hid (∀ (u:World) (A2:Option Addr) (c2:Nat),Lies u u.heap.size A2 (ints .i64 x)→Calls Tryz.prog 16 #[.slice A2 x.length c2,.int .i64 0] u (ParsedTo u n)):=qh fun u A2 c2 h2=>rp_ok h2 hxw hm
 have HP3:Hid (∀ (u:World) (A2:Option Addr) (c2:Nat),Lies u u.heap.size A2 (ints .i64 x)→Calls Tryz.prog 16 #[.slice A2 x.length c2,.int .i64 f] u (Wronged u pk 9)):=qh fun u A2 c2 h2=>rp_no h2 hxw hk
 clear hT h hl hc hq hn hm hk wf ha hxw hxl
 go_enter Tryz.func6,Tryz.ntmps6
 go_wp2_with fail
 refine HLV.out.mono ?_
 rintro e w1 ⟨rfl,b1⟩
 have B1:=qh b1
 have HN1:=qh (HNT.out w1 b1)
 clear b1
 go_wp2_with fail
 refine HN1.out.mono ?_
 rintro e w2 ⟨v,rfl,o2,b2⟩
 obtain ⟨A2,c2,rfl,l2,-,-⟩:=o2.form
 have B2:=qh (below_then B1.out b2)
 have L2:=qh l2
 clear o2 b2 l2
 simp only [ints,List.length_map]
 go_wp2_with fail
 refine (HP1.out w2 B2.out).mono ?_
 rintro e w3 ⟨v,rfl,t3,b3⟩
 obtain ⟨kn1,Ar1,nr1,cr1,lo1,hi1,Ak1,nk1,ck1,hv⟩:=t3.form
 subst hv
 have T3:=qh t3
 obtain ⟨u3,hu3⟩:∃ z,w3.alloc (.cells #[.int .i64 kn1,.slice Ar1 nr1 cr1,.int .i64 lo1,.int .i64 hi1,.slice Ak1 nk1 ck1] 25)=z:=⟨_,rfl⟩
 have E3:=qh b3
 have F3:Hid (Below w3.heap.size w3 u3):=qh (hu3▸below_alloc w3 _)
 have Y3:Hid (Box u3 w3.heap.size #[.int .i64 kn1,.slice Ar1 nr1 cr1,.int .i64 lo1,.int .i64 hi1,.slice Ak1 nk1 ck1] 25):=qh (hu3▸Box.new w3 _ _)
 have HU3:=qh hu3
 clear b3 hu3 t3
 have B3:=qh (below_then (below_then B2.out E3.out) F3.out)
 have D3:=F3
 have L3:=qh ((L2.out.up E3.out).up F3.out)
 go_wp2_with fail
 rw [HU3.out]
 refine (HP2.out u3 A2 c2 L3.out).mono ?_
 rintro e w4 ⟨v,rfl,t4,b4⟩
 obtain ⟨kn2,Ar2,nr2,cr2,lo2,hi2,Ak2,nk2,ck2,hv⟩:=t4.form
 subst hv
 have T4:=qh t4
 obtain ⟨u4,hu4⟩:∃ z,w4.alloc (.cells #[.int .i64 kn2,.slice Ar2 nr2 cr2,.int .i64 lo2,.int .i64 hi2,.slice Ak2 nk2 ck2] 25)=z:=⟨_,rfl⟩
 have E4:=qh b4
 have F4:Hid (Below w4.heap.size w4 u4):=qh (hu4▸below_alloc w4 _)
 have Y4:Hid (Box u4 w4.heap.size #[.int .i64 kn2,.slice Ar2 nr2 cr2,.int .i64 lo2,.int .i64 hi2,.slice Ak2 nk2 ck2] 25):=qh (hu4▸Box.new w4 _ _)
 have HU4:=qh hu4
 clear b4 hu4 t4
 have B4:=qh (below_then (below_then B3.out E4.out) F4.out)
 have D34:=qh (below_then (below_then D3.out E4.out) F4.out)
 have L4:=qh ((L3.out.up E4.out).up F4.out)
 go_wp2_with fail
 rw [HU4.out]
 refine (HP3.out u4 A2 c2 L4.out).mono ?_
 rintro e w5 ⟨rfl,b5⟩
 obtain ⟨u5,hu5⟩:∃ z,w5.alloc (.cells #[.int .i64 0,.slice none 0 0,.int .i64 0,.int .i64 0,.slice none 0 0] 25)=z:=⟨_,rfl⟩
 have E5:=qh b5
 have F5:Hid (Below w5.heap.size w5 u5):=qh (hu5▸below_alloc w5 _)
 have Y5:Hid (Box u5 w5.heap.size #[.int .i64 0,.slice none 0 0,.int .i64 0,.int .i64 0,.slice none 0 0] 25):=qh (hu5▸Box.new w5 _ _)
 have HU5:=qh hu5
 clear b5 hu5
 unfold ndZero
 have B5:=qh (below_then (below_then B4.out E5.out) F5.out)
 have D35:=qh (below_then (below_then D34.out E5.out) F5.out)
 have D45:=qh (below_then (below_then F4.out E5.out) F5.out)
 have Y35:=qh (((Y3.out.below E4.out Y3.out.lt).below F4.out (Nat.lt_of_lt_of_le Y3.out.lt E4.out.size)).below (below_then E5.out F5.out) (Nat.lt_of_lt_of_le Y3.out.lt (Nat.le_trans E4.out.size F4.out.size)))
 have Y45:=qh (Y4.out.below (below_then E5.out F5.out) Y4.out.lt)
 have a0:(w5.alloc (.cells #[.int .i64 0,.slice none 0 0,.int .i64 0,.int .i64 0,.slice none 0 0] 25)).cell? ⟨w3.heap.size,0,none⟩=some (.int .i64 kn1):=(HU5.out▸Y35.out:Box (w5.alloc (.cells #[.int .i64 0,.slice none 0 0,.int .i64 0,.int .i64 0,.slice none 0 0] 25)) w3.heap.size #[.int .i64 kn1,.slice Ar1 nr1 cr1,.int .i64 lo1,.int .i64 hi1,.slice Ak1 nk1 ck1] 25).cell rfl
 have a1:(w5.alloc (.cells #[.int .i64 0,.slice none 0 0,.int .i64 0,.int .i64 0,.slice none 0 0] 25)).cell? ⟨w3.heap.size,1,none⟩=some (.slice Ar1 nr1 cr1):=(HU5.out▸Y35.out:Box (w5.alloc (.cells #[.int .i64 0,.slice none 0 0,.int .i64 0,.int .i64 0,.slice none 0 0] 25)) w3.heap.size #[.int .i64 kn1,.slice Ar1 nr1 cr1,.int .i64 lo1,.int .i64 hi1,.slice Ak1 nk1 ck1] 25).cell rfl
 have a2:(w5.alloc (.cells #[.int .i64 0,.slice none 0 0,.int .i64 0,.int .i64 0,.slice none 0 0] 25)).cell? ⟨w3.heap.size,2,none⟩=some (.int .i64 lo1):=(HU5.out▸Y35.out:Box (w5.alloc (.cells #[.int .i64 0,.slice none 0 0,.int .i64 0,.int .i64 0,.slice none 0 0] 25)) w3.heap.size #[.int .i64 kn1,.slice Ar1 nr1 cr1,.int .i64 lo1,.int .i64 hi1,.slice Ak1 nk1 ck1] 25).cell rfl
 have a3:(w5.alloc (.cells #[.int .i64 0,.slice none 0 0,.int .i64 0,.int .i64 0,.slice none 0 0] 25)).cell? ⟨w3.heap.size,3,none⟩=some (.int .i64 hi1):=(HU5.out▸Y35.out:Box (w5.alloc (.cells #[.int .i64 0,.slice none 0 0,.int .i64 0,.int .i64 0,.slice none 0 0] 25)) w3.heap.size #[.int .i64 kn1,.slice Ar1 nr1 cr1,.int .i64 lo1,.int .i64 hi1,.slice Ak1 nk1 ck1] 25).cell rfl
 have a4:(w5.alloc (.cells #[.int .i64 0,.slice none 0 0,.int .i64 0,.int .i64 0,.slice none 0 0] 25)).cell? ⟨w3.heap.size,4,none⟩=some (.slice Ak1 nk1 ck1):=(HU5.out▸Y35.out:Box (w5.alloc (.cells #[.int .i64 0,.slice none 0 0,.int .i64 0,.int .i64 0,.slice none 0 0] 25)) w3.heap.size #[.int .i64 kn1,.slice Ar1 nr1 cr1,.int .i64 lo1,.int .i64 hi1,.slice Ak1 nk1 ck1] 25).cell rfl
 have b0:(w5.alloc (.cells #[.int .i64 0,.slice none 0 0,.int .i64 0,.int .i64 0,.slice none 0 0] 25)).cell? ⟨w4.heap.size,0,none⟩=some (.int .i64 kn2):=(HU5.out▸Y45.out:Box (w5.alloc (.cells #[.int .i64 0,.slice none 0 0,.int .i64 0,.int .i64 0,.slice none 0 0] 25)) w4.heap.size #[.int .i64 kn2,.slice Ar2 nr2 cr2,.int .i64 lo2,.int .i64 hi2,.slice Ak2 nk2 ck2] 25).cell rfl
 have b1:(w5.alloc (.cells #[.int .i64 0,.slice none 0 0,.int .i64 0,.int .i64 0,.slice none 0 0] 25)).cell? ⟨w4.heap.size,1,none⟩=some (.slice Ar2 nr2 cr2):=(HU5.out▸Y45.out:Box (w5.alloc (.cells #[.int .i64 0,.slice none 0 0,.int .i64 0,.int .i64 0,.slice none 0 0] 25)) w4.heap.size #[.int .i64 kn2,.slice Ar2 nr2 cr2,.int .i64 lo2,.int .i64 hi2,.slice Ak2 nk2 ck2] 25).cell rfl
 have b2:(w5.alloc (.cells #[.int .i64 0,.slice none 0 0,.int .i64 0,.int .i64 0,.slice none 0 0] 25)).cell? ⟨w4.heap.size,2,none⟩=some (.int .i64 lo2):=(HU5.out▸Y45.out:Box (w5.alloc (.cells #[.int .i64 0,.slice none 0 0,.int .i64 0,.int .i64 0,.slice none 0 0] 25)) w4.heap.size #[.int .i64 kn2,.slice Ar2 nr2 cr2,.int .i64 lo2,.int .i64 hi2,.slice Ak2 nk2 ck2] 25).cell rfl
 have b3:(w5.alloc (.cells #[.int .i64 0,.slice none 0 0,.int .i64 0,.int .i64 0,.slice none 0 0] 25)).cell? ⟨w4.heap.size,3,none⟩=some (.int .i64 hi2):=(HU5.out▸Y45.out:Box (w5.alloc (.cells #[.int .i64 0,.slice none 0 0,.int .i64 0,.int .i64 0,.slice none 0 0] 25)) w4.heap.size #[.int .i64 kn2,.slice Ar2 nr2 cr2,.int .i64 lo2,.int .i64 hi2,.slice Ak2 nk2 ck2] 25).cell rfl
 have b4:(w5.alloc (.cells #[.int .i64 0,.slice none 0 0,.int .i64 0,.int .i64 0,.slice none 0 0] 25)).cell? ⟨w4.heap.size,4,none⟩=some (.slice Ak2 nk2 ck2):=(HU5.out▸Y45.out:Box (w5.alloc (.cells #[.int .i64 0,.slice none 0 0,.int .i64 0,.int .i64 0,.slice none 0 0] 25)) w4.heap.size #[.int .i64 kn2,.slice Ar2 nr2 cr2,.int .i64 lo2,.int .i64 hi2,.slice Ak2 nk2 ck2] 25).cell rfl
 have HS1:=qh (same_at T3.out T4.out HA.out D35.out D45.out)
 go_wp2_with fail
 rw [HU5.out]
 refine HS1.out.mono ?_
 rintro e w6 ⟨rfl,b6⟩
 have B6:=qh (below_then B5.out b6)
 have E6:=qh b6
 clear b6 a0 a1 a2 a3 a4 b0 b1 b2 b3 b4
 go_wp2_with fail
 go_ret
 exact ⟨rfl,B6.out⟩
theorem walk_ny (w:World) (hT:Tabs4 w) (A:Option Addr) (l:List Int) (c:Nat) (hc:l.length≤c) (h:Lies w w.heap.size A (ints .i64 l)) (hl:l.length≤100) (f:Int) (wf:∀ x∈l,(Lit.int .i64 x).wf=true) (x:List Int) (p:Int) (hq:neatI l f=(x,p,0)) (n:Nd) (hn:parseD l f=.ok n) (pm:Int) (hm:parseD x 0=.error (pm,9)) (hk:parseD x f=.ok n) :
 Calls Tryz.prog 6 #[.slice A l.length c,.int .i64 f] w fun e w'=>e=.returned (.bool true)∧Below w.heap.size w w':=by
 have d1:decide (100 < (l.length:Int))=false:=decide_eq_false (by omega)
 have d2:decide ((l.length:Int) > 100)=false:=d1
 have d3:decide (100 < l.length)=false:=decide_eq_false (by omega)
 have HLV:=qh (live_any w hT)
 have HNT:Hid (∀ u,Below w.heap.size w u→Calls Tryz.prog 11 #[.slice A l.length c,.int .i64 f] u (Neat3 u (neatI l f))):=qh fun u hb=>neat_any u (hT.below hb).fo (hT.below hb).pow A l c f (h.up hb) hc
 rw [hq] at HNT
 obtain ⟨ha,hxl,hxw⟩:=parsed_all hq hn
 have HA:=qh ha
 have HP1:Hid (∀ u,Below w.heap.size w u→Calls Tryz.prog 16 #[.slice A l.length c,.int .i64 f] u (ParsedTo u n)):=qh fun u hb=>rp_ok (h.up hb) wf hn
 have HP2:Hid (∀ (u:World) (A2:Option Addr) (c2:Nat),Lies u u.heap.size A2 (ints .i64 x)→Calls Tryz.prog 16 #[.slice A2 x.length c2,.int .i64 0] u (Wronged u pm 9)):=qh fun u A2 c2 h2=>rp_no h2 hxw hm
 have HP3:Hid (∀ (u:World) (A2:Option Addr) (c2:Nat),Lies u u.heap.size A2 (ints .i64 x)→Calls Tryz.prog 16 #[.slice A2 x.length c2,.int .i64 f] u (ParsedTo u n)):=qh fun u A2 c2 h2=>rp_ok h2 hxw hk
 clear hT h hl hc hq hn hm hk wf ha hxw hxl
 go_enter Tryz.func6,Tryz.ntmps6
 go_wp2_with fail
 refine HLV.out.mono ?_
 rintro e w1 ⟨rfl,b1⟩
 have B1:=qh b1
 have HN1:=qh (HNT.out w1 b1)
 clear b1
 go_wp2_with fail
 refine HN1.out.mono ?_
 rintro e w2 ⟨v,rfl,o2,b2⟩
 obtain ⟨A2,c2,rfl,l2,-,-⟩:=o2.form
 have B2:=qh (below_then B1.out b2)
 have L2:=qh l2
 clear o2 b2 l2
 simp only [ints,List.length_map]
 go_wp2_with fail
 refine (HP1.out w2 B2.out).mono ?_
 rintro e w3 ⟨v,rfl,t3,b3⟩
 obtain ⟨kn1,Ar1,nr1,cr1,lo1,hi1,Ak1,nk1,ck1,hv⟩:=t3.form
 subst hv
 have T3:=qh t3
 obtain ⟨u3,hu3⟩:∃ z,w3.alloc (.cells #[.int .i64 kn1,.slice Ar1 nr1 cr1,.int .i64 lo1,.int .i64 hi1,.slice Ak1 nk1 ck1] 25)=z:=⟨_,rfl⟩
 have E3:=qh b3
 have F3:Hid (Below w3.heap.size w3 u3):=qh (hu3▸below_alloc w3 _)
 have Y3:Hid (Box u3 w3.heap.size #[.int .i64 kn1,.slice Ar1 nr1 cr1,.int .i64 lo1,.int .i64 hi1,.slice Ak1 nk1 ck1] 25):=qh (hu3▸Box.new w3 _ _)
 have HU3:=qh hu3
 clear b3 hu3 t3
 have B3:=qh (below_then (below_then B2.out E3.out) F3.out)
 have D3:=F3
 have L3:=qh ((L2.out.up E3.out).up F3.out)
 go_wp2_with fail
 rw [HU3.out]
 refine (HP2.out u3 A2 c2 L3.out).mono ?_
 rintro e w4 ⟨rfl,b4⟩
 obtain ⟨u4,hu4⟩:∃ z,w4.alloc (.cells #[.int .i64 0,.slice none 0 0,.int .i64 0,.int .i64 0,.slice none 0 0] 25)=z:=⟨_,rfl⟩
 have E4:=qh b4
 have F4:Hid (Below w4.heap.size w4 u4):=qh (hu4▸below_alloc w4 _)
 have Y4:Hid (Box u4 w4.heap.size #[.int .i64 0,.slice none 0 0,.int .i64 0,.int .i64 0,.slice none 0 0] 25):=qh (hu4▸Box.new w4 _ _)
 have HU4:=qh hu4
 clear b4 hu4
 unfold ndZero
 have B4:=qh (below_then (below_then B3.out E4.out) F4.out)
 have D34:=qh (below_then (below_then D3.out E4.out) F4.out)
 have L4:=qh ((L3.out.up E4.out).up F4.out)
 go_wp2_with fail
 rw [HU4.out]
 refine (HP3.out u4 A2 c2 L4.out).mono ?_
 rintro e w5 ⟨v,rfl,t5,b5⟩
 obtain ⟨kn3,Ar3,nr3,cr3,lo3,hi3,Ak3,nk3,ck3,hv⟩:=t5.form
 subst hv
 have T5:=qh t5
 obtain ⟨u5,hu5⟩:∃ z,w5.alloc (.cells #[.int .i64 kn3,.slice Ar3 nr3 cr3,.int .i64 lo3,.int .i64 hi3,.slice Ak3 nk3 ck3] 25)=z:=⟨_,rfl⟩
 have E5:=qh b5
 have F5:Hid (Below w5.heap.size w5 u5):=qh (hu5▸below_alloc w5 _)
 have Y5:Hid (Box u5 w5.heap.size #[.int .i64 kn3,.slice Ar3 nr3 cr3,.int .i64 lo3,.int .i64 hi3,.slice Ak3 nk3 ck3] 25):=qh (hu5▸Box.new w5 _ _)
 have HU5:=qh hu5
 clear b5 hu5 t5
 have B5:=qh (below_then (below_then B4.out E5.out) F5.out)
 have D35:=qh (below_then (below_then D34.out E5.out) F5.out)
 have D45:=qh (below_then (below_then F4.out E5.out) F5.out)
 have Y35:=qh (((Y3.out.below E4.out Y3.out.lt).below F4.out (Nat.lt_of_lt_of_le Y3.out.lt E4.out.size)).below (below_then E5.out F5.out) (Nat.lt_of_lt_of_le Y3.out.lt (Nat.le_trans E4.out.size F4.out.size)))
 have Y45:=qh (Y4.out.below (below_then E5.out F5.out) Y4.out.lt)
 have a0:(w5.alloc (.cells #[.int .i64 kn3,.slice Ar3 nr3 cr3,.int .i64 lo3,.int .i64 hi3,.slice Ak3 nk3 ck3] 25)).cell? ⟨w3.heap.size,0,none⟩=some (.int .i64 kn1):=(HU5.out▸Y35.out:Box (w5.alloc (.cells #[.int .i64 kn3,.slice Ar3 nr3 cr3,.int .i64 lo3,.int .i64 hi3,.slice Ak3 nk3 ck3] 25)) w3.heap.size #[.int .i64 kn1,.slice Ar1 nr1 cr1,.int .i64 lo1,.int .i64 hi1,.slice Ak1 nk1 ck1] 25).cell rfl
 have a1:(w5.alloc (.cells #[.int .i64 kn3,.slice Ar3 nr3 cr3,.int .i64 lo3,.int .i64 hi3,.slice Ak3 nk3 ck3] 25)).cell? ⟨w3.heap.size,1,none⟩=some (.slice Ar1 nr1 cr1):=(HU5.out▸Y35.out:Box (w5.alloc (.cells #[.int .i64 kn3,.slice Ar3 nr3 cr3,.int .i64 lo3,.int .i64 hi3,.slice Ak3 nk3 ck3] 25)) w3.heap.size #[.int .i64 kn1,.slice Ar1 nr1 cr1,.int .i64 lo1,.int .i64 hi1,.slice Ak1 nk1 ck1] 25).cell rfl
 have a2:(w5.alloc (.cells #[.int .i64 kn3,.slice Ar3 nr3 cr3,.int .i64 lo3,.int .i64 hi3,.slice Ak3 nk3 ck3] 25)).cell? ⟨w3.heap.size,2,none⟩=some (.int .i64 lo1):=(HU5.out▸Y35.out:Box (w5.alloc (.cells #[.int .i64 kn3,.slice Ar3 nr3 cr3,.int .i64 lo3,.int .i64 hi3,.slice Ak3 nk3 ck3] 25)) w3.heap.size #[.int .i64 kn1,.slice Ar1 nr1 cr1,.int .i64 lo1,.int .i64 hi1,.slice Ak1 nk1 ck1] 25).cell rfl
 have a3:(w5.alloc (.cells #[.int .i64 kn3,.slice Ar3 nr3 cr3,.int .i64 lo3,.int .i64 hi3,.slice Ak3 nk3 ck3] 25)).cell? ⟨w3.heap.size,3,none⟩=some (.int .i64 hi1):=(HU5.out▸Y35.out:Box (w5.alloc (.cells #[.int .i64 kn3,.slice Ar3 nr3 cr3,.int .i64 lo3,.int .i64 hi3,.slice Ak3 nk3 ck3] 25)) w3.heap.size #[.int .i64 kn1,.slice Ar1 nr1 cr1,.int .i64 lo1,.int .i64 hi1,.slice Ak1 nk1 ck1] 25).cell rfl
 have a4:(w5.alloc (.cells #[.int .i64 kn3,.slice Ar3 nr3 cr3,.int .i64 lo3,.int .i64 hi3,.slice Ak3 nk3 ck3] 25)).cell? ⟨w3.heap.size,4,none⟩=some (.slice Ak1 nk1 ck1):=(HU5.out▸Y35.out:Box (w5.alloc (.cells #[.int .i64 kn3,.slice Ar3 nr3 cr3,.int .i64 lo3,.int .i64 hi3,.slice Ak3 nk3 ck3] 25)) w3.heap.size #[.int .i64 kn1,.slice Ar1 nr1 cr1,.int .i64 lo1,.int .i64 hi1,.slice Ak1 nk1 ck1] 25).cell rfl
 have HS2:=qh (same_at T5.out T3.out HA.out F5.out D35.out)
 go_wp2_with fail
 rw [HU5.out]
 refine HS2.out.mono ?_
 rintro e w7 ⟨rfl,b7⟩
 have B7:=qh (below_then B5.out b7)
 clear b7
 go_wp2_with fail
 go_ret
 exact ⟨rfl,B7.out⟩
theorem walk_nn (w:World) (hT:Tabs4 w) (A:Option Addr) (l:List Int) (c:Nat) (hc:l.length≤c) (h:Lies w w.heap.size A (ints .i64 l)) (hl:l.length≤100) (f:Int) (wf:∀ x∈l,(Lit.int .i64 x).wf=true) (x:List Int) (p:Int) (hq:neatI l f=(x,p,0)) (n:Nd) (hn:parseD l f=.ok n) (pm:Int) (hm:parseD x 0=.error (pm,9)) (pk:Int) (hk:parseD x f=.error (pk,9)) :
 Calls Tryz.prog 6 #[.slice A l.length c,.int .i64 f] w fun e w'=>e=.returned (.bool true)∧Below w.heap.size w w':=by
 have d1:decide (100 < (l.length:Int))=false:=decide_eq_false (by omega)
 have d2:decide ((l.length:Int) > 100)=false:=d1
 have d3:decide (100 < l.length)=false:=decide_eq_false (by omega)
 have HLV:=qh (live_any w hT)
 have HNT:Hid (∀ u,Below w.heap.size w u→Calls Tryz.prog 11 #[.slice A l.length c,.int .i64 f] u (Neat3 u (neatI l f))):=qh fun u hb=>neat_any u (hT.below hb).fo (hT.below hb).pow A l c f (h.up hb) hc
 rw [hq] at HNT
 obtain ⟨ha,hxl,hxw⟩:=parsed_all hq hn
 have HA:=qh ha
 have HP1:Hid (∀ u,Below w.heap.size w u→Calls Tryz.prog 16 #[.slice A l.length c,.int .i64 f] u (ParsedTo u n)):=qh fun u hb=>rp_ok (h.up hb) wf hn
 have HP2:Hid (∀ (u:World) (A2:Option Addr) (c2:Nat),Lies u u.heap.size A2 (ints .i64 x)→Calls Tryz.prog 16 #[.slice A2 x.length c2,.int .i64 0] u (Wronged u pm 9)):=qh fun u A2 c2 h2=>rp_no h2 hxw hm
 have HP3:Hid (∀ (u:World) (A2:Option Addr) (c2:Nat),Lies u u.heap.size A2 (ints .i64 x)→Calls Tryz.prog 16 #[.slice A2 x.length c2,.int .i64 f] u (Wronged u pk 9)):=qh fun u A2 c2 h2=>rp_no h2 hxw hk
 clear hT h hl hc hq hn hm hk wf ha hxw hxl
 go_enter Tryz.func6,Tryz.ntmps6
 go_wp2_with fail
 refine HLV.out.mono ?_
 rintro e w1 ⟨rfl,b1⟩
 have B1:=qh b1
 have HN1:=qh (HNT.out w1 b1)
 clear b1
 go_wp2_with fail
 refine HN1.out.mono ?_
 rintro e w2 ⟨v,rfl,o2,b2⟩
 obtain ⟨A2,c2,rfl,l2,-,-⟩:=o2.form
 have B2:=qh (below_then B1.out b2)
 have L2:=qh l2
 clear o2 b2 l2
 simp only [ints,List.length_map]
 go_wp2_with fail
 refine (HP1.out w2 B2.out).mono ?_
 rintro e w3 ⟨v,rfl,t3,b3⟩
 obtain ⟨kn1,Ar1,nr1,cr1,lo1,hi1,Ak1,nk1,ck1,hv⟩:=t3.form
 subst hv
 have T3:=qh t3
 obtain ⟨u3,hu3⟩:∃ z,w3.alloc (.cells #[.int .i64 kn1,.slice Ar1 nr1 cr1,.int .i64 lo1,.int .i64 hi1,.slice Ak1 nk1 ck1] 25)=z:=⟨_,rfl⟩
 have E3:=qh b3
 have F3:Hid (Below w3.heap.size w3 u3):=qh (hu3▸below_alloc w3 _)
 have Y3:Hid (Box u3 w3.heap.size #[.int .i64 kn1,.slice Ar1 nr1 cr1,.int .i64 lo1,.int .i64 hi1,.slice Ak1 nk1 ck1] 25):=qh (hu3▸Box.new w3 _ _)
 have HU3:=qh hu3
 clear b3 hu3 t3
 have B3:=qh (below_then (below_then B2.out E3.out) F3.out)
 have D3:=F3
 have L3:=qh ((L2.out.up E3.out).up F3.out)
 go_wp2_with fail
 rw [HU3.out]
 refine (HP2.out u3 A2 c2 L3.out).mono ?_
 rintro e w4 ⟨rfl,b4⟩
 obtain ⟨u4,hu4⟩:∃ z,w4.alloc (.cells #[.int .i64 0,.slice none 0 0,.int .i64 0,.int .i64 0,.slice none 0 0] 25)=z:=⟨_,rfl⟩
 have E4:=qh b4
 have F4:Hid (Below w4.heap.size w4 u4):=qh (hu4▸below_alloc w4 _)
 have Y4:Hid (Box u4 w4.heap.size #[.int .i64 0,.slice none 0 0,.int .i64 0,.int .i64 0,.slice none 0 0] 25):=qh (hu4▸Box.new w4 _ _)
 have HU4:=qh hu4
 clear b4 hu4
 unfold ndZero
 have B4:=qh (below_then (below_then B3.out E4.out) F4.out)
 have D34:=qh (below_then (below_then D3.out E4.out) F4.out)
 have L4:=qh ((L3.out.up E4.out).up F4.out)
 go_wp2_with fail
 rw [HU4.out]
 refine (HP3.out u4 A2 c2 L4.out).mono ?_
 rintro e w5 ⟨rfl,b5⟩
 obtain ⟨u5,hu5⟩:∃ z,w5.alloc (.cells #[.int .i64 0,.slice none 0 0,.int .i64 0,.int .i64 0,.slice none 0 0] 25)=z:=⟨_,rfl⟩
 have E5:=qh b5
 have F5:Hid (Below w5.heap.size w5 u5):=qh (hu5▸below_alloc w5 _)
 have Y5:Hid (Box u5 w5.heap.size #[.int .i64 0,.slice none 0 0,.int .i64 0,.int .i64 0,.slice none 0 0] 25):=qh (hu5▸Box.new w5 _ _)
 have HU5:=qh hu5
 clear b5 hu5
 unfold ndZero
 have B5:=qh (below_then (below_then B4.out E5.out) F5.out)
 have D35:=qh (below_then (below_then D34.out E5.out) F5.out)
 have D45:=qh (below_then (below_then F4.out E5.out) F5.out)
 have Y35:=qh (((Y3.out.below E4.out Y3.out.lt).below F4.out (Nat.lt_of_lt_of_le Y3.out.lt E4.out.size)).below (below_then E5.out F5.out) (Nat.lt_of_lt_of_le Y3.out.lt (Nat.le_trans E4.out.size F4.out.size)))
 have Y45:=qh (Y4.out.below (below_then E5.out F5.out) Y4.out.lt)
 go_wp2_with fail
 go_ret
 exact ⟨rfl,HU5.out▸B5.out⟩
theorem walk_long (w:World) (hT:Tabs4 w) (A:Option Addr) (l:List Int) (c:Nat) (hl:100 < l.length) (f:Int) :
 Calls Tryz.prog 6 #[.slice A l.length c,.int .i64 f] w fun e w'=>e=.returned (.bool true)∧Below w.heap.size w w':=by
 have d1:decide (100 < (l.length:Int))=true:=decide_eq_true (by omega)
 have d2:decide ((l.length:Int) > 100)=true:=d1
 have d3:decide (100 < l.length)=true:=decide_eq_true hl
 have HLV:=qh (live_any w hT)
 clear hT hl
 go_enter Tryz.func6,Tryz.ntmps6
 go_wp2_with fail
 refine HLV.out.mono ?_
 rintro e w1 ⟨rfl,b1⟩
 have B1:=qh b1
 clear b1
 go_wp2_with fail
 go_ret
 exact ⟨rfl,B1.out⟩
theorem walk (w:World) (hT:Tabs4 w) (A:Option Addr) (l:List Int) (c:Nat) (hc:l.length≤c) (_:c≤maxLen) (h:Lies w w.heap.size A (ints .i64 l)) (wf:∀ x∈l,(Lit.int .i64 x).wf=true) (f:Int) (_:(Lit.int .i64 f).wf=true) :
 Calls Tryz.prog 6 #[.slice A l.length c,.int .i64 f] w fun e w'=>e=.returned (.bool true)∧Below w.heap.size w w':=by
 by_cases hl:100 < l.length
 ·exact walk_long w hT A l c hl f
 ·have hl:l.length≤100:=by omega
  by_cases hz:(neatI l f).2.2=0
  ·obtain ⟨q,hq⟩:∃ q,neatI l f=q:=⟨_,rfl⟩
   obtain ⟨x,p,z⟩:=q
   rw [hq] at hz
   simp only at hz
   subst hz
   obtain ⟨n,hn,hm,hk⟩:=neat_flags hq
   rcases hm with hm | ⟨pm,hm⟩
   ·rcases hk with hk | ⟨pk,hk⟩
    ·exact walk_yy w hT A l c hc h hl f wf x p hq n hn hm hk
    ·exact walk_yn w hT A l c hc h hl f wf x p hq n hn hm pk hk
   ·rcases hk with hk | ⟨pk,hk⟩
    ·exact walk_ny w hT A l c hc h hl f wf x p hq n hn pm hm hk
    ·exact walk_nn w hT A l c hc h hl f wf x p hq n hn pm hm pk hk
  ·exact walk_no w hT A l c hc h hl f hz
-- WRAP
theorem spec:LawSpec Rows.showFlagsSpec 2:=⟨rfl,fun H ds h=>by
 match ds,h with
 | [d0,d1],_=>rfl⟩
theorem params_ok:∀ t∈Tryz.f6.params.toList,Tryz.prog.readableRec t=true∧t < Tryz.prog.types.size:=by
 rw [Tryz.params6]
 intro t ht
 simp only [List.mem_cons,List.mem_nil_iff,or_false] at ht
 rcases ht with rfl | rfl
 all_goals exact ⟨by kernel_rfl,of_decide_eq_true (by kernel_rfl)⟩
set_option maxRecDepth 100000 in
theorem contract (H:Type) (enc:TypeId×Value→H) (W:World) (base:Nat) (args:Array Value) (ds gs:List (DataW H)) (before:List MemPlace)
 (hval:∀ (j:Nat) t v,Tryz.f6.params[j]?=some t→args[j]?=some v→Value.okWide Tryz.prog W .any base t v)
 (hW:DataW.Whole enc Tryz.prog Tryz.f6.params.toList Rows.showFlagsSpec.vars false W args.toList ds gs before) (hL:laidMetH Tryz.prog laidList4 W) :
 Calls Tryz.prog 6 args W fun e W'=>∃ v,e=.returned v∧Rows.showFlagsSpec.post enc Tryz.prog Tryz.f6 false true false false W args v W':=by
 have hW':=hW
 obtain ⟨p,q,hA0,hV,rfl,hfz,hnd⟩:=hW
 have hA:DataW.TrodAll enc Tryz.prog W 0 (fun _=>true) true Tryz.f6.params.toList args.toList ds p:=hA0
 rw [Tryz.params6] at hA hval
 obtain ⟨v0,vs0,d0,ds0,p0,q0,hargs,rfl,rfl,h0,r0⟩:=trodAll_cons hA
 obtain ⟨v1,vs1,d1,ds1,p1,q1,rfl,rfl,rfl,h1,r1⟩:=trodAll_cons r0
 obtain ⟨rfl,rfl,rfl⟩:=trodAll_nil r1
 obtain rfl:args=#[v0,v1]:=by cases args;simp_all
 obtain ⟨A0,l0,c0,rfl,hc0,hm0,hl0,wf0⟩:=open_list Tryz.underlying26 Tryz.underlying3 (by kernel_rfl) (hval 0 26 v0 rfl rfl) h0
 obtain ⟨a1,rfl,rfl,rfl,w1⟩:=open_int Tryz.underlying3 (hval 1 3 v1 rfl rfl) h1
 exact (walk W (tabs_of4 hL) A0 l0 c0 hc0 hm0 hl0 wf0 a1 w1).mono fun e W' ⟨he,hg⟩=>⟨_,he,law_post spec (by rw [Tryz.params6];rfl) (by kernel_rfl) params_ok (by kernel_rfl) Tryz.underlying4 hW' hg⟩
set_option maxRecDepth 100000 in
theorem laid_met (os:Os):laidMet Tryz.prog Rows.showFlagsRow.laid ((laidWorld4 os #[.slice none 0 0,.int .i64 0]).forCall (fun _ _=>0) ⟨#[],#[.slice none 0 0,.int .i64 0],[]⟩).memory :=
 laidMet_of_run' 8 (by kernel_rfl) (by kernel_rfl)
set_option maxRecDepth 100000 in
theorem reads (os:Os) {H:Type} (enc:TypeId×Value→H):∃ places,DataW.whole enc Tryz.prog ((laidWorld4 os #[.slice none 0 0,.int .i64 0]).forCall (fun _ _=>0) ⟨#[],#[.slice none 0 0,.int .i64 0],[]⟩).memory Tryz.f6.params.toList Rows.showFlagsSpec.vars false #[.slice none 0 0,.int .i64 0].toList 8=some ([.nil,.lit (.int .i64 0)],[],places) :=
 ⟨[],by kernel_rfl⟩
set_option maxRecDepth 100000 in
theorem lifted (os:Os) (started:os.Started) (H:Type) (enc:TypeId×Value→H) (F:Stop.Interp) :
 ReturnsInHanded {} Tryz.checked os 6 .any ((OpenSpec.ofChange Rows.showFlagsSpec).preRow enc Tryz.prog Tryz.f6 Rows.showFlagsRow.domain false Rows.showFlagsRow.laid) (((OpenSpec.ofChange Rows.showFlagsSpec).at F).post enc Tryz.prog Tryz.f6 false true false false):=by
 obtain ⟨places,hx⟩:=reads os enc
 refine returnsInHanded_of_row (C:=Tryz.checked) (s:=OpenSpec.ofChange Rows.showFlagsSpec) own started (by kernel_rfl) Tryz.func6
  (witness_row_at (enc:=enc) (C:=Tryz.checked) false (laidWorld4 os #[.slice none 0 0,.int .i64 0]) #[.slice none 0 0,.int .i64 0] rfl (by kernel_rfl) (by kernel_rfl) (by kernel_rfl)
   (OpenSpec.preRow_of_cond 8 hx (by kernel_rfl) (fun k hk=>by cases hk) (by kernel_rfl) (laid_met os))) ?_
 intro W base args ds gs before hval hW _ _ _ hL _ _
 exact contract H enc W base args ds gs before hval hW hL
set_option maxRecDepth 100000 in
theorem said:Rows.ShowFlagsSaid :=
 OpenClaim.holds_of_cond 6 Tryz.f6 rfl rfl rfl rfl rfl rfl rfl ⟨rfl,rfl,rfl,rfl,rfl⟩ rfl rfl rfl rfl rfl (by kernel_rfl) Tryz.func6 (by kernel_rfl)
  (of_decide_eq_true (by kernel_rfl)) (by unfold Func.isWrapper;first | (rw [if_pos (by decide +kernel)];kernel_rfl) | (rw [if_neg (by decide +kernel)];exact ⟨rfl,rfl⟩))
  (fun os started H enc _ F=>by rw [OpenClaim.pre_eq_preRow];exact lifted os started H enc F)
set_option maxRecDepth 100000 in
theorem card:Rows.ShowFlagsCardSaid :=
 Claim7.holds_tied_plain_at .later [] _ _ _ _ said (fun _ h=>by cases h) (by kernel_rfl) (fun _ h=>by cases h) showFlags_row_tie rfl ⟨rfl,rfl⟩ (by kernel_rfl) rfl
  (plainOf "ductus/ductuslaw17.ShowFlags" 6 Tryz.f6 (by kernel_rfl) Tryz.func6 (by kernel_rfl) (fun j t ht=>by
   rw [Tryz.params6] at ht
   have hm:=Array.mem_of_getElem? ht
   simp only [List.mem_toArray,List.mem_cons,List.mem_nil_iff,or_false] at hm
   rcases hm with rfl | rfl
   all_goals (show Tryz.prog.wantsStandIn _=false;kernel_rfl))) (by kernel_rfl)
end Go.Proofs.YtoeocodfndbebaaGreatDoor.lawFlags
