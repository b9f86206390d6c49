/- Shared texts, shaken for one claim. -/
import Derived.Test.YtoeocodfndbebaaGreatDoorZC19
import Derived.Test.YtoeocodfndbebaaGreatDoorZC25
set_option maxRecDepth 20000
set_option maxHeartbeats 16000000
namespace Go.Proofs.YtoeocodfndbebaaGreatDoor
section
open Go.RowKit
def signs15:List Int:=[46,40,41,124,94,36,63,42,43,123,125,91,93,45,47,92]
theorem signs_in {c:Int} (h:c∈signs15):signI c=true:=by
 simp only [signs15,List.mem_cons,List.mem_nil_iff,or_false] at h
 simp [signI]
 omega
theorem signs_not {c:Int} (h:∀ s∈signs15,s≠c):signI c=false:=by
 simp only [signs15,List.mem_cons,List.mem_nil_iff,or_false,forall_eq_or_imp,forall_eq] at h
 simp [signI]
 omega
theorem among16_any (c:Int) (w:World):Calls Tryz.prog 91 #[.int .i64 c,(.string { data:=#[46,40,41,124,94,36,63,42,43,123,125,91,93,45,47,92] })] w fun e w'=>e=.returned (.bool (signI c))∧w=w':=by
 obtain ⟨Z,hZ⟩:∃ Z,signI c=Z:=⟨_,rfl⟩
 have HY:Hid (c∈signs15→Z=true):=qh fun h=>hZ▸signs_in h
 have HNO:Hid ((∀ s∈signs15.take 16,s≠c)→Z=false):=qh fun h=>hZ▸signs_not h
 rw [hZ]
 clear hZ
 go_enter Tryz.func91,Tryz.ntmps91
 go_wp2_with fail
 go_loopw [5] (fun iv wr=>∃ k:Nat,k≤16∧iv=.int .i64 k∧Hid (∀ s∈signs15.take k,s≠c)∧wr=w) (fun iv _=>16 - (intOf iv).toNat)
 case atStart=>exact ⟨0,by omega,rfl,qh (by simp),rfl⟩
 case round =>
  obtain ⟨k,hk,rfl,HN,rfl⟩:=hrel
  have hc:k=16∨k=0∨k=1∨k=2∨k=3∨k=4∨k=5∨k=6∨k=7∨k=8∨k=9∨k=10∨k=11∨k=12∨k=13∨k=14∨k=15:=by omega
  rcases hc with rfl | rfl | rfl | rfl | rfl | rfl | rfl | rfl | rfl | rfl | rfl | rfl | rfl | rfl | rfl | rfl | rfl
  ·have hz:=HNO.out HN.out
   subst hz
   go_wp2_with fail
   go_ret
   exact ⟨rfl,rfl⟩
  ·have e0:(({ data:=#[46,40,41,124,94,36,63,42,43,123,125,91,93,45,47,92] }:ByteArray)[0]'(by decide)).toNat=46:=rfl
   rcases hz:((46:Int) == c) with _ | _
   ·have HN2:Hid (∀ s∈signs15.take 1,s≠c):=qh fun s hs=>by
     rw [show signs15.take 1=signs15.take 0++[46] from rfl,List.mem_append,List.mem_singleton] at hs
     rcases hs with hs | rfl
     ·exact HN.out s hs
     ·simpa using hz
    go_wp2_with fail
    go_roundw
    case rel=>exact ⟨1,by omega,by go_num,HN2,trivial⟩
    case measure=>simp [intOf]
   ·have hzt:=HY.out (by rw [← show (46:Int)=c by simpa using hz];decide)
    subst hzt
    go_wp2_with fail
    go_ret
    exact ⟨rfl,rfl⟩
  ·have e0:(({ data:=#[46,40,41,124,94,36,63,42,43,123,125,91,93,45,47,92] }:ByteArray)[1]'(by decide)).toNat=40:=rfl
   rcases hz:((40:Int) == c) with _ | _
   ·have HN2:Hid (∀ s∈signs15.take 2,s≠c):=qh fun s hs=>by
     rw [show signs15.take 2=signs15.take 1++[40] from rfl,List.mem_append,List.mem_singleton] at hs
     rcases hs with hs | rfl
     ·exact HN.out s hs
     ·simpa using hz
    go_wp2_with fail
    go_roundw
    case rel=>exact ⟨2,by omega,by go_num,HN2,trivial⟩
    case measure=>simp [intOf]
   ·have hzt:=HY.out (by rw [← show (40:Int)=c by simpa using hz];decide)
    subst hzt
    go_wp2_with fail
    go_ret
    exact ⟨rfl,rfl⟩
  ·have e0:(({ data:=#[46,40,41,124,94,36,63,42,43,123,125,91,93,45,47,92] }:ByteArray)[2]'(by decide)).toNat=41:=rfl
   rcases hz:((41:Int) == c) with _ | _
   ·have HN2:Hid (∀ s∈signs15.take 3,s≠c):=qh fun s hs=>by
     rw [show signs15.take 3=signs15.take 2++[41] from rfl,List.mem_append,List.mem_singleton] at hs
     rcases hs with hs | rfl
     ·exact HN.out s hs
     ·simpa using hz
    go_wp2_with fail
    go_roundw
    case rel=>exact ⟨3,by omega,by go_num,HN2,trivial⟩
    case measure=>simp [intOf]
   ·have hzt:=HY.out (by rw [← show (41:Int)=c by simpa using hz];decide)
    subst hzt
    go_wp2_with fail
    go_ret
    exact ⟨rfl,rfl⟩
  ·have e0:(({ data:=#[46,40,41,124,94,36,63,42,43,123,125,91,93,45,47,92] }:ByteArray)[3]'(by decide)).toNat=124:=rfl
   rcases hz:((124:Int) == c) with _ | _
   ·have HN2:Hid (∀ s∈signs15.take 4,s≠c):=qh fun s hs=>by
     rw [show signs15.take 4=signs15.take 3++[124] from rfl,List.mem_append,List.mem_singleton] at hs
     rcases hs with hs | rfl
     ·exact HN.out s hs
     ·simpa using hz
    go_wp2_with fail
    go_roundw
    case rel=>exact ⟨4,by omega,by go_num,HN2,trivial⟩
    case measure=>simp [intOf]
   ·have hzt:=HY.out (by rw [← show (124:Int)=c by simpa using hz];decide)
    subst hzt
    go_wp2_with fail
    go_ret
    exact ⟨rfl,rfl⟩
  ·have e0:(({ data:=#[46,40,41,124,94,36,63,42,43,123,125,91,93,45,47,92] }:ByteArray)[4]'(by decide)).toNat=94:=rfl
   rcases hz:((94:Int) == c) with _ | _
   ·have HN2:Hid (∀ s∈signs15.take 5,s≠c):=qh fun s hs=>by
     rw [show signs15.take 5=signs15.take 4++[94] from rfl,List.mem_append,List.mem_singleton] at hs
     rcases hs with hs | rfl
     ·exact HN.out s hs
     ·simpa using hz
    go_wp2_with fail
    go_roundw
    case rel=>exact ⟨5,by omega,by go_num,HN2,trivial⟩
    case measure=>simp [intOf]
   ·have hzt:=HY.out (by rw [← show (94:Int)=c by simpa using hz];decide)
    subst hzt
    go_wp2_with fail
    go_ret
    exact ⟨rfl,rfl⟩
  ·have e0:(({ data:=#[46,40,41,124,94,36,63,42,43,123,125,91,93,45,47,92] }:ByteArray)[5]'(by decide)).toNat=36:=rfl
   rcases hz:((36:Int) == c) with _ | _
   ·have HN2:Hid (∀ s∈signs15.take 6,s≠c):=qh fun s hs=>by
     rw [show signs15.take 6=signs15.take 5++[36] from rfl,List.mem_append,List.mem_singleton] at hs
     rcases hs with hs | rfl
     ·exact HN.out s hs
     ·simpa using hz
    go_wp2_with fail
    go_roundw
    case rel=>exact ⟨6,by omega,by go_num,HN2,trivial⟩
    case measure=>simp [intOf]
   ·have hzt:=HY.out (by rw [← show (36:Int)=c by simpa using hz];decide)
    subst hzt
    go_wp2_with fail
    go_ret
    exact ⟨rfl,rfl⟩
  ·have e0:(({ data:=#[46,40,41,124,94,36,63,42,43,123,125,91,93,45,47,92] }:ByteArray)[6]'(by decide)).toNat=63:=rfl
   rcases hz:((63:Int) == c) with _ | _
   ·have HN2:Hid (∀ s∈signs15.take 7,s≠c):=qh fun s hs=>by
     rw [show signs15.take 7=signs15.take 6++[63] from rfl,List.mem_append,List.mem_singleton] at hs
     rcases hs with hs | rfl
     ·exact HN.out s hs
     ·simpa using hz
    go_wp2_with fail
    go_roundw
    case rel=>exact ⟨7,by omega,by go_num,HN2,trivial⟩
    case measure=>simp [intOf]
   ·have hzt:=HY.out (by rw [← show (63:Int)=c by simpa using hz];decide)
    subst hzt
    go_wp2_with fail
    go_ret
    exact ⟨rfl,rfl⟩
  ·have e0:(({ data:=#[46,40,41,124,94,36,63,42,43,123,125,91,93,45,47,92] }:ByteArray)[7]'(by decide)).toNat=42:=rfl
   rcases hz:((42:Int) == c) with _ | _
   ·have HN2:Hid (∀ s∈signs15.take 8,s≠c):=qh fun s hs=>by
     rw [show signs15.take 8=signs15.take 7++[42] from rfl,List.mem_append,List.mem_singleton] at hs
     rcases hs with hs | rfl
     ·exact HN.out s hs
     ·simpa using hz
    go_wp2_with fail
    go_roundw
    case rel=>exact ⟨8,by omega,by go_num,HN2,trivial⟩
    case measure=>simp [intOf]
   ·have hzt:=HY.out (by rw [← show (42:Int)=c by simpa using hz];decide)
    subst hzt
    go_wp2_with fail
    go_ret
    exact ⟨rfl,rfl⟩
  ·have e0:(({ data:=#[46,40,41,124,94,36,63,42,43,123,125,91,93,45,47,92] }:ByteArray)[8]'(by decide)).toNat=43:=rfl
   rcases hz:((43:Int) == c) with _ | _
   ·have HN2:Hid (∀ s∈signs15.take 9,s≠c):=qh fun s hs=>by
     rw [show signs15.take 9=signs15.take 8++[43] from rfl,List.mem_append,List.mem_singleton] at hs
     rcases hs with hs | rfl
     ·exact HN.out s hs
     ·simpa using hz
    go_wp2_with fail
    go_roundw
    case rel=>exact ⟨9,by omega,by go_num,HN2,trivial⟩
    case measure=>simp [intOf]
   ·have hzt:=HY.out (by rw [← show (43:Int)=c by simpa using hz];decide)
    subst hzt
    go_wp2_with fail
    go_ret
    exact ⟨rfl,rfl⟩
  ·have e0:(({ data:=#[46,40,41,124,94,36,63,42,43,123,125,91,93,45,47,92] }:ByteArray)[9]'(by decide)).toNat=123:=rfl
   rcases hz:((123:Int) == c) with _ | _
   ·have HN2:Hid (∀ s∈signs15.take 10,s≠c):=qh fun s hs=>by
     rw [show signs15.take 10=signs15.take 9++[123] from rfl,List.mem_append,List.mem_singleton] at hs
     rcases hs with hs | rfl
     ·exact HN.out s hs
     ·simpa using hz
    go_wp2_with fail
    go_roundw
    case rel=>exact ⟨10,by omega,by go_num,HN2,trivial⟩
    case measure=>simp [intOf]
   ·have hzt:=HY.out (by rw [← show (123:Int)=c by simpa using hz];decide)
    subst hzt
    go_wp2_with fail
    go_ret
    exact ⟨rfl,rfl⟩
  ·have e0:(({ data:=#[46,40,41,124,94,36,63,42,43,123,125,91,93,45,47,92] }:ByteArray)[10]'(by decide)).toNat=125:=rfl
   rcases hz:((125:Int) == c) with _ | _
   ·have HN2:Hid (∀ s∈signs15.take 11,s≠c):=qh fun s hs=>by
     rw [show signs15.take 11=signs15.take 10++[125] from rfl,List.mem_append,List.mem_singleton] at hs
     rcases hs with hs | rfl
     ·exact HN.out s hs
     ·simpa using hz
    go_wp2_with fail
    go_roundw
    case rel=>exact ⟨11,by omega,by go_num,HN2,trivial⟩
    case measure=>simp [intOf]
   ·have hzt:=HY.out (by rw [← show (125:Int)=c by simpa using hz];decide)
    subst hzt
    go_wp2_with fail
    go_ret
    exact ⟨rfl,rfl⟩
  ·have e0:(({ data:=#[46,40,41,124,94,36,63,42,43,123,125,91,93,45,47,92] }:ByteArray)[11]'(by decide)).toNat=91:=rfl
   rcases hz:((91:Int) == c) with _ | _
   ·have HN2:Hid (∀ s∈signs15.take 12,s≠c):=qh fun s hs=>by
     rw [show signs15.take 12=signs15.take 11++[91] from rfl,List.mem_append,List.mem_singleton] at hs
     rcases hs with hs | rfl
     ·exact HN.out s hs
     ·simpa using hz
    go_wp2_with fail
    go_roundw
    case rel=>exact ⟨12,by omega,by go_num,HN2,trivial⟩
    case measure=>simp [intOf]
   ·have hzt:=HY.out (by rw [← show (91:Int)=c by simpa using hz];decide)
    subst hzt
    go_wp2_with fail
    go_ret
    exact ⟨rfl,rfl⟩
  ·have e0:(({ data:=#[46,40,41,124,94,36,63,42,43,123,125,91,93,45,47,92] }:ByteArray)[12]'(by decide)).toNat=93:=rfl
   rcases hz:((93:Int) == c) with _ | _
   ·have HN2:Hid (∀ s∈signs15.take 13,s≠c):=qh fun s hs=>by
     rw [show signs15.take 13=signs15.take 12++[93] from rfl,List.mem_append,List.mem_singleton] at hs
     rcases hs with hs | rfl
     ·exact HN.out s hs
     ·simpa using hz
    go_wp2_with fail
    go_roundw
    case rel=>exact ⟨13,by omega,by go_num,HN2,trivial⟩
    case measure=>simp [intOf]
   ·have hzt:=HY.out (by rw [← show (93:Int)=c by simpa using hz];decide)
    subst hzt
    go_wp2_with fail
    go_ret
    exact ⟨rfl,rfl⟩
  ·have e0:(({ data:=#[46,40,41,124,94,36,63,42,43,123,125,91,93,45,47,92] }:ByteArray)[13]'(by decide)).toNat=45:=rfl
   rcases hz:((45:Int) == c) with _ | _
   ·have HN2:Hid (∀ s∈signs15.take 14,s≠c):=qh fun s hs=>by
     rw [show signs15.take 14=signs15.take 13++[45] from rfl,List.mem_append,List.mem_singleton] at hs
     rcases hs with hs | rfl
     ·exact HN.out s hs
     ·simpa using hz
    go_wp2_with fail
    go_roundw
    case rel=>exact ⟨14,by omega,by go_num,HN2,trivial⟩
    case measure=>simp [intOf]
   ·have hzt:=HY.out (by rw [← show (45:Int)=c by simpa using hz];decide)
    subst hzt
    go_wp2_with fail
    go_ret
    exact ⟨rfl,rfl⟩
  ·have e0:(({ data:=#[46,40,41,124,94,36,63,42,43,123,125,91,93,45,47,92] }:ByteArray)[14]'(by decide)).toNat=47:=rfl
   rcases hz:((47:Int) == c) with _ | _
   ·have HN2:Hid (∀ s∈signs15.take 15,s≠c):=qh fun s hs=>by
     rw [show signs15.take 15=signs15.take 14++[47] from rfl,List.mem_append,List.mem_singleton] at hs
     rcases hs with hs | rfl
     ·exact HN.out s hs
     ·simpa using hz
    go_wp2_with fail
    go_roundw
    case rel=>exact ⟨15,by omega,by go_num,HN2,trivial⟩
    case measure=>simp [intOf]
   ·have hzt:=HY.out (by rw [← show (47:Int)=c by simpa using hz];decide)
    subst hzt
    go_wp2_with fail
    go_ret
    exact ⟨rfl,rfl⟩
  ·have e0:(({ data:=#[46,40,41,124,94,36,63,42,43,123,125,91,93,45,47,92] }:ByteArray)[15]'(by decide)).toNat=92:=rfl
   rcases hz:((92:Int) == c) with _ | _
   ·have HN2:Hid (∀ s∈signs15.take 16,s≠c):=qh fun s hs=>by
     rw [show signs15.take 16=signs15.take 15++[92] from rfl,List.mem_append,List.mem_singleton] at hs
     rcases hs with hs | rfl
     ·exact HN.out s hs
     ·simpa using hz
    go_wp2_with fail
    go_roundw
    case rel=>exact ⟨16,by omega,by go_num,HN2,trivial⟩
    case measure=>simp [intOf]
   ·have hzt:=HY.out (by rw [← show (92:Int)=c by simpa using hz];decide)
    subst hzt
    go_wp2_with fail
    go_ret
    exact ⟨rfl,rfl⟩
theorem rsign15_any (c:Int) (w:World):Calls Tryz.prog 73 #[.int .i64 c] w fun e w'=>e=.returned (.bool (signI c))∧w=w':=by
 have H:=qh (among16_any c w)
 obtain ⟨Z,hZ⟩:∃ Z,signI c=Z:=⟨_,rfl⟩
 rw [hZ] at H ⊢
 clear hZ
 go_enter Tryz.func73,Tryz.ntmps73
 go_wp2_with fail
 refine H.out.mono ?_
 rintro e wq ⟨rfl,rfl⟩
 go_wp2_with fail
 go_ret
 exact ⟨rfl,rfl⟩
theorem rquote15_any (w:World) (A:Option Addr) (l:List Int) (c:Nat) (h:Lies w w.heap.size A (ints .i64 l)) (hl:l.length≤1000) :
 Calls Tryz.prog 52 #[.slice A l.length c] w (Rowed w w.heap.size 3 (ints .i64 (quoteI l))):=by
 have HL:=qh h
 have HQ:Hid (∀ k,(quoteI (l.take k)).length≤2000):=qh (fun k=>quoteI_take_le l k hl)
 clear h
 go_enter Tryz.func52,Tryz.ntmps52
 go_wp2_with fail
 go_loopw [4,3] (fun iv ov wr=>∃ k:Nat,k≤l.length∧iv=.int .i64 k∧Hid (Own wr w.heap.size 3 ov (ints .i64 (quoteI (l.take k))))∧Hid (Below w.heap.size w wr)) (fun iv _ _=>l.length - (intOf iv).toNat)
 case atStart=>exact ⟨0,by omega,rfl,qh (Own.empty _ _ _),qh (Below.refl _ _)⟩
 case round =>
  obtain ⟨k,hk,rfl,HO,HB⟩:=hrel
  by_cases hlt:k < l.length
  ·obtain ⟨p,rfl,-,hc⟩:=(Lies.up HL.out HB.out).int hlt
   have HT:=qh (quoteI_take hlt)
   obtain ⟨x,hx⟩:∃ x,l[k]=x:=⟨_,rfl⟩
   rw [hx] at hc HT
   have HLC:Hid (∀ u,Below w.heap.size w u→u.cell? (p.add k)=some (.int .i64 x)):=qh fun u hu=>by
    obtain ⟨p',hp',-,hc'⟩:=(Lies.up HL.out hu).int hlt
    injection hp' with hp'
    subst hp'
    rw [hc',hx]
   have k0:(0:Int)≤(k:Int):=by omega
   have k1:(k:Int) < (l.length:Int):=by omega
   have HS:=qh (rsign15_any x wr)
   clear hx
   rcases hs:signI x with _ | _
   ·have HT2:Hid (ints .i64 (quoteI (l.take k))++[Value.int .i64 x]=ints .i64 (quoteI (l.take (k+1)))):=qh (by rw [HT.out,hs];simp [ints])
    rw [hs] at HS
    clear hs
    go_wp2_with fail
    refine HS.out.mono ?_
    rintro e wq ⟨rfl,rfl⟩
    go_wp2_with (first
     | (at_builtin;refine app_lit intsT w wr w.heap.size _ _ #[.int .i64 x] 1 _ (ints .i64 (quoteI (l.take k))) rfl rfl rfl rfl HO.out (by simp [Value.oneCell']) HB.out HB.out.size (by have:=HQ.out k;unfold maxLen;simp;omega) (by have:=HQ.out k;simp;omega) ?_;intro v2 w2 o2 b2 _ _;have O2:Hid (Own w2 w.heap.size 3 v2 (ints .i64 (quoteI (l.take (k+1))))):=qh (by rw [← HT2.out];exact o2);have B2:=qh b2;clear o2 b2)
     | fail)
    go_roundw
    case rel=>exact ⟨k+1,by omega,by go_num,O2,B2⟩
    case measure=>simp [intOf];omega
   ·have HT2:Hid ((ints .i64 (quoteI (l.take k))++[Value.int .i64 92])++[Value.int .i64 x]=ints .i64 (quoteI (l.take (k+1)))):=qh (by rw [HT.out,hs];simp [ints])
    rw [hs] at HS
    clear hs
    go_wp2_with fail
    refine HS.out.mono ?_
    rintro e wq ⟨rfl,rfl⟩
    go_wp2_with (first
     | (at_builtin;refine app_lit intsT w wr w.heap.size _ _ #[.int .i64 92] 1 _ (ints .i64 (quoteI (l.take k))) rfl rfl rfl rfl HO.out (by simp [Value.oneCell']) HB.out HB.out.size (by have:=HQ.out k;unfold maxLen;simp;omega) (by have:=HQ.out k;simp;omega) ?_;intro v2 w2 o2 b2 _ _;have O2:=qh o2;have B2:=qh b2;have hc2:w2.cell? (p.add k)=some (.int .i64 x):=HLC.out w2 b2;clear o2 b2 HO)
     | (at_builtin;refine app_lit intsT w w2 w.heap.size _ _ #[.int .i64 x] 1 _ (ints .i64 (quoteI (l.take k))++[Value.int .i64 92]) rfl rfl rfl rfl O2.out (by simp [Value.oneCell']) B2.out B2.out.size (by have:=HQ.out k;unfold maxLen;simp;omega) (by have:=HQ.out k;simp;omega) ?_;intro v3 w3 o3 b3 _ _;have O3:Hid (Own w3 w.heap.size 3 v3 (ints .i64 (quoteI (l.take (k+1))))):=qh (by rw [← HT2.out];exact o3);have B3:=qh b3;clear o3 b3)
     | fail)
    go_roundw
    case rel=>exact ⟨k+1,by omega,by go_num,O3,B3⟩
    case measure=>simp [intOf];omega
  ·obtain rfl:k=l.length:=by omega
   have HO2:=HO.out
   rw [List.take_length] at HO2
   have O2:=qh HO2
   clear HO2
   go_wp2_with fail
   go_ret
   exact rowed_ret O2.out HB.out rfl
end
section
open Go.RowKit
theorem rquoteC_any (w:World) (c:Int):Calls Tryz.prog 35 #[.int .i64 c] w (Rowed w w.heap.size 3 (ints .i64 (quoC c))):=by
 have HL:=qh (Lies.litUp (w:=w) (e:=3) #[.int .i64 c])
 have HC:=qh (rquote15_any (w.alloc (.cells #[.int .i64 c] 3)) _ [c] 1 HL.out (by simp))
 rw [quoteI_one] at HC
 go_enter Tryz.func35,Tryz.ntmps35
 go_wp2_with fail
 refine HC.out.mono ?_
 rintro e w1 ⟨v,rfl,o,b⟩
 have O:=qh o
 have B:=qh (below_then (below_alloc w _) b)
 clear o b
 go_wp2_with fail
 go_ret
 exact rowed_ret (O.out.weaken (by simp)) B.out rfl
theorem rdigits_one (w:World) (n:Int) (h0:0≤n) (h:n < 10):Calls Tryz.prog 37 #[.int .i64 n] w (Rowed w w.heap.size 3 (ints .i64 [48+n])):=by
 have t0:decide (n < 10)=true:=decide_eq_true h
 have t1:IntKind.i64.wrap (48+n)=48+n:=IntWalk.i64_in _ (by omega)
 clear h h0
 go_enter Tryz.func37,Tryz.ntmps37
 go_wp2_with fail
 go_ret
 exact rowed_ret (Own.ofLit (w:=w) #[.int .i64 (48+n)] (Nat.le_refl _) (by simp [maxLen])) (below_alloc w _) rfl
theorem rdigits_two (w:World) (n q r:Int) (h:¬ n < 10) (hq:n.tdiv 10=q) (hr:n.tmod 10=r) (h0:0≤q) (h1:q < 10) (h2:0≤r) (h3:r < 10):Calls Tryz.prog 37 #[.int .i64 n] w (Rowed w w.heap.size 3 (ints .i64 [48+q,48+r])):=by
 have t0:decide (n < 10)=false:=decide_eq_false h
 have t1:IntKind.i64.wrap (48+r)=48+r:=IntWalk.i64_in _ (by omega)
 have t2:IntKind.i64.wrap q=q:=IntWalk.i64_in _ (by omega)
 have t3:IntKind.i64.wrap r=r:=IntWalk.i64_in _ (by omega)
 have HC:=qh (rdigits_one w q h0 h1)
 clear h h0 h1 h2 h3
 go_enter Tryz.func37,Tryz.ntmps37
 go_wp2_with fail
 refine HC.out.mono ?_
 rintro e w1 ⟨v,rfl,o,b⟩
 have O:=qh o
 have B:=qh b
 clear o b
 go_wp2_with (first
  | (at_builtin;refine app_lit intsT w w1 w.heap.size _ _ #[.int .i64 (48+r)] 1 _ _ rfl rfl rfl rfl O.out (by simp [Value.oneCell']) B.out B.out.size (by unfold maxLen;simp) (by simp) ?_;intro v2 w2 o2 b2 _ _;have O2:=qh o2;have B2:=qh b2;clear o2 b2)
  | fail)
 go_ret
 exact rowed_ret O2.out B2.out (by simp [ints])
theorem rdigits_any (w:World) (n:Int) (h0:0≤n) (h:n≤20):Calls Tryz.prog 37 #[.int .i64 n] w (Rowed w w.heap.size 3 (ints .i64 (digI n.toNat))):=by
 by_cases h1:n < 10
 ·have:digI n.toNat=[48+n]:=by
   rw [digI,if_pos (by omega),Int.toNat_of_nonneg h0]
  rw [this]
  exact rdigits_one w n h0 h1
 ·obtain ⟨m,rfl⟩:=Int.eq_ofNat_of_zero_le h0
  have hd:(m:Int).tdiv 10=((m / 10:Nat):Int):=by rw [Int.tdiv_eq_ediv_of_nonneg h0];omega
  have hm:(m:Int).tmod 10=((m % 10:Nat):Int):=by rw [Int.tmod_eq_emod_of_nonneg h0];omega
  have:digI (Int.toNat (m:Int))=[48+((m / 10:Nat):Int),48+((m % 10:Nat):Int)]:=by
   rw [Int.toNat_natCast,digI,if_neg (by omega),digI,if_pos (by omega)]
   rfl
  rw [this]
  exact rdigits_two w m _ _ h1 hd hm (by omega) (by omega) (by omega) (by omega)
def WroteD (w:World) (P:Nat→Prop) (n:Nd) (v:Array Value):Prop :=
 ∀ u,Agree w P u→Calls Tryz.prog 19 #[.agg v] u (Rowed u u.heap.size 3 (ints .i64 (textN n)))
theorem drop_has {l:List Int} {i:Nat} (h:i < l.length) (x:Int):(l.drop i).contains x=((x == l[i]) || (l.drop (i+1)).contains x):=by
 rw [List.drop_eq_getElem_cons h,List.contains_cons]
theorem rwithin_any {w:World} {P:Nat→Prop} {n:Nd} {v:Array Value} (h:Treed w P n v) (hW:WroteD w P n v) (u:World) (hu:Agree w P u) (K:Option Addr) (l:List Int) (kc:Nat) (hK:Lies u u.heap.size K (ints .i64 l)) (hl:l.length≤10) (hb:(textN n).length≤10000) :
 Calls Tryz.prog 36 #[.agg v,.slice K l.length kc] u (Rowed u u.heap.size 3 (ints .i64 (inBr (l.contains (kindN n)) (textN n)))):=by
 obtain ⟨A,m,c,lo,hi,A',m',c',rfl⟩:=h.kind
 obtain ⟨kn,hkn⟩:∃ x,kindN n=x:=⟨_,rfl⟩
 rw [hkn] at hW ⊢
 obtain ⟨tx,htx⟩:∃ x,textN n=x:=⟨_,rfl⟩
 have HW:Hid (∀ x,u.grownBy x none→Calls Tryz.prog 19 #[.agg #[.int .i64 kn,.slice A m c,.int .i64 lo,.int .i64 hi,.slice A' m' c']] x (Rowed x x.heap.size 3 (ints .i64 tx))):=qh fun x g=>htx▸hW x (hu.grown g)
 rw [htx] at hb ⊢
 have X0:Hid (Box (u.alloc (.cells #[.int .i64 kn,.slice A m c,.int .i64 lo,.int .i64 hi,.slice A' m' c'] 25)) u.heap.size #[.int .i64 kn,.slice A m c,.int .i64 lo,.int .i64 hi,.slice A' m' c'] 25):=qh (Box.new u _ _)
 have G0:Hid (u.grownBy (u.alloc (.cells #[.int .i64 kn,.slice A m c,.int .i64 lo,.int .i64 hi,.slice A' m' c'] 25)) none):=qh (grown_new u _ none)
 have HL:Hid (tx.length≤10000):=qh hb
 have HK:=qh hK
 obtain ⟨Z,hZ⟩:∃ Z,inBr (l.contains kn) tx=Z:=⟨_,rfl⟩
 have HZ0:Hid (inBr ((l.drop 0).contains kn) tx=Z):=qh hZ
 rw [hZ]
 clear h hW hu hK hb hkn htx hZ
 go_enter Tryz.func36,Tryz.ntmps36
 go_wp2_with fail
 go_loopw [5] (fun iv wr=>∃ i:Nat,i≤l.length∧iv=.int .i64 i∧Hid (inBr ((l.drop i).contains kn) tx=Z)∧Hid (u.grownBy wr none)∧Hid (Box wr u.heap.size #[.int .i64 kn,.slice A m c,.int .i64 lo,.int .i64 hi,.slice A' m' c'] 25)) (fun iv _=>l.length - (intOf iv).toNat)
 case atStart=>exact ⟨0,by omega,rfl,HZ0,G0,X0⟩
 case round =>
  obtain ⟨i,hi',rfl,HC,HG,HX⟩:=hrel
  have e0:wr.cell? ⟨u.heap.size,0,none⟩=some (.int .i64 kn):=HX.out.cell rfl
  have e1:wr.cell? ⟨u.heap.size,1,none⟩=some (.slice A m c):=HX.out.cell rfl
  have e2:wr.cell? ⟨u.heap.size,2,none⟩=some (.int .i64 lo):=HX.out.cell rfl
  have e3:wr.cell? ⟨u.heap.size,3,none⟩=some (.int .i64 hi):=HX.out.cell rfl
  have e4:wr.cell? ⟨u.heap.size,4,none⟩=some (.slice A' m' c'):=HX.out.cell rfl
  by_cases hlt:i < l.length
  ·obtain ⟨p,rfl,-,hc⟩:=(Lies.up HK.out (below_row_none HG.out (Nat.le_refl _))).int hlt
   obtain ⟨x,hx⟩:∃ x,l[i]=x:=⟨_,rfl⟩
   have HN:Hid (inBr ((kn == x) || (l.drop (i+1)).contains kn) tx=Z):=qh (by rw [← hx,← drop_has hlt];exact HC.out)
   rw [hx] at hc
   have k0:(0:Int)≤(i:Int):=by omega
   have k1:(i:Int) < (l.length:Int):=by omega
   clear hx
   obtain ⟨b,hb⟩:∃ b,(kn == x)=b:=⟨_,rfl⟩
   rw [hb] at HN
   rcases b with _ | _
   ·have HN2:Hid (inBr ((l.drop (i+1)).contains kn) tx=Z):=qh (by have h:=HN.out;rw [Bool.false_or] at h;exact h)
    go_wp2_with fail
    go_quiet (fail)
    go_wp2_with fail
    go_roundw
    case rel=>exact ⟨i+1,by omega,by go_num,HN2,qh (by exact grown_draws HG.out _),qh (by exact HX.out.same rfl)⟩
    case measure=>simp [intOf];omega
   ·have hz:40 :: (tx++[41])=Z:=by have h:=HN.out;rw [Bool.true_or,inBr,if_pos rfl] at h;exact h
    subst hz
    go_wp2_with fail
    go_quiet (fail)
    have HGQ:Hid (u.grownBy (wr.drewN nq) none):=qh (by exact grown_draws HG.out nq)
    have HXQ:Hid (Box (wr.drewN nq) u.heap.size #[.int .i64 kn,.slice A m c,.int .i64 lo,.int .i64 hi,.slice A' m' c'] 25):=qh (HX.out.same rfl)
    obtain ⟨wq,hwq⟩:∃ x,wr.drewN nq=x:=⟨_,rfl⟩
    rw [hwq] at HGQ HXQ ⊢
    have X1:Hid (Box (wq.alloc (.cells #[.int .i64 40] 3)) u.heap.size #[.int .i64 kn,.slice A m c,.int .i64 lo,.int .i64 hi,.slice A' m' c'] 25):=qh (HXQ.out.kept (grown_new _ _ none) (by simp))
    have G1:=qh (HGQ.out.trans (grown_new wq (.cells #[.int .i64 40] 3) none))
    have O1:Hid (Own (wq.alloc (.cells #[.int .i64 40] 3)) u.heap.size 3 (.slice (some ⟨wq.heap.size,0,none⟩) 1 1) (ints .i64 [40])):=qh (Own.ofLit (w:=wq) #[.int .i64 40] HGQ.out.size (by simp [maxLen]))
    have a0:(wq.alloc (.cells #[.int .i64 40] 3)).cell? ⟨u.heap.size,0,none⟩=some (.int .i64 kn):=X1.out.cell rfl
    have a1:(wq.alloc (.cells #[.int .i64 40] 3)).cell? ⟨u.heap.size,1,none⟩=some (.slice A m c):=X1.out.cell rfl
    have a2:(wq.alloc (.cells #[.int .i64 40] 3)).cell? ⟨u.heap.size,2,none⟩=some (.int .i64 lo):=X1.out.cell rfl
    have a3:(wq.alloc (.cells #[.int .i64 40] 3)).cell? ⟨u.heap.size,3,none⟩=some (.int .i64 hi):=X1.out.cell rfl
    have a4:(wq.alloc (.cells #[.int .i64 40] 3)).cell? ⟨u.heap.size,4,none⟩=some (.slice A' m' c'):=X1.out.cell rfl
    clear hwq e0 e1 e2 e3 e4 hc
    go_wp2_with fail
    refine (HW.out _ G1.out).mono ?_
    rintro e w2 ⟨v2,rfl,o2,b2⟩
    have O2:=qh (O1.out.below b2 (Nat.le_refl _))
    have B2:=qh (below_then (below_row_none G1.out (Nat.le_refl _)) b2)
    obtain ⟨A2,c2,rfl,l2,-,-⟩:=o2.form
    have L2:=qh l2
    clear o2 b2 l2 a0 a1 a2 a3 a4
    simp only [ints,List.length_map]
    go_wp2_with (first
     | (at_builtin;refine app_src intsT u w2 u.heap.size w2.heap.size _ _ _ (ints .i64 [40]) (ints .i64 tx) A2 _ c2 rfl rfl rfl rfl (by simp) O2.out L2.out (ints_one _ _) B2.out B2.out.size (by have:=HL.out;unfold maxLen;simp;omega) (by have:=HL.out;simp;omega) ?_;intro v3 w3 o3 b3 _ _;have O3:=qh o3;have B3:=qh b3;clear o3 b3)
     | (at_builtin;refine app_lit intsT u w3 u.heap.size _ _ #[.int .i64 41] 1 _ _ rfl rfl rfl rfl O3.out (by simp [Value.oneCell']) B3.out B3.out.size (by have:=HL.out;unfold maxLen;simp;omega) (by have:=HL.out;simp;omega) ?_;intro v4 w4 o4 b4 _ _;have O4:=qh o4;have B4:=qh b4;clear o4 b4)
     | fail)
    go_ret
    exact rowed_ret O4.out B4.out (by simp [ints])
  ·obtain rfl:i=l.length:=by omega
   have hz:tx=Z:=by have h:=HC.out;rw [List.drop_length] at h;simpa [inBr] using h
   subst hz
   go_wp2_with fail
   refine (HW.out _ HG.out).mono ?_
   rintro e w2 ⟨v2,rfl,o2,b2⟩
   have O2:=qh o2
   have B2:=qh b2
   clear o2 b2
   go_wp2_with fail
   go_ret
   exact rowed_ret (O2.out.weaken HG.out.size) (below_then (below_row_none HG.out (Nat.le_refl _)) B2.out) rfl
end
end Go.Proofs.YtoeocodfndbebaaGreatDoor
