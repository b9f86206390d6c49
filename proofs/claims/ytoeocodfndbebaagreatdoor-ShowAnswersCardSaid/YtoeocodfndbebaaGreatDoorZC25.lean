/- Shared texts, shaken for one claim. -/
import Derived.Test.YtoeocodfndbebaaGreatDoorZC15
import Derived.Test.YtoeocodfndbebaaGreatDoorZC21
import Derived.Test.YtoeocodfndbebaaGreatDoorZC24
set_option maxRecDepth 20000
set_option maxHeartbeats 16000000
namespace Go.Proofs.YtoeocodfndbebaaGreatDoor
section
open Go.RowKit
theorem Treed.kind {w:World} {P:Nat→Prop} {n:Nd} {v:Array Value} (h:Treed w P n v):∃ A m c lo hi A' m' c',v=#[.int .i64 (kindN n),.slice A m c,.int .i64 lo,.int .i64 hi,.slice A' m' c']:=by
 cases h;exact ⟨_,_,_,_,_,_,_,_,rfl⟩
def Agree (w:World) (P:Nat→Prop) (u:World):Prop:=(∀ b,P b→b < w.heap.size→u.heap[b]?=w.heap[b]?)∧w.heap.size≤u.heap.size
theorem Agree.grown {w u u':World} {P:Nat→Prop} (h:Agree w P u) (hg:u.grownBy u' none):Agree w P u' :=
 ⟨fun b hb hl=>(hg.block b (Nat.lt_of_lt_of_le hl h.2) (by simp)).trans (h.1 b hb hl),Nat.le_trans h.2 hg.size⟩
theorem Agree.below {w u u':World} {P:Nat→Prop} (h:Agree w P u) (hg:Below u.heap.size u u'):Agree w P u':=h.grown (grown_of_below hg none)
def Wrote (w:World) (P:Nat→Prop) (n:Nd) (v:Array Value):Prop :=
 ∀ u,Agree w P u→PowT u→Calls Tryz.prog 18 #[.agg v] u (Rowed u u.heap.size 3 (ints .i64 (textN n)))
theorem e40:strI ⟨#[40]⟩=[40]:=by decide
theorem e41:strI ⟨#[41]⟩=[41]:=by decide
theorem within_any {w:World} {P:Nat→Prop} {n:Nd} {v:Array Value} (h:Treed w P n v) (hW:Wrote w P n v) (u:World) (hu:Agree w P u) (hP:PowT u) (K:Option Addr) (l:List Int) (kc:Nat) (hK:Lies u u.heap.size K (ints .i64 l)) (hl:l.length≤10) (hb:(textN n).length≤10000) :
 Calls Tryz.prog 33 #[.agg v,.slice K l.length kc] u (Rowed u u.heap.size 3 (ints .i64 (inBr (l.contains (kindN n)) (textN n)))):=by
 obtain ⟨A,m,c,lo,hi,A',m',c',rfl⟩:=h.kind
 obtain ⟨kn,hkn⟩:∃ x,kindN n=x:=⟨_,rfl⟩
 rw [hkn] at hW ⊢
 obtain ⟨tx,htx⟩:∃ x,textN n=x:=⟨_,rfl⟩
 have HW:Hid (∀ x,u.grownBy x none→Calls Tryz.prog 18 #[.agg #[.int .i64 (kn),.slice A m c,.int .i64 lo,.int .i64 hi,.slice A' m' c']] x (Rowed x x.heap.size 3 (ints .i64 tx))):=qh fun x g=>htx▸hW x (hu.grown g) (hP.grown g)
 rw [htx] at hb ⊢
 have X0:Hid (Box (u.alloc (.cells #[.int .i64 (kn),.slice A m c,.int .i64 lo,.int .i64 hi,.slice A' m' c'] 25)) u.heap.size #[.int .i64 (kn),.slice A m c,.int .i64 lo,.int .i64 hi,.slice A' m' c'] 25):=qh (Box.new u _ _)
 have G0:Hid (u.grownBy (u.alloc (.cells #[.int .i64 (kn),.slice A m c,.int .i64 lo,.int .i64 hi,.slice A' m' c'] 25)) none):=qh (grown_new u _ none)
 have HS:Hid (∀ x,Box x u.heap.size #[.int .i64 (kn),.slice A m c,.int .i64 lo,.int .i64 hi,.slice A' m' c'] 25→(fun w'=>w'.cell? ⟨u.heap.size,0,none⟩=some (.int .i64 (kn))∧w'.cell? ⟨u.heap.size,1,none⟩=some (.slice A m c)∧w'.cell? ⟨u.heap.size,2,none⟩=some (.int .i64 lo)∧w'.cell? ⟨u.heap.size,3,none⟩=some (.int .i64 hi)∧w'.cell? ⟨u.heap.size,4,none⟩=some (.slice A' m' c')) x):=qh fun x b=>⟨b.cell rfl,b.cell rfl,b.cell rfl,b.cell rfl,b.cell rfl⟩
 have HCO:=qh (contains_any (u.alloc (.cells #[.int .i64 (kn),.slice A m c,.int .i64 lo,.int .i64 hi,.slice A' m' c'] 25)) u.heap.size K l kc kn (hK.alloc (Nat.le_refl _) _) (by omega))
 obtain ⟨bb,hbb⟩:∃ x,l.contains kn=x:=⟨_,rfl⟩
 rw [hbb] at HCO ⊢
 have HL:Hid (tx.length≤10000):=qh hb
 have H40:=qh (fun x=>chars_any ⟨#[40]⟩ x (by decide) (by decide))
 have H41:=qh (fun x=>chars_any ⟨#[41]⟩ x (by decide) (by decide))
 rw [e40] at H40
 rw [e41] at H41
 clear h hW hu hP hK hl hb hkn htx hbb
 rcases bb with _ | _
 ·go_enter Tryz.func33,Tryz.ntmps33
  go_wp2_with fail
  refine HCO.out.mono ?_
  rintro e w1 ⟨rfl,rfl⟩
  go_wp2_with fail
  refine (HW.out _ G0.out).mono ?_
  rintro e w2 ⟨v2,rfl,o2,b2⟩
  have O2:=qh o2
  have B2:=qh b2
  clear o2 b2
  go_wp2_with fail
  go_ret
  exact rowed_ret (O2.out.weaken G0.out.size) (below_then (below_row_none G0.out (Nat.le_refl _)) B2.out) rfl
 ·go_enter Tryz.func33,Tryz.ntmps33
  go_wp2_with fail
  refine HCO.out.mono ?_
  rintro e w1 ⟨rfl,rfl⟩
  go_wp2_with fail
  refine wp_region_held_drew (S:=fun w'=>w'.cell? ⟨u.heap.size,0,none⟩=some (.int .i64 (kn))∧w'.cell? ⟨u.heap.size,1,none⟩=some (.slice A m c)∧w'.cell? ⟨u.heap.size,2,none⟩=some (.int .i64 lo)∧w'.cell? ⟨u.heap.size,3,none⟩=some (.int .i64 hi)∧w'.cell? ⟨u.heap.size,4,none⟩=some (.slice A' m' c')) (by kernel_rfl) (HS.out _ (by exact X0.out.same rfl)) (fun hHeld=>?_)
  refine' hY 1 ?_
  try simp only [Act.put,ZA,ZB,ZC,ZD,ZE,ZF]
  refine hA 0 fun K hK=>?_
  go_simp
  refine (H40.out _).mono ?_
  rintro e w1 ⟨v1,rfl,o1,b1⟩
  obtain ⟨A1,c1,rfl,l1,-,-⟩:=o1.form
  have L1:=qh l1
  have B1:Hid (Below u.heap.size u w1):=qh (below_then (by exact below_row_none (grown_draw G0.out) (Nat.le_refl _)) b1)
  have X1:Hid (Box w1 u.heap.size #[.int .i64 (kn),.slice A m c,.int .i64 lo,.int .i64 hi,.slice A' m' c'] 25):=qh (Box.below (by exact X0.out.same rfl) b1 (by exact X0.out.lt))
  clear o1 b1 l1
  go_wp2_with fail
  refine hK.out _ _ (by exact HS.out _ (by exact X1.out.same rfl)) (fun hHeld=>?_)
  clear hK K
  try simp only [Act.put,ZA,ZB,ZC,ZD,ZE,ZF]
  refine hA 2 fun K hK=>?_
  go_simp
  refine (HW.out _ (by exact grown_of_below B1.out none)).mono ?_
  rintro e w2 ⟨v2,rfl,o2,b2⟩
  obtain ⟨A2,c2,rfl,l2,-,-⟩:=o2.form
  have L2:=qh l2
  have L12:=qh (L1.out.up b2)
  have B2:Hid (Below u.heap.size u w2):=qh (below_then (by exact B1.out) b2)
  have X2:Hid (Box w2 u.heap.size #[.int .i64 (kn),.slice A m c,.int .i64 lo,.int .i64 hi,.slice A' m' c'] 25):=qh (Box.below (by exact X1.out.same rfl) b2 (by exact X1.out.lt))
  clear o2 b2 l2
  go_wp2_with fail
  refine hK.out _ _ (by exact HS.out _ (by exact X2.out.same rfl)) (fun hHeld=>?_)
  clear hK K
  try simp only [Act.put,ZA,ZB,ZC,ZD,ZE,ZF]
  refine hA 3 fun K hK=>?_
  go_simp
  refine (H41.out _).mono ?_
  rintro e w3 ⟨v3,rfl,o3,b3⟩
  obtain ⟨A3,c3,rfl,l3,-,-⟩:=o3.form
  have L3:=qh l3
  have L13:=qh (L12.out.up b3)
  have L23:=qh (L2.out.up b3)
  have B3:Hid (Below u.heap.size u w3):=qh (below_then (by exact B2.out) b3)
  have X3:Hid (Box w3 u.heap.size #[.int .i64 (kn),.slice A m c,.int .i64 lo,.int .i64 hi,.slice A' m' c'] 25):=qh (Box.below (by exact X2.out.same rfl) b3 (by exact X2.out.lt))
  clear o3 b3 l3
  go_wp2_with fail
  refine hK.out _ _ (by exact HS.out _ (by exact X3.out.same rfl)) (fun hHeld=>?_)
  clear hK K
  try simp only [Act.put,ZA,ZB,ZC,ZD,ZE,ZF]
  simp only [ints,List.length_cons,List.length_nil]
  refine hA 4 fun K hK=>?_
  go_simp
  have X4:Hid (Box (w3.alloc (.cells #[.slice A1 1 c1,.slice A2 tx.length c2,.slice A3 1 c3] 26)) u.heap.size #[.int .i64 (kn),.slice A m c,.int .i64 lo,.int .i64 hi,.slice A' m' c'] 25):=qh (Box.kept (by exact X3.out.same rfl) (grown_new w3 _ none) (by simp))
  have B4:Hid (Below u.heap.size u (w3.alloc (.cells #[.slice A1 1 c1,.slice A2 tx.length c2,.slice A3 1 c3] 26))):=qh (below_then B3.out (below_alloc w3 _))
  have L4:Hid (Lies (w3.alloc (.cells #[.slice A1 1 c1,.slice A2 tx.length c2,.slice A3 1 c3] 26)) (w3.alloc (.cells #[.slice A1 1 c1,.slice A2 tx.length c2,.slice A3 1 c3] 26)).heap.size (some ⟨w3.heap.size,0,none⟩) ([(A1,[40],c1),(A2,tx,c2),(A3,[41],c3)].map rowV)):=qh (Lies.litUp (w:=w3) (e:=26) #[.slice A1 1 c1,.slice A2 tx.length c2,.slice A3 1 c3])
  have HLL:Hid (∀ x∈([(A1,[40],c1),(A2,tx,c2),(A3,[41],c3)]:RowsL),Lies (w3.alloc (.cells #[.slice A1 1 c1,.slice A2 tx.length c2,.slice A3 1 c3] 26)) (w3.alloc (.cells #[.slice A1 1 c1,.slice A2 tx.length c2,.slice A3 1 c3] 26)).heap.size x.1 (ints .i64 x.2.1)):=qh (by
   intro x hx
   simp only [List.mem_cons,List.mem_nil_iff,or_false] at hx
   rcases hx with rfl | rfl | rfl
   ·exact L13.out.up (below_alloc w3 _)
   ·exact L23.out.up (below_alloc w3 _)
   ·exact L3.out.up (below_alloc w3 _))
  go_wp2_with fail
  refine hK.out _ _ (by exact HS.out _ (by exact X4.out)) (fun hHeld=>?_)
  clear hK K
  try simp only [Act.put,ZA,ZB,ZC,ZD,ZE,ZF]
  refine hA 5 fun K hK=>?_
  go_simp
  refine (concat_any _ _ [(A1,[40],c1),(A2,tx,c2),(A3,[41],c3)] 3 (by exact L4.out) (by exact HLL.out) (by simp) (by have:=HL.out;simp [sumLen];omega)).mono ?_
  rintro e w5 ⟨v5,rfl,o5,b5⟩
  have O5:=qh o5
  have B5:Hid (Below u.heap.size u w5):=qh (below_then B4.out b5)
  have X5:Hid (Box w5 u.heap.size #[.int .i64 (kn),.slice A m c,.int .i64 lo,.int .i64 hi,.slice A' m' c'] 25):=qh (Box.below (by exact X4.out.same rfl) b5 (by exact X4.out.lt))
  have HZ5:=qh B4.out.size
  clear o5 b5
  go_wp2_with fail
  refine hK.out _ _ (by exact HS.out _ (by exact X5.out.same rfl)) (fun hHeld=>?_)
  clear hK K
  try simp only [Act.put,ZA,ZB,ZC,ZD,ZE,ZF]
  refine' hY 6 ?_
  try simp only [Act.put,ZA,ZB,ZC,ZD,ZE,ZF]
  refine wpAnyH_done (by kernel_rfl) ?_ _
  go_wp2_with fail
  go_ret
  exact rowed_ret (O5.out.weaken HZ5.out) B5.out (by simp [inBr])
def pieceI (l:List Int) (n:Nd):List Int:=inBr (l.contains (kindN n)) (textN n)
def sevI (sep l:List Int):List Nd→List Int
 | []=>[]
 | n :: ns=>pieceI l n++ns.flatMap fun m=>sep++pieceI l m
theorem sevI_next {sep l:List Int}:∀ {ks:List Nd} {i:Nat} (h:i < ks.length),sevI sep l (ks.take (i+1))=sevI sep l (ks.take i)++((if 0 < i then sep else [])++pieceI l ks[i])
 | [],i,h=>by simp at h
 | n :: ns,0,_=>by simp [sevI]
 | n :: ns,i+1,h=>by
  have h':i < ns.length:=by simpa using h
  rw [List.take_succ_cons,List.take_succ_cons,sevI,sevI,if_pos (by omega),List.take_succ_eq_append_getElem h',List.flatMap_append,List.flatMap_cons,List.flatMap_nil,List.append_nil,List.getElem_cons_succ,List.append_assoc]
theorem sevI_le {sep l:List Int} (ks:List Nd) (i:Nat):(sevI sep l (ks.take i)).length≤(sevI sep l ks).length:=by
 rcases ks with _ | ⟨n,ns⟩
 ·simp
 rcases i with _ | i
 ·simp [sevI]
 rw [List.take_succ_cons,sevI,sevI,List.length_append,List.length_append]
 have h:(ns.flatMap fun m=>sep++pieceI l m)=((ns.take i).flatMap fun m=>sep++pieceI l m)++((ns.drop i).flatMap fun m=>sep++pieceI l m):=by
  rw [← List.flatMap_append,List.take_append_drop]
 rw [h,List.length_append]
 omega
theorem join_sev (l:List Int):∀ ks:List Nd,joinTx l ks=sevI [] l ks
 | []=>by rw [joinTx];rfl
 | n :: ns=>by
  rw [joinTx,sevI]
  congr 1
  rw [join_sev l ns]
  rcases ns with _ | ⟨m,ns⟩
  ·rfl
  ·simp [sevI]
theorem four_one (x:Int):([4]:List Int).contains x=(x == 4):=by
 rw [Bool.eq_iff_iff];simp
theorem or_sev:∀ ks:List Nd,orTx ks=sevI [124] [4] ks
 | []=>by rw [orTx];rfl
 | [n]=>by
  rw [orTx,sevI,pieceI,four_one]
  simp
 | n :: m :: ns=>by
  have ih:=or_sev (m :: ns)
  rw [orTx,sevI,pieceI,ih,sevI,four_one]
  simp
structure KidsW (w:World) (P:Nat→Prop) (A:Option Addr) (ks:List Nd) (vs:List (Array Value)):Prop where
 len:vs.length=ks.length
 lies:LiesP w P A (vs.flatMap Array.toList)
 kid:∀ (i:Nat) (h1:i < vs.length) (h2:i < ks.length),Treed w P ks[i] vs[i]∧Wrote w P ks[i] vs[i]
 room:ks.length≤9223372036854775807
theorem several_any {w:World} {P:Nat→Prop} {A:Option Addr} {ks:List Nd} {vs:List (Array Value)} (h:KidsW w P A ks vs) (c:Nat) (u:World) (hu:Agree w P u) (hP:PowT u) (sep:ByteArray) (hsep:Asc sep) (sp:List Int) (hsp:strI sep=sp) (K:Option Addr) (l:List Int) (kc:Nat) (hK:Lies u u.heap.size K (ints .i64 l)) (hl:l.length≤10) (hb:(sevI sp l ks).length≤10000) :
 Calls Tryz.prog 31 #[.slice A ks.length c,.string sep,.slice K l.length kc] u (Rowed u u.heap.size 3 (ints .i64 (sevI sp l ks))):=by
 have HK:=qh h
 have H5:Hid (∀ v∈vs,v.size=5):=qh fun v hv=>by
  obtain ⟨i,hi,rfl⟩:=List.getElem_of_mem hv
  exact (h.kid i hi (by have:=h.len;omega)).1.size
 have HU:=qh hu
 have HP:=qh hP
 have HKL:=qh hK
 have HLE:=qh (fun i=>Nat.le_trans (sevI_le (sep:=sp) (l:=l) ks i) hb)
 have HNX:=qh (fun i (hi:i < ks.length)=>sevI_next (sep:=sp) (l:=l) hi)
 have HPL:=qh (fun i (hi:i < ks.length)=>(show (textN ks[i]).length≤10000 by
  have h1:=Nat.le_trans (sevI_le (sep:=sp) (l:=l) ks (i+1)) hb
  rw [sevI_next hi,List.length_append,List.length_append,pieceI] at h1
  have h2:(textN ks[i]).length≤(inBr (l.contains (kindN ks[i])) (textN ks[i])).length:=by unfold inBr;split <;> simp <;> omega
  omega))
 have HCH:Hid (∀ x,Calls Tryz.prog 29 #[.string sep] x (Rowed x x.heap.size 3 (ints .i64 sp))):=qh fun x=>hsp▸chars_any sep x hsep.len hsep.low
 have hkl:=h.room
 clear h hu hP hK hb hsep hsp
 go_enter Tryz.func31,Tryz.ntmps31
 go_wp2_with fail
 go_loopw [12,7] (fun iv ov wr=>∃ i:Nat,i≤ks.length∧iv=.int .i64 i∧Hid (Own wr u.heap.size 3 ov (ints .i64 (sevI sp l (ks.take i))))∧Hid (Below u.heap.size u wr)) (fun iv _ _=>ks.length - (intOf iv).toNat)
 case atStart=>exact ⟨0,by omega,rfl,qh (Own.empty _ _ _),qh (Below.refl _ _)⟩
 case round =>
  obtain ⟨i,hi',rfl,HO,HB⟩:=hrel
  by_cases hlt:i < ks.length
  ·have hlv:i < vs.length:=by have:=HK.out.len;omega
   have HAG:Hid (Agree w P wr):=qh (HU.out.below HB.out)
   obtain ⟨g,off,rfl,hg,hcell⟩:=kid_at HK.out.lies H5.out HAG.out.1 hlv
   obtain ⟨ht,hw⟩:=HK.out.kid i hlv hlt
   obtain ⟨Ar,nr,cr,lo1,hi1,Ak,nk,ck,hv⟩:=ht.kind
   have r0:wr.cell? ⟨g,off+i * 5,none⟩=vs[i][0]?:=hcell 0 (by decide)
   have r1:=hcell 1 (by decide)
   have r2:=hcell 2 (by decide)
   have r3:=hcell 3 (by decide)
   have r4:=hcell 4 (by decide)
   have HWI:=qh (fun x (b:Below u.heap.size u x)=>within_any ht hw x (HU.out.below b) (HP.out.below b) K l kc (HKL.out.up b) hl (HPL.out i hlt))
   have HN:=qh (HNX.out i hlt)
   have HL1:=qh (HLE.out (i+1))
   rw [hv] at r0 r1 r2 r3 r4 HWI
   rw [show inBr (l.contains (kindN ks[i])) (textN ks[i])=pieceI l ks[i] from rfl] at HWI
   obtain ⟨k1,hk1⟩:∃ x,kindN ks[i]=x:=⟨_,rfl⟩
   obtain ⟨pc,hpc⟩:∃ x,pieceI l ks[i]=x:=⟨_,rfl⟩
   obtain ⟨D,hD⟩:∃ D,sevI sp l (ks.take i)=D:=⟨_,rfl⟩
   rw [hk1] at r0 r1 r2 r3 r4 HWI
   rw [hpc] at HWI HN
   rw [hD] at HO HN
   rw [HN.out] at HL1
   have b0:(0:Int)≤(i:Int):=by omega
   have b1:(i:Int) < (ks.length:Int):=by omega
   have X0:Hid (Box (wr.alloc (.cells #[.int .i64 k1,.slice Ar nr cr,.int .i64 lo1,.int .i64 hi1,.slice Ak nk ck] 25)) wr.heap.size #[.int .i64 k1,.slice Ar nr cr,.int .i64 lo1,.int .i64 hi1,.slice Ak nk ck] 25):=qh (Box.new wr _ _)
   have B0:Hid (Below u.heap.size u (wr.alloc (.cells #[.int .i64 k1,.slice Ar nr cr,.int .i64 lo1,.int .i64 hi1,.slice Ak nk ck] 25))):=qh (HB.out.alloc HB.out.size _)
   have O0:=qh (HO.out.alloc (.cells #[.int .i64 k1,.slice Ar nr cr,.int .i64 lo1,.int .i64 hi1,.slice Ak nk ck] 25))
   clear hcell hv ht hw hk1 hpc hD hg
   simp only [List.getElem?_toArray,List.getElem?_cons_zero,List.getElem?_cons_succ] at r0 r1 r2 r3 r4
   rcases Nat.eq_zero_or_pos i with hi0 | hi0
   ·have d0:decide (0 < i)=false:=by simp [hi0]
    have HN2:Hid (sevI sp l (ks.take (i+1))=D++pc):=qh (by rw [HN.out,if_neg (by omega)];simp)
    have HL2:Hid (D.length+pc.length≤10000):=qh (by have:=HL1.out;simp only [List.length_append] at this;omega)
    clear hi0
    go_wp2_with fail
    refine (HWI.out _ B0.out).mono ?_
    rintro e w2 ⟨v2,rfl,o2,b2⟩
    obtain ⟨A2,c2,rfl,l2,-,-⟩:=o2.form
    have L2:=qh l2
    have O2:=qh (O0.out.below b2 (Nat.le_refl _))
    have B2:=qh (B0.out.trans (b2.mono B0.out.size))
    clear o2 l2 b2 r0 r1 r2 r3 r4
    simp only [ints,List.length_map]
    go_wp2_with (first
     | (at_builtin;refine app_src intsT u w2 u.heap.size w2.heap.size _ _ _ (ints .i64 D) (ints .i64 pc) A2 _ c2 rfl rfl rfl rfl (by simp) O2.out L2.out (ints_one _ _) B2.out B2.out.size (by have:=HL2.out;unfold maxLen;simp;omega) (by have:=HL2.out;simp;omega) ?_;intro v3 w3 o3 b3 _ _;have O3:=qh o3;have B3:=qh b3;clear o3 b3)
     | fail)
    go_roundw
    case rel=>exact ⟨i+1,by omega,by go_num,by rw [HN2.out];simpa [ints] using O3,B3⟩
    case measure=>simp [intOf];omega
   ·have d0:decide (0 < i)=true:=by simp [hi0]
    have HN2:Hid (sevI sp l (ks.take (i+1))=D++sp++pc):=qh (by rw [HN.out,if_pos hi0];simp)
    have HL2:Hid (D.length+sp.length+pc.length≤10000):=qh (by have:=HL1.out;simp only [List.length_append,if_pos hi0] at this;omega)
    clear hi0
    go_wp2_with fail
    refine (HCH.out _).mono ?_
    rintro e w1 ⟨v1,rfl,o1,b1'⟩
    obtain ⟨A1,c1,rfl,l1,-,-⟩:=o1.form
    have L1:=qh l1
    have O1:=qh (O0.out.below b1' (Nat.le_refl _))
    have B1:=qh (B0.out.trans (b1'.mono B0.out.size))
    have X1:=qh (X0.out.below b1' X0.out.lt)
    have HNE:Hid (∀ x,u7.ownBlock=some x→x < wr.heap.size):=qh fun x hx=>(HO.out.inside x hx).2
    clear o1 l1 b1' r0 r1 r2 r3 r4
    simp only [ints,List.length_map]
    go_wp2_with (first
     | (at_builtin;refine app_src intsT u w1 u.heap.size w1.heap.size _ _ _ (ints .i64 D) (ints .i64 sp) A1 _ c1 rfl rfl rfl rfl (by simp) O1.out L1.out (ints_one _ _) B1.out B1.out.size (by have:=HL2.out;unfold maxLen;simp;omega) (by have:=HL2.out;simp;omega) ?_;intro v3 w3 o3 b3 g3 _
        have O3:=qh o3
        have B3:=qh b3
        have X3:=qh (X1.out.kept g3 (fun e=>Nat.lt_irrefl _ (HNE.out _ e)))
        have q0:w3.cell? ⟨wr.heap.size,0,none⟩=some (.int .i64 k1):=X3.out.cell rfl
        have q1:w3.cell? ⟨wr.heap.size,1,none⟩=some (.slice Ar nr cr):=X3.out.cell rfl
        have q2:w3.cell? ⟨wr.heap.size,2,none⟩=some (.int .i64 lo1):=X3.out.cell rfl
        have q3:w3.cell? ⟨wr.heap.size,3,none⟩=some (.int .i64 hi1):=X3.out.cell rfl
        have q4:w3.cell? ⟨wr.heap.size,4,none⟩=some (.slice Ak nk ck):=X3.out.cell rfl
        clear o3 b3 g3)
     | fail)
    refine (HWI.out _ B3.out).mono ?_
    rintro e w4 ⟨v4,rfl,o4,b4⟩
    obtain ⟨A4,c4,rfl,l4,-,-⟩:=o4.form
    have L4:=qh l4
    have O4:=qh (O3.out.below b4 (Nat.le_refl _))
    have B4:=qh (B3.out.trans (b4.mono B3.out.size))
    clear o4 l4 b4 q0 q1 q2 q3 q4
    simp only [ints,List.length_map]
    go_wp2_with (first
     | (at_builtin;refine app_src intsT u w4 u.heap.size w4.heap.size _ _ _ _ (ints .i64 pc) A4 _ c4 rfl rfl rfl rfl (by simp) O4.out L4.out (ints_one _ _) B4.out B4.out.size (by have:=HL2.out;unfold maxLen;simp;omega) (by have:=HL2.out;simp;omega) ?_;intro v5 w5 o5 b5 _ _;have O5:=qh o5;have B5:=qh b5;clear o5 b5)
     | fail)
    go_roundw
    case rel=>exact ⟨i+1,by omega,by go_num,by rw [HN2.out];simpa [ints] using O5,B5⟩
    case measure=>simp [intOf];omega
  ·obtain rfl:i=ks.length:=by omega
   rw [List.take_length] at HO
   go_wp2_with fail
   go_ret
   exact rowed_ret HO.out HB.out rfl
end
section
open Go.RowKit
theorem cntN_at:∀ {ks:List Nd} (i:Nat) (h:i < ks.length),cntN ks[i]≤cntL ks∧rngN ks[i]≤rngL ks
 | [],i,h=>by simp at h
 | n :: ns,0,_=>by rw [List.getElem_cons_zero,cntL,rngL];omega
 | n :: ns,i+1,h=>by
  have:=cntN_at (ks:=ns) i (by simpa using h)
  rw [List.getElem_cons_succ,cntL,rngL];omega
theorem joinTx_le {ks:List Nd} (ha:allL ks=true) (hb:12 * cntL ks+5 * rngL ks≤10000):(sevI [] [3,4] ks).length≤10000:=by
 rw [← join_sev]
 have:=joinTx_len [3,4] ks ha
 omega
theorem orTx_le {ks:List Nd} (ha:allL ks=true) (hb:12 * cntL ks+5 * rngL ks≤10000):(sevI [124] [4] ks).length≤10000:=by
 rw [← or_sev]
 have:=orTx_len ks ha
 omega
theorem written_empty (u:World) (lo hi:Int) (A A':Option Addr) (n c m c':Nat) :
 Calls Tryz.prog 18 #[.agg #[.int .i64 1,.slice A n c,.int .i64 lo,.int .i64 hi,.slice A' m c']] u (Rowed u u.heap.size 3 (ints .i64 [40,41])):=by
 have e0:strI ⟨#[40,41]⟩=[40,41]:=by decide
 have HC:=qh (fun x=>chars_any ⟨#[40,41]⟩ x (by decide) (by decide))
 rw [e0] at HC
 clear e0
 go_enter Tryz.func18,Tryz.ntmps18
 go_wp2_with fail
 refine (HC.out _).mono ?_
 rintro e w1 ⟨v1,rfl,o1,b1⟩
 have O1:=qh o1
 have B1:=qh (below_then (below_alloc u _) b1)
 clear o1 b1
 go_wp2_with fail
 go_ret
 exact rowed_ret (O1.out.weaken (by simp)) B1.out rfl
theorem written_start (u:World) (lo hi:Int) (A A':Option Addr) (n c m c':Nat) :
 Calls Tryz.prog 18 #[.agg #[.int .i64 6,.slice A n c,.int .i64 lo,.int .i64 hi,.slice A' m c']] u (Rowed u u.heap.size 3 (ints .i64 [94])):=by
 have e0:strI ⟨#[94]⟩=[94]:=by decide
 have HC:=qh (fun x=>chars_any ⟨#[94]⟩ x (by decide) (by decide))
 rw [e0] at HC
 clear e0
 go_enter Tryz.func18,Tryz.ntmps18
 go_wp2_with fail
 refine (HC.out _).mono ?_
 rintro e w1 ⟨v1,rfl,o1,b1⟩
 have O1:=qh o1
 have B1:=qh (below_then (below_alloc u _) b1)
 clear o1 b1
 go_wp2_with fail
 go_ret
 exact rowed_ret (O1.out.weaken (by simp)) B1.out rfl
theorem written_stop (u:World) (lo hi:Int) (A A':Option Addr) (n c m c':Nat) :
 Calls Tryz.prog 18 #[.agg #[.int .i64 7,.slice A n c,.int .i64 lo,.int .i64 hi,.slice A' m c']] u (Rowed u u.heap.size 3 (ints .i64 [36])):=by
 have e0:strI ⟨#[36]⟩=[36]:=by decide
 have HC:=qh (fun x=>chars_any ⟨#[36]⟩ x (by decide) (by decide))
 rw [e0] at HC
 clear e0
 go_enter Tryz.func18,Tryz.ntmps18
 go_wp2_with fail
 refine (HC.out _).mono ?_
 rintro e w1 ⟨v1,rfl,o1,b1⟩
 have O1:=qh o1
 have B1:=qh (below_then (below_alloc u _) b1)
 clear o1 b1
 go_wp2_with fail
 go_ret
 exact rowed_ret (O1.out.weaken (by simp)) B1.out rfl
theorem written_set (u:World) (lo hi:Int) (A A':Option Addr) (rs:List (Int×Int)) (c m c':Nat) (h:Lies u u.heap.size A (prC rs)) (hl:rs.length≤1000) :
 Calls Tryz.prog 18 #[.agg #[.int .i64 2,.slice A rs.length c,.int .i64 lo,.int .i64 hi,.slice A' m c']] u (Rowed u u.heap.size 3 (ints .i64 (setI rs))):=by
 have HC:=qh (shset_any _ A rs c (h.up (below_alloc u (.cells #[.int .i64 2,.slice A rs.length c,.int .i64 lo,.int .i64 hi,.slice A' m c'] 25))) hl)
 clear h hl
 go_enter Tryz.func18,Tryz.ntmps18
 go_wp2_with fail
 refine HC.out.mono ?_
 rintro e w1 ⟨v1,rfl,o1,b1⟩
 have O1:=qh o1
 have B1:=qh (below_then (below_alloc u _) b1)
 clear o1 b1
 go_wp2_with fail
 go_ret
 exact rowed_ret (O1.out.weaken (by simp)) B1.out rfl
theorem written_join {w:World} {P:Nat→Prop} {A':Option Addr} {ks:List Nd} {vs:List (Array Value)} (h:KidsW w P A' ks vs) (u:World) (hu:Agree w P u) (hP:PowT u) (lo hi:Int) (A:Option Addr) (n c c':Nat) (hb:(sevI [] [3,4] ks).length≤10000) :
 Calls Tryz.prog 18 #[.agg #[.int .i64 3,.slice A n c,.int .i64 lo,.int .i64 hi,.slice A' ks.length c']] u (Rowed u u.heap.size 3 (ints .i64 (sevI [] [3,4] ks))):=by
 have G1:Hid (u.grownBy ((u.alloc (.cells #[.int .i64 3,.slice A n c,.int .i64 lo,.int .i64 hi,.slice A' ks.length c'] 25)).alloc (.cells #[.int .i64 3,.int .i64 4] 3)) none):=qh ((grown_new u _ none).trans (grown_new _ _ none))
 have L1:Lies ((u.alloc (.cells #[.int .i64 3,.slice A n c,.int .i64 lo,.int .i64 hi,.slice A' ks.length c'] 25)).alloc (.cells #[.int .i64 3,.int .i64 4] 3)) ((u.alloc (.cells #[.int .i64 3,.slice A n c,.int .i64 lo,.int .i64 hi,.slice A' ks.length c'] 25)).alloc (.cells #[.int .i64 3,.int .i64 4] 3)).heap.size (some ⟨u.heap.size+1,0,none⟩) (ints .i64 [3,4]):=by
  have:=Lies.lit (w:=u.alloc (.cells #[.int .i64 3,.slice A n c,.int .i64 lo,.int .i64 hi,.slice A' ks.length c'] 25)) (e:=3) #[.int .i64 3,.int .i64 4]
  rw [World.size_alloc] at this
  exact this.wider (by simp)
 have HC:=qh (several_any h c' ((u.alloc (.cells #[.int .i64 3,.slice A n c,.int .i64 lo,.int .i64 hi,.slice A' ks.length c'] 25)).alloc (.cells #[.int .i64 3,.int .i64 4] 3)) (hu.grown G1.out) (hP.grown G1.out) ⟨#[]⟩ ⟨by decide,by decide⟩ [] (by decide) (some ⟨u.heap.size+1,0,none⟩) [3,4] 2 L1 (by decide) hb)
 clear h hu hP hb L1
 go_enter Tryz.func18,Tryz.ntmps18
 go_wp2_with fail
 refine HC.out.mono ?_
 rintro e w1 ⟨v1,rfl,o1,b1⟩
 have O1:=qh (o1.weaken G1.out.size)
 have B1:=qh (below_then (below_row_none G1.out (Nat.le_refl _)) b1)
 clear o1 b1
 go_wp2_with fail
 go_ret
 exact rowed_ret O1.out B1.out rfl
theorem written_or {w:World} {P:Nat→Prop} {A':Option Addr} {ks:List Nd} {vs:List (Array Value)} (h:KidsW w P A' ks vs) (u:World) (hu:Agree w P u) (hP:PowT u) (lo hi:Int) (A:Option Addr) (n c c':Nat) (hb:(sevI [124] [4] ks).length≤10000) :
 Calls Tryz.prog 18 #[.agg #[.int .i64 4,.slice A n c,.int .i64 lo,.int .i64 hi,.slice A' ks.length c']] u (Rowed u u.heap.size 3 (ints .i64 (sevI [124] [4] ks))):=by
 have G1:Hid (u.grownBy ((u.alloc (.cells #[.int .i64 4,.slice A n c,.int .i64 lo,.int .i64 hi,.slice A' ks.length c'] 25)).alloc (.cells #[.int .i64 4] 3)) none):=qh ((grown_new u _ none).trans (grown_new _ _ none))
 have L1:Lies ((u.alloc (.cells #[.int .i64 4,.slice A n c,.int .i64 lo,.int .i64 hi,.slice A' ks.length c'] 25)).alloc (.cells #[.int .i64 4] 3)) ((u.alloc (.cells #[.int .i64 4,.slice A n c,.int .i64 lo,.int .i64 hi,.slice A' ks.length c'] 25)).alloc (.cells #[.int .i64 4] 3)).heap.size (some ⟨u.heap.size+1,0,none⟩) (ints .i64 [4]):=by
  have:=Lies.lit (w:=u.alloc (.cells #[.int .i64 4,.slice A n c,.int .i64 lo,.int .i64 hi,.slice A' ks.length c'] 25)) (e:=3) #[.int .i64 4]
  rw [World.size_alloc] at this
  exact this.wider (by simp)
 have HC:=qh (several_any h c' ((u.alloc (.cells #[.int .i64 4,.slice A n c,.int .i64 lo,.int .i64 hi,.slice A' ks.length c'] 25)).alloc (.cells #[.int .i64 4] 3)) (hu.grown G1.out) (hP.grown G1.out) ⟨#[124]⟩ ⟨by decide,by decide⟩ [124] (by decide) (some ⟨u.heap.size+1,0,none⟩) [4] 1 L1 (by decide) hb)
 clear h hu hP hb L1
 go_enter Tryz.func18,Tryz.ntmps18
 go_wp2_with fail
 refine HC.out.mono ?_
 rintro e w1 ⟨v1,rfl,o1,b1⟩
 have O1:=qh (o1.weaken G1.out.size)
 have B1:=qh (below_then (below_row_none G1.out (Nat.le_refl _)) b1)
 clear o1 b1
 go_wp2_with fail
 go_ret
 exact rowed_ret O1.out B1.out rfl
theorem written_repeat {w:World} {P:Nat→Prop} {A':Option Addr} {n1:Nd} {v1:Array Value} (h:KidsW w P A' [n1] [v1]) (u:World) (hu:Agree w P u) (hP:PowT u) (lo hi:Int) (A:Option Addr) (n c c':Nat) (h0:0≤lo) (h1:lo≤20) (h2:hi=-1∨lo≤hi∧hi≤20) (hb:(textN n1).length≤9000) :
 Calls Tryz.prog 18 #[.agg #[.int .i64 5,.slice A n c,.int .i64 lo,.int .i64 hi,.slice A' 1 c']] u (Rowed u u.heap.size 3 (ints .i64 (pieceI [3,4,5] n1++timesT lo hi))):=by
 obtain ⟨ht,hw⟩:=h.kid 0 (by simp) (by simp)
 simp only [List.getElem_cons_zero] at ht hw
 obtain ⟨g,off,rfl,hg,hcell⟩:=kid_at h.lies (fun v hv=>by simp at hv;rw [hv];exact ht.size) (fun _ _ _=>rfl) (i:=0) (by simp)
 obtain ⟨Ar,nr,cr,lo1,hi1,Ak,nk,ck,hv⟩:=ht.kind
 have hcells:∀ x,Agree w P x→∀ j,j < 5→x.cell? ⟨g,off+j,none⟩=v1[j]?:=fun x hx j hj=>by
  obtain ⟨g',off',hA,-,hc⟩:=kid_at h.lies (fun v hv=>by simp at hv;rw [hv];exact ht.size) hx.1 (i:=0) (by simp)
  injection hA with hA
  injection hA with e1 e2
  subst e1 e2
  simpa using hc j hj
 clear hcell
 have HW:=fun x (b:Below u.heap.size u x) (K:Option Addr) (kc:Nat) (hK:Lies x x.heap.size K (ints .i64 [3,4,5]))=>within_any ht hw x (hu.below b) (hP.below b) K [3,4,5] kc hK (by simp) (by omega)
 rw [hv] at HW hcells
 rw [show inBr (([3,4,5]:List Int).contains (kindN n1)) (textN n1)=pieceI [3,4,5] n1 from rfl] at HW
 obtain ⟨k1,hk1⟩:∃ x,kindN n1=x:=⟨_,rfl⟩
 rw [hk1] at HW hcells
 have hpl:(pieceI [3,4,5] n1).length≤9002:=by have:=inBr_len (([3,4,5]:List Int).contains (kindN n1)) (textN n1);unfold pieceI;omega
 obtain ⟨pc,hpc⟩:∃ x,pieceI [3,4,5] n1=x:=⟨_,rfl⟩
 rw [hpc] at HW hpl ⊢
 have htl:(timesT lo hi).length≤7:=timesT_len h0 h1 (by omega)
 obtain ⟨tm,htm⟩:∃ x,timesT lo hi=x:=⟨_,rfl⟩
 have HO:Hid (∀ x,Below u.heap.size u x→Calls Tryz.prog 34 #[.agg #[.int .i64 5,.slice A n c,.int .i64 lo,.int .i64 hi,.slice (some ⟨g,off,none⟩) 1 c']] x fun e w'=>∃ s,e=.returned (.string s)∧strI s=tm∧Asc s∧x.grownBy w' none):=qh fun x b=>by
  have:=often_any x (hP.below b) 5 lo hi A (some ⟨g,off,none⟩) n c 1 c' h0 h1 h2
  unfold OftenTo at this
  rw [htm] at this
  exact this
 rw [htm] at htl ⊢
 have HLN:Hid (pc.length≤9002∧tm.length≤7):=qh ⟨hpl,htl⟩
 have HWI:=qh HW
 have X0:Hid (Box (u.alloc (.cells #[.int .i64 5,.slice A n c,.int .i64 lo,.int .i64 hi,.slice (some ⟨g,off,none⟩) 1 c'] 25)) u.heap.size #[.int .i64 5,.slice A n c,.int .i64 lo,.int .i64 hi,.slice (some ⟨g,off,none⟩) 1 c'] 25):=qh (Box.new u _ _)
 have B0:Hid (Below u.heap.size u (u.alloc (.cells #[.int .i64 5,.slice A n c,.int .i64 lo,.int .i64 hi,.slice (some ⟨g,off,none⟩) 1 c'] 25))):=qh (below_alloc u _)
 have HS:Hid (∀ x,Box x u.heap.size #[.int .i64 5,.slice A n c,.int .i64 lo,.int .i64 hi,.slice (some ⟨g,off,none⟩) 1 c'] 25→Below u.heap.size u x→(fun x=>(x.cell? ⟨u.heap.size,0,none⟩=some (.int .i64 5)∧x.cell? ⟨u.heap.size,1,none⟩=some (.slice A n c)∧x.cell? ⟨u.heap.size,2,none⟩=some (.int .i64 lo)∧x.cell? ⟨u.heap.size,3,none⟩=some (.int .i64 hi)∧x.cell? ⟨u.heap.size,4,none⟩=some (.slice (some ⟨g,off,none⟩) 1 c'))∧x.cell? ⟨g,off,none⟩=some (.int .i64 k1)∧x.cell? ⟨g,off+1,none⟩=some (.slice Ar nr cr)∧x.cell? ⟨g,off+2,none⟩=some (.int .i64 lo1)∧x.cell? ⟨g,off+3,none⟩=some (.int .i64 hi1)∧x.cell? ⟨g,off+4,none⟩=some (.slice Ak nk ck)) x):=qh fun x b bl=>by
  have ha:=hu.below bl
  refine ⟨⟨b.cell rfl,b.cell rfl,b.cell rfl,b.cell rfl,b.cell rfl⟩,?_,?_,?_,?_,?_⟩
  ·have:=hcells x ha 0 (by decide);rw [Nat.add_zero] at this;exact this
  ·exact hcells x ha 1 (by decide)
  ·exact hcells x ha 2 (by decide)
  ·exact hcells x ha 3 (by decide)
  ·exact hcells x ha 4 (by decide)
 clear h ht hw hg hcells HW hv hk1 hpc hpl htl htm h0 h1 h2 hb hu hP
 go_enter Tryz.func18,Tryz.ntmps18
 go_wp2_with fail
 refine wp_region_held_drew (S:=fun x=>(x.cell? ⟨u.heap.size,0,none⟩=some (.int .i64 5)∧x.cell? ⟨u.heap.size,1,none⟩=some (.slice A n c)∧x.cell? ⟨u.heap.size,2,none⟩=some (.int .i64 lo)∧x.cell? ⟨u.heap.size,3,none⟩=some (.int .i64 hi)∧x.cell? ⟨u.heap.size,4,none⟩=some (.slice (some ⟨g,off,none⟩) 1 c'))∧x.cell? ⟨g,off,none⟩=some (.int .i64 k1)∧x.cell? ⟨g,off+1,none⟩=some (.slice Ar nr cr)∧x.cell? ⟨g,off+2,none⟩=some (.int .i64 lo1)∧x.cell? ⟨g,off+3,none⟩=some (.int .i64 hi1)∧x.cell? ⟨g,off+4,none⟩=some (.slice Ak nk ck)) (by kernel_rfl) (HS.out _ (by exact X0.out.same rfl) (by exact below_same B0.out rfl rfl rfl rfl)) (fun hHeld=>?_)
 refine' hY 0 ?_
 try simp only [Act.put,ZA,ZB,ZD,ZE,ZF]
 refine' hY 1 ?_
 try simp only [Act.put,ZA,ZB,ZC,ZD,ZE,ZF]
 refine' hY 2 ?_
 try simp only [Act.put,ZA,ZB,ZC,ZD,ZE,ZF]
 refine' hY 3 ?_
 try simp only [Act.put,ZA,ZB,ZC,ZD,ZE,ZF]
 refine' hY 6 ?_
 try simp only [Act.put,ZA,ZB,ZC,ZD,ZE,ZF]
 refine hA 4 fun K hK=>?_
 go_simp
 obtain ⟨wd,hwd⟩:∃ x,World.drew ((u.alloc (.cells #[.int .i64 5,.slice A n c,.int .i64 lo,.int .i64 hi,.slice (some ⟨g,off,none⟩) 1 c'] 25)).alloc (.cells #[.int .i64 3,.int .i64 4,.int .i64 5] 3))=x:=⟨_,rfl⟩
 have XD:Hid (Box wd u.heap.size #[.int .i64 5,.slice A n c,.int .i64 lo,.int .i64 hi,.slice (some ⟨g,off,none⟩) 1 c'] 25):=qh (hwd▸(X0.out.kept (grown_new (u.alloc (.cells #[.int .i64 5,.slice A n c,.int .i64 lo,.int .i64 hi,.slice (some ⟨g,off,none⟩) 1 c'] 25)) (.cells #[.int .i64 3,.int .i64 4,.int .i64 5] 3) none) (by simp)).same rfl)
 have BD:Hid (Below u.heap.size u wd):=qh (hwd▸below_same (below_then B0.out (below_alloc (u.alloc (.cells #[.int .i64 5,.slice A n c,.int .i64 lo,.int .i64 hi,.slice (some ⟨g,off,none⟩) 1 c'] 25)) (.cells #[.int .i64 3,.int .i64 4,.int .i64 5] 3))) rfl rfl rfl rfl)
 have LD:Hid (Lies wd wd.heap.size (some ⟨u.heap.size+1,0,none⟩) (ints .i64 [3,4,5])):=qh (by
  have:=Lies.lit (w:=(u.alloc (.cells #[.int .i64 5,.slice A n c,.int .i64 lo,.int .i64 hi,.slice (some ⟨g,off,none⟩) 1 c'] 25))) (e:=3) #[.int .i64 3,.int .i64 4,.int .i64 5]
  rw [World.size_alloc] at this
  rw [← hwd]
  exact (this.wider (B':=(World.drew ((u.alloc (.cells #[.int .i64 5,.slice A n c,.int .i64 lo,.int .i64 hi,.slice (some ⟨g,off,none⟩) 1 c'] 25)).alloc (.cells #[.int .i64 3,.int .i64 4,.int .i64 5] 3))).heap.size) (by simp)).sameHeap rfl)
 rw [hwd]
 go_wp2_with fail
 refine hK.out _ _ (by exact HS.out _ XD.out BD.out) (fun hHeld=>?_)
 clear hK K
 try simp only [Act.put,ZA,ZB,ZC,ZD,ZE,ZF]
 refine hA 5 fun K hK=>?_
 go_simp
 refine (HWI.out _ (by exact BD.out) _ 3 (by exact LD.out)).mono ?_
 rintro e w1 ⟨v1,rfl,o1,b1⟩
 obtain ⟨A1,c1,rfl,l1,-,-⟩:=o1.form
 have L1:=qh l1
 have B1:Hid (Below u.heap.size u w1):=qh (below_then (by exact BD.out) b1)
 have X1:Hid (Box w1 u.heap.size #[.int .i64 5,.slice A n c,.int .i64 lo,.int .i64 hi,.slice (some ⟨g,off,none⟩) 1 c'] 25):=qh (Box.below (by exact XD.out) b1 (by exact XD.out.lt))
 clear o1 b1 l1
 go_wp2_with fail
 refine hK.out _ _ (by exact HS.out _ (by exact X1.out.same rfl) (by exact below_same B1.out rfl rfl rfl rfl)) (fun hHeld=>?_)
 clear hK K
 try simp only [Act.put,ZA,ZB,ZC,ZD,ZE,ZF]
 refine hA 7 fun K hK=>?_
 go_simp
 refine (HO.out _ (by exact B1.out)).mono ?_
 rintro e w2 ⟨s,rfl,hs,sa,g2⟩
 have b2:=below_row_none g2 (Nat.le_refl _)
 have L12:=qh (L1.out.up b2)
 have B2:Hid (Below u.heap.size u w2):=qh (below_then (by exact B1.out) b2)
 have X2:Hid (Box w2 u.heap.size #[.int .i64 5,.slice A n c,.int .i64 lo,.int .i64 hi,.slice (some ⟨g,off,none⟩) 1 c'] 25):=qh (Box.below (by exact X1.out) b2 (by exact X1.out.lt))
 have HCH:=qh (fun x=>chars_any s x sa.len sa.low)
 rw [hs] at HCH
 clear g2 b2 hs sa
 go_wp2_with fail
 refine hK.out _ _ (by exact HS.out _ (by exact X2.out.same rfl) (by exact below_same B2.out rfl rfl rfl rfl)) (fun hHeld=>?_)
 clear hK K
 try simp only [Act.put,ZA,ZB,ZC,ZD,ZE,ZF]
 refine hA 8 fun K hK=>?_
 go_simp
 refine (HCH.out _).mono ?_
 rintro e w3 ⟨v3,rfl,o3,b3⟩
 obtain ⟨A3,c3,rfl,l3,-,-⟩:=o3.form
 have L3:=qh l3
 have L13:=qh (L12.out.up b3)
 have B3:Hid (Below u.heap.size u w3):=qh (below_then (by exact B2.out) b3)
 have X3:Hid (Box w3 u.heap.size #[.int .i64 5,.slice A n c,.int .i64 lo,.int .i64 hi,.slice (some ⟨g,off,none⟩) 1 c'] 25):=qh (Box.below (by exact X2.out) b3 (by exact X2.out.lt))
 clear o3 b3 l3
 go_wp2_with fail
 refine hK.out _ _ (by exact HS.out _ (by exact X3.out.same rfl) (by exact below_same B3.out rfl rfl rfl rfl)) (fun hHeld=>?_)
 clear hK K
 try simp only [Act.put,ZA,ZB,ZC,ZD,ZE,ZF]
 simp only [List.length_cons,List.length_nil]
 refine hA 9 fun K hK=>?_
 go_simp
 have X4:Hid (Box (w3.alloc (.cells #[.slice A1 pc.length c1,.slice A3 tm.length c3] 26)) u.heap.size #[.int .i64 5,.slice A n c,.int .i64 lo,.int .i64 hi,.slice (some ⟨g,off,none⟩) 1 c'] 25):=qh (Box.kept (by exact X3.out.same rfl) (grown_new w3 _ none) (by simp))
 have B4:Hid (Below u.heap.size u (w3.alloc (.cells #[.slice A1 pc.length c1,.slice A3 tm.length c3] 26))):=qh (below_then B3.out (below_alloc w3 _))
 have L4:Hid (Lies (w3.alloc (.cells #[.slice A1 pc.length c1,.slice A3 tm.length c3] 26)) (w3.alloc (.cells #[.slice A1 pc.length c1,.slice A3 tm.length c3] 26)).heap.size (some ⟨w3.heap.size,0,none⟩) ([(A1,pc,c1),(A3,tm,c3)].map rowV)):=qh (Lies.litUp (w:=w3) (e:=26) #[.slice A1 pc.length c1,.slice A3 tm.length c3])
 have HLL:Hid (∀ x∈([(A1,pc,c1),(A3,tm,c3)]:RowsL),Lies (w3.alloc (.cells #[.slice A1 pc.length c1,.slice A3 tm.length c3] 26)) (w3.alloc (.cells #[.slice A1 pc.length c1,.slice A3 tm.length c3] 26)).heap.size x.1 (ints .i64 x.2.1)):=qh (by
  intro x hx
  simp only [List.mem_cons,List.mem_nil_iff,or_false] at hx
  rcases hx with rfl | rfl
  ·exact L13.out.up (below_alloc w3 _)
  ·exact L3.out.up (below_alloc w3 _))
 go_wp2_with fail
 refine hK.out _ _ (by exact HS.out _ (by exact X4.out) (by exact B4.out)) (fun hHeld=>?_)
 clear hK K
 try simp only [Act.put,ZA,ZB,ZC,ZD,ZE,ZF]
 refine hA 10 fun K hK=>?_
 go_simp
 refine (concat_any _ _ [(A1,pc,c1),(A3,tm,c3)] 2 (by exact L4.out) (by exact HLL.out) (by simp) (by have:=HLN.out;simp [sumLen];omega)).mono ?_
 rintro e w5 ⟨v5,rfl,o5,b5⟩
 have O5:=qh o5
 have B5:Hid (Below u.heap.size u w5):=qh (below_then B4.out b5)
 have X5:Hid (Box w5 u.heap.size #[.int .i64 5,.slice A n c,.int .i64 lo,.int .i64 hi,.slice (some ⟨g,off,none⟩) 1 c'] 25):=qh (Box.below (by exact X4.out.same rfl) b5 (by exact X4.out.lt))
 have HZ5:=qh B4.out.size
 clear o5 b5
 go_wp2_with fail
 refine hK.out _ _ (by exact HS.out _ (by exact X5.out.same rfl) (by exact below_same B5.out rfl rfl rfl rfl)) (fun hHeld=>?_)
 clear hK K
 try simp only [Act.put,ZA,ZB,ZC,ZD,ZE,ZF]
 refine' hY 11 ?_
 try simp only [Act.put,ZA,ZB,ZC,ZD,ZE,ZF]
 refine wpAnyH_done (by kernel_rfl) ?_ _
 go_wp2_with fail
 go_ret
 exact rowed_ret (O5.out.weaken HZ5.out) B5.out (by simp)
theorem written_any {w:World} {P:Nat→Prop} {n:Nd} {v:Array Value} (h:Treed w P n v):allN n=true→cntN n≤400∧rngN n≤400→Wrote w P n v:=by
 induction h with
 | @mk k lo hi rs ks A A' c c' vs h1 hc h0 h2 hc' hk ih =>
  intro ha hb u hu hP
  rw [allN,Bool.and_eq_true] at ha
  rw [cntN,rngN] at hb
  obtain ⟨hkk,hz,hr,hks,h34,h5,hset⟩:=node_plain ha.1
  have HK:KidsW w P A' ks vs:=⟨h0,h2,fun i i1 i2=>⟨hk i i1 i2,ih i i1 i2 (all_mem ha.2 _ (List.getElem_mem i2)) (by have:=cntN_at i i2;omega)⟩,by have a:=hc'.1;have b:=hc'.2;unfold maxLen at b;omega⟩
  rw [textN_form]
  rcases hkk with rfl | rfl | rfl | rfl | rfl | rfl | rfl
  ·rw [if_pos rfl];exact written_empty u lo hi A A' rs.length c ks.length c'
  ·rw [if_neg (by decide),if_neg (by decide),if_neg (by decide),if_pos rfl]
   exact written_set u lo hi A A' rs c ks.length c' ((h1.keep hu.1 hu.2).lies) (by omega)
  ·rw [if_neg (by decide),if_neg (by decide),if_neg (by decide),if_neg (by decide),if_pos rfl,join_sev]
   exact written_join HK u hu hP lo hi A rs.length c c' (joinTx_le ha.2 (by omega))
  ·rw [if_neg (by decide),if_neg (by decide),if_neg (by decide),if_neg (by decide),if_neg (by decide),if_pos rfl,or_sev]
   exact written_or HK u hu hP lo hi A rs.length c c' (orTx_le ha.2 (by omega))
  ·rw [if_neg (by decide),if_neg (by decide),if_neg (by decide),if_neg (by decide),if_neg (by decide),if_neg (by decide)]
   have h5:=h5 rfl
   obtain ⟨m,rfl⟩:∃ m,ks=[m]:=by
    rcases ks with _ | ⟨a,_ | ⟨b,ks⟩⟩
    ·simp at h5
    ·exact ⟨a,rfl⟩
    ·simp at h5
   obtain ⟨v1,rfl⟩:∃ v1,vs=[v1]:=by
    rcases vs with _ | ⟨a,_ | ⟨b,vs⟩⟩
    ·simp at h0
    ·exact ⟨a,rfl⟩
    ·simp at h0
   have hn:=ha.1
   simp [nodeI] at hn
   have ha2:=ha.2
   rw [allL,Bool.and_eq_true] at ha2
   have hl:=textN_len m ha2.1
   rw [cntL,rngL,cntL,rngL] at hb
   exact written_repeat HK u hu hP lo hi A rs.length c c' (by omega) (by omega) (by omega) (by omega)
  ·rw [if_neg (by decide),if_pos rfl];exact written_start u lo hi A A' rs.length c ks.length c'
  ·rw [if_neg (by decide),if_neg (by decide),if_pos rfl];exact written_stop u lo hi A A' rs.length c ks.length c'
end
end Go.Proofs.YtoeocodfndbebaaGreatDoor
