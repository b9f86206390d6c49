/- Shared texts, shaken for one claim. -/
import Derived.Test.YtoeocodfndbebaaGreatDoorZC6
import Derived.Test.YtoeocodfndbebaaGreatDoorZC12
import Derived.Test.YtoeocodfndbebaaGreatDoorZC14
import Derived.Test.YtoeocodfndbebaaGreatDoorZC41
set_option maxRecDepth 20000
set_option maxHeartbeats 16000000
namespace Go.Proofs.YtoeocodfndbebaaGreatDoor
section
open Go.RowKit
theorem Tabs4.below {w w':World} (h:Tabs4 w) (hb:Below w.heap.size w w'):Tabs4 w':=⟨h.fo.below hb h.fo.big,h.pow.below hb⟩
theorem Tabs4.grown {w w':World} (h:Tabs4 w) (hg:w.grownBy w' none):Tabs4 w':=h.below (below_row_none hg (Nat.le_refl _))
theorem treed_leaf (w:World) (k:Int):Treed w (fun _=>False) (.mk k 0 0 [] []) #[.int .i64 k,.slice none 0 0,.int .i64 0,.int .i64 0,.slice none 0 0] :=
 .mk (rs:=[]) (ks:=[]) [] LiesP.none (by decide) rfl LiesP.none (by decide) fun i h1=>by simp at h1
theorem live_any (w:World) (hT:Tabs4 w):Calls Tryz.prog 7 #[] w fun e w'=>e=.returned (.bool true)∧Below w.heap.size w w':=by
 obtain ⟨w1,hw1⟩:∃ u,w.alloc (.cells #[.int .i64 40,.int .i64 97,.int .i64 124,.int .i64 91,.int .i64 98,.int .i64 99,.int .i64 93,.int .i64 41,.int .i64 123,.int .i64 48,.int .i64 44,.int .i64 125,.int .i64 92,.int .i64 46] 3)=u:=⟨_,rfl⟩
 have HW1:=qh hw1
 have B1:Hid (Below w.heap.size w w1):=qh (hw1▸below_alloc w _)
 have L1:Lies w1 w1.heap.size (some ⟨w.heap.size,0,none⟩) (ints .i64 liveL):=hw1▸Lies.litUp _
 have HT:=qh hT
 have C1:=neat_any w1 (hT.below B1.out).fo (hT.below B1.out).pow _ liveL 14 0 L1 (by decide)
 rw [live_neat] at C1
 have HC1:=qh C1
 clear hw1 L1 hT C1
 go_enter Tryz.func7,Tryz.ntmps7
 go_wp2_with fail
 rw [HW1.out]
 refine HC1.out.mono ?_
 rintro e w2 ⟨v2,rfl,o2,b2⟩
 obtain ⟨A2,c2,rfl,l2,-,-⟩:=o2.form
 have L2:=qh l2
 have B2:=qh (below_then B1.out b2)
 clear o2 b2 l2
 have C3:=shpattern_any (treed_leaf w2 9) w2 ⟨fun _ hb _=>hb.elim,Nat.le_refl _⟩ (HT.out.below B2.out).pow
 rw [live_nine] at C3
 have HC3:=qh C3
 clear C3
 go_wp2_with fail
 refine HC3.out.mono ?_
 rintro e w3 ⟨v3,rfl,o3,b3⟩
 have B3:=qh (below_then B2.out b3)
 have L3:=qh (L2.out.up b3)
 clear o3 b3
 obtain ⟨w4,hw4⟩:∃ u,w3.alloc (.cells #[.int .i64 40,.int .i64 97,.int .i64 124,.int .i64 91,.int .i64 98,.int .i64 45,.int .i64 99,.int .i64 93,.int .i64 41,.int .i64 42,.int .i64 92,.int .i64 46] 3)=u:=⟨_,rfl⟩
 have HW4:=qh hw4
 have B4:Hid (Below w.heap.size w w4):=qh (below_then B3.out (hw4▸below_alloc w3 _))
 have L4:Lies w4 w4.heap.size (some ⟨w3.heap.size,0,none⟩) (ints .i64 liveR):=hw4▸Lies.litUp _
 have L24:Lies w4 w4.heap.size A2 (ints .i64 liveR):=L3.out.up (hw4▸below_alloc w3 _)
 have HI:=qh (ints_ok A2 _ liveR c2 12 w4 L24 L4 (by decide))
 have HR:=qh (fun u=>shright_any (treed_leaf w4 1) u (fun _ hb _=>hb.elim))
 rw [live_empty] at HR
 clear hw4 L4 L24
 go_wp2_with fail
 rw [HW4.out]
 refine HI.out.mono ?_
 rintro e w5 ⟨rfl,b5⟩
 have B5:=qh (below_then B4.out b5)
 have HZ5:=qh b5.size
 clear b5
 go_wp2_with fail
 refine (HR.out _ HZ5.out).mono ?_
 rintro e w6 ⟨rfl,g6⟩
 have B6:=qh (below_then B5.out (below_row_none g6 (Nat.le_refl _)))
 clear g6
 go_wp2_with fail
 go_ret
 exact ⟨rfl,B6.out⟩
end
section
open Go.ChangeShapes Go.WideShapes Go.ChangeAt Go.RowKit
variable {H:Type} {enc:TypeId×Value→H}
theorem trod_ranges {W:World} {fuel:Nat} {cs:List Value} {x:DataW H×List MemPlace} (hf:DataW.trod enc Tryz.prog W 0 (fun _=>true) true fuel 22 cs=some x) :
 ∃ (A:Option Addr) (R:List (Int×Int)) (c:Nat),cs=[.slice A R.length c]∧R.length≤c∧c≤maxLen∧LiesP W (fun b=>b < W.heap.size) A (prC R):=by
 have ce:Tryz.prog.cellsOf 66=2:=by kernel_rfl
 have c0:Tryz.prog.cellsOf 3=1:=by kernel_rfl
 rcases Go.Deep.open_slice_pairs Tryz.underlying22 Tryz.underlying66 ce rfl rfl c0 c0 hf with ⟨rfl,_⟩ | ⟨a,len,cap,m,n,V0,V1,D0,D1,P0,P1,rfl,_,hlc,hcm,hm,_,hcell⟩
 ·exact ⟨none,[],0,rfl,Nat.le_refl _,by unfold maxLen;omega,LiesP.none⟩
 ·rw [if_pos rfl] at hm
  subst hm
  let num:Value→Int:=fun v=>match v with | .int _ z=>z | _=>0
  have key:∀ i,i < len→V0 i=.int .i64 (num (V0 i))∧V1 i=.int .i64 (num (V1 i)):=by
   intro i hi
   obtain ⟨-,-,h0,h1⟩:=hcell i (by omega)
   obtain ⟨z0,e0,-,f0⟩:=DataW.trod_int Tryz.underlying3 h0
   obtain ⟨z1,e1,-,f1⟩:=DataW.trod_int Tryz.underlying3 h1
   injection e0 with e0
   injection e1 with e1
   rw [e0,e1]
   exact ⟨rfl,rfl⟩
  obtain ⟨R,hR⟩:∃ R,(List.range len).map (fun i=>(num (V0 i),num (V1 i)))=R:=⟨_,rfl⟩
  have hlen:R.length=len:=by rw [← hR];simp
  have hget:∀ i (hi:i < R.length),R[i]=(num (V0 i),num (V1 i)):=by
   intro i hi
   subst hR
   simp
  have hL:Lies W W.heap.size (some a) (prC R):=by
   refine fun hne=>⟨a,rfl,?_,fun i u hu=>?_⟩
   ·have h0:0 < len:=by
     rcases Nat.eq_zero_or_pos len with h0 | h0
     ·exfalso
      have:R=[]:=List.eq_nil_of_length_eq_zero (by omega)
      subst this
      exact hne rfl
     ·exact h0
    have:=(hcell 0 (by omega)).1
    exact (add_block a (0 * 2))▸World.block_lt_of_cell? W _ this
   ·have hi:i < (prC R).length:=(List.getElem?_eq_some_iff.1 hu).1
    rw [prC_length] at hi
    have hj:i / 2 < R.length:=by omega
    obtain ⟨g0,g1⟩:=prC_get R (i / 2) hj
    obtain ⟨k0,k1⟩:=key (i / 2) (by omega)
    obtain ⟨m0,m1,-,-⟩:=hcell (i / 2) (by omega)
    rcases Nat.mod_two_eq_zero_or_one i with hz | hz
    ·rw [show i / 2 * 2=i by omega] at g0 m0
     rw [g0,hget _ hj] at hu
     injection hu with hu
     rw [m0,← hu,k0]
    ·rw [show i / 2 * 2+1=i by omega] at g1 m1
     rw [g1,hget _ hj] at hu
     injection hu with hu
     rw [m1,← hu,k1]
  refine ⟨some a,R,_,by rw [hlen],by rw [hlen];exact hlc,hcm,fun hne=>?_⟩
  obtain ⟨g,off,hA,hg,hc⟩:=hL.plain (List.length_pos_iff.2 hne)
  exact ⟨g,off,hA,hg,hg,fun i u hu=>by
   obtain ⟨hi,e⟩:=List.getElem?_eq_some_iff.1 hu
   rw [hc i hi,e]⟩
theorem trod_tree {W:World}:∀ (fuel:Nat) {cs:List Value} {x:DataW H×List MemPlace},DataW.trod enc Tryz.prog W 0 (fun _=>true) true fuel 25 cs=some x →
 ∃ (n:Nd) (V:Array Value),cs=V.toList∧Treed W (fun b=>b < W.heap.size) n V:=by
 intro fuel
 induction fuel using Nat.strongRecOn with
 | _ fuel ih =>
  intro cs x h
  obtain ⟨xs,m,rfl,-,hl,hxl,hf⟩:=DataW.trod_struct Tryz.underlying25 h
  have c0:Tryz.prog.cellsOf 3=1:=by kernel_rfl
  have c1:Tryz.prog.cellsOf 22=1:=by kernel_rfl
  have c2:Tryz.prog.cellsOf 23=1:=by kernel_rfl
  have c5:Tryz.prog.cellsOf 25=5:=by kernel_rfl
  rw [c5] at hl
  obtain ⟨v0,v1,v2,v3,v4,rfl⟩:∃ v0 v1 v2 v3 v4,cs=[v0,v1,v2,v3,v4]:=by
   match cs,hl with
   | [a,b,c,d,e],_=>exact ⟨a,b,c,d,e,rfl⟩
  have hx:∀ i,i < 5→∃ y,xs[i]?=some y:=fun i hi=>⟨_,List.getElem?_eq_getElem (by rw [hxl];exact hi)⟩
  have f0:DataW.trod enc Tryz.prog W 0 (fun _=>true) true m 3 (([v0,v1,v2,v3,v4].drop 0).take (Tryz.prog.cellsOf 3))=xs[0]?:=hf 0 _ rfl
  rw [c0] at f0
  have f1:DataW.trod enc Tryz.prog W 0 (fun _=>true) true m 22 (([v0,v1,v2,v3,v4].drop 1).take (Tryz.prog.cellsOf 22))=xs[1]?:=hf 1 _ rfl
  rw [c1] at f1
  have f2:DataW.trod enc Tryz.prog W 0 (fun _=>true) true m 3 (([v0,v1,v2,v3,v4].drop 2).take (Tryz.prog.cellsOf 3))=xs[2]?:=hf 2 _ rfl
  rw [c0] at f2
  have f3:DataW.trod enc Tryz.prog W 0 (fun _=>true) true m 3 (([v0,v1,v2,v3,v4].drop 3).take (Tryz.prog.cellsOf 3))=xs[3]?:=hf 3 _ rfl
  rw [c0] at f3
  have f4:DataW.trod enc Tryz.prog W 0 (fun _=>true) true m 23 (([v0,v1,v2,v3,v4].drop 4).take (Tryz.prog.cellsOf 23))=xs[4]?:=hf 4 _ rfl
  rw [c2] at f4
  obtain ⟨y0,e0⟩:=hx 0 (by decide)
  obtain ⟨y1,e1⟩:=hx 1 (by decide)
  obtain ⟨y2,e2⟩:=hx 2 (by decide)
  obtain ⟨y3,e3⟩:=hx 3 (by decide)
  obtain ⟨y4,e4⟩:=hx 4 (by decide)
  rw [e0] at f0
  replace f0:DataW.trod enc Tryz.prog W 0 (fun _=>true) true m 3 [v0]=some y0:=f0
  rw [e1] at f1
  replace f1:DataW.trod enc Tryz.prog W 0 (fun _=>true) true m 22 [v1]=some y1:=f1
  rw [e2] at f2
  replace f2:DataW.trod enc Tryz.prog W 0 (fun _=>true) true m 3 [v2]=some y2:=f2
  rw [e3] at f3
  replace f3:DataW.trod enc Tryz.prog W 0 (fun _=>true) true m 3 [v3]=some y3:=f3
  rw [e4] at f4
  replace f4:DataW.trod enc Tryz.prog W 0 (fun _=>true) true m 23 [v4]=some y4:=f4
  obtain ⟨k,hk,-,-⟩:=DataW.trod_int Tryz.underlying3 f0
  obtain ⟨lo,hlo,-,-⟩:=DataW.trod_int Tryz.underlying3 f2
  obtain ⟨hi,hhi,-,-⟩:=DataW.trod_int Tryz.underlying3 f3
  obtain ⟨A,R,c,hA,hRc,hcm,hRL⟩:=trod_ranges f1
  injection hk with hk
  injection hlo with hlo
  injection hhi with hhi
  injection hA with hA
  subst hk hlo hhi hA
  rcases DataW.trod_slice Tryz.underlying23 f4 with ⟨h4,-⟩ | ⟨a,len,cap,elems,rest,n,hmn,h4,-,-,hlc,hcapm,hlen,hel,-,-⟩
  ·injection h4 with h4
   subst h4
   exact ⟨.mk k lo hi R [],_,rfl,.mk (ks:=[]) [] hRL ⟨hRc,hcm⟩ rfl LiesP.none ⟨Nat.le_refl 0,Nat.zero_le _⟩ fun i h1=>by simp at h1⟩
  ·injection h4 with h4
   subst h4
   have each:∀ i,i < len→∃ q:Nd×Array Value,Treed W (fun b=>b < W.heap.size) q.1 q.2∧∀ r,r < 5→W.cell? ((a.add (i * 5)).add r)=q.2.toList[r]?:=by
    intro i hi
    have h1:=hel i hi
    rw [List.getElem?_eq_getElem (by omega),c5] at h1
    obtain ⟨cs',g1,g2⟩:=Option.bind_eq_some_iff.1 h1
    obtain ⟨n',V,rfl,ht⟩:=ih n (by omega) g2
    obtain ⟨-,-,hc⟩:=World.cells?_some g1
    exact ⟨(n',V),ht,hc⟩
   haveI:Inhabited (Nd×Array Value):=⟨(.mk 0 0 0 [] [],#[])⟩
   obtain ⟨q,hq⟩:=Go.Deep.choose_lt each
   have hlv:((List.range len).map fun i=>(q i).2).length=len:=by simp
   have h5:∀ v∈(List.range len).map (fun i=>(q i).2),v.size=5:=by
    intro v hv
    obtain ⟨i,hi,rfl⟩:=List.mem_map.1 hv
    exact (hq i (List.mem_range.1 hi)).1.size
   have hlk:((List.range len).map fun i=>(q i).1).length=len:=by simp
   refine ⟨.mk k lo hi R ((List.range len).map fun i=>(q i).1),#[.int .i64 k,.slice A R.length c,.int .i64 lo,.int .i64 hi,.slice (some a) ((List.range len).map fun i=>(q i).1).length cap],by rw [hlk],.mk ((List.range len).map fun i=>(q i).2) hRL ⟨hRc,hcm⟩ (by rw [hlv,hlk]) (fun hne=>?_) (by rw [hlk];exact ⟨hlc,hcapm⟩) fun i h1 h2=>?_⟩
   ·have hp:0 < len:=by
     rcases Nat.eq_zero_or_pos len with h0 | h0
     ·subst h0;exact absurd rfl hne
     ·exact h0
    have hfl:=nflat_len h5
    rw [hlv] at hfl
    have hcell:∀ i u,(((List.range len).map fun i=>(q i).2).flatMap Array.toList)[i]?=some u→W.cell? (a.add i)=some u:=by
     intro i u hu
     have hi:=(List.getElem?_eq_some_iff.1 hu).1
     have hj:i / 5 < len:=by omega
     have:=nflat_at h5 (i / 5) (i % 5) (by rw [hlv];exact hj) (Nat.mod_lt _ (by decide))
     rw [show i / 5 * 5+i % 5=i by omega,hu] at this
     have h2:=(hq (i / 5) hj).2 (i % 5) (Nat.mod_lt _ (by decide))
     rw [add_add,show i / 5 * 5+i % 5=i by omega] at h2
     rw [h2]
     simpa using this.symm
    have h00:=hcell 0 _ (List.getElem?_eq_getElem (by omega))
    have hs:=plain_of_cell h00
    have hb:=World.block_lt_of_cell? W _ h00
    rw [add_block] at hb
    obtain ⟨b,off,spot⟩:=a
    have hsp:spot=none:=by
     unfold Addr.add at hs;simpa using hs
    subst hsp
    exact ⟨b,off,rfl,hb,hb,fun i u hu=>by rw [← add_plain];exact hcell i u hu⟩
   ·have hi:i < len:=by rw [hlv] at h1;exact h1
    simp only [List.getElem_map,List.getElem_range]
    exact (hq i hi).1
theorem open_node {W:World} {v:Value} {d:DataW H} {ps:List MemPlace} {r:Reach} {b0:Nat} (hval:Value.okWide Tryz.prog W r b0 25 v)
 (h:DataW.Trod enc Tryz.prog W 0 (fun _=>true) true 25 v d ps) :
 ∃ (n:Nd) (V:Array Value),v=.agg V∧Treed W (fun b=>b < W.heap.size) n V:=by
 obtain ⟨cs,rfl,-⟩:=okWide_struct Tryz.underlying25 hval
 obtain ⟨fuel,hf⟩:=h
 obtain ⟨n,V,hV,ht⟩:=trod_tree fuel hf
 refine ⟨n,V,?_,ht⟩
 congr 1
 have:cs.toList=V.toList:=hV
 exact Array.toList_inj.1 this
end
end Go.Proofs.YtoeocodfndbebaaGreatDoor
