/- Shared texts, shaken for one claim. -/
import Derived.Test.YtoeocodfndbebaaGreatDoorZB11
import Derived.Test.YtoeocodfndbebaaGreatDoorZB13
set_option maxRecDepth 20000
set_option maxHeartbeats 16000000
namespace Go.Proofs.YtoeocodfndbebaaGreatDoor
section
open Go.ChangeShapes Go.WideShapes Go.ChangeAt Go.RowKit
variable {H:Type} {enc:TypeId×Value→H}
theorem trod_ranges {W:World} {fuel:Nat} {cs:List Value} {x:DataW H×List MemPlace} (hf:DataW.trod enc Tryz.prog W 0 (fun _=>true) true fuel 22 cs=some x) :
 ∃ (A:Option Addr) (R:List (Int×Int)) (c:Nat),cs=[.slice A R.length c]∧R.length≤c∧c≤maxLen∧LiesP W (fun b=>b < W.heap.size) A (prC R):=by
 have ce:Tryz.prog.cellsOf 66=2:=by kernel_rfl
 have c0:Tryz.prog.cellsOf 3=1:=by kernel_rfl
 rcases Go.Deep.open_slice_pairs Tryz.underlying22 Tryz.underlying66 ce rfl rfl c0 c0 hf with ⟨rfl,_⟩ | ⟨a,len,cap,m,n,V0,V1,D0,D1,P0,P1,rfl,_,hlc,hcm,hm,_,hcell⟩
 ·exact ⟨none,[],0,rfl,Nat.le_refl _,by unfold maxLen;omega,LiesP.none⟩
 ·rw [if_pos rfl] at hm
  subst hm
  let num:Value→Int:=fun v=>match v with | .int _ z=>z | _=>0
  have key:∀ i,i < len→V0 i=.int .i64 (num (V0 i))∧V1 i=.int .i64 (num (V1 i)):=by
   intro i hi
   obtain ⟨-,-,h0,h1⟩:=hcell i (by omega)
   obtain ⟨z0,e0,-,f0⟩:=DataW.trod_int Tryz.underlying3 h0
   obtain ⟨z1,e1,-,f1⟩:=DataW.trod_int Tryz.underlying3 h1
   injection e0 with e0
   injection e1 with e1
   rw [e0,e1]
   exact ⟨rfl,rfl⟩
  obtain ⟨R,hR⟩:∃ R,(List.range len).map (fun i=>(num (V0 i),num (V1 i)))=R:=⟨_,rfl⟩
  have hlen:R.length=len:=by rw [← hR];simp
  have hget:∀ i (hi:i < R.length),R[i]=(num (V0 i),num (V1 i)):=by
   intro i hi
   subst hR
   simp
  have hL:Lies W W.heap.size (some a) (prC R):=by
   refine fun hne=>⟨a,rfl,?_,fun i u hu=>?_⟩
   ·have h0:0 < len:=by
     rcases Nat.eq_zero_or_pos len with h0 | h0
     ·exfalso
      have:R=[]:=List.eq_nil_of_length_eq_zero (by omega)
      subst this
      exact hne rfl
     ·exact h0
    have:=(hcell 0 (by omega)).1
    exact (add_block a (0 * 2))▸World.block_lt_of_cell? W _ this
   ·have hi:i < (prC R).length:=(List.getElem?_eq_some_iff.1 hu).1
    rw [prC_length] at hi
    have hj:i / 2 < R.length:=by omega
    obtain ⟨g0,g1⟩:=prC_get R (i / 2) hj
    obtain ⟨k0,k1⟩:=key (i / 2) (by omega)
    obtain ⟨m0,m1,-,-⟩:=hcell (i / 2) (by omega)
    rcases Nat.mod_two_eq_zero_or_one i with hz | hz
    ·rw [show i / 2 * 2=i by omega] at g0 m0
     rw [g0,hget _ hj] at hu
     injection hu with hu
     rw [m0,← hu,k0]
    ·rw [show i / 2 * 2+1=i by omega] at g1 m1
     rw [g1,hget _ hj] at hu
     injection hu with hu
     rw [m1,← hu,k1]
  refine ⟨some a,R,_,by rw [hlen],by rw [hlen];exact hlc,hcm,fun hne=>?_⟩
  obtain ⟨g,off,hA,hg,hc⟩:=hL.plain (List.length_pos_iff.2 hne)
  exact ⟨g,off,hA,hg,hg,fun i u hu=>by
   obtain ⟨hi,e⟩:=List.getElem?_eq_some_iff.1 hu
   rw [hc i hi,e]⟩
theorem trod_tree {W:World}:∀ (fuel:Nat) {cs:List Value} {x:DataW H×List MemPlace},DataW.trod enc Tryz.prog W 0 (fun _=>true) true fuel 25 cs=some x →
 ∃ (n:Nd) (V:Array Value),cs=V.toList∧Treed W (fun b=>b < W.heap.size) n V:=by
 intro fuel
 induction fuel using Nat.strongRecOn with
 | _ fuel ih =>
  intro cs x h
  obtain ⟨xs,m,rfl,-,hl,hxl,hf⟩:=DataW.trod_struct Tryz.underlying25 h
  have c0:Tryz.prog.cellsOf 3=1:=by kernel_rfl
  have c1:Tryz.prog.cellsOf 22=1:=by kernel_rfl
  have c2:Tryz.prog.cellsOf 23=1:=by kernel_rfl
  have c5:Tryz.prog.cellsOf 25=5:=by kernel_rfl
  rw [c5] at hl
  obtain ⟨v0,v1,v2,v3,v4,rfl⟩:∃ v0 v1 v2 v3 v4,cs=[v0,v1,v2,v3,v4]:=by
   match cs,hl with
   | [a,b,c,d,e],_=>exact ⟨a,b,c,d,e,rfl⟩
  have hx:∀ i,i < 5→∃ y,xs[i]?=some y:=fun i hi=>⟨_,List.getElem?_eq_getElem (by rw [hxl];exact hi)⟩
  have f0:DataW.trod enc Tryz.prog W 0 (fun _=>true) true m 3 (([v0,v1,v2,v3,v4].drop 0).take (Tryz.prog.cellsOf 3))=xs[0]?:=hf 0 _ rfl
  rw [c0] at f0
  have f1:DataW.trod enc Tryz.prog W 0 (fun _=>true) true m 22 (([v0,v1,v2,v3,v4].drop 1).take (Tryz.prog.cellsOf 22))=xs[1]?:=hf 1 _ rfl
  rw [c1] at f1
  have f2:DataW.trod enc Tryz.prog W 0 (fun _=>true) true m 3 (([v0,v1,v2,v3,v4].drop 2).take (Tryz.prog.cellsOf 3))=xs[2]?:=hf 2 _ rfl
  rw [c0] at f2
  have f3:DataW.trod enc Tryz.prog W 0 (fun _=>true) true m 3 (([v0,v1,v2,v3,v4].drop 3).take (Tryz.prog.cellsOf 3))=xs[3]?:=hf 3 _ rfl
  rw [c0] at f3
  have f4:DataW.trod enc Tryz.prog W 0 (fun _=>true) true m 23 (([v0,v1,v2,v3,v4].drop 4).take (Tryz.prog.cellsOf 23))=xs[4]?:=hf 4 _ rfl
  rw [c2] at f4
  obtain ⟨y0,e0⟩:=hx 0 (by decide)
  obtain ⟨y1,e1⟩:=hx 1 (by decide)
  obtain ⟨y2,e2⟩:=hx 2 (by decide)
  obtain ⟨y3,e3⟩:=hx 3 (by decide)
  obtain ⟨y4,e4⟩:=hx 4 (by decide)
  rw [e0] at f0
  replace f0:DataW.trod enc Tryz.prog W 0 (fun _=>true) true m 3 [v0]=some y0:=f0
  rw [e1] at f1
  replace f1:DataW.trod enc Tryz.prog W 0 (fun _=>true) true m 22 [v1]=some y1:=f1
  rw [e2] at f2
  replace f2:DataW.trod enc Tryz.prog W 0 (fun _=>true) true m 3 [v2]=some y2:=f2
  rw [e3] at f3
  replace f3:DataW.trod enc Tryz.prog W 0 (fun _=>true) true m 3 [v3]=some y3:=f3
  rw [e4] at f4
  replace f4:DataW.trod enc Tryz.prog W 0 (fun _=>true) true m 23 [v4]=some y4:=f4
  obtain ⟨k,hk,-,-⟩:=DataW.trod_int Tryz.underlying3 f0
  obtain ⟨lo,hlo,-,-⟩:=DataW.trod_int Tryz.underlying3 f2
  obtain ⟨hi,hhi,-,-⟩:=DataW.trod_int Tryz.underlying3 f3
  obtain ⟨A,R,c,hA,hRc,hcm,hRL⟩:=trod_ranges f1
  injection hk with hk
  injection hlo with hlo
  injection hhi with hhi
  injection hA with hA
  subst hk hlo hhi hA
  rcases DataW.trod_slice Tryz.underlying23 f4 with ⟨h4,-⟩ | ⟨a,len,cap,elems,rest,n,hmn,h4,-,-,hlc,hcapm,hlen,hel,-,-⟩
  ·injection h4 with h4
   subst h4
   exact ⟨.mk k lo hi R [],_,rfl,.mk (ks:=[]) [] hRL ⟨hRc,hcm⟩ rfl LiesP.none ⟨Nat.le_refl 0,Nat.zero_le _⟩ fun i h1=>by simp at h1⟩
  ·injection h4 with h4
   subst h4
   have each:∀ i,i < len→∃ q:Nd×Array Value,Treed W (fun b=>b < W.heap.size) q.1 q.2∧∀ r,r < 5→W.cell? ((a.add (i * 5)).add r)=q.2.toList[r]?:=by
    intro i hi
    have h1:=hel i hi
    rw [List.getElem?_eq_getElem (by omega),c5] at h1
    obtain ⟨cs',g1,g2⟩:=Option.bind_eq_some_iff.1 h1
    obtain ⟨n',V,rfl,ht⟩:=ih n (by omega) g2
    obtain ⟨-,-,hc⟩:=World.cells?_some g1
    exact ⟨(n',V),ht,hc⟩
   haveI:Inhabited (Nd×Array Value):=⟨(.mk 0 0 0 [] [],#[])⟩
   obtain ⟨q,hq⟩:=Go.Deep.choose_lt each
   have hlv:((List.range len).map fun i=>(q i).2).length=len:=by simp
   have h5:∀ v∈(List.range len).map (fun i=>(q i).2),v.size=5:=by
    intro v hv
    obtain ⟨i,hi,rfl⟩:=List.mem_map.1 hv
    exact (hq i (List.mem_range.1 hi)).1.size
   have hlk:((List.range len).map fun i=>(q i).1).length=len:=by simp
   refine ⟨.mk k lo hi R ((List.range len).map fun i=>(q i).1),#[.int .i64 k,.slice A R.length c,.int .i64 lo,.int .i64 hi,.slice (some a) ((List.range len).map fun i=>(q i).1).length cap],by rw [hlk],.mk ((List.range len).map fun i=>(q i).2) hRL ⟨hRc,hcm⟩ (by rw [hlv,hlk]) (fun hne=>?_) (by rw [hlk];exact ⟨hlc,hcapm⟩) fun i h1 h2=>?_⟩
   ·have hp:0 < len:=by
     rcases Nat.eq_zero_or_pos len with h0 | h0
     ·subst h0;exact absurd rfl hne
     ·exact h0
    have hfl:=nflat_len h5
    rw [hlv] at hfl
    have hcell:∀ i u,(((List.range len).map fun i=>(q i).2).flatMap Array.toList)[i]?=some u→W.cell? (a.add i)=some u:=by
     intro i u hu
     have hi:=(List.getElem?_eq_some_iff.1 hu).1
     have hj:i / 5 < len:=by omega
     have:=nflat_at h5 (i / 5) (i % 5) (by rw [hlv];exact hj) (Nat.mod_lt _ (by decide))
     rw [show i / 5 * 5+i % 5=i by omega,hu] at this
     have h2:=(hq (i / 5) hj).2 (i % 5) (Nat.mod_lt _ (by decide))
     rw [add_add,show i / 5 * 5+i % 5=i by omega] at h2
     rw [h2]
     simpa using this.symm
    have h00:=hcell 0 _ (List.getElem?_eq_getElem (by omega))
    have hs:=plain_of_cell h00
    have hb:=World.block_lt_of_cell? W _ h00
    rw [add_block] at hb
    obtain ⟨b,off,spot⟩:=a
    have hsp:spot=none:=by
     unfold Addr.add at hs;simpa using hs
    subst hsp
    exact ⟨b,off,rfl,hb,hb,fun i u hu=>by rw [← add_plain];exact hcell i u hu⟩
   ·have hi:i < len:=by rw [hlv] at h1;exact h1
    simp only [List.getElem_map,List.getElem_range]
    exact (hq i hi).1
theorem open_node {W:World} {v:Value} {d:DataW H} {ps:List MemPlace} {r:Reach} {b0:Nat} (hval:Value.okWide Tryz.prog W r b0 25 v)
 (h:DataW.Trod enc Tryz.prog W 0 (fun _=>true) true 25 v d ps) :
 ∃ (n:Nd) (V:Array Value),v=.agg V∧Treed W (fun b=>b < W.heap.size) n V:=by
 obtain ⟨cs,rfl,-⟩:=okWide_struct Tryz.underlying25 hval
 obtain ⟨fuel,hf⟩:=h
 obtain ⟨n,V,hV,ht⟩:=trod_tree fuel hf
 refine ⟨n,V,?_,ht⟩
 congr 1
 have:cs.toList=V.toList:=hV
 exact Array.toList_inj.1 this
end
end Go.Proofs.YtoeocodfndbebaaGreatDoor
