/- Shared texts, shaken for one claim. -/
import Derived.Recover
import Derived.Defers
import Derived.Shelf.Sort.Plain
import Derived.Lib.SortBridge
import Derived.Lib.SliceRun
import Derived.Laws.IdiomCopy
import Derived.Test.YtoeocodfndbebaaGreatDoorCards
import Derived.Test.YtoeocodfndbebaaGreatDoorTie
import Derived.ProofKit
import Derived.OpenShut
import Derived.Deep.DeepHandedRow
import Derived.Lib.LaidTab
import Derived.Lib.LaidU8
import Derived.Carry
import Derived.Deep.SlicePairs
import Derived.Test.YtoeocodfndbebaaGreatDoorZC1
import Derived.Test.YtoeocodfndbebaaGreatDoorZC3
import Derived.Test.YtoeocodfndbebaaGreatDoorZC5
import Derived.Test.YtoeocodfndbebaaGreatDoorZC6
import Derived.Test.YtoeocodfndbebaaGreatDoorZC11
set_option maxRecDepth 20000
set_option maxHeartbeats 16000000
namespace Go.Proofs.YtoeocodfndbebaaGreatDoor
section
open Go.RowKit
theorem catch_frame (b:Nat):#[Value.pointer (some ⟨b,0,none⟩)]++Array.replicate (Tryz.f74.ntmps - #[Value.pointer (some ⟨b,0,none⟩)].size) undef=#[.pointer (some ⟨b,0,none⟩),undef,undef,undef,undef,undef,undef,undef,undef,undef,undef,undef,undef,undef,undef,undef]:=by
 rw [Tryz.ntmps74];rfl
theorem wrong_one (n x:Int):(#[Value.int .i64 n,.int .i64 x]:Array Value).all (·.oneCell')=true:=by simp [Value.oneCell']
theorem wrongInfo (n x:Int):(Tryz.prog.info? 86).map (·.size)=some (#[Value.int .i64 n,.int .i64 x]:Array Value).size:=by kernel_rfl
theorem tkassert (n x:Int) (w:World):(Instr.typeAssert (.iface 86 (.agg #[.int .i64 n,.int .i64 x])) 20 86 true).run Tryz.prog w=.ok (.tuple #[.agg #[.int .i64 n,.int .i64 x],.bool true]) w:=by kernel_rfl
theorem catch_wrong (w:World) (b:Nat) (x0 x1 n x:Int) (hb:Box w b #[.int .i64 x0,.int .i64 x1] 86) :
 CallsD Tryz.prog 74 #[.pointer (some ⟨b,0,none⟩)] (.panicking [{ v:=.iface 86 (.agg #[.int .i64 n,.int .i64 x]),recovered:=false }]) w fun e u' w' =>
  e=.returned (.tuple #[])∧u'=.panicking [{ v:=.iface 86 (.agg #[.int .i64 n,.int .i64 x]),recovered:=true }]∧Box w' b #[.int .i64 n,.int .i64 x] 86∧w.grownBy w' (some b):=by
 refine callsD_of_wpS Tryz.func74 rfl fun c₀ cs hu=>?_
 rw [catch_frame]
 apply wpS_seq
 apply wpS_region
 simp [wpOpsS,go_sem,recoverD,hu,Exit.thenS]
 refine wpS_of_wp ?_
 have HB:=qh (hb.kept (grown_new w (.cells #[.int .i64 n,.int .i64 x] 86) none) (by simp))
 have hbw:=hb.lt
 have hne:¬ w.heap.size=b:=by omega
 have hta:=tkassert n x w
 clear hb
 go_wp2_with (first
  | (refine store_box _ _ _ b _ #[.int .i64 n,.int .i64 x] rfl rfl rfl rfl rfl HB.out rfl (wrongInfo n x) (wrong_one n x) ?_;intro w2 x2 g2;have X2:=qh x2;have G2:=qh ((grown_new w (.cells #[.int .i64 n,.int .i64 x] 86) (some b)).trans g2);clear x2 g2)
  | fail)
 exact ⟨rfl,_,rfl,_,results_none rfl _ _ _,rfl,rfl,X2.out,G2.out⟩
theorem catch_none (w:World) (b:Nat) :
 CallsD Tryz.prog 74 #[.pointer (some ⟨b,0,none⟩)] .returning w fun e u' w'=>e=.returned (.tuple #[])∧u'=.returning∧w'=w:=by
 refine callsD_of_wpS Tryz.func74 rfl fun c₀ cs hu=>?_
 rw [catch_frame]
 apply wpS_seq
 apply wpS_region
 simp [wpOpsS,go_sem,recoverD,hu,Exit.thenS]
 refine wpS_of_wp ?_
 go_wp2_with fail
 exact ⟨rfl,.returning,by cases c₀;simp at hu;subst hu;rfl,.tuple #[],results_none rfl _ _ _,rfl,rfl,rfl⟩
theorem results_slot_box {P:Program} {fn:Func} {t p:Tmp} {ty:TypeId} (h:fn.results=#[.tmp t,.cell p ty]) (tmps:Array Value) (w:World) (g:Nat) (e:TypeId) (cs:Array Value) (d:TypeDesc)
 (hp:tmps.getD p undef=.pointer (some ⟨g,0,none⟩)) (hg:Box w g cs e)
 (hu:P.underlying ty=some d) (hd:(match d with | .struct _ | .array _ _=>true | _=>false)=true) (hi:(P.info? ty).map (·.size)=some cs.size) :
 (results fn tmps).run P w=.ok (.tuple #[tmps.getD t undef,.agg cs]) w:=by
 have hp':tmps[p]?.getD undef=.pointer (some ⟨g,0,none⟩):=by simpa using hp
 simp [results,h,hp',asAddr,run_loadVar_row w g e ty cs (0,0) d hg hu hd hi]
def CaughtT (w:World) (r:Wr (List Tok)) (ed:Ending) (w':World):Prop:=match r with
 | .ok T=>(∃ tv,ed=.returned (.tuple #[tv,.agg #[.int .i64 0,.int .i64 0]])∧OwnN w' w.heap.size 56 5 tv T.length (tokCells T))∧Below w.heap.size w w'
 | .error (n,x)=>ed=.returned (.tuple #[.slice none 0 0,.agg #[.int .i64 n,.int .i64 x]])∧Below w.heap.size w w'
theorem tkcaught_any (w:World) (c:Nat) (A:Option Addr) (l:List Int) (h:Lies w w.heap.size A (ints .i64 l)) (hl:l.length≤1000) (hc:l.length≤c) :
 Calls Tryz.prog 53 #[.slice A l.length c] w (CaughtT w (readT l (l.length+1) false 0 [])):=by
 obtain ⟨R,hR⟩:∃ R,readT l (l.length+1) false 0 []=R:=⟨_,rfl⟩
 obtain ⟨w0,hw0⟩:∃ u,w.alloc (.cells #[.int .i64 0,.int .i64 0] 86)=u:=⟨_,rfl⟩
 have X0:Hid (Box w0 w.heap.size #[.int .i64 0,.int .i64 0] 86):=qh (hw0▸Box.new w _ _)
 have B0:Hid (Below w.heap.size w w0):=qh (hw0▸below_alloc w _)
 have Z0:Hid (w0.heap.size=w.heap.size+1):=qh (by rw [← hw0];simp)
 have HC:=qh (tkread_any w0 c A l (by have:=Z0.out;exact (h.below B0.out).wider (by omega)) hl hc)
 have HW0:=qh hw0
 rw [hR] at HC ⊢
 clear hw0 hR h
 have hmf:∀ (fn:Fn) (first cap:Array Value) (w:World),(Instr.makeFunc fn first cap).run Tryz.prog w=.ok (.func fn first cap) w:=fun _ _ _ _=>rfl
 rcases R with ⟨n,x⟩ | T
 ·go_enter_defers Tryz.func53,Tryz.ntmps53
  go_wp2_with fail
  rw [HW0.out]
  refine HC.out.mono ?_
  rintro e w1 ⟨rfl,b1⟩
  have B1:Hid (Below w.heap.size w w1):=qh (B0.out.trans (b1.mono (by have:=Z0.out;omega)))
  have X1:=qh (X0.out.below b1 (by have:=Z0.out;omega))
  clear b1
  go_wp2_with fail
  refine leaves_cons (f:=74) (args:=#[.pointer (some ⟨w.heap.size,0,none⟩)]) (by simp) (by simp [go_sem]) ?_
  refine (catch_wrong w1 w.heap.size 0 0 n x X1.out).mono ?_
  rintro e u w2 ⟨rfl,rfl,x2,g2⟩
  exact ⟨_,results_slot_box rfl _ _ w.heap.size 86 _ _ rfl x2 Tryz.underlying86 rfl (wrongInfo n x),rfl,B1.out.trans (below_row g2 (Nat.le_refl _) B1.out.size)⟩
 ·go_enter_defers Tryz.func53,Tryz.ntmps53
  go_wp2_with fail
  rw [HW0.out]
  refine HC.out.mono ?_
  rintro e w1 ⟨⟨tv,rfl,o1⟩,b1⟩
  have O1:=qh o1
  have B1:Hid (Below w.heap.size w w1):=qh (B0.out.trans (b1.mono (by have:=Z0.out;omega)))
  have X1:=qh (X0.out.below b1 (by have:=Z0.out;omega))
  clear b1 o1
  go_wp2_with (first
   | (refine store_box w1 _ _ w.heap.size _ #[.int .i64 0,.int .i64 0] rfl rfl rfl rfl rfl X1.out rfl (wrongInfo 0 0) (wrong_one 0 0) ?_;intro w2 x2 g2;have X2:=qh x2;have G2:=qh g2;clear x2 g2)
   | fail)
  refine leaves_cons (f:=74) (args:=#[.pointer (some ⟨w.heap.size,0,none⟩)]) (by simp) (by simp [go_sem]) ?_
  refine (catch_none w2 w.heap.size).mono ?_
  rintro e u w3 ⟨rfl,rfl,rfl⟩
  refine ⟨_,results_slot_box rfl _ _ w.heap.size 86 _ _ rfl X2.out Tryz.underlying86 rfl (wrongInfo 0 0),⟨tv,rfl,?_⟩,B1.out.trans (below_row G2.out (Nat.le_refl _) B1.out.size)⟩
  have:=(O1.out.keep G2.out (.inr fun e=>by have:=(O1.out.inside _ e).1;have:=Z0.out;omega)).weaken (B':=w.heap.size) (by have:=Z0.out;omega)
  exact this
def OfTo (w:World) (r:Wr (List Tok)) (ed:Ending) (w':World):Prop:=match r with
 | .ok T=>(∃ tv,ed=.returned (.tuple #[tv,.int .i64 0,.int .i64 0])∧OwnN w' w.heap.size 56 5 tv T.length (tokCells T))∧Below w.heap.size w w'
 | .error (n,x)=>ed=.returned (.tuple #[.slice none 0 0,.int .i64 n,.int .i64 x])∧Below w.heap.size w w'
theorem tkof_any (w:World) (c:Nat) (A:Option Addr) (l:List Int) (h:Lies w w.heap.size A (ints .i64 l)) (hc:l.length≤c) :
 Calls Tryz.prog 38 #[.slice A l.length c] w (OfTo w (ofT l)):=by
 by_cases h200:200 < l.length
 ·have hr:ofT l=.error (0,10):=by unfold ofT;rw [if_pos h200]
  rw [hr]
  have d1:decide (200 < (l.length:Int))=true:=decide_eq_true (by omega)
  clear h hc h200 hr
  go_enter Tryz.func38,Tryz.ntmps38
  go_wp2_with fail
  go_ret3
  exact ⟨rfl,Below.refl _ _⟩
 ·obtain ⟨R,hR⟩:∃ R,readT l (l.length+1) false 0 []=R:=⟨_,rfl⟩
  have hr:ofT l=R:=by unfold ofT;rw [if_neg h200,hR]
  have HC:=qh (tkcaught_any w c A l h (by omega) hc)
  rw [hr]
  rw [hR] at HC
  have d1:decide (200 < (l.length:Int))=false:=decide_eq_false (by omega)
  clear h hc h200 hr hR
  rcases R with ⟨n,x⟩ | T
  ·go_enter Tryz.func38,Tryz.ntmps38
   go_wp2_with fail
   refine HC.out.mono ?_
   rintro e w1 ⟨rfl,b1⟩
   have B1:=qh b1
   clear b1
   go_wp2_with fail
   go_quiet (fail)
   go_wp2_with fail
   go_ret3
   exact ⟨rfl,below_drawn (B1.out.alloc B1.out.size _) _⟩
  ·go_enter Tryz.func38,Tryz.ntmps38
   go_wp2_with fail
   refine HC.out.mono ?_
   rintro e w1 ⟨⟨tv,rfl,o1⟩,b1⟩
   have B1:=qh b1
   have O1:=qh o1
   clear b1 o1
   go_wp2_with fail
   go_quiet (fail)
   go_wp2_with fail
   go_ret3
   exact ⟨⟨_,rfl,(O1.out.alloc _).same rfl⟩,below_drawn (B1.out.alloc B1.out.size _) _⟩
end
section
open Go.RowKit
def quoteI (l:List Int):List Int:=l.flatMap fun c=>if signI c=true then [92,c] else [c]
theorem quoteI_append (l m:List Int):quoteI (l++m)=quoteI l++quoteI m:=by simp [quoteI]
theorem quoteI_take {l:List Int} {k:Nat} (hk:k < l.length):quoteI (l.take (k+1))=quoteI (l.take k)++(if signI l[k]=true then [92,l[k]] else [l[k]]):=by
 rw [List.take_succ_eq_append_getElem hk,quoteI_append];simp [quoteI]
theorem quoteI_length (l:List Int):(quoteI l).length≤2 * l.length:=by
 induction l with
 | nil=>simp [quoteI]
 | cons c l ih =>
  have:quoteI (c :: l)=(if signI c=true then [92,c] else [c])++quoteI l:=rfl
  rw [this,List.length_append]
  split <;> simp <;> omega
theorem quoteI_take_le (l:List Int) (k:Nat) (hl:l.length≤1000):(quoteI (l.take k)).length≤2000:=by
 have:=quoteI_length (l.take k)
 have h2:(l.take k).length≤l.length:=by simp;omega
 omega
theorem tkquote_any (w:World) (A:Option Addr) (l:List Int) (c:Nat) (h:Lies w w.heap.size A (ints .i64 l)) (hl:l.length≤1000) :
 Calls Tryz.prog 70 #[.slice A l.length c] w (Rowed w w.heap.size 3 (ints .i64 (quoteI l))):=by
 have HL:=qh h
 have HQ:Hid (∀ k,(quoteI (l.take k)).length≤2000):=qh (fun k=>quoteI_take_le l k hl)
 clear h
 go_enter Tryz.func70,Tryz.ntmps70
 go_wp2_with fail
 go_loopw [8,3] (fun iv ov wr=>∃ k:Nat,k≤l.length∧iv=.int .i64 k∧Hid (Own wr w.heap.size 3 ov (ints .i64 (quoteI (l.take k))))∧Hid (Below w.heap.size w wr)) (fun iv _ _=>l.length - (intOf iv).toNat)
 case atStart=>exact ⟨0,by omega,rfl,qh (Own.empty _ _ _),qh (Below.refl _ _)⟩
 case round =>
  obtain ⟨k,hk,rfl,HO,HB⟩:=hrel
  by_cases hlt:k < l.length
  ·obtain ⟨p,rfl,-,hc⟩:=(Lies.up HL.out HB.out).int hlt
   have HT:=qh (quoteI_take hlt)
   obtain ⟨x,hx⟩:∃ x,l[k]=x:=⟨_,rfl⟩
   rw [hx] at hc HT
   have k0:(0:Int)≤(k:Int):=by omega
   have k1:(k:Int) < (l.length:Int):=by omega
   have HS:=qh (tksign_any x wr)
   clear hx
   rcases hs:signI x with _ | _
   ·have HT2:Hid (ints .i64 (quoteI (l.take k))++[Value.int .i64 x]=ints .i64 (quoteI (l.take (k+1)))):=qh (by rw [HT.out,hs];simp [ints])
    rw [hs] at HS
    clear hs
    go_wp2_with fail
    refine HS.out.mono ?_
    rintro e wq ⟨rfl,rfl⟩
    go_wp2_with (first
     | (at_builtin;refine app_lit intsT w wr w.heap.size _ _ #[.int .i64 x] 1 _ (ints .i64 (quoteI (l.take k))) rfl rfl rfl rfl HO.out (by simp [Value.oneCell']) HB.out HB.out.size (by have:=HQ.out k;unfold maxLen;simp;omega) (by have:=HQ.out k;simp;omega) ?_;intro v2 w2 o2 b2 _ _;have O2:Hid (Own w2 w.heap.size 3 v2 (ints .i64 (quoteI (l.take (k+1))))):=qh (by rw [← HT2.out];exact o2);have B2:=qh b2;clear o2 b2)
     | fail)
    go_roundw
    case rel=>exact ⟨k+1,by omega,by go_num,O2,B2⟩
    case measure=>simp [intOf];omega
   ·have HT2:Hid ((ints .i64 (quoteI (l.take k))++[Value.int .i64 92])++[Value.int .i64 x]=ints .i64 (quoteI (l.take (k+1)))):=qh (by rw [HT.out,hs];simp [ints])
    rw [hs] at HS
    clear hs
    go_wp2_with fail
    refine HS.out.mono ?_
    rintro e wq ⟨rfl,rfl⟩
    go_wp2_with (first
     | (at_builtin;refine app_lit intsT w wr w.heap.size _ _ #[.int .i64 92] 1 _ (ints .i64 (quoteI (l.take k))) rfl rfl rfl rfl HO.out (by simp [Value.oneCell']) HB.out HB.out.size (by have:=HQ.out k;unfold maxLen;simp;omega) (by have:=HQ.out k;simp;omega) ?_;intro v2 w2 o2 b2 _ _;have O2:=qh o2;have B2:=qh b2;clear o2 b2 HO)
     | (at_builtin;refine app_lit intsT w w2 w.heap.size _ _ #[.int .i64 x] 1 _ (ints .i64 (quoteI (l.take k))++[Value.int .i64 92]) rfl rfl rfl rfl O2.out (by simp [Value.oneCell']) B2.out B2.out.size (by have:=HQ.out k;unfold maxLen;simp;omega) (by have:=HQ.out k;simp;omega) ?_;intro v3 w3 o3 b3 _ _;have O3:Hid (Own w3 w.heap.size 3 v3 (ints .i64 (quoteI (l.take (k+1))))):=qh (by rw [← HT2.out];exact o3);have B3:=qh b3;clear o3 b3)
     | fail)
    go_roundw
    case rel=>exact ⟨k+1,by omega,by go_num,O3,B3⟩
    case measure=>simp [intOf];omega
  ·obtain rfl:k=l.length:=by omega
   have HO2:=HO.out
   rw [List.take_length] at HO2
   have O2:=qh HO2
   clear HO2
   go_wp2_with fail
   go_ret
   exact rowed_ret O2.out HB.out rfl
/-! the same tokens -/
theorem tokCells_get:∀ (T:List Tok) (k j:Nat) (hk:k < T.length),j < 5→(tokCells T)[k * 5+j]?=T[k].arr[j]?
 | [],k,j,hk,_=>by simp at hk
 | t :: T,k,j,hk,hj=>by
  have e:tokCells (t :: T)=t.arr.toList++tokCells T:=by rw [show t :: T=[t]++T from rfl,tokCells_append,tokCells_one]
  rw [e]
  rcases k with _ | k
  ·rw [List.getElem?_append_left (by simp;omega),Nat.zero_mul,Nat.zero_add,List.getElem_cons_zero]
   simp
  ·rw [List.getElem?_append_right (by simp;omega),List.getElem_cons_succ,← tokCells_get T k j (by simpa using hk) hj]
   congr 1;simp;omega
end
section
open Go.RowKit Go.Shelf Go.Sort
def sort_ren:Go.Shelf.Ren:=⟨fun | 189=>168 | 125=>134 | 257=>172 | 128=>151 | 129=>122 | 294=>175 | 295=>176 | 296=>177 | 297=>178 | 298=>179 | 299=>180 | 216=>181 | 300=>182 | 301=>183 | 328=>184 | 329=>156 | 330=>157 | 331=>185 | 332=>186 | 215=>135 | 343=>187 | n=>n,fun | 28=>26 | 3=>3 | 46=>140 | 0=>0 | 51=>138 | 53=>118 | 4=>4 | 183=>150 | 182=>149 | 131=>154 | 5=>5 | 9=>9 | 218=>159 | 222=>163 | 228=>167 | 229=>97 | n=>n,fun | n=>n⟩
theorem sort_laid:Go.Proofs.Lays.n189 Tryz.prog sort_ren:={
 mixed:=by kernel_rfl
 f125:=Tryz.func134.trans (congrArg some (by kernel_rfl))
 f128:=Tryz.func151.trans (congrArg some (by kernel_rfl))
 f129:=Tryz.func122.trans (congrArg some (by kernel_rfl))
 f189:=Tryz.func168.trans (congrArg some (by kernel_rfl))
 f215:=Tryz.func135.trans (congrArg some (by kernel_rfl))
 f216:=Tryz.func181.trans (congrArg some (by kernel_rfl))
 f257:=Tryz.func172.trans (congrArg some (by kernel_rfl))
 f294:=Tryz.func175.trans (congrArg some (by kernel_rfl))
 f295:=Tryz.func176.trans (congrArg some (by kernel_rfl))
 f296:=Tryz.func177.trans (congrArg some (by kernel_rfl))
 f297:=Tryz.func178.trans (congrArg some (by kernel_rfl))
 f298:=Tryz.func179.trans (congrArg some (by kernel_rfl))
 f299:=Tryz.func180.trans (congrArg some (by kernel_rfl))
 f300:=Tryz.func182.trans (congrArg some (by kernel_rfl))
 f301:=Tryz.func183.trans (congrArg some (by kernel_rfl))
 f328:=Tryz.func184.trans (congrArg some (by kernel_rfl))
 f329:=Tryz.func156.trans (congrArg some (by kernel_rfl))
 f330:=Tryz.func157.trans (congrArg some (by kernel_rfl))
 f331:=Tryz.func185.trans (congrArg some (by kernel_rfl))
 f332:=Tryz.func186.trans (congrArg some (by kernel_rfl))
 f343:=Tryz.func187.trans (congrArg some (by kernel_rfl))
 t0:=Tryz.underlying0
 a0:=Tryz.isAgg0
 z0:=Tryz.sizeOf0
 v0:=Tryz.zeroValue0
 t3:=Tryz.underlying3
 a3:=Tryz.isAgg3
 z3:=Tryz.sizeOf3
 v3:=Tryz.zeroValue3
 t4:=Tryz.underlying4
 a4:=Tryz.isAgg4
 z4:=Tryz.sizeOf4
 v4:=Tryz.zeroValue4
 t5:=Tryz.underlying5
 a5:=Tryz.isAgg5
 z5:=Tryz.sizeOf5
 v5:=Tryz.zeroValue5
 t9:=Tryz.underlying9
 a9:=Tryz.isAgg9
 z9:=Tryz.sizeOf9
 v9:=Tryz.zeroValue9
 t28:=Tryz.underlying26
 a28:=Tryz.isAgg26
 z28:=Tryz.sizeOf26
 v28:=Tryz.zeroValue26
 t46:=Tryz.underlying140
 a46:=Tryz.isAgg140
 z46:=Tryz.sizeOf140
 v46:=Tryz.zeroValue140
 t51:=Tryz.underlying138
 a51:=Tryz.isAgg138
 z51:=Tryz.sizeOf138
 v51:=Tryz.zeroValue138
 t53:=Tryz.underlying118
 a53:=Tryz.isAgg118
 z53:=Tryz.sizeOf118
 v53:=Tryz.zeroValue118
 t131:=Tryz.underlying154
 a131:=Tryz.isAgg154
 z131:=Tryz.sizeOf154
 v131:=Tryz.zeroValue154
 t182:=Tryz.underlying149
 a182:=Tryz.isAgg149
 z182:=Tryz.sizeOf149
 v182:=Tryz.zeroValue149
 t183:=Tryz.underlying150
 a183:=Tryz.isAgg150
 z183:=Tryz.sizeOf150
 v183:=Tryz.zeroValue150
 t218:=Tryz.underlying159
 a218:=Tryz.isAgg159
 z218:=Tryz.sizeOf159
 v218:=Tryz.zeroValue159
 t222:=Tryz.underlying163
 a222:=Tryz.isAgg163
 z222:=Tryz.sizeOf163
 v222:=Tryz.zeroValue163
 t228:=Tryz.underlying167
 a228:=Tryz.isAgg167
 z228:=Tryz.sizeOf167
 v228:=Tryz.zeroValue167
 t229:=Tryz.underlying97
 a229:=Tryz.isAgg97
 z229:=Tryz.sizeOf97
 v229:=Tryz.zeroValue97 }
theorem below_grow (w:World) (os:Array Obj):Below w.heap.size w (Sort.grow w os) :=
 ⟨rfl,rfl,rfl,by simp [Sort.grow],fun _ hk=>heap_grow_old w os hk⟩
theorem Row.sets {B:Nat} {e:TypeId} {g c:Nat}:∀ (vs old pre:List Value) (w w0:World),old.length=vs.length→Row w B e g c (pre++old)→Below B w0 w →
 Row (w.setCells g pre.length vs) B e g c (pre++vs)∧Below B w0 (w.setCells g pre.length vs)
 | [],old,pre,w,w0,hl,h,hb=>by
  have:old=[]:=List.eq_nil_of_length_eq_zero hl
  subst this
  exact ⟨h,hb⟩
 | v :: vs,[],pre,w,w0,hl,h,hb=>by simp at hl
 | v :: vs,o :: old,pre,w,w0,hl,h,hb=>by
  have h1:=h.set pre.length v
  rw [List.set_append_right _ _ (Nat.le_refl _),Nat.sub_self,List.set_cons_zero] at h1
  have h2:=Row.sets vs old (pre++[v]) _ w0 (by simpa using hl) (by rw [List.append_assoc];exact h1) (Row.setB hb h pre.length v)
  rw [List.append_assoc,List.length_append] at h2
  exact h2
theorem sort_any (B:Nat) (e:TypeId) (g c:Nat) (l:List Int) (w:World) (h:Row w B e g c (ints .i64 l)) (hl:l.length < 4611686018427387904) :
 Calls Tryz.prog 168 #[.slice (some ⟨g,0,none⟩) l.length c] w fun ed w'=>ed=.returned (.tuple #[])∧Row w' B e g c (ints .i64 (l.mergeSort fun x y=>decide (x≤y)))∧Below B w w':=by
 have hH:Holds (Value.int .i64) w g 0 l.toArray:=by
  intro j hj
  have hj':j < l.length:=by simpa using hj
  refine ⟨?_,h.free _⟩
  rw [Nat.zero_add,h.cell (j:=j) (by simpa using hj')]
  simp [getElem!_pos,hj']
 refine (Any.slices_Sort_int sort_laid g 0 c l w hH h.inside.2 hl).mono ?_
 rintro ed w' ⟨rfl,n,os,rfl⟩
 rw [Lib.sorted_world _ w g 0 n _ _ os hH (by simp)]
 have h1:=Row.sets (ints .i64 (l.mergeSort fun x y=>decide (x≤y))) (ints .i64 l) [] (w.drewN n) w (by simp) h (below_drawn (Below.refl B w) n)
 have h2:=below_grow ((w.drewN n).setCells g 0 (ints .i64 (l.mergeSort fun x y=>decide (x≤y)))) os
 have hsz:=h1.2.size
 exact ⟨rfl,h1.1.below h2 (Nat.le_refl _),h1.2.trans (h2.mono (Nat.le_trans (by have:=h.inside;omega:B≤w.heap.size) hsz))⟩
end
section
open Go.RowKit Reckon
theorem Own.row {w:World} {B:Nat} {e:TypeId} {v:Value} {xs:List Value} (h:Own w B e v xs) (hn:0 < xs.length):∃ g c,v=.slice (some ⟨g,0,none⟩) xs.length c∧Row w B e g c xs:=by
 obtain ⟨g,c,hv,_,_⟩:=World.ownsRow.form h hn
 subst hv
 exact ⟨g,c,rfl,h⟩
theorem kin_any (c:Int) (hc:I64 c) (w:World) (hT:FoTabs w):Calls Tryz.prog 161 #[.int .i64 c] w (Rowed w w.heap.size 3 (ints .i64 (kin (fo c)))):=by
 have ht:I64 (fo c):=fo_i64 hc
 obtain ⟨t,e⟩:∃ t,fo c=t:=⟨_,rfl⟩
 rw [e] at ht ⊢
 have HE:=qh e
 have HT:=qh hT
 have hbig:=hT.big
 clear e hT hc
 go_enter Tryz.func161,Tryz.ntmps161
 go_wp2_with fail
 refine (of_any c w HT.out).mono ?_
 rintro e w1 ⟨rfl,b1⟩
 rw [HE.out]
 have B1:=qh b1
 have D1:=qh b1
 clear b1
 have HT1:=qh (HT.out.below B1.out hbig)
 go_wp2_with (first
  | (refine wpList_load_mid rfl 170 _ rfl 3 0 rfl rowCells _ (HT1.out.below (below_alloc _ _) HT1.out.big).cells Tryz.underlying170 rfl (by kernel_rfl) ?_)
  | fail)
 have hsz1:=B1.out.size
 have O1:Hid (Own (w1.alloc (.cells #[Value.int .i64 t] 3)) w.heap.size 3 (.slice (some ⟨w1.heap.size,0,none⟩) 1 1) (ints .i64 (t :: (rws.take 0).filterMap (from? t)))) :=
  qh (Own.ofLit #[Value.int .i64 t] hsz1 (by simp [maxLen]))
 have BA:=qh (B1.out.alloc hsz1 (.cells #[Value.int .i64 t] 3))
 go_loopw [13,4] (fun i v wr=>∃ k:Nat,k≤10∧i=.int .i64 k∧Own wr w.heap.size 3 v (ints .i64 (t :: (rws.take k).filterMap (from? t)))∧Below w.heap.size w wr) (fun i _ _=>10 - (intOf i).toNat)
 case atStart=>exact ⟨0,by omega,rfl,O1.out,BA.out⟩
 case round =>
  obtain ⟨k,hk,rfl,ho,hb⟩:=hrel
  have HO:=qh ho
  have HB:=qh hb
  have hsz:=hb.size
  clear ho hb
  by_cases hlt:k < 10
  ·have b1:(k:Int) < 10:=by omega
   obtain ⟨r,hr⟩:∃ r,rws[k]?=some r:=⟨_,List.getElem?_eq_getElem (show k < rws.length from hlt)⟩
   have hx:=index_row k r hr
   have htake:(rws.take (k+1)).filterMap (from? t)=(rws.take k).filterMap (from? t)++(from? t r).toList:=by
    obtain ⟨hk',hr'⟩:=List.getElem?_eq_some_iff.1 hr
    rw [List.take_succ_eq_append_getElem hk',hr',List.filterMap_append]
    cases hq:from? t r <;> simp [hq]
   have HTK:=qh htake
   have htk:=htake
   have hbd:=rws_small r (List.mem_of_getElem? hr)
   obtain ⟨a,b,m⟩:=r
   dsimp only at hx hbd
   have hfr:from? t (a,b,m)=if a≤t - m∧t - m≤b then some (t - m) else none:=rfl
   have hwr:=IntKind.wrap_i64 (t - m)
   obtain ⟨f,hf⟩:∃ f,IntKind.i64.wrap (t - m)=f:=⟨_,rfl⟩
   rw [hf] at hwr
   have HWR:=qh hwr
   have HF:=qh hf
   have HFR:=qh hfr
   have hlen:((rws.take k).filterMap (from? t)).length≤10:=Nat.le_trans (List.length_filterMap_le _ _) (by simp;omega)
   clear htake hr hwr hfr
   unfold I64 at ht
   rcases ha:decide (a≤f) with _ | _
   ·go_wp2
    go_roundw
    case rel =>
     refine ⟨k+1,by omega,by go_num,?_,HB.out.alloc hsz _⟩
     have hn:from? t (a,b,m)=none:=by
      have:=HWR.out
      rw [HFR.out,if_neg (by simp at ha;omega)]
     rw [HTK.out,hn]
     simp only [Option.toList_none,List.append_nil]
     exact HO.out.alloc _
    case measure=>simp [intOf];omega
   ·rcases hbb:decide (f≤b) with _ | _
    ·go_wp2
     go_roundw
     case rel =>
      refine ⟨k+1,by omega,by go_num,?_,HB.out.alloc hsz _⟩
      have hn:from? t (a,b,m)=none:=by
       have:=HWR.out
       rw [HFR.out,if_neg (by simp at hbb;omega)]
      rw [HTK.out,hn]
      simp only [Option.toList_none,List.append_nil]
      exact HO.out.alloc _
     case measure=>simp [intOf];omega
    ·have hft:f=t - m:=by
      have:=HWR.out
      simp at ha hbb
      omega
     have hs:from? t (a,b,m)=some f:=by
      simp at ha hbb
      rw [HFR.out,if_pos (by omega),hft]
     rw [hs] at htk
     have HTK:=qh htk
     clear hft hs htk HFR HWR
     have HW:Hid (∀ o,(wr.alloc o).heap.size=wr.heap.size+1):=qh fun o=>by simp
     go_wp2_with (first
      | (at_builtin;go_loud (refine app_lit intsT w _ w.heap.size _ _ #[.int .i64 f] 1 _ _ rfl rfl rfl (by rw [HW.out];rfl) (HO.out.alloc _) (by simp [Value.oneCell']) (HB.out.alloc hsz _) (by simp;omega) (by unfold maxLen;simp [ints];omega) (by simp [ints];omega) ?_);intro v' w' hown' hb' _ _))
     go_roundw
     case rel =>
      refine ⟨k+1,by omega,by go_num,?_,hb'⟩
      rw [HTK.out]
      simpa only [ints,List.map_append,List.map_cons,List.map_nil,Option.toList_some,List.cons_append] using hown'
     case measure=>simp [intOf];omega
  ·obtain ⟨g,cg,rfl,hrow⟩:=HO.out.row (by simp)
   rw [show k=10 by omega] at hrow
   have HR:Hid (Row wr w.heap.size 3 g cg (ints .i64 (t :: froms t))):=hrow
   obtain ⟨n,hn⟩:∃ n,(ints .i64 (t :: (rws.take k).filterMap (from? t))).length=n:=⟨_,rfl⟩
   have hn':n=(t :: froms t).length:=by
    rw [← hn,show k=10 by omega]
    simp only [ints,List.length_map]
    rfl
   have hfew:=froms_few t
   have hsort:=sort_any w.heap.size 3 g cg (t :: froms t) wr HR.out (by simp;omega)
   rw [← hn'] at hsort
   rw [hn]
   have HS:=qh hsort
   have hkl:(kin t).length=n:=by rw [hn',kin,List.length_mergeSort]
   have HKL:=qh hkl
   clear hsort hrow hn hn' hfew HO hkl
   go_wp2_with fail
   refine HS.out.mono ?_
   rintro e w3 ⟨rfl,r3,b3⟩
   have R3:=qh r3
   have B3:=qh (HB.out.trans b3)
   clear r3 b3
   go_wp2
   go_ret
   refine rowed_ret (R3.out.own ?_) B3.out rfl
   rw [ints,List.length_map]
   exact HKL.out.symm
end
section
open Go.RowKit
theorem set_take_drop (xs vs:List Value) (j:Nat) (v:Value) (h:j+(v :: vs).length≤xs.length) :
 (xs.set j v).take (j+1)++vs++(xs.set j v).drop (j+1+vs.length)=xs.take j++(v :: vs)++xs.drop (j+(v :: vs).length):=by
 simp only [List.length_cons] at h ⊢
 have h1:(xs.set j v).take (j+1)=xs.take j++[v]:=by
  rw [List.take_succ_eq_append_getElem (by rw [List.length_set];omega),List.take_set_of_le (Nat.le_refl _),List.getElem_set_self]
 have h2:(xs.set j v).drop (j+1+vs.length)=xs.drop (j+(vs.length+1)):=by
  rw [List.drop_set_of_lt (by omega),show j+1+vs.length=j+(vs.length+1) by omega]
 rw [h1,h2];simp
theorem Row.setCells {B:Nat} {e:TypeId} {g c:Nat} {w0:World}:∀ (vs:List Value) (j:Nat) (w:World) (xs:List Value),Row w B e g c xs→Below B w0 w→j+vs.length≤xs.length →
 Row (w.setCells g j vs) B e g c (xs.take j++vs++xs.drop (j+vs.length))∧Below B w0 (w.setCells g j vs)
 | [],j,w,xs,h,hb,_=>by simpa [World.setCells] using And.intro h hb
 | v :: vs,j,w,xs,h,hb,hl=>by
  have hl2:j+vs.length+1≤xs.length:=by simp only [List.length_cons] at hl;omega
  obtain ⟨h1,h2⟩:=Row.setCells vs (j+1) _ _ (h.set j v) (Row.setB hb h j v) (by rw [List.length_set];omega)
  rw [set_take_drop xs vs j v hl] at h1
  exact ⟨h1,h2⟩
structure Kpt (p:Int→Bool) (l:List Int) (j:Nat) (cur:List Int):Prop where
 len:cur.length=l.length
 done:cur.take (l.take j |>.filter p).length=(l.take j).filter p
 rest:cur.drop j=l.drop j
theorem kpt_le (p:Int→Bool) (l:List Int) (j:Nat):((l.take j).filter p).length≤j:=by
 have:=List.length_filter_le p (l.take j)
 simp at this;omega
theorem filter_take_succ (p:Int→Bool) (l:List Int) (k:Nat) (h:k < l.length):(l.take (k+1)).filter p=if p l[k] then (l.take k).filter p++[l[k]] else (l.take k).filter p:=by
 rw [take_snoc l k h,List.filter_append]
 cases ho:p l[k] <;> simp [ho]
theorem Kpt.get {p:Int→Bool} {l cur:List Int} {j:Nat} (h:Kpt p l j cur) (hj:j < l.length):cur[j]?=some l[j]:=by
 have:=congrArg (·[0]?) h.rest
 simp only [List.getElem?_drop,Nat.add_zero] at this
 rw [this,List.getElem?_eq_getElem hj]
theorem Kpt.skip {p:Int→Bool} {l cur:List Int} {j:Nat} (h:Kpt p l j cur) (hj:j < l.length) (hp:p l[j]=false):Kpt p l (j+1) cur∧((l.take (j+1)).filter p).length=((l.take j).filter p).length:=by
 have hf:=filter_take_succ p l j hj
 rw [hp,if_neg (by simp)] at hf
 refine ⟨⟨h.len,by rw [hf];exact h.done,?_⟩,by rw [hf]⟩
 rw [← List.drop_drop,← List.drop_drop,h.rest]
theorem Kpt.keep {p:Int→Bool} {l cur:List Int} {j i:Nat} (h:Kpt p l j cur) (hj:j < l.length) (hp:p l[j]=true) (hi:((l.take j).filter p).length=i):Kpt p l (j+1) (cur.set i l[j])∧((l.take (j+1)).filter p).length=i+1:=by
 have hf:=filter_take_succ p l j hj
 have hle:=kpt_le p l j
 rw [hp,if_pos rfl] at hf
 have hlen:((l.take (j+1)).filter p).length=i+1:=by rw [hf];simp [hi]
 have hd:=h.done
 rw [hi] at hd
 have hcl:=h.len
 refine ⟨⟨by rw [List.length_set,h.len],?_,?_⟩,hlen⟩
 ·rw [hlen,List.take_succ_eq_append_getElem (by rw [List.length_set];omega),List.take_set_of_le (Nat.le_refl _),List.getElem_set_self,hd,hf]
 ·rw [List.drop_set_of_lt (by omega),← List.drop_drop,← List.drop_drop,h.rest]
theorem Kpt.start {p:Int→Bool} {l:List Int} {k:Nat} (hk:k < l.length) (hn:p l[k]=false) (ha:(l.take k).filter p=l.take k):Kpt p l (k+1) l∧((l.take (k+1)).filter p).length=k:=by
 have hf:=filter_take_succ p l k hk
 rw [hn,if_neg (by simp),ha] at hf
 have hlen:((l.take (k+1)).filter p).length=k:=by rw [hf];simp;omega
 exact ⟨⟨rfl,by rw [hlen,hf],rfl⟩,hlen⟩
end
section
open Go.RowKit
theorem call_ok {N:Nat} {fn:Func} (h:Tryz.prog.funcs[N]?=some fn) (h1:(fn.name == "runtime.NumGoroutine")=false) (h2:fn.body.isNone=false) (xs:Array Value) (u:World) :
 Sem.run Tryz.prog (callFunc N xs) u=.ok (.enter N xs) u:=by
 have h3:fn.name ≠ "runtime.NumGoroutine":=by simpa using h1
 have h4:fn.body≠none:=by intro e;rw [e] at h2;cases h2
 simp [callFunc,h,h3,h4,go_sem]
end
section
open Go.ChangeShapes Go.WideShapes Go.ChangeAt Go.RowKit
theorem own:ownKnob Tryz.prog.godebug=none:=by kernel_rfl
theorem gFold:Tryz.prog.globalNamed "ductus/fold.folded"=some 3:=by kernel_rfl
theorem gFoldT:(Tryz.prog.globals[3]?).map (·.type)=some 170:=by kernel_rfl
theorem cRow:Tryz.prog.cellsOf 169=3:=by kernel_rfl
theorem cInt:Tryz.prog.cellsOf 3=1:=by kernel_rfl
theorem fold_data:(Rows.laid_ductus_fold_folded:DataW Unit)=.agg (rws.map fun r=>.agg [.lit (.int .i64 r.1),.lit (.int .i64 r.2.1),.lit (.int .i64 r.2.2)]):=by kernel_rfl
abbrev laidList:List (String×DataW Unit):=[("ductus/fold.folded",Rows.laid_ductus_fold_folded)]
theorem tabs_of {W:World} (h:laidMetH Tryz.prog laidList W):FoTabs W:=by
 have hm:laidMet Tryz.prog laidList W:=h
 have h3:Lib.VarReads Tryz.prog W "ductus/fold.folded" _:=Lib.laidMet.reads hm (d:=Rows.laid_ductus_fold_folded) (by simp [laidList])
 rw [fold_data] at h3
 obtain ⟨g,t,cs,fuel,p,hg,hty,hvar,hd⟩:=h3
 obtain rfl:=Option.some.inj (gFold.symm.trans hg)
 obtain rfl:=Option.some.inj (gFoldT.symm.trans hty)
 have c:∀ i (hi:i < rws.length),(cs.toList.drop (i * 3)).take 3=[.int .i64 rws[i].1,.int .i64 rws[i].2.1,.int .i64 rws[i].2.2]:=fun i hi=>by
  obtain ⟨fuel',d,q,hdi,he⟩:=Lib.array_elem Tryz.underlying170 hd i hi
  simp only [List.getElem?_map,List.getElem?_eq_getElem hi,Option.map_some,Option.some.injEq] at hdi
  subst hdi
  rw [cRow] at he
  have hcs:=Lib.ints_of_struct (zs:=[rws[i].1,rws[i].2.1,rws[i].2.2]) Tryz.underlying169 (fun j f hj=>by
   match j,hj with
   | 0,hj=>simp at hj;subst hj;exact ⟨Tryz.underlying3,rfl,cInt⟩
   | 1,hj=>simp at hj;subst hj;exact ⟨Tryz.underlying3,rfl,cInt⟩
   | 2,hj=>simp at hj;subst hj;exact ⟨Tryz.underlying3,rfl,cInt⟩
   | j+3,hj=>simp at hj) (by rw [cRow];rfl) he
  exact hcs
 have at_:∀ i (hi:i < rws.length) r,r < 3→cs.toList[i * 3+r]?=([.int .i64 rws[i].1,.int .i64 rws[i].2.1,.int .i64 rws[i].2.2]:List Value)[r]?:=fun i hi r hr=>by
  have:=congrArg (·[r]?) (c i hi)
  simpa [List.getElem?_take,List.getElem?_drop,hr] using this
 have cell:∀ i (hi:i < rws.length) r,r < 3→W.cell? ⟨3,i * 3+r,none⟩=([.int .i64 rws[i].1,.int .i64 rws[i].2.1,.int .i64 rws[i].2.2]:List Value)[r]?:=fun i hi r hr=>by
  rw [World.var?_cell hg hvar (i * 3+r),← Array.getElem?_toList]
  exact at_ i hi r hr
 have hr:W.rangeAt 3 0 rowCells:=by
  intro j v hj
  have hlt:j < 30:=(List.getElem?_eq_some_iff.1 hj).1
  rw [Nat.zero_add]
  have h30:j=0∨j=1∨j=2∨j=3∨j=4∨j=5∨j=6∨j=7∨j=8∨j=9∨j=10∨j=11∨j=12∨j=13∨j=14∨j=15∨j=16∨j=17∨j=18∨j=19∨j=20∨j=21∨j=22∨j=23∨j=24∨j=25∨j=26∨j=27∨j=28∨j=29:=by omega
  rcases h30 with rfl | rfl | rfl | rfl | rfl | rfl | rfl | rfl | rfl | rfl | rfl | rfl | rfl | rfl | rfl | rfl | rfl | rfl | rfl | rfl | rfl | rfl | rfl | rfl | rfl | rfl | rfl | rfl | rfl | rfl
  ·exact (cell 0 (by decide) 0 (by decide)).trans hj
  ·exact (cell 0 (by decide) 1 (by decide)).trans hj
  ·exact (cell 0 (by decide) 2 (by decide)).trans hj
  ·exact (cell 1 (by decide) 0 (by decide)).trans hj
  ·exact (cell 1 (by decide) 1 (by decide)).trans hj
  ·exact (cell 1 (by decide) 2 (by decide)).trans hj
  ·exact (cell 2 (by decide) 0 (by decide)).trans hj
  ·exact (cell 2 (by decide) 1 (by decide)).trans hj
  ·exact (cell 2 (by decide) 2 (by decide)).trans hj
  ·exact (cell 3 (by decide) 0 (by decide)).trans hj
  ·exact (cell 3 (by decide) 1 (by decide)).trans hj
  ·exact (cell 3 (by decide) 2 (by decide)).trans hj
  ·exact (cell 4 (by decide) 0 (by decide)).trans hj
  ·exact (cell 4 (by decide) 1 (by decide)).trans hj
  ·exact (cell 4 (by decide) 2 (by decide)).trans hj
  ·exact (cell 5 (by decide) 0 (by decide)).trans hj
  ·exact (cell 5 (by decide) 1 (by decide)).trans hj
  ·exact (cell 5 (by decide) 2 (by decide)).trans hj
  ·exact (cell 6 (by decide) 0 (by decide)).trans hj
  ·exact (cell 6 (by decide) 1 (by decide)).trans hj
  ·exact (cell 6 (by decide) 2 (by decide)).trans hj
  ·exact (cell 7 (by decide) 0 (by decide)).trans hj
  ·exact (cell 7 (by decide) 1 (by decide)).trans hj
  ·exact (cell 7 (by decide) 2 (by decide)).trans hj
  ·exact (cell 8 (by decide) 0 (by decide)).trans hj
  ·exact (cell 8 (by decide) 1 (by decide)).trans hj
  ·exact (cell 8 (by decide) 2 (by decide)).trans hj
  ·exact (cell 9 (by decide) 0 (by decide)).trans hj
  ·exact (cell 9 (by decide) 1 (by decide)).trans hj
  ·exact (cell 9 (by decide) 2 (by decide)).trans hj
 exact ⟨World.block_lt_of_cell? W ⟨3,0,none⟩ (hr 0 _ rfl),hr⟩
def withCells (cs:List Value):Obj→Obj
 | .cells _ t frozen=>.cells cs.toArray t frozen
 | o=>o
theorem plainOf {b:Bool} (name:String) (k:FuncId) (kf:Func) (hk:Tryz.prog.funcNamed name=some k) (hkf:Tryz.prog.funcs[k]?=some kf)
 (hl:b=Tryz.pinned.checked.prog.looks []) (hp:∀ (j:Nat) t,kf.params[j]?=some t→Tryz.prog.wantsStandIn t=false)
 (f:FuncId) (fn:Func) (hf:Tryz.pinned.checked.prog.funcNamed name=some f) (hfn:Tryz.pinned.checked.prog.funcs[f]?=some fn) :
 b=Tryz.pinned.checked.prog.looks []∧∀ (j:Nat) t,fn.params[j]?=some t→Tryz.pinned.checked.prog.wantsStandIn t=false:=by
 obtain rfl:f=k:=(Option.some.inj (hk.symm.trans hf)).symm
 obtain rfl:fn=kf:=(Option.some.inj (hkf.symm.trans hfn)).symm
 exact ⟨hl,hp⟩
end
section
open Go.ChangeShapes Go.WideShapes Go.ChangeAt Go.RowKit
section
variable {H:Type} {enc:TypeId×Value→H} {P:Program}
theorem trodAll_kept (hl:laidOutB P=true) {W W':World} {sp:Nat→Bool} (hb:Below W.heap.size W W') :
 ∀ (ts:List TypeId) (vs:List Value) (ds:List (DataW H)) (ps:List MemPlace),(∀ t∈ts,P.readableRec t=true∧t < P.types.size) →
  DataW.TrodAll enc P W 0 (fun _=>true) true ts vs ds ps→(∀ x∈ps,x.block < W.heap.size)→(∀ x∈ps,sp x.block=true)→DataW.TrodAll enc P W' 0 sp true ts vs ds ps:=by
 intro ts
 induction ts with
 | nil =>
  intro vs ds ps _ h _ _
  obtain ⟨rfl,rfl,rfl⟩:=trodAll_nil h
  exact trodAll_mk0
 | cons t ts ih =>
  intro vs ds ps ht h hlt hsp
  obtain ⟨v,vs',d,ds',p,q,rfl,rfl,rfl,h0,hr⟩:=trodAll_cons h
  obtain ⟨r1,r2⟩:=ht t (by simp)
  refine trodAll_cons_mk (WideElems.Trod_stays hl r1 r2 h0 (fun x hx=>hb.same (hlt x (by simp [hx]))) (fun x hx=>hsp x (by simp [hx]))) ?_
  exact ih vs' ds' q (fun t' h'=>ht t' (by simp [h'])) hr (fun x hx=>hlt x (by simp [hx])) (fun x hx=>hsp x (by simp [hx]))
structure LawSpec (s:ChangeSpec) (n:Nat):Prop where
 vars:s.vars=[]
 says:∀ (H:Type) (ds:List (DataW H)),ds.length=n→s.fn H ds={ results:=[.lit (.bool true)],args:=ds }
theorem trodAll_length:∀ (ts:List TypeId) {W:World} {b:Nat} {sp:Nat→Bool} {hd:Bool} (vs:List Value) (ds:List (DataW H)) (ps:List MemPlace),DataW.TrodAll enc P W b sp hd ts vs ds ps→ds.length=ts.length:=by
 intro ts
 induction ts with
 | nil=>intro W b sp hd vs ds ps h;obtain ⟨_,rfl,_⟩:=trodAll_nil h;rfl
 | cons t ts ih =>
  intro W b sp hd vs ds ps h
  obtain ⟨v,vs',d,ds',p,q,rfl,rfl,rfl,_,hr⟩:=trodAll_cons h
  simp [ih _ _ _ hr]
theorem law_post {f:Func} {s:ChangeSpec} {n:Nat} {W W':World} {args:Array Value} {ds gs:List (DataW H)} {before:List MemPlace} {tb:TypeId}
 (hs:LawSpec s n) (hn:f.params.toList.length=n) (hl:laidOutB P=true) (ht:∀ t∈f.params.toList,P.readableRec t=true∧t < P.types.size)
 (hr:f.resultTypes=#[tb]) (hb:P.underlying tb=some .bool)
 (hW:DataW.Whole enc P f.params.toList s.vars false W args.toList ds gs before) (hbe:Below W.heap.size W W') :
 s.post enc P f false true false false W args (.bool true) W':=by
 have hlt:=hW.lt
 have hW':=hW
 obtain ⟨p,q,hA,hV,rfl,_,_⟩:=hW
 rw [hs.vars] at hV
 obtain ⟨rfl,rfl⟩:=trodVars_none hV
 have e:=hs.says H ds ((trodAll_length _ _ _ _ hA).trans hn)
 simp only [List.append_nil] at hW' hlt
 refine ⟨ds,[],p,[],p,[],hW',?_,?_,?_,?_,fun h=>by cases h⟩
 ·rw [hr,List.append_nil,e]
  exact trodAll_cons_mk (shut_bool hb _) trodAll_mk0
 ·rw [List.append_nil,e]
  exact trodAll_kept hl hbe _ _ _ _ ht hA hlt (fun x hx=>by simpa using hlt x hx)
 ·rw [hs.vars,List.append_nil,e]
  rfl
 ·exact World.keptBut_mono (fun x hx=>hx) (hbe.frame _)
theorem open_list {t e:TypeId} {k:IntKind} {W:World} {v:Value} {d:DataW H} {ps:List MemPlace} (ht:P.underlying t=some (.slice e)) (he:P.underlying e=some (.int k)) (hc:P.cellsOf e=1) {r:Reach} {b0:Nat} (hval:Value.okWide P W r b0 t v)
 (h:DataW.Trod enc P W 0 (fun _=>true) true t v d ps) :
 ∃ (A:Option Addr) (l:List Int) (c:Nat),v=.slice A l.length c∧l.length≤c∧c≤maxLen∧Lies W W.heap.size A (ints k l)∧∀ n∈l,(Lit.int k n).wf=true:=by
 obtain ⟨a0,len0,cap0,rfl⟩:=okWide_slice ht hval
 obtain ⟨fuel,hf⟩:=h
 rcases open_ints ht he hc hf with ⟨hv,_⟩ | ⟨a,len,cap,zs,hv,_,hlc,hcm,hz,_,hcell,hwf⟩
 ·simp [Value.cells] at hv
  obtain ⟨rfl,rfl,rfl⟩:=hv
  exact ⟨none,[],0,rfl,Nat.le_refl _,by unfold maxLen;omega,Lies.empty,fun n hn=>by cases hn⟩
 ·simp [Value.cells] at hv
  obtain ⟨rfl,rfl,rfl⟩:=hv
  rw [if_pos rfl] at hz
  have hlen:(zs.take len0).length=len0:=by rw [List.length_take,hz];omega
  refine ⟨some a,zs.take len0,cap0,by rw [hlen],by rw [hlen];exact hlc,hcm,fun hne=>⟨a,rfl,?_,fun i u hu=>?_⟩,fun n hn=>hwf n (List.mem_of_mem_take hn)⟩
  ·have h0:0 < len0:=by
    rcases Nat.eq_zero_or_pos len0 with h0 | h0
    ·subst h0;simp at hne
    ·exact h0
   have:=hcell 0 (by omega)
   exact (add_block a 0)▸World.block_lt_of_cell? W _ this
  ·rw [List.getElem?_map] at hu
   obtain ⟨x,hx,rfl⟩:=Option.map_eq_some_iff.1 hu
   rw [List.getElem?_take] at hx
   split at hx
   ·have hi:i < zs.length:=(List.getElem?_eq_some_iff.1 hx).1
    rw [hcell i hi]
    simp [List.getD,hx]
   ·cases hx
end
end
end Go.Proofs.YtoeocodfndbebaaGreatDoor
