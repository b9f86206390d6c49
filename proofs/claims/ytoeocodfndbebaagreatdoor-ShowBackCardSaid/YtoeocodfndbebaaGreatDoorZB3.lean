/- Shared texts, shaken for one claim. -/
import Derived.WalkKit
import Derived.OrdersHeld
import Derived.Deep.RegionHeld
import Derived.Test.YtoeocodfndbebaaGreatDoorZB2
set_option maxRecDepth 20000
set_option maxHeartbeats 16000000
namespace Go.Proofs.YtoeocodfndbebaaGreatDoor
section
open Go
section
variable {P:Program} {ops:Array Oper} {Q:Exit→Act→World→Prop} {md:Region.Mode} {S:World→Prop} {ex:Nat→Bool}
def waits (md:Region.Mode) (ops:Array Oper):Nat→Nat→Nat→Bool
 | 0,_,_=>false
 | fuel+1,j,i=>match ops[j]? with
  | some o=>o.after.any fun e=>Region.binds md e && (e.on == i || waits md ops fuel e.on i)
  | none=>false
def Closed (md:Region.Mode) (ops:Array Oper) (listed:Array Bool):Prop :=
 ∀ k o,ops[k]?=some o→listed.getD k false=true→∀ e∈o.after,Region.binds md e=true→listed.getD e.on false=true
theorem closed_none (md:Region.Mode) (ops:Array Oper) (n:Nat):Closed md ops (Array.replicate n false):=by
 intro k o _ h
 simp only [Array.getD_eq_getD_getElem?,Array.getElem?_replicate] at h
 split at h <;> simp at h
theorem Closed.next {listed:Array Bool} {i:Nat} (h:Closed md ops listed) (hi:i∈Region.ready md ops listed):Closed md ops (listed.setIfInBounds i true):=by
 intro k o hk hl e he hb
 by_cases hki:k=i
 ·subst hki
  obtain ⟨_,o',ho',hall⟩:=mem_ready.1 hi
  obtain rfl:o=o':=Option.some.inj (hk.symm.trans ho')
  exact getD_set_true (hall e he hb)
 ·rw [getD_set_ne false (Ne.symm hki)] at hl
  exact getD_set_true (h k o hk hl e he hb)
theorem Closed.step {listed:Array Bool} (i:Nat) (h:Closed md ops listed) (hi:(Region.ready md ops listed).contains i=true):Closed md ops (listed.setIfInBounds i true):=h.next (by simpa using hi)
theorem waits_listed {listed:Array Bool} (hc:Closed md ops listed):∀ (fuel j i:Nat),(∀ o,ops[j]?=some o→∀ e∈o.after,Region.binds md e=true→listed.getD e.on false=true)→waits md ops fuel j i=true→listed.getD i false=true:=by
 intro fuel
 induction fuel with
 | zero=>intro j i _ h;cases h
 | succ fuel ih =>
  intro j i hj h
  unfold waits at h
  split at h
  ·rename_i o ho
   obtain ⟨e,he,hb⟩:=Array.any_eq_true'.1 h
   simp only [Bool.and_eq_true,Bool.or_eq_true,beq_iff_eq] at hb
   have hl:=hj o ho e he hb.1
   rcases hb.2 with h2 | h2
   ·rw [← h2];exact hl
   ·exact ih e.on i (fun o' ho'=>hc e.on o' ho' hl) h2
  ·cases h
def wpAnyE (P:Program) (md:Region.Mode) (ops:Array Oper) (Q:Exit→Act→World→Prop) (S:World→Prop) (ex:Nat→Bool):Nat→Array Bool→Act→World→Prop
 | 0,listed,a,w=>Region.ready md ops listed=[]∧Q .normal a w
 | fuel+1,listed,a,w =>
  (Region.ready md ops listed=[]→Q .normal a w) ∧
  ∀ i∈Region.ready md ops listed,wpOp P ops Q i (fun a' w'=>(ex i=false→S w→S w')∧wpAnyE P md ops Q S ex fuel (listed.setIfInBounds i true) a' w') a w
theorem wpAny_of_E:∀ (fuel:Nat) (listed:Array Bool) (a:Act) (w:World),wpAnyE P md ops Q S ex fuel listed a w→wpAny P md ops Q fuel listed a w
 | 0,_,_,_,h=>h
 | fuel+1,_,_,_,h=>⟨h.1,fun i hi=>wpOp_mono (fun a' w' h'=>wpAny_of_E fuel _ a' w' h'.2) (h.2 i hi)⟩
theorem wpAnyE_first {i:Nat} {oi:Oper} {v:Value} (hi:ops[i]?=some oi) (hsel:∀ (j:Nat) (o:Oper) cs b,ops[j]?=some o→o.op≠.select cs b)
 (hQ:∀ c a w,Q (.panic c) (a.put oi.dst v) w→Q (.panic c) a w) (hex:∀ j,ex j=true→waits md ops ops.size j i=true) :
 ∀ (fuel:Nat) (listed:Array Bool) (a:Act) (w:World),Closed md ops listed →
  (∀ j oj,ops[j]?=some oj→j≠i→listed.getD j true=false→(∀ e∈oj.after,Region.binds md e=true→e.on≠i)→oi.apart ops oj=true) →
  i∈Region.ready md ops listed→YieldsIf P ops S oi v a→S w →
  wpAnyE P md ops Q S ex fuel (listed.setIfInBounds i true) (a.put oi.dst v) w→wpAnyE P md ops Q S ex (fuel+1) listed a w:=by
 intro fuel
 induction fuel with
 | zero =>
  intro listed a w _ _ hr hy hS H
  refine ⟨fun h=>(by rw [h] at hr;cases hr),fun j hj=>?_⟩
  rcases Nat.decEq j i with hji | hji
  ·have:=ready_mono hj hji
   rw [H.1] at this
   cases this
  ·subst hji
   exact hy.wpOp hi hS ⟨fun _ h=>h,H⟩
 | succ fuel ih =>
  intro listed a w hc hfree hr hy hS H
  refine ⟨fun h=>(by rw [h] at hr;cases hr),fun j hj=>?_⟩
  rcases Nat.decEq j i with hji | hji
  ·have hrest:=H.2 j (ready_mono hj hji)
   obtain ⟨hjun,oj,hoj,hall⟩:=mem_ready.1 hj
   have hiun:=(mem_ready.1 hr).1
   have clash:∀ {m:Nat},m=i→listed.getD m false=true→False:=fun hm hl=>by
    rw [hm] at hl
    simp only [Array.getD_eq_getD_getElem?] at hl hiun
    cases hh:listed[i]? with
    | none=>rw [hh] at hl;cases hl
    | some b=>rw [hh] at hl hiun;simp only [Option.getD_some] at hl hiun;rw [hl] at hiun;cases hiun
   have hnot:∀ e∈oj.after,Region.binds md e=true→e.on≠i:=fun e he hb heq=>clash heq (hall e he hb)
   have hnex:ex j=false:=by
    cases he:ex j with
    | false=>rfl
    | true =>
     refine (clash rfl (waits_listed hc _ j i (fun o ho e hee hb=>?_) (hex j he))).elim
     obtain rfl:oj=o:=Option.some.inj (hoj.symm.trans ho)
     exact hall e hee hb
   have hput:=wpOp_putIf hoj (hfree j oj hoj hji hjun hnot) (fun cs b=>hsel i oi cs b hi) (fun cs b=>hsel j oj cs b hoj) hQ hy hrest
   refine wpOp_mono (fun a' w' h3=>⟨h3.2.1,?_⟩) hput
   refine ih (listed.setIfInBounds j true) a' w' (hc.next hj) ?_ (ready_mono hr (Ne.symm hji)) h3.1 (h3.2.1 hnex hS) ?_
   ·intro k ok hk hki hun hno
    refine hfree k ok hk hki ?_ hno
    rcases Nat.decEq j k with hjk | hjk
    ·rw [getD_set_ne true hjk] at hun;exact hun
    ·subst hjk;exact hjun
   ·rw [Array.setIfInBounds_comm _ _ hji]
    exact h3.2.2
  ·subst hji
   exact hy.wpOp hi hS ⟨fun _ h=>h,H⟩
theorem wpAnyE_first_free {i:Nat} {oi:Oper} {v:Value} (hi:ops[i]?=some oi) (hsel:∀ (j:Nat) (o:Oper) cs b,ops[j]?=some o→o.op≠.select cs b)
 (hQ:∀ c a w,Q (.panic c) (a.put oi.dst v) w→Q (.panic c) a w) :
 ∀ (fuel:Nat) (listed:Array Bool) (a:Act) (w:World),
  (∀ j oj,ops[j]?=some oj→j≠i→listed.getD j true=false→(∀ e∈oj.after,Region.binds md e=true→e.on≠i)→oi.apart ops oj=true) →
  i∈Region.ready md ops listed→YieldsIf P ops (fun _=>True) oi v a →
  wpAnyE P md ops Q S ex fuel (listed.setIfInBounds i true) (a.put oi.dst v) w→wpAnyE P md ops Q S ex (fuel+1) listed a w:=by
 intro fuel
 induction fuel with
 | zero =>
  intro listed a w _ hr hy H
  refine ⟨fun h=>(by rw [h] at hr;cases hr),fun j hj=>?_⟩
  rcases Nat.decEq j i with hji | hji
  ·have:=ready_mono hj hji
   rw [H.1] at this
   cases this
  ·subst hji
   exact hy.wpOp hi trivial ⟨fun _ h=>h,H⟩
 | succ fuel ih =>
  intro listed a w hfree hr hy H
  refine ⟨fun h=>(by rw [h] at hr;cases hr),fun j hj=>?_⟩
  rcases Nat.decEq j i with hji | hji
  ·have hrest:=H.2 j (ready_mono hj hji)
   obtain ⟨hjun,oj,hoj,hall⟩:=mem_ready.1 hj
   have hiun:=(mem_ready.1 hr).1
   have hnot:∀ e∈oj.after,Region.binds md e=true→e.on≠i:=fun e he hb heq=>by
    have hl:=hall e he hb
    rw [heq] at hl
    simp only [Array.getD_eq_getD_getElem?] at hl hiun
    cases hh:listed[i]? with
    | none=>rw [hh] at hl;cases hl
    | some b=>rw [hh] at hl hiun;simp only [Option.getD_some] at hl hiun;rw [hl] at hiun;cases hiun
   have hput:=wpOp_putIf hoj (hfree j oj hoj hji hjun hnot) (fun cs b=>hsel i oi cs b hi) (fun cs b=>hsel j oj cs b hoj) hQ hy hrest
   refine wpOp_mono (fun a' w' h3=>⟨h3.2.1,?_⟩) hput
   refine ih (listed.setIfInBounds j true) a' w' ?_ (ready_mono hr (Ne.symm hji)) h3.1 ?_
   ·intro k ok hk hki hun hno
    refine hfree k ok hk hki ?_ hno
    rcases Nat.decEq j k with hjk | hjk
    ·rw [getD_set_ne true hjk] at hun;exact hun
    ·subst hjk;exact hjun
   ·rw [Array.setIfInBounds_comm _ _ hji]
    exact h3.2.2
  ·subst hji
   exact hy.wpOp hi trivial ⟨fun _ h=>h,H⟩
/-! the moves -/
theorem wpAnyE_take {i:Nat} {oi:Oper} {v:Value} {fuel:Nat} {listed:Array Bool} {a:Act} {w:World} {xs:List Nat} (hi:ops[i]?=some oi)
 (hs:Region.noSelect ops=true) (hf:Region.free md ops listed i=true) (hr:(Region.ready md ops listed).contains i=true) (hx:xs.all (fun j=>waits md ops ops.size j i)=true)
 (hQ:∀ c a w,Q (.panic c) (a.put oi.dst v) w→Q (.panic c) a w) (hy:YieldsIf P ops S oi v a) (hS:S w) (hc:Closed md ops listed)
 (h:Closed md ops (listed.setIfInBounds i true)→wpAnyE P md ops Q S (fun j=>xs.contains j) fuel (listed.setIfInBounds i true) (a.put oi.dst v) w):wpAnyE P md ops Q S (fun j=>xs.contains j) (fuel+1) listed a w:=by
 have hr':i∈Region.ready md ops listed:=by simpa using hr
 refine wpAnyE_first hi (Region.noSelect_spec hs) hQ (fun j hj=>?_) fuel listed a w hc (Region.free_spec hi hf) hr' hy hS (h (hc.next hr'))
 exact List.all_eq_true.1 hx j (by simpa using hj)
theorem wpAnyE_free {i:Nat} {oi:Oper} {v:Value} {fuel:Nat} {listed:Array Bool} {a:Act} {w:World} (hi:ops[i]?=some oi)
 (hs:Region.noSelect ops=true) (hf:Region.free md ops listed i=true) (hr:(Region.ready md ops listed).contains i=true)
 (hQ:∀ c a w,Q (.panic c) (a.put oi.dst v) w→Q (.panic c) a w) (hy:YieldsIf P ops (fun _=>True) oi v a) (hc:Closed md ops listed)
 (h:Closed md ops (listed.setIfInBounds i true)→wpAnyE P md ops Q S ex fuel (listed.setIfInBounds i true) (a.put oi.dst v) w):wpAnyE P md ops Q S ex (fuel+1) listed a w:=by
 have hr':i∈Region.ready md ops listed:=by simpa using hr
 exact wpAnyE_first_free hi (Region.noSelect_spec hs) hQ fuel listed a w (Region.free_spec hi hf) hr' hy (h (hc.next hr'))
theorem eY (i:Nat) {oi:Oper} {v:Value} {fuel:Nat} {listed:Array Bool} {a:Act} {w:World} {xs:List Nat} (hS:S w) (hc:Closed md ops listed)
 (h:Closed md ops (listed.setIfInBounds i true)→wpAnyE P md ops Q S (fun j=>xs.contains j) fuel (listed.setIfInBounds i true) (a.put oi.dst v) w)
 (hi:ops[i]?=some oi:=by rfl) (hQ:∀ c a w,Q (.panic c) (a.put oi.dst v) w→Q (.panic c) a w:=by exact fun _ _ _ h=>h)
 (hw:Region.wanted oi (yielded ops a.tmps)=true:=by rfl) (hy:∀ u,S u→(execOp a.eval oi).run P u=.ok (.value v) u:=by (intro u hu;(try dsimp only at hu);go_simp;try with_reducible rfl))
 (hs:Region.noSelect ops=true:=by kernel_rfl) (hf:Region.free md ops listed i=true:=by kernel_rfl) (hr:(Region.ready md ops listed).contains i=true:=by kernel_rfl) (hx:xs.all (fun j=>waits md ops ops.size j i)=true:=by kernel_rfl) :
 wpAnyE P md ops Q S (fun j=>xs.contains j) (fuel+1) listed a w:=wpAnyE_take hi hs hf hr hx hQ (.inl ⟨hw,hy⟩) hS hc h
theorem eX (i:Nat) {oi:Oper} {v:Value} {fuel:Nat} {listed:Array Bool} {a:Act} {w:World} (hc:Closed md ops listed)
 (h:Closed md ops (listed.setIfInBounds i true)→wpAnyE P md ops Q S ex fuel (listed.setIfInBounds i true) (a.put oi.dst v) w)
 (hi:ops[i]?=some oi:=by rfl) (hQ:∀ c a w,Q (.panic c) (a.put oi.dst v) w→Q (.panic c) a w:=by exact fun _ _ _ h=>h)
 (hw:Region.wanted oi (yielded ops a.tmps)=true:=by rfl) (hy:∀ u,True→(execOp a.eval oi).run P u=.ok (.value v) u:=by (intro u _;go_simp;try with_reducible rfl))
 (hs:Region.noSelect ops=true:=by kernel_rfl) (hf:Region.free md ops listed i=true:=by kernel_rfl) (hr:(Region.ready md ops listed).contains i=true:=by kernel_rfl):wpAnyE P md ops Q S ex (fuel+1) listed a w:=wpAnyE_free hi hs hf hr hQ (.inl ⟨hw,hy⟩) hc h
def AllReadyE (P:Program) (md:Region.Mode) (ops:Array Oper) (Q:Exit→Act→World→Prop) (S:World→Prop) (ex:Nat→Bool) (fuel:Nat) (listed:Array Bool) (a:Act) (w:World) (rs:List Nat):Prop :=
 ∀ i∈rs,wpOp P ops Q i (fun a' w'=>(ex i=false→S w→S w')∧wpAnyE P md ops Q S ex fuel (listed.setIfInBounds i true) a' w') a w
theorem AllReadyE.nil {fuel:Nat} {listed:Array Bool} {a:Act} {w:World}:AllReadyE P md ops Q S ex fuel listed a w []:=fun _ h=>by cases h
theorem AllReadyE.cons {fuel:Nat} {listed:Array Bool} {a:Act} {w:World} {i:Nat} {o:Oper} {rs:List Nat} (ho:ops[i]?=some o)
 (h:∀ K':Act→World→Prop,Shut (∀ a w,(ex i=false→S w)→(S w→wpAnyE P md ops Q S ex fuel (listed.setIfInBounds i true) a w)→(ex i=true→wpAnyE P md ops Q S ex fuel (listed.setIfInBounds i true) a w)→K' a w) →
  if Region.wanted o (yielded ops a.tmps)=true then Oper.wp P o a w K' Q else K' (a.put o.dst undef) w)
 (hs:AllReadyE P md ops Q S ex fuel listed a w rs):AllReadyE P md ops Q S ex fuel listed a w (i :: rs):=fun j hj=>by
 rcases List.mem_cons.1 hj with hji | hj
 ·subst hji
  refine wpOp_step ho (fun K' hK=>h K' (fun a w hS hW hX=>hK a w ⟨fun he _=>hS he,?_⟩))
  cases he:ex j with
  | false=>exact hW (hS he)
  | true=>exact hX he
 ·exact hs j hj
theorem wpAnyE_ready {rs:List Nat} {fuel:Nat} {listed:Array Bool} {a:Act} {w:World} (hr:Region.ready md ops listed=rs) (hne:rs≠[])
 (h:AllReadyE P md ops Q S ex fuel listed a w rs):wpAnyE P md ops Q S ex (fuel+1) listed a w :=
 ⟨fun h0=>absurd (hr▸h0) hne,hr▸h⟩
theorem eA (i:Nat) {fuel:Nat} {listed:Array Bool} {a:Act} {w:World} {o:Oper}
 (h:∀ K':Act→World→Prop,Shut (∀ a w,(ex i=false→S w)→(S w→wpAnyE P md ops Q S ex fuel (listed.setIfInBounds i true) a w)→(ex i=true→wpAnyE P md ops Q S ex fuel (listed.setIfInBounds i true) a w)→K' a w) →
  if Region.wanted o (yielded ops a.tmps)=true then Oper.wp P o a w K' Q else K' (a.put o.dst undef) w)
 (ho:ops[i]?=some o:=by rfl) (hr:Region.ready md ops listed=[i]:=by kernel_rfl):wpAnyE P md ops Q S ex (fuel+1) listed a w :=
 wpAnyE_ready hr (List.cons_ne_nil _ _) (AllReadyE.cons ho h AllReadyE.nil)
theorem eB {K':Act→World→Prop} {fuel:Nat} {listed:Array Bool} {a:Act} {w:World} {i:Nat} (hK:Shut (∀ a w,(ex i=false→S w)→(S w→wpAnyE P md ops Q S ex fuel (listed.setIfInBounds i true) a w)→(ex i=true→wpAnyE P md ops Q S ex fuel (listed.setIfInBounds i true) a w)→K' a w))
 (hZ:Closed md ops listed) (hS:S w) (h:S w→Closed md ops (listed.setIfInBounds i true)→wpAnyE P md ops Q S ex fuel (listed.setIfInBounds i true) a w)
 (hr:(Region.ready md ops listed).contains i=true:=by kernel_rfl) (hx:ex i=false:=by kernel_rfl):K' a w :=
 hK.out a w (fun _=>hS) (fun h'=>h h' (hZ.step i hr)) (fun hX=>by rw [hx] at hX;cases hX)
theorem eE {K':Act→World→Prop} {fuel:Nat} {listed:Array Bool} {a:Act} {w:World} {i:Nat} (hK:Shut (∀ a w,(ex i=false→S w)→(S w→wpAnyE P md ops Q S ex fuel (listed.setIfInBounds i true) a w)→(ex i=true→wpAnyE P md ops Q S ex fuel (listed.setIfInBounds i true) a w)→K' a w))
 (hZ:Closed md ops listed) (h:Closed md ops (listed.setIfInBounds i true)→wpAnyE P md ops Q S ex fuel (listed.setIfInBounds i true) a w)
 (hr:(Region.ready md ops listed).contains i=true:=by kernel_rfl) (hx:ex i=true:=by kernel_rfl):K' a w :=
 hK.out a w (fun hX=>by rw [hx] at hX;cases hX) (fun _=>h (hZ.step i hr)) (fun _=>h (hZ.step i hr))
theorem wpAnyE_done {listed:Array Bool} {a:Act} {w:World} (hr:Region.ready md ops listed=[]) (h:Q .normal a w) :
 ∀ fuel,wpAnyE P md ops Q S ex fuel listed a w
 | 0=>⟨hr,h⟩
 | _+1=>⟨fun _=>h,by rw [hr];simp⟩
theorem wp_region_E {id:Nat} {a:Act} {w:World} (xs:List Nat) (hm:P.follows .mixedOrders=true) (hS:S w.drew)
 (h:S w.drew→Closed .any ops (Array.replicate ops.size false)→wpAnyE P .any ops Q S (fun j=>xs.contains j) ops.size (Array.replicate ops.size false) a w.drew):(Code.region id ops true).wp P Q a w :=
 wp_region_any hm (wpAny_of_E _ _ _ _ (h hS (closed_none _ _ _)))
end
end
section
open Go.RowKit
def RowedRg (w:World) (S:List (Int×Int)) (ed:Ending) (w':World):Prop:=∃ v,ed=.returned v∧OwnN w' w.heap.size 66 2 v S.length (prC S)∧Below w.heap.size w w'
theorem rg_lit (u:World) (p:Int×Int):Lies (u.alloc (.cells #[.int .i64 p.1,.int .i64 p.2] 66)) (u.heap.size+1) (some ⟨u.heap.size,0,none⟩) (prC [p]) :=
 Lies.lit (w:=u) (e:=66) #[.int .i64 p.1,.int .i64 p.2]
theorem low_next {R:List (Int×Int)} {k:Nat} (a:Int) (hk:k < R.length):(R.take (k+1)).foldl (lowF a) 1114112=lowF a ((R.take k).foldl (lowF a) 1114112) R[k]:=by
 rw [List.take_succ_eq_append_getElem hk,List.foldl_append];rfl
theorem hi_next {R:List (Int×Int)} {k:Nat} (h:Int) (hk:k < R.length):(R.take (k+1)).foldl hiF h=hiF ((R.take k).foldl hiF h) R[k]:=by
 rw [List.take_succ_eq_append_getElem hk,List.foldl_append];rfl
theorem hi_bound (R:List (Int×Int)) (k:Nat) {h:Int} (hh:h≤1114111):h≤(R.take k).foldl hiF h∧(R.take k).foldl hiF h≤1114111:=passR_ge (R.take k) h hh
theorem rset16_ok (w:World) (A:Option Addr) (R:List (Int×Int)) (c:Nat) (h:Lies w w.heap.size A (prC R)) (hl:R.length≤500) :
 Calls Tryz.prog 63 #[.slice A R.length c] w (RowedRg w (setP (hasR R))):=by
 have HL:=qh h
 have d1:decide (500 < (R.length:Int))=false:=decide_eq_false (by omega)
 have HSL:=qh (setR_length R)
 clear h
 go_enter Tryz.func63,Tryz.ntmps63
 go_wp2_with fail
 go_loopw [4,3] (fun av ov wr=>∃ (a:Nat) (S:List (Int×Int)),a≤1114112∧av=.int .i64 a∧Hid (S++tailR (hasR R) a=setP (hasR R))∧Hid (OwnN wr w.heap.size 66 2 ov S.length (prC S))∧Hid (Below w.heap.size w wr)) (fun av _ _=>1114112 - (intOf av).toNat)
 case atStart=>exact ⟨0,[],by omega,rfl,qh rfl,qh (OwnN.empty _ _ _ _),qh (Below.refl _ _)⟩
 case round =>
  obtain ⟨a,S,ha,rfl,HS,HO,HB⟩:=hrel
  have hsn:S.length≤500:=by
   have h1:=congrArg List.length HS.out
   rw [List.length_append] at h1
   have:=HSL.out;omega
  obtain ⟨AO,co,rfl,-,-,-⟩:=HO.out.form
  obtain ⟨ns,hns⟩:∃ ns,S.length=ns:=⟨_,rfl⟩
  have HNS:=qh hns
  rw [hns] at HO hsn ⊢
  have HLW:=qh (HL.out.up HB.out)
  clear hns
  by_cases hat:a≤1114111
  ·have d2:decide ((a:Int)≤1114111)=true:=decide_eq_true (by omega)
   have HSP:=qh (lowR_spec (R:=R) (a:=(a:Int)) (by omega))
   clear hat
   go_wp2_with fail
   go_loopw [6,5] (fun iv lv wx=>∃ k m:Nat,k≤R.length∧iv=.int .i64 k∧lv=.int .i64 ((R.take k).foldl (lowF a) 1114112)∧wx=wr.drewN m) (fun iv _ _=>R.length - (intOf iv).toNat)
   case atStart=>exact ⟨0,0,by omega,rfl,rfl,rfl⟩
   case round =>
    obtain ⟨k,m,hk,rfl,rfl,rfl⟩:=hrel
    by_cases hlt:k < R.length
    ·obtain ⟨g,off,rfl,-,c0,c1⟩:=prC_at HLW.out hlt
     have HNX:=qh (low_next (a:Int) hlt)
     obtain ⟨z,hz⟩:∃ z,(R.take k).foldl (lowF (a:Int)) 1114112=z:=⟨_,rfl⟩
     rw [hz] at HNX ⊢
     obtain ⟨p,hp⟩:∃ x,R[k]=x:=⟨_,rfl⟩
     rw [hp] at c0 c1 HNX
     obtain ⟨lo,hi⟩:=p
     simp only at c0 c1
     have k0:(0:Int)≤(k:Int):=by omega
     have k1:(k:Int) < (R.length:Int):=by omega
     clear hz hp
     by_cases e1:(a:Int)≤hi
     ·have f1:decide ((a:Int)≤hi)=true:=decide_eq_true e1
      by_cases e2:lo≤hi
      ·have f2:decide (lo≤hi)=true:=decide_eq_true e2
       by_cases e3:lo < (a:Int)
       ·by_cases e4:(a:Int) < z
        ·have f4:decide ((a:Int) < z)=true:=decide_eq_true e4
         have HV:Hid (lowF (a:Int) z (lo,hi)=(a:Int)):=qh (by unfold lowF;rw [if_pos ⟨e1,e2,by simp only;omega⟩];simp only;omega)
         go_wp2_with fail
         go_quiet (fail)
         go_wp2_with fail
         go_roundw
         case rel=>exact ⟨k+1,m+nq,by omega,by go_num,by rw [HNX.out,HV.out],rfl⟩
         case measure=>simp [intOf];omega
        ·have f4:decide ((a:Int) < z)=false:=decide_eq_false e4
         have HV:Hid (lowF (a:Int) z (lo,hi)=z):=qh (by unfold lowF;rw [if_neg (fun h=>by have:=h.2.2;simp only at this;omega)])
         go_wp2_with fail
         go_quiet (fail)
         go_wp2_with fail
         go_roundw
         case rel=>exact ⟨k+1,m+nq,by omega,by go_num,by rw [HNX.out,HV.out],rfl⟩
         case measure=>simp [intOf];omega
       ·by_cases e4:lo < z
        ·have f4:decide (lo < z)=true:=decide_eq_true e4
         have HV:Hid (lowF (a:Int) z (lo,hi)=lo):=qh (by unfold lowF;rw [if_pos ⟨e1,e2,by simp only;omega⟩];simp only;omega)
         go_wp2_with fail
         go_quiet (fail)
         go_wp2_with fail
         go_roundw
         case rel=>exact ⟨k+1,m+nq,by omega,by go_num,by rw [HNX.out,HV.out],rfl⟩
         case measure=>simp [intOf];omega
        ·have f4:decide (lo < z)=false:=decide_eq_false e4
         have HV:Hid (lowF (a:Int) z (lo,hi)=z):=qh (by unfold lowF;rw [if_neg (fun h=>by have:=h.2.2;simp only at this;omega)])
         go_wp2_with fail
         go_quiet (fail)
         go_wp2_with fail
         go_roundw
         case rel=>exact ⟨k+1,m+nq,by omega,by go_num,by rw [HNX.out,HV.out],rfl⟩
         case measure=>simp [intOf];omega
      ·have f2:decide (lo≤hi)=false:=decide_eq_false e2
       have HV:Hid (lowF (a:Int) z (lo,hi)=z):=qh (by unfold lowF;rw [if_neg (fun h=>e2 h.2.1)])
       go_wp2_with fail
       go_quiet (fail)
       go_wp2_with fail
       go_roundw
       case rel=>exact ⟨k+1,m+nq,by omega,by go_num,by rw [HNX.out,HV.out],rfl⟩
       case measure=>simp [intOf];omega
     ·have f1:decide ((a:Int)≤hi)=false:=decide_eq_false e1
      have HV:Hid (lowF (a:Int) z (lo,hi)=z):=qh (by unfold lowF;rw [if_neg (fun h=>e1 h.1)])
      go_wp2_with fail
      go_quiet (fail)
      go_wp2_with fail
      go_roundw
      case rel=>exact ⟨k+1,m+nq,by omega,by go_num,by rw [HNX.out,HV.out],rfl⟩
      case measure=>simp [intOf];omega
    ·obtain rfl:k=R.length:=by omega
     have hlow:(R.take R.length).foldl (lowF (a:Int)) 1114112=lowR R a:=by rw [List.take_length];rfl
     rw [hlow]
     obtain ⟨z,hz⟩:∃ z,lowR R (a:Int)=z:=⟨_,rfl⟩
     rw [hz] at HSP ⊢
     clear hlow hz
     by_cases hzt:z≤1114111
     ·have d3:decide (1114111 < z)=false:=decide_eq_false (by omega)
      obtain ⟨s1,s2,s3,s4⟩:=HSP.out
      have HIS:=qh (itR_spec (s3 (by omega)) hzt)
      have HIT:=qh (fun n=>itR_ge R hzt n)
      have HZ4:=qh s4
      have z0:(a:Int)≤z:=s1
      clear s1 s2 s3 s4 HSP
      go_wp2_with fail
      go_loopw [8,7] (fun nv hv wx=>∃ j:Nat,j≤R.length+1∧nv=.int .i64 j∧hv=.int .i64 (itR R z j)∧wx=wr.drewN m) (fun nv _ _=>R.length+1 - (intOf nv).toNat)
      case atStart=>exact ⟨0,by omega,rfl,rfl,rfl⟩
      case round =>
       obtain ⟨j,hj,rfl,rfl,rfl⟩:=hrel
       have hjb:=HIT.out j
       by_cases hjl:j≤R.length
       ·have d4:decide ((j:Int)≤(R.length:Int))=true:=decide_eq_true (by omega)
        have d5:(j:Int)≤(R.length:Int):=by omega
        have d6:decide (j≤R.length)=true:=decide_eq_true hjl
        obtain ⟨y,hy⟩:∃ y,itR R z j=y:=⟨_,rfl⟩
        have HJN:Hid (itR R z (j+1)=(R.take R.length).foldl hiF y):=qh (by rw [List.take_length,← hy];rfl)
        rw [hy] at hjb ⊢
        have HHB:=qh (fun i=>hi_bound R i hjb.2)
        have hy0:z≤y:=hjb.1
        clear hjl hy hjb
        go_wp2_with fail
        go_loopw [9,7] (fun iv hv wx=>∃ i:Nat,i≤R.length∧iv=.int .i64 i∧hv=.int .i64 ((R.take i).foldl hiF y)∧wx=wr.drewN m) (fun iv _ _=>R.length - (intOf iv).toNat)
        case atStart=>exact ⟨0,by omega,rfl,rfl,rfl⟩
        case round =>
         obtain ⟨i,hi,rfl,rfl,rfl⟩:=hrel
         have hhb:=HHB.out i
         by_cases hlt:i < R.length
         ·obtain ⟨g,off,rfl,-,c0,c1⟩:=prC_at HLW.out hlt
          have HNX:=qh (hi_next y hlt)
          obtain ⟨v,hv⟩:∃ v,(R.take i).foldl hiF y=v:=⟨_,rfl⟩
          rw [hv] at HNX hhb ⊢
          obtain ⟨p,hp⟩:∃ x,R[i]=x:=⟨_,rfl⟩
          rw [hp] at c0 c1 HNX
          obtain ⟨lo,hi'⟩:=p
          simp only at c0 c1
          have k0:(0:Int)≤(i:Int):=by omega
          have k1:(i:Int) < (R.length:Int):=by omega
          have hw:IntKind.i64.wrap (v+1)=v+1:=IntWalk.i64_in _ (by omega)
          have hv1:v≤1114111:=hhb.2
          clear hv hp hhb
          by_cases e1:lo≤v+1
          ·have f1:decide (lo≤v+1)=true:=decide_eq_true e1
           by_cases e2:v < hi'
           ·have f2:decide (v < hi')=true:=decide_eq_true e2
            by_cases e3:hi' < 1114111
            ·have HV:Hid (hiF v (lo,hi')=hi'):=qh (by unfold hiF;rw [if_pos ⟨e1,e2⟩];simp only;omega)
             go_wp2_with fail
             go_roundw
             case rel=>exact ⟨i+1,by omega,by go_num,by rw [HNX.out,HV.out],trivial⟩
             case measure=>simp [intOf];omega
            ·have HV:Hid (hiF v (lo,hi')=1114111):=qh (by unfold hiF;rw [if_pos ⟨e1,e2⟩];simp only;omega)
             go_wp2_with fail
             go_roundw
             case rel=>exact ⟨i+1,by omega,by go_num,by rw [HNX.out,HV.out],trivial⟩
             case measure=>simp [intOf];omega
           ·have f2:decide (v < hi')=false:=decide_eq_false e2
            have HV:Hid (hiF v (lo,hi')=v):=qh (by unfold hiF;rw [if_neg (fun h=>e2 h.2)])
            go_wp2_with fail
            go_roundw
            case rel=>exact ⟨i+1,by omega,by go_num,by rw [HNX.out,HV.out],trivial⟩
            case measure=>simp [intOf];omega
          ·have f1:decide (lo≤v+1)=false:=decide_eq_false e1
           have HV:Hid (hiF v (lo,hi')=v):=qh (by unfold hiF;rw [if_neg (fun h=>e1 h.1)])
           go_wp2_with fail
           go_roundw
           case rel=>exact ⟨i+1,by omega,by go_num,by rw [HNX.out,HV.out],trivial⟩
           case measure=>simp [intOf];omega
         ·obtain rfl:i=R.length:=by omega
          rw [← HJN.out]
          go_wp2_with fail
          go_roundw
          case rel=>exact ⟨j+1,by omega,by go_num,rfl,trivial⟩
          case measure=>simp [intOf];omega
       ·obtain rfl:j=R.length+1:=by omega
        have d4:decide (((R.length+1:Nat):Int)≤(R.length:Int))=false:=decide_eq_false (by omega)
        obtain ⟨y,hy⟩:∃ y,itR R z (R.length+1)=y:=⟨_,rfl⟩
        rw [hy] at HIS hjb ⊢
        have hy1:y≤1114111:=hjb.2
        have hy0:z≤y:=hjb.1
        obtain ⟨zn,hzn⟩:∃ n:Nat,z=(n:Int):=⟨z.toNat,by omega⟩
        obtain ⟨yn,hyn⟩:∃ n:Nat,y=(n:Int):=⟨y.toNat,by omega⟩
        have HST:Hid ((S++[(z,y)])++tailR (hasR R) (yn+1)=setP (hasR R)):=qh (by
         obtain ⟨s1,s2,s3,s4⟩:=HIS.out
         rw [hzn,hyn,List.append_assoc,List.singleton_append,← tailR_run (p:=hasR R) (a:=a) (lo:=zn) (hi:=yn) (by omega) (by omega) (by omega) (fun c h1 h2=>HZ4.out c h1 (by rw [hzn];exact h2)) (fun c h1 h2=>s3 c (by rw [hzn];exact h1) (by rw [hyn];exact h2)) (by
          rcases s4 with s4 | s4
          ·left;omega
          ·right;rw [← hyn];exact s4)]
         exact HS.out)
        have hw:IntKind.i64.wrap (y+1)=((yn+1:Nat):Int):=by rw [IntWalk.i64_in _ (by omega)];omega
        have HLIT:=qh (rg_lit (wr.drewN m) (z,y))
        have hyb:yn≤1114111:=by omega
        have hya:a≤yn:=by omega
        clear hy hzn hyn hjl
        go_wp2_with (first
         | (at_builtin;refine appN_at rgT w _ w.heap.size _ _ _ (.slice AO ns co) ns 1 (prC S) (prC [(z,y)]) _ _ rfl rfl rfl rfl (((HO.out.same (w':=wr.drewN m) rfl)).alloc _) HLIT.out rfl (prC_one _) ((below_drawn HB.out m).alloc HB.out.size _) (by have:=HB.out.size;simp;omega) (by unfold maxLen;omega) (by omega) ?_;intro v2 w2 o2 b2 _ _;have O2:Hid (OwnN w2 w.heap.size 66 2 v2 (S++[(z,y)]).length (prC (S++[(z,y)]))):=qh (by rw [prC_append,List.length_append,HNS.out];exact o2);have B2:=qh b2;clear o2 b2)
         | fail)
        go_roundw
        case rel=>exact ⟨yn+1,S++[(z,y)],by omega,rfl,HST,O2,B2⟩
        case measure=>simp [intOf];omega
     ·have d3:decide (1114111 < z)=true:=decide_eq_true (by omega)
      have HE:Hid (S=setP (hasR R)):=qh (by
       have h1:=HS.out
       rw [tailR_none ha (fun c h1 h2=>HSP.out.2.2.2 c h1 (by unfold topR at h2;omega)),List.append_nil] at h1
       exact h1)
      go_wp2_with fail
      go_ret
      refine ⟨_,rfl,?_,below_drawn HB.out _⟩
      rw [← HE.out,HNS.out]
      exact HO.out.same rfl
  ·have d2:decide ((a:Int)≤1114111)=false:=decide_eq_false (by omega)
   have HE:Hid (S=setP (hasR R)):=qh (by
    have h1:=HS.out
    rw [tailR_none ha (fun c h1 h2=>by unfold topR at h2;omega),List.append_nil] at h1
    exact h1)
   go_wp2_with fail
   go_ret
   refine ⟨_,rfl,?_,HB.out⟩
   rw [← HE.out,HNS.out]
   exact HO.out
theorem rset16_any (w:World) (A:Option Addr) (R:List (Int×Int)) (c:Nat) (h:Lies w w.heap.size A (prC R)) :
 Calls Tryz.prog 63 #[.slice A R.length c] w (RowedRg w (setR R)):=by
 by_cases hl:500 < R.length
 ·have e:setR R=[]:=by unfold setR;rw [if_pos hl]
  have d1:decide (500 < (R.length:Int))=true:=decide_eq_true (by omega)
  rw [e]
  clear h hl e
  go_enter Tryz.func63,Tryz.ntmps63
  go_wp2_with fail
  go_ret
  exact ⟨_,rfl,OwnN.empty _ _ _ _,Below.refl _ _⟩
 ·rw [setR_small (by omega)]
  exact rset16_ok w A R c h (by omega)
end
section
open Go.RowKit
theorem tailR_skip {p:Int→Bool} {a b:Nat} (h0:a≤b) (h1:b≤1114112) (hn:∀ c:Int,(a:Int)≤c→c < b→p c=false):tailR p a=tailR p b :=
 canon_ext (tailR_canon p (by omega)) ((tailR_canon p h1).weaken (by omega)) fun c h2 h3=>by
  rw [tailR_has p (by omega),tailR_has p h1]
  by_cases hc:c < b
  ·rw [hn c h2 hc];simp
  ·rw [show decide ((a:Int)≤c)=true by simpa using h2,show decide ((b:Int)≤c)=true by simp;omega]
structure TurnAt (S:List (Int×Int)) (a i:Nat) (T:List (Int×Int)):Prop where
 tail:T++tailR (fun c=>!hasR S c) a=setP fun c=>!hasR S c
 canon:Canon a (S.drop i)
 same:∀ c:Int,(a:Int)≤c→hasR S c=hasR (S.drop i) c
 le:a≤1114112
 len:T.length≤i
theorem TurnAt.start {S:List (Int×Int)} (h:Canon 0 S):TurnAt S 0 0 []:=⟨rfl,h,fun _ _=>rfl,by omega,by simp⟩
theorem TurnAt.next {S T:List (Int×Int)} {a i lo hi:Nat} (h:TurnAt S a i T) (hi':i < S.length) (he:S[i]=((lo:Int),(hi:Int))) :
 a≤lo∧lo≤hi∧hi≤1114111∧TurnAt S (hi+1) (i+1) (if a < lo then T++[((a:Int),(lo:Int) - 1)] else T):=by
 have hd:S.drop i=((lo:Int),(hi:Int)) :: S.drop (i+1):=by rw [List.drop_eq_getElem_cons hi',he]
 have hc:=h.canon
 rw [hd] at hc
 obtain ⟨h1,h2,h3,h4⟩:=hc
 simp only at h1 h2 h3 h4
 unfold topR at h3
 have hq:∀ c:Int,(a:Int)≤c→c < lo→hasR S c=false:=fun c g1 g2=>by
  rw [h.same c g1,hd,hasR_cons,show inR ((lo:Int),(hi:Int)) c=false by simp [inR] <;> omega,Bool.false_or]
  rcases hh:hasR (S.drop (i+1)) c with _ | _
  ·rfl
  ·have:=h4.has hh;omega
 have hy:∀ c:Int,(lo:Int)≤c→c < ((hi+1:Nat):Int)→hasR S c=true:=fun c g1 g2=>by
  rw [h.same c (by omega),hd,hasR_cons,show inR ((lo:Int),(hi:Int)) c=true by simp [inR] <;> omega];rfl
 have hsk:tailR (fun c=>!hasR S c) lo=tailR (fun c=>!hasR S c) (hi+1):=tailR_skip (by omega) (by omega) fun c g1 g2=>by simp only [hy c g1 g2];rfl
 refine ⟨by omega,by omega,by omega,?_,h4.weaken (by omega),fun c g=>?_,by omega,?_⟩
 ·have ht:=h.tail
  split
  ·rename_i hlt
   obtain ⟨m,rfl⟩:∃ m,lo=m+1:=⟨lo - 1,by omega⟩
   rw [tailR_run (a:=a) (lo:=a) (hi:=m) (Nat.le_refl _) (by omega) (by omega) (fun c g1 g2=>by omega) (fun c g1 g2=>by simp only [hq c g1 (by omega)];rfl) (.inr (by simp only [hy ((m:Int)+1) (by omega) (by omega)];rfl)),hsk] at ht
   rw [List.append_assoc,show (((m+1:Nat):Int) - 1)=(m:Int) by omega]
   exact ht
  ·have:a=lo:=by omega
   subst this
   rw [← hsk];exact ht
 ·rw [h.same c (by omega),hd,hasR_cons,show inR ((lo:Int),(hi:Int)) c=false by simp [inR] <;> omega,Bool.false_or]
 ·have:=h.len
  split
  ·simp;omega
  ·omega
theorem TurnAt.done {S T:List (Int×Int)} {a:Nat} (h:TurnAt S a S.length T):(if a≤1114111 then T++[((a:Int),(1114111:Int))] else T)=setP fun c=>!hasR S c:=by
 have hs:∀ c:Int,(a:Int)≤c→hasR S c=false:=fun c g=>by rw [h.same c g,List.drop_length];rfl
 have ht:=h.tail
 split
 ·rename_i hle
  rw [tailR_run (a:=a) (lo:=a) (hi:=1114111) (Nat.le_refl _) hle (by omega) (fun c g1 g2=>by omega) (fun c g1 g2=>by simp only [hs c g1];rfl) (.inl rfl),tailR_none (by omega) (fun c g1 g2=>by unfold topR at g2;omega)] at ht
  exact ht
 ·rename_i hle
  have:=h.le
  rw [tailR_none h.le (fun c g1 g2=>by unfold topR at g2;omega),List.append_nil] at ht
  exact ht
theorem rturn16_any (w:World) (A:Option Addr) (R:List (Int×Int)) (c:Nat) (h:Lies w w.heap.size A (prC R)) :
 Calls Tryz.prog 86 #[.slice A R.length c] w (RowedRg w (turnR R)):=by
 have HL:=qh h
 obtain ⟨S,hS⟩:∃ S,setR R=S:=⟨_,rfl⟩
 have HC:=qh (rset16_any w A R c h)
 have hcan:=setR_canon R
 have hsl:=(setR_le R).1
 obtain ⟨Z,hZ⟩:∃ Z,turnR R=Z:=⟨_,rfl⟩
 have HZ:Hid ((setP fun c=>!hasR S c)=Z):=qh (by rw [← hZ,← hS];rfl)
 rw [hS] at HC hcan hsl
 rw [hZ]
 have HCA:=qh (TurnAt.start hcan)
 have HCN:=qh hcan
 clear h hS hZ hcan
 go_enter Tryz.func86,Tryz.ntmps86
 go_wp2_with fail
 refine HC.out.mono ?_
 rintro e w1 ⟨v1,rfl,o1,b1⟩
 obtain ⟨A1,c1,rfl,-,-,-⟩:=o1.form
 have O1:=qh o1
 have B1:=qh b1
 clear o1 b1
 go_wp2_with fail
 go_loopw [6,4,3] (fun iv av ov wr=>∃ (i a:Nat) (T:List (Int×Int)),i≤S.length∧iv=.int .i64 i∧av=.int .i64 a∧Hid (TurnAt S a i T)∧Hid (OwnN wr w1.heap.size 66 2 ov T.length (prC T))∧Hid (Below w1.heap.size w1 wr)) (fun iv _ _ _=>S.length - (intOf iv).toNat)
 case atStart=>exact ⟨0,0,[],by omega,rfl,rfl,HCA,qh (OwnN.empty _ _ _ _),qh (Below.refl _ _)⟩
 case round =>
  obtain ⟨i,a,T,hi,rfl,rfl,HT,HO,HB⟩:=hrel
  have htn:T.length≤500:=by have:=HT.out.len;omega
  obtain ⟨AO,co,rfl,-,-,-⟩:=HO.out.form
  obtain ⟨nt,hnt⟩:∃ n,T.length=n:=⟨_,rfl⟩
  have HNT:=qh hnt
  rw [hnt] at HO htn ⊢
  clear hnt
  by_cases hlt:i < S.length
  ·obtain ⟨AS,cS,hvS,lS,-,-⟩:=O1.out.form
   injection hvS with hA _ hcS
   subst hA hcS
   obtain ⟨g,off,rfl,hgl,c0,c1'⟩:=prC_at (lS.below HB.out) hlt
   obtain ⟨lo,hlo⟩:∃ n:Nat,S[i].1=(n:Int)∧∃ m:Nat,S[i].2=(m:Int):=by
    have hcd:=HT.out.canon
    rw [List.drop_eq_getElem_cons hlt] at hcd
    have h1:=hcd.1;have h2:=hcd.2.1
    exact ⟨S[i].1.toNat,by omega,S[i].2.toNat,by omega⟩
   obtain ⟨hlo,hi2,hhi⟩:=hlo
   have he:S[i]=((lo:Int),(hi2:Int)):=Prod.ext hlo hhi
   obtain ⟨n1,n2,n3,hnx⟩:=HT.out.next hlt he
   rw [hlo] at c0
   rw [hhi] at c1'
   have k0:(0:Int)≤(i:Int):=by omega
   have k1:(i:Int) < (S.length:Int):=by omega
   have hw1:IntKind.i64.wrap ((lo:Int) - 1)=(lo:Int) - 1:=IntWalk.i64_in _ (by omega)
   have hw2:IntKind.i64.wrap ((hi2:Int)+1)=((hi2+1:Nat):Int):=by rw [IntWalk.i64_in _ (by omega)];omega
   have HNX:=qh hnx
   clear hnx he hlo hhi lS
   by_cases hal:a < lo
   ·have d1:decide ((a:Int) < (lo:Int))=true:=decide_eq_true (by omega)
    have d2:decide (a < lo)=true:=decide_eq_true hal
    have HN2:Hid (TurnAt S (hi2+1) (i+1) (T++[((a:Int),(lo:Int) - 1)])):=qh (by have:=HNX.out;rwa [if_pos hal] at this)
    have HLIT:=qh (rg_lit wr ((a:Int),(lo:Int) - 1))
    have HS2:Hid (∀ u:World,Below w1.heap.size wr u→u.cell? ⟨g,off+i * 2+1,none⟩=some (.int .i64 hi2)):=qh (fun u hu=>by rw [hu.cell hgl];exact c1')
    have HBZ:Hid (w1.heap.size≤wr.heap.size):=qh HB.out.size
    clear hal
    go_wp2_with (first
     | (at_builtin;refine appN_at rgT wr _ w1.heap.size _ _ _ (.slice AO nt co) nt 1 (prC T) (prC [((a:Int),(lo:Int) - 1)]) _ _ rfl rfl rfl rfl (HO.out.alloc _) HLIT.out rfl (prC_one _) ((Below.refl _ _).alloc HBZ.out _) (by have:=HBZ.out;simp;omega) (by unfold maxLen;omega) (by omega) ?_;intro v2 w2 o2 b2 _ _;have O2:Hid (OwnN w2 w1.heap.size 66 2 v2 (T++[((a:Int),(lo:Int) - 1)]).length (prC (T++[((a:Int),(lo:Int) - 1)]))):=qh (by rw [prC_append,List.length_append,HNT.out];exact o2);have B2:=qh (HB.out.trans b2);have hc2:=HS2.out w2 b2;clear o2 b2 c0 c1')
     | fail)
    go_roundw
    case rel=>exact ⟨i+1,hi2+1,_,by omega,by go_num,rfl,HN2,O2,B2⟩
    case measure=>simp [intOf];omega
   ·have d1:decide ((a:Int) < (lo:Int))=false:=decide_eq_false (by omega)
    have d2:decide (a < lo)=false:=decide_eq_false hal
    have HN2:Hid (TurnAt S (hi2+1) (i+1) T):=qh (by have:=HNX.out;rwa [if_neg hal] at this)
    clear hal
    go_wp2_with fail
    go_roundw
    case rel=>exact ⟨i+1,hi2+1,T,by omega,by go_num,rfl,HN2,by rw [HNT.out];exact HO,HB⟩
    case measure=>simp [intOf];omega
  ·obtain rfl:i=S.length:=by omega
   have hdone:=HT.out.done
   rw [HZ.out] at hdone
   have hale:=HT.out.le
   by_cases hat:a≤1114111
   ·have d1:decide ((a:Int)≤1114111)=true:=decide_eq_true (by omega)
    have HD:Hid (T++[((a:Int),(1114111:Int))]=Z):=qh (by rwa [if_pos hat] at hdone)
    have HLIT:=qh (rg_lit wr ((a:Int),(1114111:Int)))
    have HBZ:Hid (w1.heap.size≤wr.heap.size):=qh HB.out.size
    clear hat hdone
    go_wp2_with (first
     | (at_builtin;refine appN_at rgT wr _ w1.heap.size _ _ _ (.slice AO nt co) nt 1 (prC T) (prC [((a:Int),(1114111:Int))]) _ _ rfl rfl rfl rfl (HO.out.alloc _) HLIT.out rfl (prC_one _) ((Below.refl _ _).alloc HBZ.out _) (by have:=HBZ.out;simp;omega) (by unfold maxLen;omega) (by omega) ?_;intro v2 w2 o2 b2 _ _;have O2:Hid (OwnN w2 w1.heap.size 66 2 v2 (T++[((a:Int),(1114111:Int))]).length (prC (T++[((a:Int),(1114111:Int))]))):=qh (by rw [prC_append,List.length_append,HNT.out];exact o2);have B2:=qh (HB.out.trans b2);clear o2 b2)
     | fail)
    go_ret
    refine ⟨_,rfl,?_,below_then B1.out B2.out⟩
    rw [← HD.out]
    exact O2.out.weaken B1.out.size
   ·have d1:decide ((a:Int)≤1114111)=false:=decide_eq_false (by omega)
    have HD:Hid (T=Z):=qh (by rwa [if_neg hat] at hdone)
    clear hat hdone
    go_wp2_with fail
    go_ret
    refine ⟨_,rfl,?_,below_then B1.out HB.out⟩
    rw [← HD.out,HNT.out]
    exact HO.out.weaken B1.out.size
end
end Go.Proofs.YtoeocodfndbebaaGreatDoor
