/- Shared texts, shaken for one claim. -/
import Derived.Laws.Slices
import Derived.Laws.OwnMore
import Derived.Deep.OwnRows
import Derived.BigQuiet
import Derived.Test.YtoeocodfndbebaaGreatDoorChecked
import Derived.Test.YtoeocodfndbebaaGreatDoorZB1
set_option maxRecDepth 20000
set_option maxHeartbeats 16000000
namespace Go.Proofs.YtoeocodfndbebaaGreatDoor
section
open Go.RowKit
structure SliceOfN (P:Program) (t e:TypeId) (z:Value) (size bytes:Nat):Prop where
 slice:P.underlying t=some (.slice e)
 elem:(P.info? e).map (fun i=>(i.zero,i.size,i.bytes))=some (some z,size,bytes)
 wide:z.cells.size=size
 pos:0 < size
theorem SliceOf.wide {P:Program} {t e:TypeId} {z:Value} {bytes:Nat} (T:SliceOf P t e z bytes):SliceOfN P t e z 1 bytes:=⟨T.slice,T.elem,T.one,by omega⟩
def OwnN (w:World) (B:Nat) (e:TypeId) (size:Nat) (v:Value) (n:Nat) (xs:List Value):Prop:=w.ownsRow B e size v n xs
section
variable {w w':World} {B:Nat} {e:TypeId} {size n:Nat} {v:Value} {xs:List Value}
theorem OwnN.empty (w:World) (B:Nat) (e:TypeId) (size:Nat):OwnN w B e size (.slice none 0 0) 0 []:=World.ownsRow_nil w B e size
theorem OwnN.same (h:OwnN w B e size v n xs) (hh:w'.heap=w.heap):OwnN w' B e size v n xs:=by
 refine ⟨h.1,?_⟩
 rcases h.2 with h2 | ⟨g,cap,cur,hv,hg,h3,r⟩
 ·exact .inl h2
 ·exact .inr ⟨g,cap,cur,hv,hg,by rw [hh];exact h3,r⟩
theorem OwnN.alloc (h:OwnN w B e size v n xs) (o:Obj):OwnN (w.alloc o) B e size v n xs:=World.ownsRow.alloc h o
theorem OwnN.keep (h:OwnN w B e size v n xs) {row:Option Nat} (hg:w.grownBy w' row) (hr:v.ownBlock=none∨v.ownBlock≠row):OwnN w' B e size v n xs:=World.ownsRow.kept h hg hr
theorem OwnN.below (h:OwnN w B e size v n xs) {C:Nat} (hb:Below C w w') (hC:w.heap.size≤C):OwnN w' B e size v n xs:=by
 refine World.ownsRow.kept (row:=none) h ⟨hb.os,hb.tape,hb.output,hb.size,fun k hk _=>hb.block k (by omega)⟩ ?_
 cases v.ownBlock <;> simp
theorem OwnN.inside (h:OwnN w B e size v n xs):∀ g,v.ownBlock=some g→B≤g∧g < w.heap.size:=World.ownsRow.lt h
theorem OwnN.form (h:OwnN w B e size v n xs):∃ A c,v=.slice A n c∧Lies w w.heap.size A xs∧n≤c∧c≤maxLen:=by
 rcases h.2 with ⟨rfl,hn⟩ | ⟨g,cap,cur,rfl,hbg,hh,hc,hm,hs,ht⟩
 ·refine ⟨none,0,by rw [hn],?_,by omega,by unfold maxLen;omega⟩
  have:=h.1
  rw [hn,Nat.zero_mul] at this
  rw [List.eq_nil_of_length_eq_zero this];exact Lies.empty
 ·exact ⟨_,cap,rfl,fun hn=>⟨_,rfl,(Array.getElem?_eq_some_iff.1 hh).1,World.ownsRow.cells h (g:=g) rfl⟩,hc,hm⟩
theorem OwnN.block (h:OwnN w B e size v n xs) (hn:0 < n):∃ g c,v=.slice (some ⟨g,0,none⟩) n c∧n≤c∧B≤g∧g < w.heap.size∧∀ j,j < n * size→w.cell? ⟨g,j,none⟩=xs[j]?:=by
 rcases h.2 with ⟨_,h0⟩ | ⟨g,cap,cur,rfl,hbg,hh,hc,hm,hs,ht⟩
 ·omega
 ·exact ⟨g,cap,rfl,hc,hbg,(Array.getElem?_eq_some_iff.1 hh).1,fun j hj=>World.ownsRow.cellAt h j hj⟩
theorem OwnN.short (h:OwnN w B e size v n xs) {j:Nat} (hj:j≤n):∃ A c,v=.slice A n c∧n≤c∧OwnN w B e size (.slice A j c) j (xs.take (j * size)):=by
 rcases h.2 with ⟨rfl,hn⟩ | ⟨g,cap,cur,rfl,hg,hh,hc,hm,hs,ht⟩
 ·refine ⟨none,0,by rw [hn],by omega,?_⟩
  obtain rfl:j=0:=by omega
  rw [Nat.zero_mul,List.take_zero]
  exact OwnN.empty _ _ _ _
 ·refine ⟨_,cap,rfl,hc,?_,.inr ⟨g,cap,cur,rfl,hg,hh,by omega,hm,hs,?_⟩⟩
  ·rw [List.length_take,h.1,Nat.min_eq_left (Nat.mul_le_mul_right _ hj)]
  ·rw [← ht,List.take_take,Nat.min_eq_left (Nat.mul_le_mul_right _ hj)]
theorem OwnN.ofLit (cs:Array Value) (hB:B≤w.heap.size) (hm:n≤maxLen) (hs:cs.size=n * size):OwnN (w.alloc (.cells cs e)) B e size (.slice (some ⟨w.heap.size,0,none⟩) n n) n cs.toList :=
 World.ownsRow_lit w cs n hB hm hs
end
section
variable {P:Program}
theorem run_appN {t e:TypeId} {z:Value} {size bytes:Nat} (T:SliceOfN P t e z size bytes) (ty:TypeId) (W:World) (B B':Nat) (v:Value) (n m:Nat) (xs ys:List Value) (A:Option Addr) (c:Nat)
 (hown:OwnN W B e size v n xs) (hsrc:Lies W B' A ys) (hm:ys.length=m * size) (h1:∀ u∈ys,u.oneCell'=true) (hB:B≤W.heap.size)
 (hlen:n+m≤maxLen) (hby:(n+m) * bytes≤140737488355328) :
 ∃ v' w',(Builtin.append_ #[t,t] ty #[v,.slice A m c]).run P W=.ok v' w'∧OwnN w' B e size v' (n+m) (xs++ys)∧W.grownBy w' v.ownBlock∧(v'.ownBlock=v.ownBlock∨v'.ownBlock=some W.heap.size):=by
 obtain ⟨i,hi,hz0,hz1,hz2⟩:=info_parts T.elem
 rcases A with _ | p
 ·have hy:ys=[]:=by
   rcases ys with _ | ⟨y,ys⟩
   ·rfl
   ·obtain ⟨q,hq,_⟩:=hsrc (by simp)
    cases hq
  subst hy
  obtain rfl:m=0:=by
   have:=T.pos
   rcases Nat.eq_zero_or_pos m with h | h
   ·exact h
   ·have:=Nat.mul_pos h T.pos;simp at hm;omega
  refine ⟨v,W,?_,by simpa using hown,World.grownBy.refl W _,.inl rfl⟩
  rcases hown.2 with ⟨rfl,_⟩ | ⟨g,cap,cur,rfl,_,_,hnc,_⟩
  ·simp [Builtin.append_,run_underlying T.slice,sizeOf,typeInfo,hi,Builtin.lenOf,Builtin.firstCells]
  ·simp [Builtin.append_,run_underlying T.slice,sizeOf,typeInfo,hi,Builtin.lenOf,Builtin.firstCells,hnc,storeCells]
 ·have hcells:∀ j u,ys[j]?=some u→W.cell? (p.add j)=some u:=by
   intro j u hu
   obtain ⟨q,hq,_,hc⟩:=hsrc (by intro e;subst e;simp at hu)
   injection hq with hq
   subst hq
   exact hc j u hu
  obtain ⟨v',w',hr,h2,h3,_,h5⟩:=run_append_own_at (P:=P) W B t ty e i z size bytes T.slice hi hz0 hz1 hz2 T.wide T.pos v n xs hown p m c ys hm hcells h1 hlen hby hB
  exact ⟨v',w',hr,h2,h3,h5⟩
variable {ops:Array Oper} {o:Oper} {a:Act} {K:Act→World→Prop} {Q:Exit→Act→World→Prop} {E:Prop}
theorem step_appN {t e:TypeId} {z:Value} {size bytes:Nat} (T:SliceOfN P t e z size bytes) (w0 W:World) (B B':Nat) (s x:Operand) (v:Value) (n m:Nat) (xs ys:List Value) (A:Option Addr) (c:Nat)
 (hgd:o.guard=none) (ho:o.op=.call { callee:=.builtin .append,args:=#[s,x],argTypes:=#[t,t] })
 (hs:a.eval s=v) (hx:a.eval x=.slice A m c)
 (hown:OwnN W B e size v n xs) (hsrc:Lies W B' A ys) (hm:ys.length=m * size) (h1:∀ u∈ys,u.oneCell'=true) (hb:Below B w0 W) (hB:B≤W.heap.size)
 (hlen:n+m≤maxLen) (hby:(n+m) * bytes≤140737488355328)
 (h:∀ v' w',OwnN w' B e size v' (n+m) (xs++ys)→Below B w0 w'→W.grownBy w' v.ownBlock→(v'.ownBlock=v.ownBlock∨∃ g,v'.ownBlock=some g∧W.heap.size≤g)→K (a.put o.dst v') w') :
 if Region.wanted o (yielded ops a.tmps)=true then Oper.wp P o a W K Q else E:=by
 have hw:Region.wanted o (yielded ops a.tmps)=true:=by simp [Region.wanted,hgd]
 rw [if_pos hw]
 obtain ⟨v',w',hr,h2,h3,h4⟩:=run_appN T o.type W B B' v n m xs ys A c hown hsrc hm h1 hB hlen hby
 unfold Oper.wp execOp
 simp only [ho,resolve,invoke,builtin,Sem.run_bind,Sem.run_pure,Result.andThen_ok,List.map_toArray,List.map_cons,List.map_nil,hs,hx,hr]
 refine h v' w' h2 (hb.grown h3 hB (fun k hk=>(OwnN.inside hown k hk).1)) h3 ?_
 rcases h4 with h4 | h4
 ·exact .inl h4
 ·exact .inr ⟨_,h4,Nat.le_refl _⟩
end
theorem OwnN.weaken {w:World} {B B':Nat} {e:TypeId} {size n:Nat} {v:Value} {xs:List Value} (h:OwnN w B e size v n xs) (hB:B'≤B):OwnN w B' e size v n xs:=by
 refine ⟨h.1,?_⟩
 rcases h.2 with h2 | ⟨g,cap,cur,hv,hg,r⟩
 ·exact .inl h2
 ·exact .inr ⟨g,cap,cur,hv,by omega,r⟩
theorem OwnN.unlike {w:World} {B B':Nat} {e e':TypeId} {s s' n n':Nat} {v v':Value} {xs xs':List Value} (h:OwnN w B e s v n xs) (h':OwnN w B' e' s' v' n' xs') (he:e≠e'):v.ownBlock=none∨v.ownBlock≠v'.ownBlock:=by
 rcases h.2 with ⟨rfl,_⟩ | ⟨g,cap,cur,rfl,_,hh,_⟩
 ·exact .inl rfl
 ·rcases h'.2 with ⟨rfl,_⟩ | ⟨g',cap',cur',rfl,_,hh',_⟩
  ·exact .inr (by simp [Value.ownBlock])
  ·refine .inr fun e1=>?_
   have:g=g':=by simpa [Value.ownBlock] using e1
   subst this
   rw [hh] at hh'
   injection hh' with h1
   injection h1 with _ h2 _
   exact he h2
section
variable {P:Program} {ops:Array Oper} {rest:List Oper} {o:Oper} {a:Act} {K:Act→World→Prop} {Q:Exit→Act→World→Prop} {E:Prop}
theorem wp_store_cell {t e:TypeId} (W:World) (B:Nat) (x y:Operand) (g j c:Nat) (u:Value) (xs:List Value) (w0:World)
 (hd:o.dst=none) (ho:o.op=.store t x y) (ht:(P.info? t).map (·.size)=some 1) (hu:u.oneCell'=true) (hx:a.eval x=.pointer (some ⟨g,j,none⟩)) (hy:a.eval y=u) (hr:OwnN W B e 1 (.slice (some ⟨g,0,none⟩) xs.length c) xs.length xs) (hj:j < xs.length) (hb:Below B w0 W)
 (h:∀ w',OwnN w' B e 1 (.slice (some ⟨g,0,none⟩) xs.length c) xs.length (xs.set j u)→Below B w0 w'→W.grownBy w' (some g)→K a w'):Oper.wp P o a W K Q:=by
 have hcell:W.cell? ⟨g,j,none⟩=some xs[j]:=by
  have:=World.ownsRow.cellAt hr j (by omega)
  rw [this,List.getElem?_eq_getElem hj]
 have hfree:W.frozen? ⟨g,j,none⟩=false:=World.ownsRow.frozenAt hr j
 have hst:=World.ownsRow.stored hr j u
 have hin:=(OwnN.inside hr) g rfl
 obtain ⟨i,hi,hz1⟩:∃ i,P.info? t=some i∧i.size=1:=by
  cases hh:P.info? t with
  | none=>rw [hh] at ht;cases ht
  | some i=>rw [hh] at ht;exact ⟨i,rfl,by simpa using ht⟩
 unfold Oper.wp
 obtain ⟨dst,op,ty,pos,after,guard⟩:=o
 obtain rfl:dst=none:=hd
 obtain rfl:op=.store t x y:=ho
 simp [execOp,hx,hy,Instr.storeAt,Instr.sureAddr]
 cases u with
 | agg cs=>cases hu
 | tuple cs=>cases hu
 | _ =>
  all_goals
   go_simp
   simp only [sizeOf,typeInfo,Sem.run_bind,Sem.run_pure]
   go_simp
   first
    | exact h _ hst.1 (hb.setCell hin.1 _) hst.2
    | (rw [run_store P W _ _ _ rfl];simp only [hcell,hfree];exact h _ hst.1 (hb.setCell hin.1 _) hst.2)
theorem store_cell {t e:TypeId} (W:World) (B:Nat) (x y:Operand) (g j c:Nat) (u:Value) (xs:List Value) (w0:World)
 (hgd:o.guard=none) (hd:o.dst=none) (ho:o.op=.store t x y) (ht:(P.info? t).map (·.size)=some 1) (hu:u.oneCell'=true) (hx:a.eval x=.pointer (some ⟨g,j,none⟩)) (hy:a.eval y=u) (hr:OwnN W B e 1 (.slice (some ⟨g,0,none⟩) xs.length c) xs.length xs) (hj:j < xs.length) (hb:Below B w0 W)
 (h:∀ w',OwnN w' B e 1 (.slice (some ⟨g,0,none⟩) xs.length c) xs.length (xs.set j u)→Below B w0 w'→W.grownBy w' (some g)→wpList P ops Q rest a w'):wpList P ops Q (o :: rest) a W :=
 wpList_plain hgd fun _ hK'=>wp_store_cell W B x y g j c u xs w0 hd ho ht hu hx hy hr hj hb (fun w' h1 h2 h3=>hK' _ _ (h w' h1 h2 h3))
theorem step_store {t e:TypeId} (W:World) (B:Nat) (x y:Operand) (g j c:Nat) (u:Value) (xs:List Value) (w0:World)
 (hgd:o.guard=none) (hd:o.dst=none) (ho:o.op=.store t x y) (ht:(P.info? t).map (·.size)=some 1) (hu:u.oneCell'=true) (hx:a.eval x=.pointer (some ⟨g,j,none⟩)) (hy:a.eval y=u) (hr:OwnN W B e 1 (.slice (some ⟨g,0,none⟩) xs.length c) xs.length xs) (hj:j < xs.length) (hb:Below B w0 W)
 (h:∀ w',OwnN w' B e 1 (.slice (some ⟨g,0,none⟩) xs.length c) xs.length (xs.set j u)→Below B w0 w'→W.grownBy w' (some g)→K a w') :
 if Region.wanted o (yielded ops a.tmps)=true then Oper.wp P o a W K Q else E:=by
 have hw:Region.wanted o (yielded ops a.tmps)=true:=by simp [Region.wanted,hgd]
 rw [if_pos hw]
 exact wp_store_cell W B x y g j c u xs w0 hd ho ht hu hx hy hr hj hb h
end
section
variable {P:Program} {ops:Array Oper} {rest:List Oper} {o:Oper} {a:Act} {Q:Exit→Act→World→Prop}
theorem appN_at {t e:TypeId} {z:Value} {size bytes:Nat} (T:SliceOfN P t e z size bytes) (w0 W:World) (B B':Nat) (s x:Operand) (v:Value) (n m:Nat) (xs ys:List Value) (A:Option Addr) (c:Nat)
 (hgd:o.guard=none) (ho:o.op=.call { callee:=.builtin .append,args:=#[s,x],argTypes:=#[t,t] })
 (hs:a.eval s=v) (hx:a.eval x=.slice A m c)
 (hown:OwnN W B e size v n xs) (hsrc:Lies W B' A ys) (hm:ys.length=m * size) (h1:∀ u∈ys,u.oneCell'=true) (hb:Below B w0 W) (hB:B≤W.heap.size)
 (hlen:n+m≤maxLen) (hby:(n+m) * bytes≤140737488355328)
 (h:∀ v' w',OwnN w' B e size v' (n+m) (xs++ys)→Below B w0 w'→W.grownBy w' v.ownBlock→(v'.ownBlock=v.ownBlock∨∃ g,v'.ownBlock=some g∧W.heap.size≤g)→wpList P ops Q rest (a.put o.dst v') w'):wpList P ops Q (o :: rest) a W :=
 wpList_step fun _ hK=>step_appN T w0 W B B' s x v n m xs ys A c hgd ho hs hx hown hsrc hm h1 hb hB hlen hby (fun v' w' h2 h3 h4 h5=>hK _ _ (h v' w' h2 h3 h4 h5))
end
end
section
open Go.RowKit
def Row (w:World) (B:Nat) (e:TypeId) (g c:Nat) (xs:List Value):Prop:=Own w B e (.slice (some ⟨g,0,none⟩) xs.length c) xs
section
variable {w w':World} {B:Nat} {e:TypeId} {g c:Nat} {xs:List Value}
theorem Row.own (h:Row w B e g c xs) {n:Nat} (hn:n=xs.length):Own w B e (.slice (some ⟨g,0,none⟩) n c) xs:=hn▸h
theorem Row.cell (h:Row w B e g c xs) {j:Nat} (hj:j < xs.length):w.cell? ⟨g,j,none⟩=some xs[j]:=by
 have:=World.ownsRow.cellAt (h:w.ownsRow B e 1 _ _ xs) j (by omega)
 rw [this,List.getElem?_eq_getElem hj]
theorem Row.free (h:Row w B e g c xs) (j:Nat):w.frozen? ⟨g,j,none⟩=false:=World.ownsRow.frozenAt (h:w.ownsRow B e 1 _ _ xs) j
theorem Row.set (h:Row w B e g c xs) (j:Nat) (u:Value):Row (w.setCell ⟨g,j,none⟩ u) B e g c (xs.set j u):=by
 have:=(World.ownsRow.stored (h:w.ownsRow B e 1 _ _ xs) j u).1
 unfold Row Own
 rw [List.length_set]
 exact this
theorem Row.inside (h:Row w B e g c xs):B≤g∧g < w.heap.size:=Own.inside h g rfl
theorem Row.below (h:Row w B e g c xs) {C:Nat} (hb:Below C w w') (hC:w.heap.size≤C):Row w' B e g c xs:=Own.below h hb hC
theorem Row.alloc (h:Row w B e g c xs) (o:Obj):Row (w.alloc o) B e g c xs:=Own.alloc h o
theorem Row.setB {w0:World} (hb:Below B w0 w) (h:Row w B e g c xs) (j:Nat) (u:Value):Below B w0 (w.setCell ⟨g,j,none⟩ u):=hb.setCell h.inside.1 u
variable {P:Program} {ops:Array Oper} {rest:List Oper} {o:Oper} {a:Act} {Q:Exit→Act→World→Prop}
end
end
section
open Go.RowKit
section
variable {w w' W:World} {B:Nat} {e:TypeId} {v:Value} {xs:List Value}
theorem Own.short (h:Own w B e v xs) {j:Nat} (hj:j≤xs.length):∃ A c,v=.slice A xs.length c∧xs.length≤c∧Own w B e (.slice A j c) (xs.take j):=by
 rcases h.2 with ⟨rfl,hn⟩ | ⟨g,cap,cur,rfl,hg,hh,hc,hm,hs,ht⟩
 ·refine ⟨none,0,by rw [hn],by omega,?_⟩
  obtain rfl:j=0:=by omega
  exact Own.empty _ _ _
 ·refine ⟨_,cap,rfl,hc,?_⟩
  unfold Own
  rw [List.length_take,Nat.min_eq_left hj]
  refine ⟨by simp;omega,.inr ⟨g,cap,cur,rfl,hg,hh,by omega,hm,hs,?_⟩⟩
  rw [← ht,List.take_take,Nat.min_eq_left (by omega),Nat.mul_one]
variable {P:Program} {ops:Array Oper} {rest:List Oper} {o:Oper} {a:Act} {Q:Exit→Act→World→Prop}
end
theorem Row.drewN {w:World} {B:Nat} {e:TypeId} {g c:Nat} {xs:List Value} (h:Row w B e g c xs) (n:Nat):Row (w.drewN n) B e g c xs:=h
theorem Row.keep {w w':World} {B:Nat} {e:TypeId} {g c:Nat} {xs:List Value} {row:Option Nat} (h:Row w B e g c xs) (hg:w.grownBy w' row) (hr:row≠some g):Row w' B e g c xs :=
 Own.keep h hg (.inr fun e=>hr e.symm)
theorem fresh_ne {v v':Value} {W:World} {g:Nat} (h:v.ownBlock≠some g) (hg:g < W.heap.size) (hv:v'.ownBlock=v.ownBlock∨∃ q,v'.ownBlock=some q∧W.heap.size≤q):v'.ownBlock≠some g:=by
 rcases hv with hv | ⟨q,hv,hq⟩
 ·rw [hv];exact h
 ·rw [hv];intro e;injection e with e;omega
section
variable {P:Program}
variable {ops:Array Oper} {rest:List Oper} {o:Oper} {a:Act} {Q:Exit→Act→World→Prop}
end
end
section
open Go.RowKit
theorem Lies.short {w:World} {B:Nat} {A:Option Addr} {l:List Int} (h:Lies w B A (ints .i64 l)) (k:Nat):Lies w B A (ints .i64 (l.take k)):=by
 intro hne
 have hl:ints .i64 l≠[]:=by
  intro e
  apply hne
  have:l=[]:=by simpa [ints] using e
  subst this;simp [ints]
 obtain ⟨p,hA,hp,hc⟩:=h hl
 refine ⟨p,hA,hp,fun i u hu=>hc i u ?_⟩
 rw [ints,List.map_take] at hu
 rw [List.getElem?_take] at hu
 split at hu
 ·exact hu
 ·cases hu
section
variable {P:Program} {ops:Array Oper} {rest:List Oper} {o:Oper} {a:Act} {Q:Exit→Act→World→Prop}
end
end
section
open Go.RowKit
def prC (L:List (Int×Int)):List Value:=L.flatMap fun p=>[.int .i64 p.1,.int .i64 p.2]
theorem prC_append (a b:List (Int×Int)):prC (a++b)=prC a++prC b:=by simp [prC]
theorem prC_one (L:List (Int×Int)):∀ u∈prC L,u.oneCell'=true:=by
 intro u hu
 unfold prC at hu
 obtain ⟨r,_,hu⟩:=List.mem_flatMap.1 hu
 simp at hu
 rcases hu with rfl | rfl <;> rfl
theorem prC_length (L:List (Int×Int)):(prC L).length=L.length * 2:=by
 induction L with
 | nil=>rfl
 | cons r L ih=>rw [show prC (r :: L)=[.int .i64 r.1,.int .i64 r.2]++prC L from rfl,List.length_append,ih];simp;omega
theorem prC_get (L:List (Int×Int)):∀ j (hj:j < L.length),(prC L)[j * 2]?=some (.int .i64 L[j].1)∧(prC L)[j * 2+1]?=some (.int .i64 L[j].2):=by
 induction L with
 | nil=>intro j hj;simp at hj
 | cons r L ih =>
  intro j hj
  rw [show prC (r :: L)=[.int .i64 r.1,.int .i64 r.2]++prC L from rfl]
  cases j with
  | zero=>exact ⟨rfl,rfl⟩
  | succ j =>
   obtain ⟨h1,h2⟩:=ih j (by simpa using hj)
   rw [List.getElem?_append_right (by simp;omega),List.getElem?_append_right (by simp;omega)]
   simp only [List.length_cons,List.length_nil,List.getElem_cons_succ]
   rw [show (j+1) * 2 - (0+1+1)=j * 2 by omega,show (j+1) * 2+1 - (0+1+1)=j * 2+1 by omega]
   exact ⟨h1,h2⟩
theorem prC_at {w:World} {B:Nat} {A:Option Addr} {L:List (Int×Int)} (h:Lies w B A (prC L)) {j:Nat} (hj:j < L.length) :
 ∃ g off,A=some ⟨g,off,none⟩∧g < B∧w.cell? ⟨g,off+j * 2,none⟩=some (.int .i64 L[j].1)∧w.cell? ⟨g,off+j * 2+1,none⟩=some (.int .i64 L[j].2):=by
 have hl:=prC_length L
 obtain ⟨g,off,hA,hg,hc⟩:=Lies.plain h (by omega)
 obtain ⟨h1,h2⟩:=prC_get L j hj
 have k1:=hc (j * 2) (by omega)
 have k2:=hc (j * 2+1) (by omega)
 rw [← Nat.add_assoc] at k2
 refine ⟨g,off,hA,hg,?_,?_⟩
 ·rw [k1,← List.getElem?_eq_getElem,h1]
 ·rw [k2,← List.getElem?_eq_getElem,h2]
end
section
open Go.RowKit
theorem rgT:SliceOfN Tryz.prog 22 66 (.agg #[.int .i64 0,.int .i64 0]) 2 16:=⟨by kernel_rfl,by kernel_rfl,rfl,by decide⟩
theorem rhas16_any (w:World) (B:Nat) (A:Option Addr) (R:List (Int×Int)) (c:Nat) (x:Int) (h:Lies w B A (prC R)) (hl:R.length≤1000000) :
 Calls Tryz.prog 117 #[.slice A R.length c,.int .i64 x] w fun e w'=>e=.returned (.bool (hasR R x))∧w=w':=by
 have HL:=qh h
 obtain ⟨z,hz⟩:∃ z,hasR R x=z:=⟨_,rfl⟩
 have HZ:=qh hz
 rw [hz]
 clear h hz
 go_enter Tryz.func117,Tryz.ntmps117
 go_wp2_with fail
 go_loopw [5] (fun iv wr=>∃ k:Nat,k≤R.length∧iv=.int .i64 k∧Hid (hasR (R.take k) x=false)∧wr=w) (fun iv _=>R.length - (intOf iv).toNat)
 case atStart=>exact ⟨0,by omega,rfl,qh rfl,rfl⟩
 case round =>
  obtain ⟨k,hk,rfl,HN,rfl⟩:=hrel
  by_cases hlt:k < R.length
  ·obtain ⟨g,off,rfl,-,c0,c1⟩:=prC_at HL.out hlt
   have HS:Hid (hasR (R.take (k+1)) x=(decide (R[k].1≤x) && decide (x≤R[k].2))):=qh (by rw [List.take_succ_eq_append_getElem hlt,hasR_append,HN.out];simp [hasR,inR])
   have HM:Hid (R[k]∈R):=qh (List.getElem_mem hlt)
   have HY:Hid (decide (R[k].1≤x)=true→decide (x≤R[k].2)=true→z=true):=qh (fun h1 h2=>by rw [← HZ.out];exact hasR_iff.2 ⟨_,HM.out,of_decide_eq_true h1,of_decide_eq_true h2⟩)
   obtain ⟨lo,hlo⟩:∃ y,R[k].1=y:=⟨_,rfl⟩
   obtain ⟨hi,hhi⟩:∃ y,R[k].2=y:=⟨_,rfl⟩
   rw [hlo] at c0 HS HY
   rw [hhi] at c1 HS HY
   have k0:(0:Int)≤(k:Int):=by omega
   have k1:(k:Int) < (R.length:Int):=by omega
   clear hlo hhi HM
   rcases d1:decide (lo≤x) with _ | _
   ·rw [d1] at HS
    go_wp2_with fail
    go_roundw
    case rel=>exact ⟨k+1,by omega,by go_num,qh (by rw [HS.out];rfl),trivial⟩
    case measure=>simp [intOf];omega
   ·rcases d2:decide (x≤hi) with _ | _
    ·rw [d1,d2] at HS
     go_wp2_with fail
     go_roundw
     case rel=>exact ⟨k+1,by omega,by go_num,qh (by rw [HS.out];rfl),trivial⟩
     case measure=>simp [intOf];omega
    ·have hzt:=HY.out d1 d2
     subst hzt
     go_wp2_with fail
     go_ret
     exact ⟨rfl,rfl⟩
  ·obtain rfl:k=R.length:=by omega
   have hzf:z=false:=by rw [← HZ.out];have:=HN.out;rwa [List.take_length] at this
   subst hzf
   go_wp2_with fail
   go_ret
   exact ⟨rfl,rfl⟩
theorem rone16_any (x:Int) (w:World):Calls Tryz.prog 87 #[.int .i64 x] w fun e w'=>e=.returned (.agg #[.int .i64 x,.int .i64 x])∧Below w.heap.size w w':=by
 go_enter Tryz.func87,Tryz.ntmps87
 go_wp2
 (try simp only [Exit.inBlock,Exit.then])
 refine bodyPost_ret (v:=.agg #[.int .i64 x,.int .i64 x]) ?_ rfl ⟨rfl,below_alloc w _⟩
 exact results_cell_row rfl _ _ w.heap.size 66 _ (0,0) _ rfl (Go.heap_alloc_new w _) Tryz.underlying66 rfl (by kernel_rfl)
theorem eq_rg (a b c d:Int) (w:World):(Op.equalIn 10000 66 (.agg #[.int .i64 a,.int .i64 b]) (.agg #[.int .i64 c,.int .i64 d])).run Tryz.prog w=.ok (a == c && b == d) w:=by
 have u3:=Tryz.underlying3
 have a3:=Tryz.isAgg3
 have z3:=Tryz.sizeOf3
 have hS:Tryz.prog.underlying 66=some (.struct (Tryz.prog.fieldsOf 66)):=by kernel_rfl
 have hp:Tryz.prog.stoodInHeld 66=false:=by kernel_rfl
 rw [show (10000:Nat)=9999+1 from rfl,run_equalIn_agg w 9999 66 _ _ hS hp]
 simp only [Program.fieldsOf,Tryz.underlying66]
 go_simp
 by_cases h1:a=c <;> by_cases h2:b=d <;> simp [h1,h2]
theorem rsamesets_any (w:World) (B B':Nat) (A A':Option Addr) (R R':List (Int×Int)) (c c':Nat) (h:Lies w B A (prC R)) (h':Lies w B' A' (prC R')) (hl:R.length≤1000000) (_:R'.length≤1000000) :
 Calls Tryz.prog 28 #[.slice A R.length c,.slice A' R'.length c'] w fun e w'=>e=.returned (.bool (decide (R=R')))∧Below w.heap.size w w':=by
 have H:=qh h
 have H':=qh h'
 clear h h'
 by_cases hn:R.length=R'.length
 ·have hd:((R.length:Int) != (R'.length:Int))=false:=by simp [hn]
  have HN:=qh hn
  obtain ⟨z,hz⟩:∃ z,decide (R=R')=z:=⟨_,rfl⟩
  have HZ:=qh hz
  rw [hz]
  clear hn hz
  go_enter Tryz.func28,Tryz.ntmps28
  go_wp2_with fail
  go_loopw [5] (fun i wr=>∃ k n:Nat,k≤R.length∧i=.int .i64 k∧Hid (R.take k=R'.take k)∧wr=w.drewN n) (fun i _=>R.length - (intOf i).toNat)
  case atStart=>exact ⟨0,0,by omega,rfl,qh rfl,rfl⟩
  case round =>
   obtain ⟨k,n,hk,rfl,HE,rfl⟩:=hrel
   by_cases hlt:k < R.length
   ·have hlt':k < R'.length:=by have:=HN.out;omega
    obtain ⟨g,off,rfl,-,c0,c1⟩:=prC_at H.out hlt
    obtain ⟨g',off',rfl,-,c0',c1'⟩:=prC_at H'.out hlt'
    have b0:(0:Int)≤(k:Int):=by omega
    have b1:(k:Int) < (R.length:Int):=by omega
    have b2:(k:Int) < (R'.length:Int):=by omega
    have HNX:Hid (R[k]=R'[k]→R.take (k+1)=R'.take (k+1)):=qh fun e=>by rw [List.take_succ_eq_append_getElem hlt,List.take_succ_eq_append_getElem hlt',HE.out,e]
    have HNO:Hid (R[k]≠R'[k]→z=false):=qh fun e=>by
     rw [← HZ.out]
     refine decide_eq_false fun e2=>e ?_
     subst e2;rfl
    obtain ⟨p,hp⟩:∃ x,R[k]=x:=⟨_,rfl⟩
    obtain ⟨q,hq⟩:∃ x,R'[k]=x:=⟨_,rfl⟩
    rw [hp] at c0 c1 HNX HNO
    rw [hq] at c0' c1' HNX HNO
    obtain ⟨p1,p2⟩:=p
    obtain ⟨q1,q2⟩:=q
    simp only at c0 c1 c0' c1'
    have heq:=fun u=>eq_rg p1 p2 q1 q2 u
    clear hp hq
    rcases hx:(p1 == q1) with _ | _
    ·have hzf:=HNO.out (fun e=>by injection e with e1 e2;subst e1;simp at hx)
     subst hzf
     go_wp2_with fail
     go_quiet (fail)
     go_wp2_with fail
     go_ret
     exact ⟨rfl,below_drawn (below_drawn (Below.refl _ _) _) _⟩
    ·rcases hy:(p2 == q2) with _ | _
     ·have hzf:=HNO.out (fun e=>by injection e with e1 e2;subst e2;simp at hy)
      subst hzf
      go_wp2_with fail
      go_quiet (fail)
      go_wp2_with fail
      go_ret
      exact ⟨rfl,below_drawn (below_drawn (Below.refl _ _) _) _⟩
     ·have HX:=HNX.out (by rw [show p1=q1 by simpa using hx,show p2=q2 by simpa using hy])
      have HXH:=qh HX
      clear HX
      go_wp2_with fail
      go_quiet (fail)
      go_wp2_with fail
      go_roundw
      case rel=>exact ⟨k+1,n+nq,by omega,by go_num,HXH,rfl⟩
      case measure=>simp [intOf];omega
   ·obtain rfl:k=R.length:=by omega
    have hzt:z=true:=by
     rw [← HZ.out]
     refine decide_eq_true ?_
     have:=HE.out
     rw [List.take_length,List.take_of_length_le (by rw [HN.out];exact Nat.le_refl _)] at this
     exact this
    subst hzt
    go_wp2_with fail
    go_ret
    exact ⟨rfl,below_drawn (Below.refl _ _) _⟩
 ·have hd:((R.length:Int) != (R'.length:Int))=true:=bne_iff_ne.2 (by omega)
  have e:decide (R=R')=false:=decide_eq_false (fun e=>hn (by rw [e]))
  rw [e]
  clear hn e
  go_enter Tryz.func28,Tryz.ntmps28
  go_wp2_with fail
  go_ret
  exact ⟨rfl,Below.refl _ _⟩
end
section
def lowF (a:Int) (m:Int) (r:Int×Int):Int:=if a≤r.2∧r.1≤r.2∧max r.1 a < m then max r.1 a else m
def lowR (R:List (Int×Int)) (a:Int):Int:=R.foldl (lowF a) 1114112
theorem lowF_le (a m:Int) (r:Int×Int):lowF a m r≤m:=by unfold lowF;split <;> omega
theorem lowFold_le (a:Int):∀ (R:List (Int×Int)) (m:Int),R.foldl (lowF a) m≤m
 | [],_=>Int.le_refl _
 | r :: R,m=>by
  have h1:=lowFold_le a R (lowF a m r)
  have h2:=lowF_le a m r
  simp only [List.foldl_cons];omega
theorem lowFold_ge (a:Int):∀ (R:List (Int×Int)) (m:Int),a≤m→a≤R.foldl (lowF a) m
 | [],_,h=>h
 | r :: R,m,h=>lowFold_ge a R _ (by unfold lowF;split <;> omega)
theorem lowFold_is (a:Int):∀ (R:List (Int×Int)) (m:Int),R.foldl (lowF a) m=m∨hasR R (R.foldl (lowF a) m)=true
 | [],_=>.inl rfl
 | r :: R,m=>by
  simp only [List.foldl_cons]
  rcases lowFold_is a R (lowF a m r) with h | h
  ·by_cases hc:a≤r.2∧r.1≤r.2∧max r.1 a < m
   ·right
    rw [h,hasR_cons]
    have e:lowF a m r=max r.1 a:=by unfold lowF;rw [if_pos hc]
    rw [e,show inR r (max r.1 a)=true by simp [inR];omega];rfl
   ·left;rw [h];unfold lowF;rw [if_neg hc]
  ·right;rw [hasR_cons,h];simp
theorem lowFold_none (a:Int):∀ (R:List (Int×Int)) (m c:Int),a≤c→c < R.foldl (lowF a) m→hasR R c=false
 | [],_,_,_,_=>rfl
 | r :: R,m,c,ha,hc=>by
  simp only [List.foldl_cons] at hc
  rw [hasR_cons,lowFold_none a R _ c ha hc,Bool.or_false]
  have h1:=lowFold_le a R (lowF a m r)
  have h2:c < lowF a m r:=by omega
  have h3:=lowF_le a m r
  unfold lowF at h2
  split at h2
  ·simp [inR];omega
  ·rename_i hn
   simp only [inR,Bool.and_eq_false_iff,decide_eq_false_iff_not]
   omega
theorem lowR_spec {R:List (Int×Int)} {a:Int} (h:a≤1114112):a≤lowR R a∧lowR R a≤1114112∧(lowR R a < 1114112→hasR R (lowR R a)=true)∧∀ c,a≤c→c < lowR R a→hasR R c=false :=
 ⟨lowFold_ge a R _ h,lowFold_le a R _,fun hlt=>by
  rcases lowFold_is a R 1114112 with h1 | h1
  ·unfold lowR at hlt;omega
  ·exact h1,fun c h1 h2=>lowFold_none a R _ c h1 h2⟩
def hiF (h:Int) (r:Int×Int):Int:=if r.1≤h+1∧h < r.2 then min 1114111 r.2 else h
def passR (R:List (Int×Int)) (h:Int):Int:=R.foldl hiF h
def itR (R:List (Int×Int)) (h:Int):Nat→Int
 | 0=>h
 | n+1=>passR R (itR R h n)
theorem hiF_ge {h:Int} (r:Int×Int) (hh:h≤1114111):h≤hiF h r∧hiF h r≤1114111:=by unfold hiF;split <;> omega
theorem passR_ge:∀ (R:List (Int×Int)) (h:Int),h≤1114111→h≤passR R h∧passR R h≤1114111
 | [],_,hh=>⟨Int.le_refl _,hh⟩
 | r :: R,h,hh=>by
  have h1:=hiF_ge r hh
  have h2:=passR_ge R (hiF h r) h1.2
  show h≤passR R (hiF h r)∧passR R (hiF h r)≤1114111
  omega
theorem passR_all (Q:List (Int×Int)) (lo:Int):∀ (R:List (Int×Int)) (h:Int),(∀ r∈R,r∈Q)→(∀ c,lo≤c→c≤h→hasR Q c=true)→∀ c,lo≤c→c≤passR R h→hasR Q c=true
 | [],_,_,hh=>hh
 | r :: R,h,hs,hh=>passR_all Q lo R (hiF h r) (fun q hq=>hs q (by simp [hq])) fun c h0 h1=>by
  unfold hiF at h1
  split at h1
  ·rename_i hc
   by_cases hle:c≤h
   ·exact hh c h0 hle
   ·exact hasR_iff.2 ⟨r,hs r (by simp),by omega,by omega⟩
  ·exact hh c h0 h1
theorem passR_reach:∀ (R:List (Int×Int)) (h:Int) (r:Int×Int),h≤1114111→r∈R→r.1≤h+1→h < r.2→h=1114111∨h < passR R h
 | [],_,_,_,hr,_,_=>by cases hr
 | q :: R,h,r,hh,hr,h1,h2=>by
  have g1:=hiF_ge q hh
  have g2:=passR_ge R (hiF h q) g1.2
  show h=1114111∨h < passR R (hiF h q)
  by_cases hq:hiF h q=h
  ·rcases List.mem_cons.1 hr with rfl | hr
   ·unfold hiF at hq
    rw [if_pos ⟨h1,h2⟩] at hq
    left;omega
   ·rw [hq];exact passR_reach R h r hh hr h1 h2
  ·right;omega
theorem passR_is:∀ (R:List (Int×Int)) (h:Int),h≤1114111→passR R h=h∨passR R h=1114111∨∃ r∈R,h < r.2∧passR R h=r.2
 | [],_,_=>.inl rfl
 | q :: R,h,hh=>by
  have g1:=hiF_ge q hh
  show passR R (hiF h q)=h∨passR R (hiF h q)=1114111∨∃ r∈q :: R,h < r.2∧passR R (hiF h q)=r.2
  rcases passR_is R (hiF h q) g1.2 with h1 | h1 | ⟨r,hr,h2,h3⟩
  ·rw [h1]
   unfold hiF
   split
   ·rename_i hc
    by_cases hle:q.2≤1114111
    ·exact .inr (.inr ⟨q,by simp,hc.2,by omega⟩)
    ·exact .inr (.inl (by omega))
   ·exact .inl rfl
  ·exact .inr (.inl h1)
  ·exact .inr (.inr ⟨r,by simp [hr],by omega,h3⟩)
def cntR (R:List (Int×Int)) (h:Int):Nat:=(R.filter fun r=>decide (h < r.2)).length
theorem cntR_le (R:List (Int×Int)) (h:Int):cntR R h≤R.length:=List.length_filter_le _ _
theorem cntR_mono:∀ (R:List (Int×Int)) (h v:Int),h≤v→cntR R v≤cntR R h
 | [],_,_,_=>Nat.le_refl _
 | r :: R,h,v,hh=>by
  have:=cntR_mono R h v hh
  unfold cntR at this ⊢
  by_cases h1:v < r.2
  ·rw [List.filter_cons_of_pos (by simpa using h1),List.filter_cons_of_pos (by simp;omega)];simpa using this
  ·rw [List.filter_cons_of_neg (by simpa using h1)]
   by_cases h2:h < r.2
   ·rw [List.filter_cons_of_pos (by simpa using h2)];simp;omega
   ·rw [List.filter_cons_of_neg (by simpa using h2)];exact this
theorem cntR_less:∀ (R:List (Int×Int)) (h v:Int),h≤v→(∃ r∈R,h < r.2∧r.2≤v)→cntR R v < cntR R h
 | [],_,_,_,he=>by obtain ⟨r,hr,_⟩:=he;cases hr
 | r :: R,h,v,hh,⟨q,hq,h1,h2⟩=>by
  have hm:=cntR_mono R h v hh
  rcases List.mem_cons.1 hq with rfl | hq
  ·unfold cntR at hm ⊢
   rw [List.filter_cons_of_neg (by simp;omega),List.filter_cons_of_pos (by simpa using h1)];simp;omega
  ·have:=cntR_less R h v hh ⟨q,hq,h1,h2⟩
   unfold cntR at this ⊢
   by_cases h3:v < r.2
   ·rw [List.filter_cons_of_pos (by simpa using h3),List.filter_cons_of_pos (by simp;omega)];simpa using this
   ·rw [List.filter_cons_of_neg (by simpa using h3)]
    by_cases h4:h < r.2
    ·rw [List.filter_cons_of_pos (by simpa using h4)];simp;omega
    ·rw [List.filter_cons_of_neg (by simpa using h4)];exact this
theorem itR_ge (R:List (Int×Int)) {h:Int} (hh:h≤1114111):∀ n,h≤itR R h n∧itR R h n≤1114111
 | 0=>⟨Int.le_refl _,hh⟩
 | n+1=>by
  have h1:=itR_ge R hh n
  have h2:=passR_ge R _ h1.2
  show h≤passR R (itR R h n)∧_
  exact ⟨by omega,h2.2⟩
theorem itR_stays (R:List (Int×Int)) {h:Int} (hh:h≤1114111):∀ n,passR R (itR R h n)=itR R h n∨itR R h n=1114111∨cntR R (itR R h n)+n≤R.length
 | 0=>.inr (.inr (by have:=cntR_le R h;simpa [itR] using this))
 | n+1=>by
  have hg:=itR_ge R hh n
  have hp:=passR_ge R (itR R h n) hg.2
  show passR R (passR R (itR R h n))=passR R (itR R h n)∨passR R (itR R h n)=1114111∨_
  rcases itR_stays R hh n with h1 | h1 | h1
  ·left;rw [h1,h1]
  ·right;left;omega
  ·rcases passR_is R (itR R h n) hg.2 with h2 | h2 | ⟨r,hr,h2,h3⟩
   ·left;rw [h2,h2]
   ·exact .inr (.inl h2)
   ·right;right
    have:=cntR_less R (itR R h n) (passR R (itR R h n)) hp.1 ⟨r,hr,h2,by omega⟩
    show cntR R (passR R (itR R h n))+(n+1)≤R.length
    omega
theorem itR_all (R:List (Int×Int)) {lo:Int} (h:hasR R lo=true):∀ n,∀ c,lo≤c→c≤itR R lo n→hasR R c=true
 | 0,c,h0,h1=>by
  have:c=lo:=by simp only [itR] at h1;omega
  rw [this];exact h
 | n+1,c,h0,h1=>passR_all R lo R (itR R lo n) (fun r hr=>hr) (itR_all R h n) c h0 h1
theorem itR_spec {R:List (Int×Int)} {lo:Int} (h:hasR R lo=true) (hl:lo≤1114111):lo≤itR R lo (R.length+1)∧itR R lo (R.length+1)≤1114111∧(∀ c,lo≤c→c≤itR R lo (R.length+1)→hasR R c=true)∧(itR R lo (R.length+1)=1114111∨hasR R (itR R lo (R.length+1)+1)=false):=by
 have hg:=itR_ge R hl (R.length+1)
 refine ⟨hg.1,hg.2,itR_all R h _,?_⟩
 rcases itR_stays R hl (R.length+1) with h1 | h1 | h1
 ·rcases hh:hasR R (itR R lo (R.length+1)+1) with _ | _
  ·exact .inr rfl
  ·obtain ⟨r,hr,h2,h3⟩:=hasR_iff.1 hh
   rcases passR_reach R _ r hg.2 hr h2 (by omega) with h4 | h4
   ·exact .inl h4
   ·omega
 ·exact .inl h1
 ·omega
end
end Go.Proofs.YtoeocodfndbebaaGreatDoor
