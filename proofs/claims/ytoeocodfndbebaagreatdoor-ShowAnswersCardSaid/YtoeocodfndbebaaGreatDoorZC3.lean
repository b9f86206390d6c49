/- Shared texts, shaken for one claim. -/
import Derived.Test.YtoeocodfndbebaaGreatDoorChecked
import Derived.Deep.MidRow
import Derived.Deep.OwnRows
import Derived.Laws.OwnMore
import Derived.Laws.Slices
import Derived.Test.YtoeocodfndbebaaGreatDoorZC1
import Derived.Test.YtoeocodfndbebaaGreatDoorZC2
set_option maxRecDepth 20000
set_option maxHeartbeats 16000000
namespace Go.Proofs.YtoeocodfndbebaaGreatDoor
section
open Go.RowKit Reckon
def Box (w:World) (g:Nat) (cs:Array Value) (e:TypeId):Prop:=w.heap[g]?=some (.cells cs e)
section
variable {w w':World} {g:Nat} {cs:Array Value} {e:TypeId}
theorem Box.lt (h:Box w g cs e):g < w.heap.size:=(Array.getElem?_eq_some_iff.1 h).1
theorem Box.new (w:World) (cs:Array Value) (e:TypeId):Box (w.alloc (.cells cs e)) w.heap.size cs e:=heap_alloc_new w _
theorem Box.cell (h:Box w g cs e) {i:Nat} {u:Value} (hi:cs[i]?=some u):w.cell? ⟨g,i,none⟩=some u:=by simp [World.cell?,show w.heap[g]?=_ from h,hi]
theorem Box.frozen (h:Box w g cs e) (i:Nat):w.frozen? ⟨g,i,none⟩=false:=by simp [World.frozen?,show w.heap[g]?=_ from h]
theorem Box.kept (h:Box w g cs e) {row:Option Nat} (hg:w.grownBy w' row) (hne:row≠some g):Box w' g cs e:=(hg.block g h.lt (fun e=>hne e.symm)).trans h
theorem Box.below (h:Box w g cs e) {B:Nat} (hb:Below B w w') (hB:g < B):Box w' g cs e:=(hb.block g hB).trans h
theorem Box.same (h:Box w g cs e) (hh:w'.heap=w.heap):Box w' g cs e:=by unfold Box;rw [hh];exact h
theorem Box.set (h:Box w g cs e) (i:Nat) (u:Value):Box (w.setCell ⟨g,i,none⟩ u) g (cs.setIfInBounds i u) e:=by
 show (w.setCell ⟨g,i,none⟩ u).heap[g]?=_
 simp [World.setCell,Array.getElem?_modify,show w.heap[g]?=_ from h]
end
theorem grown_set (w:World) (g i:Nat) (u:Value):w.grownBy (w.setCell ⟨g,i,none⟩ u) (some g) :=
 ⟨rfl,rfl,rfl,by simp [World.setCell],fun k hk hne=>Below.heap_setCell _ _ _ _ (fun e=>hne (by rw [e]))⟩
theorem grown_new (w:World) (o:Obj) (row:Option Nat):w.grownBy (w.alloc o) row:=World.grownBy_alloc w o row
theorem grown_draw {a w:World} {row:Option Nat} (h:a.grownBy w row):a.grownBy w.drew row:=⟨h.os,h.tape,h.output,h.size,h.block⟩
theorem grown_draws {a w:World} {row:Option Nat} (h:a.grownBy w row) (n:Nat):a.grownBy (w.drewN n) row:=⟨h.os,h.tape,h.output,h.size,h.block⟩
theorem grown_refl (w:World) (row:Option Nat):w.grownBy w row:=World.grownBy.refl w row
theorem below_row {B b:Nat} {w w':World} (h:w.grownBy w' (some b)) (hB:B≤b) (hw:B≤w.heap.size):Below B w w':=(Below.refl B w).grown h hw (fun k hk=>by injection hk with hk;omega)
theorem below_row_none {B:Nat} {w w':World} (h:w.grownBy w' none) (hw:B≤w.heap.size):Below B w w':=(Below.refl B w).grown h hw (fun k hk=>by cases hk)
theorem setCells_box (b:Nat):∀ (vs:List Value) (o:Nat) (w:World) (cs:Array Value) (e:TypeId),Box w b cs e→o+vs.length=cs.size→Box (w.setCells b o vs) b (cs.toList.take o++vs).toArray e∧w.grownBy (w.setCells b o vs) (some b)
 | [],o,w,cs,e,h,hn=>⟨by rw [List.append_nil,List.take_of_length_le (by simp at hn ⊢;omega)];exact h,grown_refl _ _⟩
 | v :: r,o,w,cs,e,h,hn=>by
  rw [World.setCells]
  have ho:o < cs.size:=by simp at hn;omega
  obtain ⟨h1,h2⟩:=setCells_box b r (o+1) _ _ e (h.set o v) (by simp at hn ⊢;omega)
  refine ⟨?_,(grown_set w b o v).trans h2⟩
  have e1:(cs.setIfInBounds o v).toList.take (o+1)=cs.toList.take o++[v]:=by
   rw [Array.toList_setIfInBounds,List.take_succ_eq_append_getElem (by simpa using ho),List.getElem_set_self,List.take_set_of_le (Nat.le_refl _)]
  rw [e1,List.append_assoc,List.singleton_append] at h1
  exact h1
section
variable {P:Program} {ops:Array Oper} {rest:List Oper} {o:Oper} {a:Act} {Q:Exit→Act→World→Prop}
theorem store_box {ty e:TypeId} (W:World) (x y:Operand) (g:Nat) (cs vs:Array Value)
 (hgd:o.guard=none) (hd:o.dst=none) (ho:o.op=.store ty x y) (hx:a.eval x=.pointer (some ⟨g,0,none⟩)) (hy:a.eval y=.agg vs) (hb:Box W g cs e) (hs:vs.size=cs.size)
 (hi:(P.info? ty).map (·.size)=some vs.size) (h1:vs.all (·.oneCell')=true)
 (h:∀ w',Box w' g vs e→W.grownBy w' (some g)→wpList P ops Q rest a w'):wpList P ops Q (o :: rest) a W:=by
 refine wpList_store_mid hgd ty x y ho g 0 vs hx hy (fun j hj=>?_) hi h1 ?_
 ·rw [Nat.zero_add]
  exact ⟨by rw [hb.cell (Array.getElem?_eq_getElem (show j < cs.size by omega))];rfl,hb.frozen j⟩
 ·obtain ⟨h2,h3⟩:=setCells_box g vs.toList 0 W cs e hb (by simp [hs])
  simp only [List.take_zero,List.nil_append,Array.toArray_toList] at h2
  have ha:a.put o.dst undef=a:=by rw [hd];rfl
  rw [ha]
  exact h _ h2 h3
theorem load_box {ty e:TypeId} {W:World} (x:Operand) (g:Nat) (cs:Array Value) (d:TypeDesc)
 (hgd:o.guard=none) (ho:o.op=.load ty x) (hx:a.eval x=.pointer (some ⟨g,0,none⟩)) (hb:Box W g cs e)
 (hu:P.underlying ty=some d) (hd:(match d with | .struct _ | .array _ _=>true | _=>false)=true) (hi:(P.info? ty).map (·.size)=some cs.size)
 (h:wpList P ops Q rest (a.put o.dst (.agg cs)) W):wpList P ops Q (o :: rest) a W :=
 wpList_load_row hgd ty x ho g hx e cs _ d hb hu hd hi h
end
/-! the reader -/
structure IsR (w:World) (b:Nat) (A:Option Addr) (l:List Int) (c k:Nat) (tv:Value) (T:List Tok):Prop where
 box:Box w b #[.slice A l.length c,.int .i64 k,tv] 114
 toks:OwnN w b 56 5 tv T.length (tokCells T)
 lies:Lies w b A (ints .i64 l)
 le:k≤l.length
 cap:l.length≤c
section
variable {w w':World} {b c k:Nat} {A:Option Addr} {l:List Int} {tv:Value} {T:List Tok}
theorem IsR.far (h:IsR w b A l c k tv T):tv.ownBlock≠some b:=fun e=>by
 rcases h.toks.2 with ⟨rfl,_⟩ | ⟨g,cap,cur,rfl,_,hh,_⟩
 ·cases e
 ·have:g=b:=by simpa [Value.ownBlock] using e
  subst this
  have hb:=h.box
  unfold Box at hb
  rw [hb] at hh
  injection hh with h1
  injection h1 with _ h2 _
  exact absurd h2 (by decide)
theorem IsR.lt (h:IsR w b A l c k tv T):b < w.heap.size:=h.box.lt
theorem IsR.kept (h:IsR w b A l c k tv T) {row:Option Nat} (hg:w.grownBy w' row) (h1:row≠some b) (h2:∀ g,row=some g→b≤g) (h3:tv.ownBlock=none∨tv.ownBlock≠row):IsR w' b A l c k tv T :=
 ⟨h.box.kept hg h1,h.toks.keep hg h3,h.lies.same (fun q hq=>World.cell?_of_block (hg.block q.block (by have:=h.lt;omega) (fun e=>by have:=h2 _ e.symm;omega))),h.le,h.cap⟩
theorem IsR.grown (h:IsR w b A l c k tv T) (hg:w.grownBy w' none):IsR w' b A l c k tv T:=h.kept hg (by simp) (fun g e=>by cases e) (by cases tv.ownBlock <;> simp)
theorem IsR.alloc (h:IsR w b A l c k tv T) (o:Obj):IsR (w.alloc o) b A l c k tv T:=h.grown (grown_new w o none)
theorem IsR.drew (h:IsR w b A l c k tv T):IsR w.drew b A l c k tv T:=h.grown (grown_draw (grown_refl w none))
theorem IsR.drewN (h:IsR w b A l c k tv T) (n:Nat):IsR (w.drewN n) b A l c k tv T:=h.grown (grown_draws (grown_refl w none) n)
theorem IsR.cells (h:IsR w b A l c k tv T):w.cell? ⟨b,0,none⟩=some (.slice A l.length c)∧w.cell? ⟨b,1,none⟩=some (.int .i64 k)∧w.cell? ⟨b,2,none⟩=some tv :=
 ⟨h.box.cell rfl,h.box.cell rfl,h.box.cell rfl⟩
theorem IsR.frozen (h:IsR w b A l c k tv T) (i:Nat):w.frozen? ⟨b,i,none⟩=false:=h.box.frozen i
theorem IsR.goes (h:IsR w b A l c k tv T) (k':Nat) (hk:k'≤l.length):IsR (w.setCell ⟨b,1,none⟩ (.int .i64 k')) b A l c k' tv T :=
 ⟨h.box.set 1 _,h.toks.keep (grown_set w b 1 _) (.inr h.far),h.lies.same (fun q hq=>World.cell?_of_block ((grown_set w b 1 _).block q.block (by have:=h.lt;omega) (fun e=>by injection e with e;omega))),hk,h.cap⟩
theorem IsR.char (h:IsR w b A l c k tv T) {i:Nat} (hi:i < l.length):∃ p:Addr,A=some p∧p.block < b∧w.cell? (p.add i)=some (.int .i64 l[i]):=h.lies.int hi
end
def Told (w:World) (b:Nat) (A:Option Addr) (l:List Int) (c:Nat) (tv:Value) (T:List Tok) {α:Type} (f:α→Value) (r:Wr (α×Nat)) (ed:Ending) (w':World):Prop:=match r with
 | .ok (v,k')=>ed=.returned (f v)∧IsR w' b A l c k' tv T∧w.grownBy w' (some b)
 | .error (n,x)=>ed=.panicked [{ v:=.iface 86 (.agg #[.int .i64 n,.int .i64 x]),recovered:=false }]∧w.grownBy w' (some b)
theorem tok_one (t:Tok):t.arr.all (·.oneCell')=true:=by simp [Tok.arr,Value.oneCell']
theorem tokInfo (t:Tok):(Tryz.prog.info? 56).map (·.size)=some t.arr.size:=by kernel_rfl
theorem store_tok {ops:Array Oper} {rest:List Oper} {o:Oper} {a:Act} {Q:Exit→Act→World→Prop} (W:World) (x y:Operand) (g:Nat) (s t:Tok)
 (hgd:o.guard=none) (hd:o.dst=none) (ho:o.op=.store 56 x y) (hx:a.eval x=.pointer (some ⟨g,0,none⟩)) (hy:a.eval y=.agg t.arr) (hb:Box W g s.arr 56)
 (h:∀ w',Box w' g t.arr 56→W.grownBy w' (some g)→wpList Tryz.prog ops Q rest a w'):wpList Tryz.prog ops Q (o :: rest) a W :=
 store_box W x y g s.arr t.arr hgd hd ho hx hy hb rfl (tokInfo t) (tok_one t) h
def noTok:Tok:=⟨0,0,0,0,0⟩
theorem ret_tok {fn:Func} {p:Nat} (h:fn.results=#[.cell p 56]) (tmps:Array Value) (w:World) (g:Nat) (t:Tok) (hp:tmps.getD p undef=.pointer (some ⟨g,0,none⟩)) (hg:Box w g t.arr 56) :
 (results fn tmps).run Tryz.prog w=.ok (.agg t.arr) w :=
 results_cell_row h tmps w g 56 t.arr (0,0) _ hp hg Tryz.underlying56 rfl (tokInfo t)
theorem grown_two {a b c:World} {g:Nat} {row:Option Nat} (h:a.grownBy b row) (k:b.grownBy c (some g)) (hg:a.heap.size≤g):a.grownBy c row :=
 ⟨k.os.trans h.os,k.tape.trans h.tape,k.output.trans h.output,Nat.le_trans h.size k.size,fun i hi hr=>(k.block i (by have:=h.size;omega) (fun e=>by injection e with e;omega)).trans (h.block i hi hr)⟩
/-! what only reckons -/
theorem tkchar_any (x:Int) (w:World):Calls Tryz.prog 129 #[.int .i64 x] w fun e w'=>e=.returned (.agg (chT x).arr)∧w.grownBy w' none:=by
 go_enter Tryz.func129,Tryz.ntmps129
 go_wp2
 (try simp only [Exit.inBlock,Exit.then])
 refine bodyPost_ret (v:=.agg (chT x).arr) ?_ rfl ⟨rfl,grown_new w _ none⟩
 exact results_cell_row rfl _ _ w.heap.size 56 _ (0,0) _ rfl (Go.heap_alloc_new w _) Tryz.underlying56 rfl (by kernel_rfl)
theorem tkstep {c:Int} {a:AV} {l:List (Int×AV)} {b:Bool} (h:stepF c a l=.boo b):(stepF c a l).val c=.bool b:=by rw [h];rfl
noncomputable def signTab:List (Nat×Func):=[(89,Tryz.f89)]
theorem signTab_ok:TabOk Tryz.prog signTab:=.cons Tryz.func89 (by kernel_rfl) .nil
def signSteps:List (Int×AV):=[(36,.boo true),(37,.boo false),(40,.boo true),(41,.boo true),(42,.boo true),(43,.boo true),(44,.boo false),(45,.boo true),(46,.boo true),(47,.boo true),(48,.boo false),(63,.boo true),(64,.boo false),(91,.boo true),(92,.boo true),(93,.boo true),(94,.boo true),(95,.boo false),(123,.boo true),(124,.boo true),(125,.boo true),(126,.boo false)]
theorem sign_steps (x:Int):stepF x (.boo false) signSteps=.boo (signI x):=by
 simp only [stepF,signSteps]
 by_cases h36:x < 36
 ·rw [if_pos h36];congr 1;symm;simp [signI];omega
 rw [if_neg h36]
 by_cases h37:x < 37
 ·rw [if_pos h37];congr 1;symm;simp [signI];omega
 rw [if_neg h37]
 by_cases h40:x < 40
 ·rw [if_pos h40];congr 1;symm;simp [signI];omega
 rw [if_neg h40]
 by_cases h41:x < 41
 ·rw [if_pos h41];congr 1;symm;simp [signI];omega
 rw [if_neg h41]
 by_cases h42:x < 42
 ·rw [if_pos h42];congr 1;symm;simp [signI];omega
 rw [if_neg h42]
 by_cases h43:x < 43
 ·rw [if_pos h43];congr 1;symm;simp [signI];omega
 rw [if_neg h43]
 by_cases h44:x < 44
 ·rw [if_pos h44];congr 1;symm;simp [signI];omega
 rw [if_neg h44]
 by_cases h45:x < 45
 ·rw [if_pos h45];congr 1;symm;simp [signI];omega
 rw [if_neg h45]
 by_cases h46:x < 46
 ·rw [if_pos h46];congr 1;symm;simp [signI];omega
 rw [if_neg h46]
 by_cases h47:x < 47
 ·rw [if_pos h47];congr 1;symm;simp [signI];omega
 rw [if_neg h47]
 by_cases h48:x < 48
 ·rw [if_pos h48];congr 1;symm;simp [signI];omega
 rw [if_neg h48]
 by_cases h63:x < 63
 ·rw [if_pos h63];congr 1;symm;simp [signI];omega
 rw [if_neg h63]
 by_cases h64:x < 64
 ·rw [if_pos h64];congr 1;symm;simp [signI];omega
 rw [if_neg h64]
 by_cases h91:x < 91
 ·rw [if_pos h91];congr 1;symm;simp [signI];omega
 rw [if_neg h91]
 by_cases h92:x < 92
 ·rw [if_pos h92];congr 1;symm;simp [signI];omega
 rw [if_neg h92]
 by_cases h93:x < 93
 ·rw [if_pos h93];congr 1;symm;simp [signI];omega
 rw [if_neg h93]
 by_cases h94:x < 94
 ·rw [if_pos h94];congr 1;symm;simp [signI];omega
 rw [if_neg h94]
 by_cases h95:x < 95
 ·rw [if_pos h95];congr 1;symm;simp [signI];omega
 rw [if_neg h95]
 by_cases h123:x < 123
 ·rw [if_pos h123];congr 1;symm;simp [signI];omega
 rw [if_neg h123]
 by_cases h124:x < 124
 ·rw [if_pos h124];congr 1;symm;simp [signI];omega
 rw [if_neg h124]
 by_cases h125:x < 125
 ·rw [if_pos h125];congr 1;symm;simp [signI];omega
 rw [if_neg h125]
 by_cases h126:x < 126
 ·rw [if_pos h126];congr 1;symm;simp [signI];omega
 rw [if_neg h126]
 congr 1;symm;simp [signI];omega
theorem tksign_any (x:Int) (w:World):Calls Tryz.prog 89 #[.int .i64 x] w fun e w'=>e=.returned (.bool (signI x))∧w=w':=by
 have h:=calls_step signTab_ok (keep:=60) (m:=1) (f:=89) (v0:=.boo false) (l:=signSteps) (by kernel_rfl) x w
 rw [tkstep (sign_steps x)] at h
 exact h
def escV (x:Int):Value:=match escI x with
 | some (z,g)=>.tuple #[.int .i64 z,.bool g,.bool true]
 | none=>.tuple #[.int .i64 0,.bool false,.bool false]
theorem tkescape_any (x:Int) (w:World):Calls Tryz.prog 128 #[.int .i64 x] w fun e w'=>e=.returned (escV x)∧w=w':=by
 by_cases h110:x=110
 ·subst h110
  have he:escV 110=.tuple #[.int .i64 10,.bool false,.bool true]:=rfl
  rw [he]
  go_enter Tryz.func128,Tryz.ntmps128
  go_wp2
  go_ret3
  exact ⟨rfl,rfl⟩
 by_cases h116:x=116
 ·subst h116
  have he:escV 116=.tuple #[.int .i64 9,.bool false,.bool true]:=rfl
  rw [he]
  go_enter Tryz.func128,Tryz.ntmps128
  go_wp2
  go_ret3
  exact ⟨rfl,rfl⟩
 by_cases h100:x=100
 ·subst h100
  have he:escV 100=.tuple #[.int .i64 100,.bool true,.bool true]:=rfl
  rw [he]
  go_enter Tryz.func128,Tryz.ntmps128
  go_wp2
  go_ret3
  exact ⟨rfl,rfl⟩
 by_cases h119:x=119
 ·subst h119
  have he:escV 119=.tuple #[.int .i64 119,.bool true,.bool true]:=rfl
  rw [he]
  go_enter Tryz.func128,Tryz.ntmps128
  go_wp2
  go_ret3
  exact ⟨rfl,rfl⟩
 by_cases h115:x=115
 ·subst h115
  have he:escV 115=.tuple #[.int .i64 115,.bool true,.bool true]:=rfl
  rw [he]
  go_enter Tryz.func128,Tryz.ntmps128
  go_wp2
  go_ret3
  exact ⟨rfl,rfl⟩
 by_cases h68:x=68
 ·subst h68
  have he:escV 68=.tuple #[.int .i64 68,.bool true,.bool true]:=rfl
  rw [he]
  go_enter Tryz.func128,Tryz.ntmps128
  go_wp2
  go_ret3
  exact ⟨rfl,rfl⟩
 by_cases h87:x=87
 ·subst h87
  have he:escV 87=.tuple #[.int .i64 87,.bool true,.bool true]:=rfl
  rw [he]
  go_enter Tryz.func128,Tryz.ntmps128
  go_wp2
  go_ret3
  exact ⟨rfl,rfl⟩
 by_cases h83:x=83
 ·subst h83
  have he:escV 83=.tuple #[.int .i64 83,.bool true,.bool true]:=rfl
  rw [he]
  go_enter Tryz.func128,Tryz.ntmps128
  go_wp2
  go_ret3
  exact ⟨rfl,rfl⟩
 have he:escV x=if signI x=true then .tuple #[.int .i64 x,.bool false,.bool true] else .tuple #[.int .i64 0,.bool false,.bool false]:=by
  unfold escV escI
  rw [if_neg h110,if_neg h116,if_neg (by omega)]
  by_cases hs:signI x=true
  ·rw [if_pos hs,if_pos hs]
  ·rw [if_neg hs,if_neg hs]
 rw [he]
 have d110:(x == 110)=false:=by simpa using h110
 have d116:(x == 116)=false:=by simpa using h116
 have d100:(x == 100)=false:=by simpa using h100
 have d119:(x == 119)=false:=by simpa using h119
 have d115:(x == 115)=false:=by simpa using h115
 have d68:(x == 68)=false:=by simpa using h68
 have d87:(x == 87)=false:=by simpa using h87
 have d83:(x == 83)=false:=by simpa using h83
 clear he h110 h116 h100 h119 h115 h68 h87 h83
 rcases hs:signI x with _ | _
 ·rw [if_neg (by simp)]
  have HS:=qh hs
  clear hs
  go_enter Tryz.func128,Tryz.ntmps128
  go_wp2_with fail
  refine (tksign_any x w).mono ?_
  rintro e wq ⟨rfl,rfl⟩
  rw [HS.out]
  go_wp2
  go_ret3
  exact ⟨rfl,rfl⟩
 ·rw [if_pos rfl]
  have HS:=qh hs
  clear hs
  go_enter Tryz.func128,Tryz.ntmps128
  go_wp2_with fail
  refine (tksign_any x w).mono ?_
  rintro e wq ⟨rfl,rfl⟩
  rw [HS.out]
  go_wp2
  go_ret3
  exact ⟨rfl,rfl⟩
theorem tkalone_any (x:Int) (w:World):Calls Tryz.prog 108 #[.int .i64 x] w fun e w'=>e=.returned (.agg (aloT x).arr)∧w.grownBy w' none:=by
 by_cases h46:x=46
 ·subst h46
  go_enter Tryz.func108,Tryz.ntmps108
  go_wp2
  (try simp only [Exit.inBlock,Exit.then])
  refine bodyPost_ret (v:=.agg (aloT 46).arr) ?_ rfl ⟨rfl,grown_new w _ none⟩
  exact results_cell_row rfl _ _ w.heap.size 56 _ (0,0) _ rfl (Go.heap_alloc_new w _) Tryz.underlying56 rfl (by kernel_rfl)
 by_cases h40:x=40
 ·subst h40
  go_enter Tryz.func108,Tryz.ntmps108
  go_wp2
  (try simp only [Exit.inBlock,Exit.then])
  refine bodyPost_ret (v:=.agg (aloT 40).arr) ?_ rfl ⟨rfl,grown_new w _ none⟩
  exact results_cell_row rfl _ _ w.heap.size 56 _ (0,0) _ rfl (Go.heap_alloc_new w _) Tryz.underlying56 rfl (by kernel_rfl)
 by_cases h41:x=41
 ·subst h41
  go_enter Tryz.func108,Tryz.ntmps108
  go_wp2
  (try simp only [Exit.inBlock,Exit.then])
  refine bodyPost_ret (v:=.agg (aloT 41).arr) ?_ rfl ⟨rfl,grown_new w _ none⟩
  exact results_cell_row rfl _ _ w.heap.size 56 _ (0,0) _ rfl (Go.heap_alloc_new w _) Tryz.underlying56 rfl (by kernel_rfl)
 by_cases h124:x=124
 ·subst h124
  go_enter Tryz.func108,Tryz.ntmps108
  go_wp2
  (try simp only [Exit.inBlock,Exit.then])
  refine bodyPost_ret (v:=.agg (aloT 124).arr) ?_ rfl ⟨rfl,grown_new w _ none⟩
  exact results_cell_row rfl _ _ w.heap.size 56 _ (0,0) _ rfl (Go.heap_alloc_new w _) Tryz.underlying56 rfl (by kernel_rfl)
 by_cases h94:x=94
 ·subst h94
  go_enter Tryz.func108,Tryz.ntmps108
  go_wp2
  (try simp only [Exit.inBlock,Exit.then])
  refine bodyPost_ret (v:=.agg (aloT 94).arr) ?_ rfl ⟨rfl,grown_new w _ none⟩
  exact results_cell_row rfl _ _ w.heap.size 56 _ (0,0) _ rfl (Go.heap_alloc_new w _) Tryz.underlying56 rfl (by kernel_rfl)
 by_cases h36:x=36
 ·subst h36
  go_enter Tryz.func108,Tryz.ntmps108
  go_wp2
  (try simp only [Exit.inBlock,Exit.then])
  refine bodyPost_ret (v:=.agg (aloT 36).arr) ?_ rfl ⟨rfl,grown_new w _ none⟩
  exact results_cell_row rfl _ _ w.heap.size 56 _ (0,0) _ rfl (Go.heap_alloc_new w _) Tryz.underlying56 rfl (by kernel_rfl)
 have he:aloT x=chT x:=by unfold aloT;rw [if_neg h46,if_neg h40,if_neg h41,if_neg h124,if_neg h94,if_neg h36]
 rw [he]
 have d46:(x == 46)=false:=by simpa using h46
 have d40:(x == 40)=false:=by simpa using h40
 have d41:(x == 41)=false:=by simpa using h41
 have d124:(x == 124)=false:=by simpa using h124
 have d94:(x == 94)=false:=by simpa using h94
 have d36:(x == 36)=false:=by simpa using h36
 clear he h46 h40 h41 h124 h94 h36
 go_enter Tryz.func108,Tryz.ntmps108
 go_wp2_with fail
 refine (tkchar_any x _).mono ?_
 rintro e w1 ⟨rfl,g1⟩
 have X1:=(Box.new w _ _).kept g1 (by simp)
 have G1:=qh ((grown_new w _ none).trans g1)
 have X1:=qh X1
 clear g1
 go_wp2_with (first
  | (refine store_tok w1 _ _ w.heap.size noTok (chT x) rfl rfl rfl rfl rfl X1.out ?_;intro w2 x2 g2;have X2:=qh x2;have G2:=qh g2;clear x2 g2)
  | fail)
 (try simp only [Exit.inBlock,Exit.then])
 exact bodyPost_ret (v:=.agg (chT x).arr) (ret_tok rfl _ _ w.heap.size (chT x) rfl X2.out) rfl ⟨rfl,grown_two G1.out G2.out (Nat.le_refl _)⟩
end
section
def topR:Int:=1114111
def inR (r:Int×Int) (c:Int):Bool:=decide (r.1≤c) && decide (c≤r.2)
def hasR (R:List (Int×Int)) (c:Int):Bool:=R.any fun r=>inR r c
theorem hasR_cons (r:Int×Int) (R:List (Int×Int)) (c:Int):hasR (r :: R) c=(inR r c || hasR R c):=rfl
theorem hasR_append (R S:List (Int×Int)) (c:Int):hasR (R++S) c=(hasR R c || hasR S c):=by simp [hasR]
theorem hasR_iff {R:List (Int×Int)} {c:Int}:hasR R c=true↔∃ r∈R,r.1≤c∧c≤r.2:=by
 simp [hasR,inR]
def Canon:Int→List (Int×Int)→Prop
 | _,[]=>True
 | a,r :: S=>a≤r.1∧r.1≤r.2∧r.2≤topR∧Canon (r.2+2) S
theorem Canon.weaken:∀ {S:List (Int×Int)} {a b:Int},Canon a S→b≤a→Canon b S
 | [],_,_,_,_=>trivial
 | _ :: _,_,_,h,hb=>⟨by have:=h.1;omega,h.2⟩
theorem Canon.has:∀ {S:List (Int×Int)} {a c:Int},Canon a S→hasR S c=true→a≤c∧c≤topR
 | [],_,_,_,h=>by cases h
 | r :: S,a,c,hS,h=>by
  obtain ⟨h1,h2,h3,h4⟩:=hS
  rw [hasR_cons,Bool.or_eq_true] at h
  rcases h with h | h
  ·simp [inR] at h;omega
  ·have:=Canon.has h4 h;omega
theorem canon_ext:∀ {S T:List (Int×Int)} {a:Int},Canon a S→Canon a T→(∀ c,a≤c→c≤topR→hasR S c=hasR T c)→S=T
 | [],[],_,_,_,_=>rfl
 | [],r :: T,a,_,hT,h=>by
  obtain ⟨h1,h2,h3,h4⟩:=hT
  have:=h r.1 h1 (by omega)
  rw [hasR_cons,show inR r r.1=true by simp [inR] <;> omega] at this
  cases this
 | r :: S,[],a,hS,_,h=>by
  obtain ⟨h1,h2,h3,h4⟩:=hS
  have:=h r.1 h1 (by omega)
  rw [hasR_cons,show inR r r.1=true by simp [inR] <;> omega] at this
  cases this
 | r :: S,q :: T,a,hS,hT,h=>by
  obtain ⟨h1,h2,h3,h4⟩:=hS
  obtain ⟨g1,g2,g3,g4⟩:=hT
  have hlow:r.1=q.1:=by
   rcases Int.lt_trichotomy r.1 q.1 with hlt | he | hlt
   ·have:=h r.1 h1 (by omega)
    rw [hasR_cons,show inR r r.1=true by simp [inR] <;> omega,hasR_cons,show inR q r.1=false by simp [inR] <;> omega] at this
    have h5:hasR T r.1=true:=by simpa using this.symm
    have:=g4.has h5;omega
   ·exact he
   ·have:=h q.1 g1 (by omega)
    rw [hasR_cons,show inR r q.1=false by simp [inR] <;> omega,hasR_cons,show inR q q.1=true by simp [inR] <;> omega] at this
    have h5:hasR S q.1=true:=by simpa using this
    have:=h4.has h5;omega
  have hhigh:r.2=q.2:=by
   rcases Int.lt_trichotomy r.2 q.2 with hlt | he | hlt
   ·have:=h (r.2+1) (by omega) (by omega)
    rw [hasR_cons,show inR r (r.2+1)=false by simp [inR] <;> omega,hasR_cons,show inR q (r.2+1)=true by simp [inR] <;> omega] at this
    have h5:hasR S (r.2+1)=true:=by simpa using this
    have:=h4.has h5;omega
   ·exact he
   ·have:=h (q.2+1) (by omega) (by omega)
    rw [hasR_cons,show inR r (q.2+1)=true by simp [inR] <;> omega,hasR_cons,show inR q (q.2+1)=false by simp [inR] <;> omega] at this
    have h5:hasR T (q.2+1)=true:=by simpa using this.symm
    have:=g4.has h5;omega
  have hrq:r=q:=Prod.ext hlow hhigh
  subst hrq
  rw [canon_ext h4 g4 fun c hc hct=>?_]
  have:=h c (by omega) hct
  rwa [hasR_cons,hasR_cons,show inR r c=false by simp [inR] <;> omega,Bool.false_or,Bool.false_or] at this
def frR (p:Int→Bool):Int→Nat→List (Int×Int)
 | _,0=>[]
 | a,k+1=>if p a=true then (match frR p (a+1) k with
  | []=>[(a,a)]
  | q :: S=>if q.1=a+1 then (a,q.2) :: S else (a,a) :: q :: S) else frR p (a+1) k
theorem frR_succ (p:Int→Bool) (a:Int) (k:Nat):frR p a (k+1)=if p a=true then (match frR p (a+1) k with
 | []=>[(a,a)]
 | q :: S=>if q.1=a+1 then (a,q.2) :: S else (a,a) :: q :: S) else frR p (a+1) k:=rfl
theorem frR_canon (p:Int→Bool):∀ (k:Nat) (a:Int),a+k≤topR+1→Canon a (frR p a k)
 | 0,_,_=>trivial
 | k+1,a,h=>by
  have ih:=frR_canon p k (a+1) (by omega)
  rw [frR_succ]
  split
  ·rcases hf:frR p (a+1) k with _ | ⟨q,S⟩
   ·exact ⟨Int.le_refl _,Int.le_refl _,by omega,trivial⟩
   ·rw [hf] at ih
    obtain ⟨h1,h2,h3,h4⟩:=ih
    simp only
    split
    ·exact ⟨Int.le_refl _,by simp only;omega,h3,h4⟩
    ·exact ⟨Int.le_refl _,Int.le_refl _,by simp only;omega,by simp only;omega,h2,h3,h4⟩
  ·exact ih.weaken (by omega)
theorem frR_has (p:Int→Bool):∀ (k:Nat) (a c:Int),a+k≤topR+1→hasR (frR p a k) c=(decide (a≤c) && decide (c < a+k) && p c)
 | 0,a,c,_=>by
  have:(decide (a≤c) && decide (c < a+((0:Nat):Int)))=false:=by simp <;> omega
  rw [this];rfl
 | k+1,a,c,h=>by
  have ih:=frR_has p k (a+1) c (by omega)
  have hcan:=frR_canon p k (a+1) (by omega)
  by_cases hc:c=a
  ·subst hc
   have h0:hasR (frR p (c+1) k) c=false:=by rw [ih];simp;omega
   have e:(decide (c≤c) && decide (c < c+((k+1:Nat):Int)) && p c)=p c:=by simp;omega
   rw [e]
   rw [frR_succ]
   split
   ·rename_i hp
    rw [hp]
    rcases hf:frR p (c+1) k with _ | ⟨q,S⟩
    ·simp [hasR,inR]
    ·simp only
     split
     ·rename_i hq
      rw [hf] at hcan
      rw [hasR_cons,show inR (c,q.2) c=true by have:=hcan.2.1;simp [inR] <;> omega];rfl
     ·rw [hasR_cons,show inR (c,c) c=true by simp [inR]];rfl
   ·rename_i hp
    rw [h0];simpa using hp
  ·have e:(decide (a≤c) && decide (c < a+((k+1:Nat):Int)))=(decide (a+1≤c) && decide (c < a+1+(k:Int))):=by
    rw [Bool.eq_iff_iff];simp;omega
   rw [e,← ih]
   rw [frR_succ]
   split
   ·rcases hf:frR p (a+1) k with _ | ⟨q,S⟩
    ·simp only
     rw [hasR_cons,show inR (a,a) c=false by simp [inR] <;> omega];rfl
    ·simp only
     split
     ·rename_i hq
      rw [hasR_cons,hasR_cons]
      congr 1
      rw [Bool.eq_iff_iff]
      simp [inR]
      omega
     ·rw [hasR_cons,show inR (a,a) c=false by simp [inR] <;> omega];rfl
   ·rfl
def tailR (p:Int→Bool) (a:Nat):List (Int×Int):=frR p a (1114112 - a)
def setP (p:Int→Bool):List (Int×Int):=tailR p 0
theorem tailR_canon (p:Int→Bool) {a:Nat} (h:a≤1114112):Canon a (tailR p a):=frR_canon p _ _ (by unfold topR;omega)
theorem tailR_has (p:Int→Bool) {a:Nat} (h:a≤1114112) (c:Int):hasR (tailR p a) c=(decide ((a:Int)≤c) && decide (c≤topR) && p c):=by
 unfold tailR
 rw [frR_has p _ _ _ (by unfold topR;omega)]
 congr 2
 rw [Bool.eq_iff_iff]
 unfold topR
 simp
 omega
theorem setP_canon (p:Int→Bool):Canon 0 (setP p):=tailR_canon p (a:=0) (by omega)
theorem setP_has (p:Int→Bool) (c:Int):hasR (setP p) c=(decide (0≤c) && decide (c≤topR) && p c):=tailR_has p (a:=0) (by omega) c
theorem setP_is {p:Int→Bool} {S:List (Int×Int)} (hS:Canon 0 S) (h:∀ c,0≤c→c≤topR→hasR S c=p c):setP p=S :=
 canon_ext (setP_canon p) hS fun c h0 h1=>by rw [setP_has,h c h0 h1];simp [h0,h1]
theorem setP_congr {p q:Int→Bool} (h:∀ c,0≤c→c≤topR→p c=q c):setP p=setP q :=
 setP_is (setP_canon q) fun c h0 h1=>by rw [setP_has,h c h0 h1];simp [h0,h1]
theorem tailR_none {p:Int→Bool} {a:Nat} (h:a≤1114112) (hp:∀ c:Int,(a:Int)≤c→c≤topR→p c=false):tailR p a=[] :=
 canon_ext (tailR_canon p h) trivial fun c h0 h1=>by rw [tailR_has p h,hp c h0 h1];simp [hasR]
theorem tailR_run {p:Int→Bool} {a lo hi:Nat} (h0:a≤lo) (h1:lo≤hi) (h2:hi≤1114111) (hn:∀ c:Int,(a:Int)≤c→c < lo→p c=false) (hy:∀ c:Int,(lo:Int)≤c→c≤hi→p c=true) (he:hi=1114111∨p ((hi:Int)+1)=false) :
 tailR p a=((lo:Int),(hi:Int)) :: tailR p (hi+1):=by
 refine canon_ext (tailR_canon p (by omega)) ⟨by simp only;omega,by simp only;omega,by unfold topR;simp only;omega,?_⟩ fun c h3 h4=>?_
 ·rcases he with he | he
  ·subst he;trivial
  ·by_cases ht:hi=1114111
   ·subst ht;trivial
   ·have e:tailR p (hi+1)=frR p ((hi:Int)+2) (1114111 - (hi+1)):=by
     unfold tailR
     rw [show 1114112 - (hi+1)=(1114111 - (hi+1))+1 by omega,frR,if_neg (by rw [show ((hi+1:Nat):Int)=(hi:Int)+1 by omega,he];simp)]
     congr 1 <;> omega
    rw [e]
    exact frR_canon p _ _ (by unfold topR;omega)
 ·rw [tailR_has p (by omega),hasR_cons,tailR_has p (by omega)]
  rw [show decide ((a:Int)≤c)=true by simpa using h3,show decide (c≤topR)=true by simpa using h4]
  by_cases c1:c < lo
  ·rw [hn c h3 c1,show inR ((lo:Int),(hi:Int)) c=false by simp [inR] <;> omega];simp
  ·by_cases c2:c≤hi
   ·rw [hy c (by omega) c2,show inR ((lo:Int),(hi:Int)) c=true by simp [inR] <;> omega];simp
   ·rw [show inR ((lo:Int),(hi:Int)) c=false by simp [inR] <;> omega,show decide (((hi+1:Nat):Int)≤c)=true by simp;omega];simp
theorem sub_length:∀ (X Y:List Int),X.Nodup→(∀ x∈X,x∈Y)→X.length≤Y.length
 | [],_,_,_=>by simp
 | x :: X,Y,hn,h=>by
  rw [List.nodup_cons] at hn
  have hx:=h x (by simp)
  have:=sub_length X (Y.erase x) hn.2 fun y hy=>(List.mem_erase_of_ne (fun e:y=x=>hn.1 (by rw [← e];exact hy))).2 (h y (by simp [hy]))
  rw [List.length_erase_of_mem hx] at this
  have:=List.length_pos_of_mem hx
  simp;omega
theorem Canon.lows:∀ {S:List (Int×Int)} {a:Int},Canon a S→(S.map (·.1)).Nodup∧∀ x∈S.map (·.1),a≤x∧hasR S x=true∧(∀ y,y=x - 1→hasR S y=false)
 | [],_,_=>⟨by simp,fun x hx=>by simp at hx⟩
 | r :: S,a,h=>by
  obtain ⟨h1,h2,h3,h4⟩:=h
  obtain ⟨k1,k2⟩:=Canon.lows h4
  refine ⟨?_,fun x hx=>?_⟩
  ·rw [List.map_cons,List.nodup_cons]
   exact ⟨fun hm=>by have:=(k2 _ hm).1;omega,k1⟩
  ·rw [List.map_cons,List.mem_cons] at hx
   rcases hx with rfl | hx
   ·refine ⟨h1,by rw [hasR_cons,show inR r r.1=true by simp [inR] <;> omega];rfl,fun y hy=>?_⟩
    rw [hasR_cons,show inR r y=false by simp [inR] <;> omega,Bool.false_or]
    rcases hh:hasR S y with _ | _
    ·rfl
    ·have:=h4.has hh;omega
   ·obtain ⟨g1,g2,g3⟩:=k2 x hx
    refine ⟨by omega,by rw [hasR_cons,g2];simp,fun y hy=>?_⟩
    rw [hasR_cons,show inR r y=false by simp [inR] <;> omega,Bool.false_or]
    exact g3 y hy
theorem setR_length (R:List (Int×Int)):(setP (hasR R)).length≤R.length:=by
 have hl:=(setP_canon (hasR R)).lows
 have:=sub_length ((setP (hasR R)).map (·.1)) (R.map fun r=>max r.1 0) hl.1 fun x hx=>by
  obtain ⟨h0,h1,h2⟩:=hl.2 x hx
  rw [setP_has] at h1
  simp at h1
  obtain ⟨⟨_,h3⟩,h4⟩:=h1
  obtain ⟨r,hr,h5,h6⟩:=hasR_iff.1 h4
  refine List.mem_map.2 ⟨r,hr,?_⟩
  have h7:=h2 (x - 1) rfl
  rw [setP_has] at h7
  by_cases hz:x=0
  ·omega
  ·by_cases hle:r.1≤x - 1
   ·exfalso
    have:hasR R (x - 1)=true:=hasR_iff.2 ⟨r,hr,hle,by omega⟩
    rw [this] at h7
    simp at h7
    omega
   ·omega
 simpa using this
def setR (R:List (Int×Int)):List (Int×Int):=if 500 < R.length then [] else setP (hasR R)
def turnR (R:List (Int×Int)):List (Int×Int):=setP fun c=>!hasR (setR R) c
theorem setR_small {R:List (Int×Int)} (h:R.length≤500):setR R=setP (hasR R):=by unfold setR;rw [if_neg (by omega)]
theorem setR_canon (R:List (Int×Int)):Canon 0 (setR R):=by
 unfold setR;split
 ·trivial
 ·exact setP_canon _
theorem setR_le (R:List (Int×Int)):(setR R).length≤500∧(setR R).length≤R.length:=by
 unfold setR;split
 ·simp
 ·have:=setR_length R;omega
theorem setR_has {R:List (Int×Int)} (h:R.length≤500) (c:Int):hasR (setR R) c=(decide (0≤c) && decide (c≤topR) && hasR R c):=by rw [setR_small h,setP_has]
end
section
open Go.RowKit
def Row (w:World) (B:Nat) (e:TypeId) (g c:Nat) (xs:List Value):Prop:=Own w B e (.slice (some ⟨g,0,none⟩) xs.length c) xs
section
variable {w w':World} {B:Nat} {e:TypeId} {g c:Nat} {xs:List Value}
theorem Row.own (h:Row w B e g c xs) {n:Nat} (hn:n=xs.length):Own w B e (.slice (some ⟨g,0,none⟩) n c) xs:=hn▸h
theorem Row.cell (h:Row w B e g c xs) {j:Nat} (hj:j < xs.length):w.cell? ⟨g,j,none⟩=some xs[j]:=by
 have:=World.ownsRow.cellAt (h:w.ownsRow B e 1 _ _ xs) j (by omega)
 rw [this,List.getElem?_eq_getElem hj]
theorem Row.free (h:Row w B e g c xs) (j:Nat):w.frozen? ⟨g,j,none⟩=false:=World.ownsRow.frozenAt (h:w.ownsRow B e 1 _ _ xs) j
theorem Row.set (h:Row w B e g c xs) (j:Nat) (u:Value):Row (w.setCell ⟨g,j,none⟩ u) B e g c (xs.set j u):=by
 have:=(World.ownsRow.stored (h:w.ownsRow B e 1 _ _ xs) j u).1
 unfold Row Own
 rw [List.length_set]
 exact this
theorem Row.inside (h:Row w B e g c xs):B≤g∧g < w.heap.size:=Own.inside h g rfl
theorem Row.below (h:Row w B e g c xs) {C:Nat} (hb:Below C w w') (hC:w.heap.size≤C):Row w' B e g c xs:=Own.below h hb hC
theorem Row.alloc (h:Row w B e g c xs) (o:Obj):Row (w.alloc o) B e g c xs:=Own.alloc h o
theorem Row.setB {w0:World} (hb:Below B w0 w) (h:Row w B e g c xs) (j:Nat) (u:Value):Below B w0 (w.setCell ⟨g,j,none⟩ u):=hb.setCell h.inside.1 u
variable {P:Program} {ops:Array Oper} {rest:List Oper} {o:Oper} {a:Act} {Q:Exit→Act→World→Prop}
end
end
section
open Go.RowKit
section
variable {w w' W:World} {B:Nat} {e:TypeId} {v:Value} {xs:List Value}
theorem Own.short (h:Own w B e v xs) {j:Nat} (hj:j≤xs.length):∃ A c,v=.slice A xs.length c∧xs.length≤c∧Own w B e (.slice A j c) (xs.take j):=by
 rcases h.2 with ⟨rfl,hn⟩ | ⟨g,cap,cur,rfl,hg,hh,hc,hm,hs,ht⟩
 ·refine ⟨none,0,by rw [hn],by omega,?_⟩
  obtain rfl:j=0:=by omega
  exact Own.empty _ _ _
 ·refine ⟨_,cap,rfl,hc,?_⟩
  unfold Own
  rw [List.length_take,Nat.min_eq_left hj]
  refine ⟨by simp;omega,.inr ⟨g,cap,cur,rfl,hg,hh,by omega,hm,hs,?_⟩⟩
  rw [← ht,List.take_take,Nat.min_eq_left (by omega),Nat.mul_one]
variable {P:Program} {ops:Array Oper} {rest:List Oper} {o:Oper} {a:Act} {Q:Exit→Act→World→Prop}
end
theorem Row.drewN {w:World} {B:Nat} {e:TypeId} {g c:Nat} {xs:List Value} (h:Row w B e g c xs) (n:Nat):Row (w.drewN n) B e g c xs:=h
theorem Row.keep {w w':World} {B:Nat} {e:TypeId} {g c:Nat} {xs:List Value} {row:Option Nat} (h:Row w B e g c xs) (hg:w.grownBy w' row) (hr:row≠some g):Row w' B e g c xs :=
 Own.keep h hg (.inr fun e=>hr e.symm)
theorem fresh_ne {v v':Value} {W:World} {g:Nat} (h:v.ownBlock≠some g) (hg:g < W.heap.size) (hv:v'.ownBlock=v.ownBlock∨∃ q,v'.ownBlock=some q∧W.heap.size≤q):v'.ownBlock≠some g:=by
 rcases hv with hv | ⟨q,hv,hq⟩
 ·rw [hv];exact h
 ·rw [hv];intro e;injection e with e;omega
section
variable {P:Program}
variable {ops:Array Oper} {rest:List Oper} {o:Oper} {a:Act} {Q:Exit→Act→World→Prop}
end
end
section
open Go.RowKit
theorem Lies.short {w:World} {B:Nat} {A:Option Addr} {l:List Int} (h:Lies w B A (ints .i64 l)) (k:Nat):Lies w B A (ints .i64 (l.take k)):=by
 intro hne
 have hl:ints .i64 l≠[]:=by
  intro e
  apply hne
  have:l=[]:=by simpa [ints] using e
  subst this;simp [ints]
 obtain ⟨p,hA,hp,hc⟩:=h hl
 refine ⟨p,hA,hp,fun i u hu=>hc i u ?_⟩
 rw [ints,List.map_take] at hu
 rw [List.getElem?_take] at hu
 split at hu
 ·exact hu
 ·cases hu
section
variable {P:Program} {ops:Array Oper} {rest:List Oper} {o:Oper} {a:Act} {Q:Exit→Act→World→Prop}
end
end
section
open Go.RowKit
def prC (L:List (Int×Int)):List Value:=L.flatMap fun p=>[.int .i64 p.1,.int .i64 p.2]
theorem prC_append (a b:List (Int×Int)):prC (a++b)=prC a++prC b:=by simp [prC]
theorem prC_one (L:List (Int×Int)):∀ u∈prC L,u.oneCell'=true:=by
 intro u hu
 unfold prC at hu
 obtain ⟨r,_,hu⟩:=List.mem_flatMap.1 hu
 simp at hu
 rcases hu with rfl | rfl <;> rfl
theorem prC_length (L:List (Int×Int)):(prC L).length=L.length * 2:=by
 induction L with
 | nil=>rfl
 | cons r L ih=>rw [show prC (r :: L)=[.int .i64 r.1,.int .i64 r.2]++prC L from rfl,List.length_append,ih];simp;omega
theorem prC_get (L:List (Int×Int)):∀ j (hj:j < L.length),(prC L)[j * 2]?=some (.int .i64 L[j].1)∧(prC L)[j * 2+1]?=some (.int .i64 L[j].2):=by
 induction L with
 | nil=>intro j hj;simp at hj
 | cons r L ih =>
  intro j hj
  rw [show prC (r :: L)=[.int .i64 r.1,.int .i64 r.2]++prC L from rfl]
  cases j with
  | zero=>exact ⟨rfl,rfl⟩
  | succ j =>
   obtain ⟨h1,h2⟩:=ih j (by simpa using hj)
   rw [List.getElem?_append_right (by simp;omega),List.getElem?_append_right (by simp;omega)]
   simp only [List.length_cons,List.length_nil,List.getElem_cons_succ]
   rw [show (j+1) * 2 - (0+1+1)=j * 2 by omega,show (j+1) * 2+1 - (0+1+1)=j * 2+1 by omega]
   exact ⟨h1,h2⟩
theorem prC_at {w:World} {B:Nat} {A:Option Addr} {L:List (Int×Int)} (h:Lies w B A (prC L)) {j:Nat} (hj:j < L.length) :
 ∃ g off,A=some ⟨g,off,none⟩∧g < B∧w.cell? ⟨g,off+j * 2,none⟩=some (.int .i64 L[j].1)∧w.cell? ⟨g,off+j * 2+1,none⟩=some (.int .i64 L[j].2):=by
 have hl:=prC_length L
 obtain ⟨g,off,hA,hg,hc⟩:=Lies.plain h (by omega)
 obtain ⟨h1,h2⟩:=prC_get L j hj
 have k1:=hc (j * 2) (by omega)
 have k2:=hc (j * 2+1) (by omega)
 rw [← Nat.add_assoc] at k2
 refine ⟨g,off,hA,hg,?_,?_⟩
 ·rw [k1,← List.getElem?_eq_getElem,h1]
 ·rw [k2,← List.getElem?_eq_getElem,h2]
end
end Go.Proofs.YtoeocodfndbebaaGreatDoor
