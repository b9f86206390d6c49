/- Shared texts, shaken for one claim. -/
import Derived.BigQuiet
import Derived.Test.YtoeocodfndbebaaGreatDoorZB3
import Derived.Test.YtoeocodfndbebaaGreatDoorZB7
set_option maxRecDepth 20000
set_option maxHeartbeats 16000000
namespace Go.Proofs.YtoeocodfndbebaaGreatDoor
section
open Go.RowKit
theorem tkwrap {k:Nat} (h:k≤1000):IntKind.i64.wrap ((k:Int)+1)=((k+1:Nat):Int):=by rw [IntWalk.i64_in _ (by omega)];omega
theorem OwnN.ofBox {w:World} {g:Nat} {cs:Array Value} {e:TypeId} (h:Box w g cs e) (hm:cs.size≤maxLen):OwnN w g e 1 (.slice (some ⟨g,0,none⟩) cs.toList.length cs.size) cs.toList.length cs.toList :=
 ⟨by simp,.inr ⟨g,cs.size,cs,rfl,Nat.le_refl _,h,by simp,hm,by simp,List.take_of_length_le (by simp)⟩⟩
theorem Box.ofOwn {w:World} {B g n m:Nat} {e:TypeId} {xs:List Value} (h:OwnN w B e 1 (.slice (some ⟨g,0,none⟩) m n) m xs) (hn:m=n):Box w g xs.toArray e:=by
 subst hn
 rcases h.2 with ⟨hv,_⟩ | ⟨g',cap,cur,hv,hbg,hh,hc,hm,hs,ht⟩
 ·cases hv
 ·injection hv with h1 _ h3
  injection h1 with h1
  injection h1 with h1
  subst h1 h3
  unfold Box
  rw [hh]
  congr 2
  have h4:cur.toList=xs:=by rw [← ht,List.take_of_length_le (by simp;omega)]
  rw [← h4]
section
variable {P:Program} {ops:Array Oper} {rest:List Oper} {o:Oper} {a:Act} {Q:Exit→Act→World→Prop}
theorem store_in {t e:TypeId} (W:World) (x y:Operand) (g j:Nat) (u:Value) (cs:Array Value)
 (hgd:o.guard=none) (hd:o.dst=none) (ho:o.op=.store t x y) (ht:(P.info? t).map (·.size)=some 1) (hu:u.oneCell'=true) (hx:a.eval x=.pointer (some ⟨g,j,none⟩)) (hy:a.eval y=u) (hb:Box W g cs e) (hj:j < cs.size) (hm:cs.size≤maxLen)
 (h:∀ w',Box w' g (cs.setIfInBounds j u) e→W.grownBy w' (some g)→wpList P ops Q rest a w'):wpList P ops Q (o :: rest) a W:=by
 refine store_cell W g x y g j cs.size u cs.toList W hgd hd ho ht hu hx hy (OwnN.ofBox hb hm) (by simpa using hj) (Below.refl _ _) fun w' h1 _ h3=>h w' ?_ h3
 have h4:OwnN w' g e 1 (.slice (some ⟨g,0,none⟩) (cs.toList.set j u).length cs.size) (cs.toList.set j u).length (cs.toList.set j u):=by simpa using h1
 have h5:=Box.ofOwn h4 (by simp)
 rw [← Array.toList_setIfInBounds,Array.toArray_toList] at h5
 exact h5
end
section
variable {P:Program} {ops:Array Oper} {o:Oper} {a:Act} {K:Act→World→Prop} {Q:Exit→Act→World→Prop} {E:Prop}
theorem step_in {t e:TypeId} (W:World) (x y:Operand) (g j:Nat) (u:Value) (cs:Array Value)
 (hgd:o.guard=none) (hd:o.dst=none) (ho:o.op=.store t x y) (ht:(P.info? t).map (·.size)=some 1) (hu:u.oneCell'=true) (hx:a.eval x=.pointer (some ⟨g,j,none⟩)) (hy:a.eval y=u) (hb:Box W g cs e) (hj:j < cs.size) (hm:cs.size≤maxLen)
 (h:∀ w',Box w' g (cs.setIfInBounds j u) e→W.grownBy w' (some g)→K a w'):if Region.wanted o (yielded ops a.tmps)=true then Oper.wp P o a W K Q else E:=by
 refine step_store W g x y g j cs.size u cs.toList W hgd hd ho ht hu hx hy (OwnN.ofBox hb hm) (by simpa using hj) (Below.refl _ _) fun w' h1 _ h3=>h w' ?_ h3
 have h4:OwnN w' g e 1 (.slice (some ⟨g,0,none⟩) (cs.toList.set j u).length cs.size) (cs.toList.set j u).length (cs.toList.set j u):=by simpa using h1
 have h5:=Box.ofOwn h4 (by simp)
 rw [← Array.toList_setIfInBounds,Array.toArray_toList] at h5
 exact h5
end
theorem IsR.went {w w':World} {b c k k':Nat} {A:Option Addr} {l:List Int} {tv:Value} {T:List Tok} (h:IsR w b A l c k tv T) (hb:Box w' b #[.slice A l.length c,.int .i64 k',tv] 114) (hg:w.grownBy w' (some b)) (hk:k'≤l.length):IsR w' b A l c k' tv T :=
 ⟨hb,h.toks.keep hg (.inr h.far),h.lies.same (fun q hq=>World.cell?_of_block (hg.block q.block (by have:=h.lt;omega) (fun e=>by injection e with e;omega))),hk,h.cap⟩
theorem tknext_any (w:World) (b c k:Nat) (A:Option Addr) (l:List Int) (tv:Value) (T:List Tok) (h:IsR w b A l c k tv T) (hl:l.length≤1000) :
 Calls Tryz.prog 102 #[.pointer (some ⟨b,0,none⟩)] w (Told w b A l c tv T (Value.int .i64) (nxT l k)):=by
 obtain ⟨h0,h1,h2⟩:=h.cells
 have hf:=h.frozen 1
 have H:=qh h
 by_cases hk:k < l.length
 ·rw [nxT_at hk]
  obtain ⟨p,rfl,-,hc⟩:=h.char hk
  have d1:((k:Int) == (l.length:Int))=false:=by simp;omega
  have k0:(0:Int)≤(k:Int):=by omega
  have k1:(k:Int) < (l.length:Int):=by omega
  have hw:=tkwrap (k:=k) (by omega)
  obtain ⟨x,hx⟩:∃ x,l[k]=x:=⟨_,rfl⟩
  rw [hx] at hc ⊢
  clear h
  go_enter Tryz.func102,Tryz.ntmps102
  go_wp2
  go_quiet (fail)
  go_wp2
  go_quiet (fail)
  go_wp2
  go_ret
  exact ⟨rfl,(H.out.drewN _).goes (k+1) (by omega),(grown_draws (grown_refl _ _) _).trans (grown_set _ _ _ _)⟩
 ·have hkl:k=l.length:=by have:=h.le;omega
  rw [nxT_end (by omega)]
  have d1:((k:Int) == (l.length:Int))=true:=by simp;omega
  clear h
  go_enter Tryz.func102,Tryz.ntmps102
  go_wp2
  go_quiet (fail)
  go_wp2
  exact ⟨rfl,rfl,grown_draws (grown_refl _ _) _⟩
theorem beq_eq_decide' (a b:Int):decide (some a=some b)=(a == b):=by
 by_cases h:a=b <;> simp [h]
theorem IsR.new {w w':World} {b c k g:Nat} {A:Option Addr} {l:List Int} {tv:Value} {T:List Tok} (h:IsR w b A l c k tv T) (hg:w.grownBy w' (some g)) (hb:b < g) (hv:tv.ownBlock≠some g):IsR w' b A l c k tv T :=
 h.kept hg (by simp;omega) (fun x e=>by injection e with e;omega) (.inr hv)
theorem grown_any {w w':World} (h:w.grownBy w' none) (row:Option Nat):w.grownBy w' row:=⟨h.os,h.tape,h.output,h.size,fun k hk _=>h.block k hk (by simp)⟩
theorem IsR.old {w:World} {b c k g:Nat} {A:Option Addr} {l:List Int} {tv:Value} {T:List Tok} (h:IsR w b A l c k tv T) (hg:w.heap.size≤g):tv.ownBlock≠some g:=fun e=>by
 have:=(h.toks.inside g e).2;omega
theorem intInfo:(Tryz.prog.info? 3).map (·.size)=some 1:=by kernel_rfl
section
variable {ops:Array Oper} {rest:List Oper} {o:Oper} {a:Act} {Q:Exit→Act→World→Prop}
theorem store_at (W:World) (x y:Operand) {b c k:Nat} {A:Option Addr} {l:List Int} {tv:Value} {T:List Tok} (k':Nat)
 (hgd:o.guard=none) (hd:o.dst=none) (ho:o.op=.store 3 x y) (hx:a.eval x=.pointer (some ⟨b,1,none⟩)) (hy:a.eval y=.int .i64 (k':Int)) (h:IsR W b A l c k tv T) (hk:k'≤l.length)
 (hn:∀ w',IsR w' b A l c k' tv T→W.grownBy w' (some b)→wpList Tryz.prog ops Q rest a w'):wpList Tryz.prog ops Q (o :: rest) a W :=
 store_in W x y b 1 (.int .i64 (k':Int)) _ hgd hd ho intInfo rfl hx hy h.box (by simp) (by simp [maxLen]) fun w' h1 h2=>hn w' (h.went h1 h2 hk) h2
theorem store_char (W:World) (x y:Operand) (g:Nat) (t:Tok) (n:Int)
 (hgd:o.guard=none) (hd:o.dst=none) (ho:o.op=.store 3 x y) (hx:a.eval x=.pointer (some ⟨g,1,none⟩)) (hy:a.eval y=.int .i64 n) (hb:Box W g t.arr 56)
 (h:∀ w',Box w' g (⟨t.k,n,t.lo,t.hi,t.pos⟩:Tok).arr 56→W.grownBy w' (some g)→wpList Tryz.prog ops Q rest a w'):wpList Tryz.prog ops Q (o :: rest) a W :=
 store_in W x y g 1 (.int .i64 n) _ hgd hd ho intInfo rfl hx hy hb (by simp) (by simp [maxLen]) fun w' h1 h2=>h w' h1 h2
end
def seesB (l:List Int) (i:Nat) (x:Int):Bool:=decide (l[i]?=some x)
theorem tksees_any (w:World) (b c k:Nat) (A:Option Addr) (l:List Int) (tv:Value) (T:List Tok) (h:IsR w b A l c k tv T) (hl:l.length≤1000) (n:Nat) (y x:Int) (hy:y=(n:Int)) (hn:n≤1000) :
 Calls Tryz.prog 109 #[.pointer (some ⟨b,0,none⟩),.int .i64 y,.int .i64 x] w fun e w'=>e=.returned (.bool (seesB l (k+n) x))∧w=w':=by
 subst hy
 obtain ⟨h0,h1,h2⟩:=h.cells
 have hkl:=h.le
 obtain ⟨i,hi⟩:∃ i,k+n=i:=⟨_,rfl⟩
 have hw:IntKind.i64.wrap ((k:Int)+(n:Int))=(i:Int):=by rw [IntWalk.i64_in _ (by omega)];omega
 rw [hi]
 by_cases hk:i < l.length
 ·obtain ⟨p,rfl,-,hc⟩:=h.char hk
  have k0:(0:Int)≤(i:Int):=by omega
  have k1:(i:Int) < (l.length:Int):=by omega
  have d1:decide ((i:Int) < (l.length:Int))=true:=by simpa using hk
  have e1:seesB l i x=(l[i] == x):=by rw [seesB,List.getElem?_eq_getElem hk];rw [beq_eq_decide']
  rw [e1]
  obtain ⟨z,hz⟩:∃ z,l[i]=z:=⟨_,rfl⟩
  rw [hz] at hc ⊢
  clear h e1 hz hi
  go_enter Tryz.func109,Tryz.ntmps109
  go_wp2
  go_ret
  exact ⟨rfl,rfl⟩
 ·have e1:seesB l i x=false:=by rw [seesB,List.getElem?_eq_none (by omega)];simp
  have d1:decide ((i:Int) < (l.length:Int))=false:=by simp;omega
  rw [e1]
  clear h e1 hi
  go_enter Tryz.func109,Tryz.ntmps109
  go_wp2
  go_ret
  exact ⟨rfl,rfl⟩
theorem tkclass_any (w:World) (b c k:Nat) (A:Option Addr) (l:List Int) (tv:Value) (T:List Tok) (h:IsR w b A l c k tv T) (hl:l.length≤1000) :
 Calls Tryz.prog 106 #[.pointer (some ⟨b,0,none⟩)] w fun e w'=>e=.returned (.agg (claT l k).1.arr)∧IsR w' b A l c (claT l k).2 tv T∧w.grownBy w' (some b):=by
 obtain ⟨w0,hw0⟩:∃ u,w.alloc (.cells #[.int .i64 0,.int .i64 0,.int .i64 0,.int .i64 0,.int .i64 0] 56)=u:=⟨_,rfl⟩
 have X0:Hid (Box w0 w.heap.size noTok.arr 56):=qh (hw0▸Box.new w _ _)
 have G0:Hid (w.grownBy w0 none):=qh (hw0▸grown_new w _ _)
 have H0:Hid (IsR w0 b A l c k tv T):=qh (h.grown G0.out)
 have hbw:=h.lt
 have HO:Hid (∀ g,w.heap.size≤g→tv.ownBlock≠some g):=qh fun g hg=>h.old hg
 have Z0:Hid (w0.heap.size=w.heap.size+1):=qh (by rw [← hw0];simp)
 have HW0:=qh hw0
 clear h hw0
 obtain ⟨w1,hw1⟩:∃ u,w0.alloc (.cells #[.int .i64 7,.int .i64 0,.int .i64 0,.int .i64 0,.int .i64 0] 56)=u:=⟨_,rfl⟩
 have HW1:=qh hw1
 have X1:Hid (Box w1 (w.heap.size+1) (⟨7,0,0,0,0⟩:Tok).arr 56):=qh (by rw [← Z0.out,← hw1];exact Box.new w0 _ _)
 have Y1:Hid (Box w1 w.heap.size noTok.arr 56):=qh (X0.out.kept (hw1▸grown_new w0 _ none) (by simp))
 have G1:Hid (w.grownBy w1 none):=qh (G0.out.trans (hw1▸grown_new w0 _ _))
 have H1:Hid (IsR w1 b A l c k tv T):=qh (H0.out.grown (hw1▸grown_new w0 _ _))
 clear hw1
 rcases hs:seesB l (k+0) 94 with _ | _
 ·have HC:Hid (claT l k=(⟨7,0,0,0,0⟩,k)):=qh (by unfold claT;rw [if_neg (by simpa [seesB] using hs)])
  rw [HC.out]
  have HS:=qh hs
  clear hs
  go_enter Tryz.func106,Tryz.ntmps106
  go_wp2_with fail
  rw [HW0.out,HW1.out]
  refine (tksees_any w1 b c k A l tv T H1.out hl 0 0 94 rfl (by omega)).mono ?_
  rintro e wq ⟨rfl,rfl⟩
  rw [HS.out]
  go_wp2_with (first
   | (refine load_box _ (w.heap.size+1) _ _ rfl rfl rfl X1.out Tryz.underlying56 rfl (tokInfo _) ?_)
   | (refine store_tok w1 _ _ w.heap.size noTok ⟨7,0,0,0,0⟩ rfl rfl rfl rfl rfl Y1.out ?_;intro w2 x2 g2;have X2:=qh x2;have G2:=qh g2;clear x2 g2)
   | fail)
  (try simp only [Exit.inBlock,Exit.then])
  exact bodyPost_ret (v:=.agg (⟨7,0,0,0,0⟩:Tok).arr) (ret_tok rfl _ _ w.heap.size _ rfl X2.out) rfl ⟨rfl,H1.out.new G2.out hbw (HO.out _ (Nat.le_refl _)),grown_two (grown_any G1.out _) G2.out (Nat.le_refl _)⟩
 ·have hk:k < l.length:=by
   rw [seesB,Nat.add_zero] at hs
   exact (List.getElem?_eq_some_iff.1 (of_decide_eq_true hs)).1
  have HC:Hid (claT l k=(⟨7,1,0,0,0⟩,k+1)):=qh (by unfold claT;rw [if_pos (by simpa [seesB] using hs)])
  rw [HC.out]
  have HS:=qh hs
  have hw:=tkwrap (k:=k) (by omega)
  obtain ⟨h0,h1,h2⟩:=H1.out.cells
  clear hs
  go_enter Tryz.func106,Tryz.ntmps106
  go_wp2_with fail
  rw [HW0.out,HW1.out]
  refine (tksees_any w1 b c k A l tv T H1.out hl 0 0 94 rfl (by omega)).mono ?_
  rintro e wq ⟨rfl,rfl⟩
  rw [HS.out]
  go_wp2_with (first
   | (refine store_at w1 _ _ (k+1) rfl rfl rfl rfl rfl H1.out hk ?_;intro w2 h2 g2;have H2:=qh h2;have X2:=qh (X1.out.kept g2 (by simp;omega));have Y2:=qh (Y1.out.kept g2 (by simp;omega));have G2:=qh ((grown_any G1.out (some b)).trans g2);clear h2 g2)
   | (refine store_char w2 _ _ (w.heap.size+1) ⟨7,0,0,0,0⟩ 1 rfl rfl rfl rfl rfl X2.out ?_;intro w3 x3 g3;have H3:=qh (H2.out.new g3 (by omega) (HO.out _ (by omega)));have X3:Hid (Box w3 (w.heap.size+1) (⟨7,1,0,0,0⟩:Tok).arr 56):=qh x3;have Y3:=qh (Y2.out.kept g3 (by simp));have G3:=qh (grown_two G2.out g3 (by omega));clear x3 g3)
   | (refine load_box _ (w.heap.size+1) _ _ rfl rfl rfl X3.out Tryz.underlying56 rfl (tokInfo _) ?_)
   | (refine store_tok w3 _ _ w.heap.size noTok ⟨7,1,0,0,0⟩ rfl rfl rfl rfl rfl Y3.out ?_;intro w4 x4 g4;have X4:=qh x4;have G4:=qh g4;clear x4 g4)
   | fail)
  (try simp only [Exit.inBlock,Exit.then])
  exact bodyPost_ret (v:=.agg (⟨7,1,0,0,0⟩:Tok).arr) (ret_tok rfl _ _ w.heap.size _ rfl X4.out) rfl ⟨rfl,H3.out.new G4.out hbw (HO.out _ (Nat.le_refl _)),grown_two G3.out G4.out (Nat.le_refl _)⟩
end
section
open Go.RowKit
theorem tkesc_any (w:World) (b c k:Nat) (A:Option Addr) (l:List Int) (tv:Value) (T:List Tok) (h:IsR w b A l c k tv T) (hl:l.length≤1000) (fr:Nat) :
 Calls Tryz.prog 107 #[.pointer (some ⟨b,0,none⟩),.int .i64 fr] w (Told w b A l c tv T (fun t:Tok=>.agg t.arr) (escT l fr k)):=by
 obtain ⟨w0,hw0⟩:∃ u,w.alloc (.cells #[.int .i64 0,.int .i64 0,.int .i64 0,.int .i64 0,.int .i64 0] 56)=u:=⟨_,rfl⟩
 have X0:Hid (Box w0 w.heap.size noTok.arr 56):=qh (hw0▸Box.new w _ _)
 have G0:Hid (w.grownBy w0 none):=qh (hw0▸grown_new w _ _)
 have H0:Hid (IsR w0 b A l c k tv T):=qh (h.grown G0.out)
 have hbw:=h.lt
 have HO:Hid (∀ g,w.heap.size≤g→tv.ownBlock≠some g):=qh fun g hg=>h.old hg
 have HW0:=qh hw0
 have hc:=tknext_any w0 b c k A l tv T H0.out hl
 unfold escT
 clear h hw0
 rcases hn:nxT l k with ⟨n,x⟩ | ⟨x,k'⟩
 ·rw [hn] at hc
  have HC:=qh hc
  clear hc hn
  go_enter Tryz.func107,Tryz.ntmps107
  go_wp2_with fail
  rw [HW0.out]
  refine HC.out.mono ?_
  rintro e w1 ⟨rfl,g1⟩
  have G1:=qh ((grown_any G0.out (some b)).trans g1)
  clear g1
  go_wp2_with fail
  exact ⟨rfl,rfl,G1.out⟩
 ·rw [hn] at hc
  have HC:=qh hc
  clear hc hn
  simp only
  rcases he:escI x with _ | ⟨z,g⟩
  ·have HV:Hid (escV x=.tuple #[.int .i64 0,.bool false,.bool false]):=qh (by unfold escV;rw [he])
   clear he
   go_enter Tryz.func107,Tryz.ntmps107
   go_wp2_with fail
   rw [HW0.out]
   refine HC.out.mono ?_
   rintro e w1 ⟨rfl,h1,g1⟩
   have G1:=qh ((grown_any G0.out (some b)).trans g1)
   clear g1 h1
   go_wp2_with fail
   refine (tkescape_any x w1).mono ?_
   rintro e wq ⟨rfl,rfl⟩
   rw [HV.out]
   go_wp2_with fail
   exact ⟨rfl,rfl,G1.out⟩
  ·have HV:Hid (escV x=.tuple #[.int .i64 z,.bool g,.bool true]):=qh (by unfold escV;rw [he])
   clear he
   cases g
   ·go_enter Tryz.func107,Tryz.ntmps107
    go_wp2_with fail
    rw [HW0.out]
    refine HC.out.mono ?_
    rintro e w1 ⟨rfl,h1,g1⟩
    have G1:=qh ((grown_any G0.out (some b)).trans g1)
    have H1:=qh h1
    have X1:=qh (X0.out.kept g1 (by simp;omega))
    clear g1 h1
    go_wp2_with fail
    refine (tkescape_any x w1).mono ?_
    rintro e wq ⟨rfl,rfl⟩
    rw [HV.out]
    go_wp2_with fail
    refine (tkchar_any z w1).mono ?_
    rintro e w2 ⟨rfl,g2⟩
    have G2:=qh (G1.out.trans (grown_any g2 _))
    have H2:=qh (H1.out.grown g2)
    have X2:=qh (X1.out.kept g2 (by simp))
    clear g2
    go_wp2_with (first
     | (refine store_tok w2 _ _ w.heap.size noTok (chT z) rfl rfl rfl rfl rfl X2.out ?_;intro w3 x3 g3;have X3:=qh x3;have G3:=qh g3;clear x3 g3)
     | fail)
    (try simp only [Exit.inBlock,Exit.then])
    exact bodyPost_ret (v:=.agg (chT z).arr) (ret_tok rfl _ _ w.heap.size _ rfl X3.out) rfl ⟨rfl,H2.out.new G3.out hbw (HO.out _ (Nat.le_refl _)),grown_two G2.out G3.out (Nat.le_refl _)⟩
   ·go_enter Tryz.func107,Tryz.ntmps107
    go_wp2_with fail
    rw [HW0.out]
    refine HC.out.mono ?_
    rintro e w1 ⟨rfl,h1,g1⟩
    have G1:=qh ((grown_any G0.out (some b)).trans g1)
    have H1:=qh h1
    have X1:=qh (X0.out.kept g1 (by simp;omega))
    clear g1 h1
    go_wp2_with fail
    refine (tkescape_any x w1).mono ?_
    rintro e wq ⟨rfl,rfl⟩
    rw [HV.out]
    go_wp2_with (first
     | (refine store_tok w1 _ _ w.heap.size noTok ⟨12,z,0,0,0⟩ rfl rfl rfl rfl rfl X1.out ?_;intro w3 x3 g3;have X3:=qh x3;have G3:=qh g3;clear x3 g3)
     | fail)
    (try simp only [Exit.inBlock,Exit.then])
    exact bodyPost_ret (v:=.agg (⟨12,z,0,0,0⟩:Tok).arr) (ret_tok rfl _ _ w.heap.size _ rfl X3.out) rfl ⟨rfl,H1.out.new G3.out hbw (HO.out _ (Nat.le_refl _)),grown_two G1.out G3.out (Nat.le_refl _)⟩
theorem tkitem_any (w:World) (b c k:Nat) (A:Option Addr) (l:List Int) (tv:Value) (T:List Tok) (h:IsR w b A l c k tv T) (hl:l.length≤1000) :
 Calls Tryz.prog 110 #[.pointer (some ⟨b,0,none⟩)] w (Told w b A l c tv T (fun t:Tok=>.agg t.arr) (itemT l k)):=by
 obtain ⟨w0,hw0⟩:∃ u,w.alloc (.cells #[.int .i64 0,.int .i64 0,.int .i64 0,.int .i64 0,.int .i64 0] 56)=u:=⟨_,rfl⟩
 have X0:Hid (Box w0 w.heap.size noTok.arr 56):=qh (hw0▸Box.new w _ _)
 have G0:Hid (w.grownBy w0 none):=qh (hw0▸grown_new w _ _)
 have H0:Hid (IsR w0 b A l c k tv T):=qh (h.grown G0.out)
 have hbw:=h.lt
 have HO:Hid (∀ g,w.heap.size≤g→tv.ownBlock≠some g):=qh fun g hg=>h.old hg
 have HW0:=qh hw0
 have hc:=tknext_any w0 b c k A l tv T H0.out hl
 obtain ⟨c0,c1,c2⟩:=h.cells
 unfold itemT
 clear h hw0
 rcases hn:nxT l k with ⟨n,x⟩ | ⟨x,k'⟩
 ·rw [hn] at hc
  have HC:=qh hc
  clear hc hn
  go_enter Tryz.func110,Tryz.ntmps110
  go_wp2_with fail
  rw [HW0.out]
  refine HC.out.mono ?_
  rintro e w1 ⟨rfl,g1⟩
  have G1:=qh ((grown_any G0.out (some b)).trans g1)
  clear g1
  go_wp2_with fail
  exact ⟨rfl,rfl,G1.out⟩
 ·rw [hn] at hc
  have HC:=qh hc
  clear hc hn
  simp only
  by_cases h92:x=92
  ·rw [if_pos h92]
   have d92:(x != 92)=false:=by simpa using h92
   clear h92
   go_enter Tryz.func110,Tryz.ntmps110
   go_wp2_with fail
   rw [HW0.out]
   refine HC.out.mono ?_
   rintro e w1 ⟨rfl,h1,g1⟩
   have G1:=qh ((grown_any G0.out (some b)).trans g1)
   have X1:=qh (X0.out.kept g1 (by simp;omega))
   have he:=tkesc_any w1 b c k' A l tv T h1 hl k
   have Z1:Hid (w.heap.size≤w1.heap.size):=qh G1.out.size
   clear g1 h1
   rcases hr:escT l k k' with ⟨n,y⟩ | ⟨t,k2⟩
   ·rw [hr] at he
    have HE:=qh he
    have HR:=qh hr
    clear he hr
    go_wp2_with fail
    refine HE.out.mono ?_
    rintro e w2 ⟨rfl,g2⟩
    have G2:=qh (G1.out.trans g2)
    clear g2
    go_wp2_with fail
    exact ⟨rfl,by rw [HR.out];exact ⟨rfl,G2.out⟩⟩
   ·rw [hr] at he
    have HE:=qh he
    have HR:=qh hr
    clear he hr
    go_wp2_with fail
    refine HE.out.mono ?_
    rintro e w2 ⟨rfl,h2,g2⟩
    have G2:=qh (G1.out.trans g2)
    have H2:=qh h2
    have X2:=qh (X1.out.kept g2 (by simp;omega))
    clear g2 h2
    go_wp2_with (first
     | (refine store_tok w2 _ _ w.heap.size noTok t rfl rfl rfl rfl rfl X2.out ?_;intro w3 x3 g3;have X3:=qh x3;have G3:=qh g3;clear x3 g3)
     | fail)
    (try simp only [Exit.inBlock,Exit.then])
    exact bodyPost_ret (v:=.agg t.arr) (ret_tok rfl _ _ w.heap.size _ rfl X3.out) rfl (by rw [HR.out];exact ⟨rfl,H2.out.new G3.out hbw (HO.out _ (Nat.le_refl _)),grown_two G2.out G3.out (Nat.le_refl _)⟩)
  ·rw [if_neg h92]
   have d92:(x != 92)=true:=by simpa using h92
   clear h92
   go_enter Tryz.func110,Tryz.ntmps110
   go_wp2_with fail
   rw [HW0.out]
   refine HC.out.mono ?_
   rintro e w1 ⟨rfl,h1,g1⟩
   have G1:=qh ((grown_any G0.out (some b)).trans g1)
   have H1:=qh h1
   have X1:=qh (X0.out.kept g1 (by simp;omega))
   clear g1 h1
   go_wp2_with fail
   refine (tkchar_any x w1).mono ?_
   rintro e w2 ⟨rfl,g2⟩
   have G2:=qh (G1.out.trans (grown_any g2 _))
   have H2:=qh (H1.out.grown g2)
   have X2:=qh (X1.out.kept g2 (by simp))
   clear g2
   go_wp2_with (first
    | (refine store_tok w2 _ _ w.heap.size noTok (chT x) rfl rfl rfl rfl rfl X2.out ?_;intro w3 x3 g3;have X3:=qh x3;have G3:=qh g3;clear x3 g3)
    | fail)
   (try simp only [Exit.inBlock,Exit.then])
   exact bodyPost_ret (v:=.agg (chT x).arr) (ret_tok rfl _ _ w.heap.size _ rfl X3.out) rfl ⟨rfl,H2.out.new G3.out hbw (HO.out _ (Nat.le_refl _)),grown_two G2.out G3.out (Nat.le_refl _)⟩
theorem Box.field {w:World} {g:Nat} {t:Tok} {e:TypeId} (h:Box w g t.arr e):w.cell? ⟨g,0,none⟩=some (.int .i64 t.k)∧w.cell? ⟨g,1,none⟩=some (.int .i64 t.c):=⟨h.cell rfl,h.cell rfl⟩
theorem tkup_any (w:World) (b c k:Nat) (A:Option Addr) (l:List Int) (tv:Value) (T:List Tok) (h:IsR w b A l c k tv T) (hl:l.length≤1000) (low:Int) (fr:Nat) :
 Calls Tryz.prog 111 #[.pointer (some ⟨b,0,none⟩),.int .i64 low,.int .i64 fr] w (Told w b A l c tv T (fun t:Tok=>.agg t.arr) (upT l low fr k)):=by
 obtain ⟨w0,hw0⟩:∃ u,w.alloc (.cells #[.int .i64 0,.int .i64 0,.int .i64 0,.int .i64 0,.int .i64 0] 56)=u:=⟨_,rfl⟩
 have X0:Hid (Box w0 w.heap.size noTok.arr 56):=qh (hw0▸Box.new w _ _)
 have G0:Hid (w.grownBy w0 none):=qh (hw0▸grown_new w _ _)
 have H0:Hid (IsR w0 b A l c k tv T):=qh (h.grown G0.out)
 have hbw:=h.lt
 have HO:Hid (∀ g,w.heap.size≤g→tv.ownBlock≠some g):=qh fun g hg=>h.old hg
 have HW0:=qh hw0
 have hc:=tkitem_any w0 b c k A l tv T H0.out hl
 obtain ⟨c0,c1,c2⟩:=h.cells
 unfold upT
 clear h hw0
 rcases hn:itemT l k with ⟨n,x⟩ | ⟨t,k'⟩
 ·rw [hn] at hc
  have HC:=qh hc
  clear hc hn
  go_enter Tryz.func111,Tryz.ntmps111
  go_wp2_with fail
  rw [HW0.out]
  refine HC.out.mono ?_
  rintro e w1 ⟨rfl,g1⟩
  have G1:=qh ((grown_any G0.out (some b)).trans g1)
  clear g1
  go_wp2_with fail
  exact ⟨rfl,rfl,G1.out⟩
 ·rw [hn] at hc
  have HC:=qh hc
  clear hc hn
  simp only
  by_cases h12:t.k=12
  ·rw [if_pos h12]
   have d12:(t.k == 12)=true:=by simpa using h12
   have D12:=qh d12
   clear h12 d12
   go_enter Tryz.func111,Tryz.ntmps111
   go_wp2_with fail
   rw [HW0.out]
   refine HC.out.mono ?_
   rintro e w1 ⟨rfl,h1,g1⟩
   have G1:=qh ((grown_any G0.out (some b)).trans g1)
   clear g1 h1
   have d12:=D12.out
   go_wp2_with fail
   exact ⟨rfl,rfl,G1.out.trans (grown_new w1 _ _)⟩
  ·rw [if_neg h12]
   have d12:(t.k == 12)=false:=by simpa using h12
   clear h12
   by_cases hlt:t.c < low
   ·rw [if_pos hlt]
    have dlt:decide (t.c < low)=true:=by simpa using hlt
    clear hlt
    go_enter Tryz.func111,Tryz.ntmps111
    go_wp2_with fail
    rw [HW0.out]
    refine HC.out.mono ?_
    rintro e w1 ⟨rfl,h1,g1⟩
    have G1:=qh ((grown_any G0.out (some b)).trans g1)
    clear g1 h1
    go_wp2_with fail
    exact ⟨rfl,rfl,G1.out.trans (grown_new w1 _ _)⟩
   ·rw [if_neg hlt]
    have dlt:decide (t.c < low)=false:=by simpa using hlt
    clear hlt
    go_enter Tryz.func111,Tryz.ntmps111
    go_wp2_with fail
    rw [HW0.out]
    refine HC.out.mono ?_
    rintro e w1 ⟨rfl,h1,g1⟩
    have G1:=qh ((grown_any G0.out (some b)).trans g1)
    have H1:=qh h1
    have X1:=qh (X0.out.kept g1 (by simp;omega))
    clear g1 h1
    go_wp2_with (first
     | (refine store_tok _ _ _ w.heap.size noTok ⟨9,0,low,t.c,0⟩ rfl rfl rfl rfl rfl (X1.out.kept (grown_new w1 _ none) (by simp)) ?_;intro w3 x3 g3;have X3:=qh x3;have G3:=qh g3;clear x3 g3)
     | fail)
    (try simp only [Exit.inBlock,Exit.then])
    exact bodyPost_ret (v:=.agg (⟨9,0,low,t.c,0⟩:Tok).arr) (ret_tok rfl _ _ w.heap.size _ rfl X3.out) rfl ⟨rfl,(H1.out.grown (grown_new w1 _ none)).new G3.out hbw (HO.out _ (Nat.le_refl _)),grown_two (G1.out.trans (grown_new w1 _ _)) G3.out (Nat.le_refl _)⟩
end
section
open Go.RowKit
theorem toksT:SliceOfN Tryz.prog 47 56 (.agg #[.int .i64 0,.int .i64 0,.int .i64 0,.int .i64 0,.int .i64 0]) 5 40:=⟨by kernel_rfl,by kernel_rfl,rfl,by decide⟩
theorem tokCells_append (S T:List Tok):tokCells (S++T)=tokCells S++tokCells T:=by simp [tokCells]
theorem tokCells_one (t:Tok):tokCells [t]=t.arr.toList:=by simp [tokCells]
theorem tokCells_length (T:List Tok):(tokCells T).length=T.length * 5:=by
 induction T with
 | nil=>rfl
 | cons t T ih=>rw [show t :: T=[t]++T from rfl,tokCells_append,List.length_append,ih,tokCells_one];simp;omega
theorem arr_one (t:Tok):∀ u∈t.arr.toList,u.oneCell'=true:=by simp [Value.oneCell']
def Tok.laid (t:Tok) (fr:Nat):Tok:=⟨t.k,t.c,t.lo,t.hi,(fr:Int)⟩
abbrev AddAt (u:World) (b g:Nat) (tv:Value) (t:Tok) (fr:Nat):Prop:=u.cell? ⟨b,2,none⟩=some tv∧u.cell? ⟨g,0,none⟩=some (.int .i64 t.k)∧u.cell? ⟨g,1,none⟩=some (.int .i64 t.c)∧u.cell? ⟨g,2,none⟩=some (.int .i64 t.lo)∧u.cell? ⟨g,3,none⟩=some (.int .i64 t.hi)∧u.cell? ⟨g,4,none⟩=some (.int .i64 fr)
theorem add_at {u:World} {b g fr:Nat} {x y tv:Value} {t:Tok} {e e':TypeId} (hb:Box u b #[x,y,tv] e) (hx:Box u g (t.laid fr).arr e'):AddAt u b g tv t fr :=
 ⟨hb.cell rfl,hx.cell rfl,hx.cell rfl,hx.cell rfl,hx.cell rfl,hx.cell rfl⟩
theorem tokSlInfo:(Tryz.prog.info? 47).map (·.size)=some 1:=by kernel_rfl
theorem tkadd_any (w:World) (b c k:Nat) (A:Option Addr) (l:List Int) (tv:Value) (T:List Tok) (h:IsR w b A l c k tv T) (hT:T.length≤1000) (t:Tok) (fr:Nat) :
 Calls Tryz.prog 103 #[.pointer (some ⟨b,0,none⟩),.agg t.arr,.int .i64 fr] w
  fun e w'=>e=.returned (.int .i64 t.k)∧(∃ tv',IsR w' b A l c k tv' (T++[t.laid fr]))∧Below b w w':=by
 obtain ⟨w0,hw0⟩:∃ u,w.alloc (.cells (t.laid fr).arr 56)=u:=⟨_,rfl⟩
 have X0:Hid (Box w0 w.heap.size (t.laid fr).arr 56):=qh (hw0▸Box.new w _ _)
 have G0:Hid (w.grownBy w0 none):=qh (hw0▸grown_new w _ _)
 have H0:=qh (h.grown G0.out)
 have Z0:Hid (w0.heap.size=w.heap.size+1):=qh (by rw [← hw0];simp)
 have hbw:=h.lt
 obtain ⟨At,ct,rfl,-,-,-⟩:=h.toks.form
 have HF:Hid ((Value.slice At T.length ct).ownBlock≠some b):=qh h.far
 have HO:Hid ((Value.slice At T.length ct).ownBlock≠some w.heap.size):=qh (h.old (Nat.le_refl _))
 have HC:Hid (∀ u:World,w0.heap.size≤u.heap.size→(∀ i,i < w0.heap.size→u.heap[i]?=w0.heap[i]?)→AddAt u b w.heap.size (.slice At T.length ct) t fr):=qh fun u _ hu=>by
  have hb:=H0.out.box
  have hx:=X0.out
  have z:=Z0.out
  unfold Box at hb hx
  rw [← hu _ (by omega)] at hb hx
  exact add_at hb hx
 have HW0:Hid ((w.alloc (.cells #[.int .i64 t.k,.int .i64 t.c,.int .i64 t.lo,.int .i64 t.hi,.int .i64 fr] 56))=w0):=qh hw0
 clear h hw0
 go_enter Tryz.func103,Tryz.ntmps103
 go_wp2_with fail
 rw [HW0.out]
 have hk:=HC.out w0.drew (Nat.le_refl _) (fun _ _=>rfl)
 refine wp_region_E (S:=fun u=>u.cell? ⟨b,2,none⟩=some (.slice At T.length ct)∧u.cell? ⟨w.heap.size,0,none⟩=some (.int .i64 t.k)∧u.cell? ⟨w.heap.size,1,none⟩=some (.int .i64 t.c)∧u.cell? ⟨w.heap.size,2,none⟩=some (.int .i64 t.lo)∧u.cell? ⟨w.heap.size,3,none⟩=some (.int .i64 t.hi)∧u.cell? ⟨w.heap.size,4,none⟩=some (.int .i64 fr)) [10] (by kernel_rfl) (hk) (fun hHeld hZ=>?_)
 refine' eY 0 hHeld hZ fun hZ=>?_
 try simp only [Act.put,ZA,ZB,ZD,ZE,ZF]
 refine' eY 1 hHeld hZ fun hZ=>?_
 try simp only [Act.put,ZA,ZB,ZC,ZD,ZE,ZF]
 refine' eY 2 hHeld hZ fun hZ=>?_
 try simp only [Act.put,ZA,ZB,ZC,ZD,ZE,ZF]
 refine' eY 3 hHeld hZ fun hZ=>?_
 try simp only [Act.put,ZA,ZB,ZC,ZD,ZE,ZF]
 refine' eY 4 hHeld hZ fun hZ=>?_
 try simp only [Act.put,ZA,ZB,ZC,ZD,ZE,ZF]
 refine' eY 5 hHeld hZ fun hZ=>?_
 try simp only [Act.put,ZA,ZB,ZC,ZD,ZE,ZF]
 refine eA 6 fun K hK=>?_
 go_simp
 refine eB hK hZ (HC.out _ (by simp) (fun i hi=>Below.heap_alloc w0.drew _ i hi)) fun hHeld hZ=>?_
 clear hK K
 try simp only [Act.put,ZA,ZB,ZC,ZD,ZE,ZF]
 refine eA 7 fun K hK=>?_
 refine step_appN toksT w0 _ b _ (.tmp 13) (.tmp 15) (.slice At T.length ct) T.length 1 (tokCells T) (t.laid fr).arr.toList _ _ rfl rfl rfl rfl (OwnN.same (H0.out.toks.alloc _) rfl) (Lies.sameHeap (Lies.lit (w:=w0) (e:=56) (t.laid fr).arr) rfl) rfl (arr_one _) (by exact below_same ((below_alloc w0 _).mono (by have:=Z0.out;omega)) rfl rfl rfl rfl) (by have:=Z0.out;simp;omega) (by unfold maxLen;omega) (by omega) ?_
 intro v2 w2 o2 b2 g2 e2
 obtain ⟨A2,c2,rfl,-,-,-⟩:=o2.form
 have X2:=qh (((X0.out.kept (grown_new w0 _ none) (by simp)).same (w':=(w0.alloc (.cells (t.laid fr).arr 56)).drew) rfl).kept g2 HO.out)
 have R2:=qh (((H0.out.box.kept (grown_new w0 _ none) (by simp)).same (w':=(w0.alloc (.cells (t.laid fr).arr 56)).drew) rfl).kept g2 HF.out)
 have O2:=qh o2
 have E2:=qh e2
 have B2:=qh b2
 have L2:=qh (H0.out.lies.below b2)
 clear o2 e2 b2 g2
 refine eB hK hZ ((add_at R2.out X2.out)) fun hHeld hZ=>?_
 clear hK K
 try simp only [Act.put,ZA,ZB,ZC,ZD,ZE,ZF]
 refine' eY 8 hHeld hZ fun hZ=>?_
 try simp only [Act.put,ZA,ZB,ZC,ZD,ZE,ZF]
 refine' eY 9 hHeld hZ fun hZ=>?_
 try simp only [Act.put,ZA,ZB,ZC,ZD,ZE,ZF]
 refine eA 10 fun K hK=>?_
 refine step_in w2 (.tmp 18) (.tmp 16) b 2 (.slice A2 (T.length+1) c2) _ rfl rfl rfl tokSlInfo rfl rfl rfl R2.out (by simp) (by simp [maxLen]) ?_
 intro w3 r3 g3
 have X3:=qh (X2.out.kept g3 (by simp;omega))
 obtain ⟨-,c0,-,-,-,-⟩:AddAt w3 b w.heap.size (.slice A2 (T.length+1) c2) t fr:=add_at r3 X3.out
 have H3:Hid (IsR w3 b A l c k (.slice A2 (T.length+1) c2) (T++[t.laid fr])):=qh ⟨r3,by
  rw [List.length_append,tokCells_append,tokCells_one]
  refine O2.out.keep g3 (.inr fun e=>?_)
  rcases E2.out with h1 | ⟨g,h1,h2⟩
  ·rw [h1] at e;exact HF.out e
  ·rw [h1] at e;injection e with e;have:=Z0.out;simp at h2;omega,L2.out.same (fun q hq=>World.cell?_of_block (g3.block q.block (by have:=B2.out.size;have:=Z0.out;omega) (fun e=>by injection e with e;omega))),H0.out.le,H0.out.cap⟩
 have B3:Hid (Below b w w3):=qh ((below_row_none G0.out (by omega)).trans (B2.out.trans (below_row g3 (Nat.le_refl _) (by have:=B2.out.size;have:=Z0.out;omega))))
 clear r3 g3
 refine eE hK hZ fun hZ=>?_
 clear hK K
 try simp only [Act.put,ZA,ZB,ZC,ZD,ZE,ZF]
 refine wpAnyE_done (by kernel_rfl) ?_ _
 clear hZ
 go_wp2_with fail
 go_ret
 exact ⟨rfl,⟨_,H3.out⟩,B3.out⟩
theorem lastR_snoc (T:List Tok) (t:Tok):lastR (T++[t])=(t.k == 6):=by simp [lastR]
theorem tkrepeat_any (w:World) (b c k:Nat) (A:Option Addr) (l:List Int) (tv:Value) (T:List Tok) (h:IsR w b A l c k tv T) (hT:T.length≤1000) (x:Int) :
 Calls Tryz.prog 104 #[.pointer (some ⟨b,0,none⟩),.int .i64 x] w fun e w'=>e=.returned (.agg (repT (lastR T) x).arr)∧w.grownBy w' none:=by
 obtain ⟨c0,c1,c2⟩:=h.cells
 obtain ⟨At,ct,rfl,-,-,-⟩:=h.toks.form
 have hbw:=h.lt
 have HG:=qh (grown_new w (.cells #[.int .i64 6,.int .i64 0,.int .i64 1,.int .i64 (-1),.int .i64 0] 56) none)
 obtain ⟨m,hm⟩:∃ m,T.length=m:=⟨_,rfl⟩
 have HH:=qh h
 by_cases h63:x=63
 ·subst h63
  rcases List.eq_nil_or_concat T with hT0 | ⟨S,t,hST⟩
  ·subst hT0
   obtain rfl:m=0:=hm.symm
   clear h HH
   go_enter Tryz.func104,Tryz.ntmps104
   go_wp2_with fail
   (try simp only [Exit.inBlock,Exit.then])
   exact bodyPost_ret (v:=.agg (repT (lastR []) 63).arr) (ret_tok rfl _ _ w.heap.size ⟨6,0,0,1,0⟩ rfl (Box.new w _ _)) rfl ⟨rfl,grown_new w _ _⟩
  ·rw [List.concat_eq_append] at hST
   subst hST
   obtain ⟨n,hn⟩:∃ n,S.length=n:=⟨_,rfl⟩
   obtain rfl:m=n+1:=by rw [← hm];simp [hn]
   obtain ⟨g,c',hv,-,-,hgl,hcells⟩:=h.toks.block (by simp)
   injection hv with hv1 _ hv3
   subst hv1 hv3
   have hk:=hcells (n * 5) (by simp;omega)
   rw [tokCells_append,List.getElem?_append_right (by rw [tokCells_length,hn];exact Nat.le_refl _),tokCells_length,hn,Nat.sub_self,tokCells_one] at hk
   simp only [List.getElem?_cons_zero] at hk
   rw [hm] at c2
   rw [lastR_snoc]
   have b0:(0:Int)≤(n:Int):=by omega
   have b1:(n:Int) < ((n+1:Nat):Int):=by omega
   have hw1:IntKind.i64.wrap (((n+1:Nat):Int) - 1)=(n:Int):=by rw [IntWalk.i64_in _ (by omega)];omega
   have hw2:IntKind.i64.wrap (n:Int)=(n:Int):=IntWalk.i64_in _ (by omega)
   have d0:decide ((0:Int) < ((n+1:Nat):Int))=true:=decide_eq_true (by omega)
   have hne:¬ w.heap.size=b:=by omega
   have hne':¬ w.heap.size=g:=by omega
   clear h HH hcells hm hn
   rcases h6:(t.k == 6) with _ | _
   ·go_enter Tryz.func104,Tryz.ntmps104
    go_wp2_with fail
    (try simp only [Exit.inBlock,Exit.then])
    exact bodyPost_ret (v:=.agg (repT false 63).arr) (ret_tok rfl _ _ w.heap.size ⟨6,0,0,1,0⟩ rfl (Box.new w _ _)) rfl ⟨rfl,grown_new w _ _⟩
   ·go_enter Tryz.func104,Tryz.ntmps104
    go_wp2_with fail
    (try simp only [Exit.inBlock,Exit.then])
    exact bodyPost_ret (v:=.agg (repT true 63).arr) (ret_tok rfl _ _ w.heap.size ⟨13,0,0,0,0⟩ rfl (Box.new w _ _)) rfl ⟨rfl,grown_new w _ _⟩
 ·have d63:(x == 63)=false:=by simpa using h63
  by_cases h42:x=42
  ·subst h42
   clear h HH
   go_enter Tryz.func104,Tryz.ntmps104
   go_wp2_with fail
   (try simp only [Exit.inBlock,Exit.then])
   exact bodyPost_ret (v:=.agg (repT (lastR T) 42).arr) (ret_tok rfl _ _ w.heap.size ⟨6,0,0,-1,0⟩ rfl (Box.new w _ _)) rfl ⟨rfl,grown_new w _ _⟩
  ·have d42:(x == 42)=false:=by simpa using h42
   have he:repT (lastR T) x=⟨6,0,1,-1,0⟩:=by unfold repT;rw [if_neg (fun e=>h63 e.1),if_neg h63,if_neg h42]
   rw [he]
   clear h HH h63 h42 he
   go_enter Tryz.func104,Tryz.ntmps104
   go_wp2_with fail
   (try simp only [Exit.inBlock,Exit.then])
   exact bodyPost_ret (v:=.agg (⟨6,0,1,-1,0⟩:Tok).arr) (ret_tok rfl _ _ w.heap.size ⟨6,0,1,-1,0⟩ rfl (Box.new w _ _)) rfl ⟨rfl,grown_new w _ _⟩
end
end Go.Proofs.YtoeocodfndbebaaGreatDoor
