/- Shared texts, shaken for one claim. -/
import Derived.Test.YtoeocodfndbebaaGreatDoorZC12
import Derived.Test.YtoeocodfndbebaaGreatDoorZC15
import Derived.Test.YtoeocodfndbebaaGreatDoorZC17
import Derived.Test.YtoeocodfndbebaaGreatDoorZC19
import Derived.Test.YtoeocodfndbebaaGreatDoorZC20
import Derived.Test.YtoeocodfndbebaaGreatDoorZC21
import Derived.Test.YtoeocodfndbebaaGreatDoorZC25
import Derived.Test.YtoeocodfndbebaaGreatDoorZC29
set_option maxRecDepth 20000
set_option maxHeartbeats 16000000
namespace Go.Proofs.YtoeocodfndbebaaGreatDoor
section
open Go.RowKit
theorem parse_below (w:World) (A:Option Addr) (l:List Int) (c:Nat) (f:Int) (hf:f < 0):Calls Tryz.prog 20 #[.slice A l.length c,.int .i64 f] w (Wronged w 0 11):=by
 have d0:decide (f < 0)=true:=decide_eq_true hf
 have X0:Hid (Box (w.alloc (.cells #[.int .i64 0,.slice none 0 0,.int .i64 0,.int .i64 0,.slice none 0 0] 25)) w.heap.size ndZero 25):=qh (Box.new w _ _)
 clear hf
 go_enter Tryz.func20,Tryz.ntmps20
 go_wp2_with (first
  | (refine store_nd _ _ _ w.heap.size ndZero ndZero rfl rfl rfl rfl rfl X0.out rfl rfl (by simp [ndZero,Value.oneCell']) ?_;intro w1 x1 g1;have X1:=qh x1;have G1:=qh (grown_two (grown_new w _ none) g1 (Nat.le_refl _));clear x1 g1)
  | fail)
 (try simp only [Exit.inBlock,Exit.then])
 exact bodyPost_ret (results_box2 rfl _ _ w.heap.size 25 _ _ rfl X1.out Tryz.underlying25 rfl (ndInfo rfl)) rfl ⟨rfl,below_row_none G1.out (Nat.le_refl _)⟩
theorem parse_wrong (w:World) (A:Option Addr) (l:List Int) (c:Nat) (f:Int) (hf:0≤f∧f≤7) (h:Lies w w.heap.size A (ints .i64 l)) (hc:l.length≤c) (p:Nat) (x:Int) (hx:x≠0) (ho:ofT l=.error (p,x)) :
 Calls Tryz.prog 20 #[.slice A l.length c,.int .i64 f] w (Wronged w p x):=by
 have d0:decide (f < 0)=false:=decide_eq_false (by omega)
 have d1:decide (7 < f)=false:=decide_eq_false (by omega)
 have d2:decide (f > 7)=false:=decide_eq_false (by omega)
 have d3:(x != 0)=true:=by simpa using hx
 obtain ⟨w0,hw0⟩:∃ u,w.alloc (.cells #[.int .i64 0,.slice none 0 0,.int .i64 0,.int .i64 0,.slice none 0 0] 25)=u:=⟨_,rfl⟩
 have G0:Hid (w.grownBy w0 none):=qh (hw0▸grown_new w _ none)
 have X0:Hid (Box w0 w.heap.size ndZero 25):=qh (hw0▸Box.new w _ _)
 have HW0:=qh hw0
 have HC:=qh (tkof_any w0 c A l (h.up (below_row_none G0.out (Nat.le_refl _))) hc)
 rw [ho] at HC
 have d4:(x == 0)=false:=by simpa using hx
 clear hf hx hw0 h ho
 go_enter Tryz.func20,Tryz.ntmps20
 go_wp2_with fail
 rw [HW0.out]
 refine HC.out.mono ?_
 rintro e w2 ⟨rfl,b2⟩
 have X2:=qh (X0.out.kept (grown_of_below b2 none) (by simp))
 have G2:=qh (G0.out.trans (grown_of_below b2 none))
 clear b2
 go_wp2_with (first
  | (refine store_nd w2 _ _ w.heap.size ndZero ndZero rfl rfl rfl rfl rfl X2.out rfl rfl (by simp [ndZero,Value.oneCell']) ?_;intro w3 x3 g3;have X3:=qh x3;have G3:=qh (grown_two G2.out g3 (Nat.le_refl _));clear x3 g3)
  | fail)
 (try simp only [Exit.inBlock,Exit.then])
 exact bodyPost_ret (results_box2 rfl _ _ w.heap.size 25 _ _ rfl X3.out Tryz.underlying25 rfl (ndInfo rfl)) rfl ⟨rfl,below_row_none G3.out (Nat.le_refl _)⟩
theorem parse_great (w:World) (hT:FoTabs w) (A:Option Addr) (l:List Int) (c:Nat) (f:Int) (hf:0≤f∧f≤7) (h:Lies w w.heap.size A (ints .i64 l)) (hc:l.length≤c) (T:List Tok) (ho:ofT l=.ok T) (hn:T.length≤1000) (hz:faultT l.length T 0 3=(0,0)) (q d:Nat) (n:Nd) (R:List Tok) (hp:patT f q d T=some (n,R)) (hs:400 < sizeI n) :
 Calls Tryz.prog 20 #[.slice A l.length c,.int .i64 f] w (Wronged w 0 10):=by
 have d0:decide (f < 0)=false:=decide_eq_false (by omega)
 have d1:decide (7 < f)=false:=decide_eq_false (by omega)
 have d2:decide (f > 7)=false:=decide_eq_false (by omega)
 obtain ⟨w0,hw0⟩:∃ u,w.alloc (.cells #[.int .i64 0,.slice none 0 0,.int .i64 0,.int .i64 0,.slice none 0 0] 25)=u:=⟨_,rfl⟩
 have G0:Hid (w.grownBy w0 none):=qh (hw0▸grown_new w _ none)
 have X0:Hid (Box w0 w.heap.size ndZero 25):=qh (hw0▸Box.new w _ _)
 have HW0:=qh hw0
 have HC:=qh (tkof_any w0 c A l (h.up (below_row_none G0.out (Nat.le_refl _))) hc)
 rw [ho] at HC
 have HFA:=qh (fun (u:World) (A:Option Addr) (c:Nat) h=>fault_any u A T c l.length h hn)
 rw [hz] at HFA
 have HTH:=qh hT
 have HPA:Hid (∀ (b:Nat) (u:World),3 < b→FoTabs u→IsT u b T f→Calls Tryz.prog 40 #[.pointer (some ⟨b,0,none⟩)] u (NdTo u b f n R)):=qh fun b u hb h1 h2=>pat_ok b f q hb d u T n R h1 h2 hp
 obtain ⟨sz,hsz⟩:∃ s,sizeI n=s:=⟨_,rfl⟩
 have HSZ:Hid (∀ (w:World) (P:Nat→Prop) (v:Array Value),Treed w P n v→Calls Tryz.prog 41 #[.agg v] w fun e u'=>e=.returned (.int .i64 sz)∧w.grownBy u' none):=qh fun w P v t=>hsz▸size_any t w (fun _ _ _=>rfl) (Nat.le_refl _)
 rw [hsz] at hs
 have d3:decide (400 < sz)=true:=decide_eq_true (by omega)
 have d4:decide (sz > 400)=true:=decide_eq_true (by omega)
 clear hf hw0 h ho hz hp hs hsz hT
 go_enter Tryz.func20,Tryz.ntmps20
 go_wp2_with fail
 rw [HW0.out]
 refine HC.out.mono ?_
 rintro e w1 ⟨⟨tv,rfl,o1⟩,b1⟩
 obtain ⟨A1,c1,rfl,l1,hc1,-⟩:=o1.form
 have X1:=qh (X0.out.kept (grown_of_below b1 none) (by simp))
 have G1:=qh (G0.out.trans (grown_of_below b1 none))
 have HF:=qh (HFA.out w1 A1 c1 l1)
 have L1:=qh l1
 clear o1 b1 l1
 go_wp2_with fail
 refine HF.out.mono ?_
 rintro e w2 ⟨rfl,g2⟩
 have X2:=qh (X1.out.kept g2 (by simp))
 have G2:=qh (G1.out.trans g2)
 have L2:=qh (L1.out.up (below_row_none g2 (Nat.le_refl _)))
 clear g2
 obtain ⟨w3,hw3⟩:∃ u,w2.alloc (.cells #[.slice A1 T.length c1,.int .i64 f] 72)=u:=⟨_,rfl⟩
 have N3:w2.grownBy w3 none:=hw3▸grown_new w2 _ none
 have R3:Hid (IsT w3 w2.heap.size T f):=qh ⟨⟨A1,c1,hw3▸Box.new w2 _ _,L2.out.same (fun q hq=>World.cell?_of_block (N3.block q.block hq (by simp))),hc1⟩,hn⟩
 have X3:=qh (X2.out.kept N3 (by simp))
 have G3:=qh (G2.out.trans N3)
 have HP3:=qh (HPA.out w2.heap.size w3 (by have:=HTH.out.big;have:=G2.out.size;omega) (HTH.out.grown0 G3.out) R3.out)
 have HW3:=qh hw3
 have HLT:Hid (w.heap.size < w2.heap.size):=qh X2.out.lt
 have HZ3:=qh N3.size
 clear hw3 N3
 go_wp2_with fail
 rw [HW3.out]
 refine HP3.out.mono ?_
 rintro e w4 ⟨v,rfl,t4,-,g4⟩
 have h5:=t4.size
 have h51:=t4.one
 have X4:=qh (X3.out.kept g4 (by have:=HLT.out;simp;omega))
 have G4:=qh (grown_two G3.out g4 (by have:=HLT.out;omega))
 have T4:=qh t4
 have Y4:Hid (Box (w4.alloc (.cells #[.int .i64 0,.slice none 0 0,.int .i64 0,.int .i64 0,.slice none 0 0] 25)) w4.heap.size ndZero 25):=qh (Box.new w4 _ _)
 have HL4:Hid (w.heap.size < w4.heap.size):=qh X4.out.lt
 clear t4 g4
 go_wp2_with (first
  | (refine store_nd _ _ _ w4.heap.size ndZero v rfl rfl rfl rfl rfl Y4.out rfl h5 h51 ?_;intro w5 x5 g5;have Y5:=qh x5;have N5:Hid (w4.grownBy w5 none):=qh (grown_two (grown_new w4 _ none) g5 (Nat.le_refl _));have X5:=qh (X4.out.kept N5.out (by simp));have G5:=qh (G4.out.trans N5.out);have T5:=qh (T4.out.grown N5.out (fun x hx e=>by cases e));clear x5 g5)
  | (refine load_nd _ w4.heap.size v rfl rfl rfl Y5.out h5 ?_)
  | fail)
 refine (HSZ.out w5 _ v T5.out).mono ?_
 rintro e w6 ⟨rfl,g6⟩
 have Y6:=qh (Y5.out.kept g6 (by simp))
 have X6:=qh (X5.out.kept g6 (by simp))
 have G6:=qh (G5.out.trans g6)
 clear g6
 go_wp2_with (first
  | (refine store_nd w6 _ _ w.heap.size ndZero ndZero rfl rfl rfl rfl rfl X6.out rfl rfl (by simp [ndZero,Value.oneCell']) ?_;intro w7 x7 g7;have X7:=qh x7;have G7:=qh (grown_two G6.out g7 (Nat.le_refl _));clear x7 g7)
  | fail)
 (try simp only [Exit.inBlock,Exit.then])
 exact bodyPost_ret (results_box2 rfl _ _ w.heap.size 25 _ _ rfl X7.out Tryz.underlying25 rfl (ndInfo rfl)) rfl ⟨rfl,below_row_none G7.out (Nat.le_refl _)⟩
def parseD (l:List Int) (f:Int):Except (Int×Int) Nd :=
 if f < 0∨7 < f then .error (0,11) else match ofT l with
  | .error (p,x)=>.error ((p:Int),x)
  | .ok T=>match dP f l.length 201 T with
   | .error e=>.error e
   | .ok n=>if 400 < sizeI n then .error (0,10) else .ok n
def ParseTo (w:World) (r:Except (Int×Int) Nd) (ed:Ending) (w':World):Prop:=match r with
 | .error (p,x)=>Wronged w p x ed w'
 | .ok n=>ParsedTo w n ed w'
theorem parse_any (w:World) (hT:FoTabs w) (A:Option Addr) (l:List Int) (c:Nat) (f:Int) (h:Lies w w.heap.size A (ints .i64 l)) (hc:l.length≤c) :
 Calls Tryz.prog 20 #[.slice A l.length c,.int .i64 f] w (ParseTo w (parseD l f)):=by
 unfold parseD
 by_cases hf:f < 0∨7 < f
 ·rw [if_pos hf]
  rcases hf with hf | hf
  ·exact parse_below w A l c f hf
  ·exact parse_flag w A l c f hf
 ·rw [if_neg hf]
  have hf:0≤f∧f≤7:=by omega
  rcases ho:ofT l with ⟨p,x⟩ | T
  ·exact parse_wrong w A l c f hf h hc p x (of_bad ho).2.2.1 ho
  ·have hn:T.length≤1000:=by have:=of_length ho;have:=(of_fits ho).2;omega
   simp only
   rcases of_same f ho with ⟨n,h1,h2,h3⟩ | ⟨h1,h2⟩
   ·rw [h1]
    simp only
    by_cases hs:400 < sizeI n
    ·rw [if_pos hs]
     exact parse_great w hT A l c f hf h hc T ho hn h2 201 21 n [] h3 hs
    ·rw [if_neg hs]
     exact parse_right w hT A l c f hf h hc T ho hn h2 201 21 n [] h3 (by omega)
   ·rw [h1]
    exact parse_fault w A l c f hf h hc T ho hn _ _ h2 rfl
end
section
open Go.RowKit
def patI (n:Nd):List Int×Int:=if rightN n=false then ([],1) else if 200 < (textN n).length then ([],10) else (textN n,0)
theorem shpattern_any {w:World} {P:Nat→Prop} {n:Nd} {v:Array Value} (h:Treed w P n v) (u:World) (hu:Agree w P u) (hP:PowT u) :
 Calls Tryz.prog 9 #[.agg v] u (Rowed2 u u.heap.size 3 (ints .i64 (patI n).1) (patI n).2):=by
 obtain ⟨A,m,c,lo,hi,A',m',c',hv⟩:=h.kind
 obtain ⟨kn,hkn⟩:∃ x,kindN n=x:=⟨_,rfl⟩
 rw [hkn] at hv
 subst hv
 have X0:Hid (Box (u.alloc (.cells #[.int .i64 kn,.slice A m c,.int .i64 lo,.int .i64 hi,.slice A' m' c'] 25)) u.heap.size #[.int .i64 kn,.slice A m c,.int .i64 lo,.int .i64 hi,.slice A' m' c'] 25):=qh (Box.new u _ _)
 have G0:Hid (u.grownBy (u.alloc (.cells #[.int .i64 kn,.slice A m c,.int .i64 lo,.int .i64 hi,.slice A' m' c'] 25)) none):=qh (grown_new u _ none)
 have HR:=qh (shright_any h _ (hu.grown G0.out).1 (hu.grown G0.out).2)
 have HW:Hid (rightN n=true→∀ x,u.grownBy x none→Calls Tryz.prog 18 #[.agg #[.int .i64 kn,.slice A m c,.int .i64 lo,.int .i64 hi,.slice A' m' c']] x (Rowed x x.heap.size 3 (ints .i64 (textN n)))):=qh fun hr x g=>by
  unfold rightN at hr
  simp only [Bool.and_eq_true,decide_eq_true_eq] at hr
  exact written_any h hr.2 ⟨hr.1.1.1,hr.1.1.2⟩ x (hu.grown g) (hP.grown g)
 have HS:=qh (fun hr=>text_short (n:=n) hr)
 obtain ⟨r,hr⟩:∃ r,rightN n=r:=⟨_,rfl⟩
 obtain ⟨tx,htx⟩:∃ t,textN n=t:=⟨_,rfl⟩
 have HPI:Hid (patI n=if r=false then ([],1) else if 200 < tx.length then ([],10) else (tx,0)):=qh (by unfold patI;rw [hr,htx])
 rw [hr] at HR HW HS
 rw [htx] at HW HS
 rw [HPI.out]
 clear h hu hP hkn hr htx
 rcases r with _ | _
 ·rw [if_pos rfl]
  go_enter Tryz.func9,Tryz.ntmps9
  go_wp2_with fail
  refine HR.out.mono ?_
  rintro e w1 ⟨rfl,g1⟩
  have G1:=qh (G0.out.trans g1)
  clear g1
  go_wp2_with fail
  go_ret2
  exact ⟨_,rfl,Own.empty _ _ _,below_row_none G1.out (Nat.le_refl _)⟩
 ·rw [if_neg (by simp)]
  have hs:=HS.out rfl
  rcases hd:decide (200 < (tx.length:Int)) with _ | _
  ·have hl:¬ 200 < tx.length:=by simp at hd;omega
   rw [if_neg hl]
   have HL:=qh hl
   clear hl
   go_enter Tryz.func9,Tryz.ntmps9
   go_wp2_with fail
   refine HR.out.mono ?_
   rintro e w1 ⟨rfl,g1⟩
   have X1:=qh (X0.out.kept g1 (by simp))
   have G1:=qh (G0.out.trans g1)
   clear g1
   have e0:w1.cell? ⟨u.heap.size,0,none⟩=some (.int .i64 kn):=X1.out.cell rfl
   have e1:w1.cell? ⟨u.heap.size,1,none⟩=some (.slice A m c):=X1.out.cell rfl
   have e2:w1.cell? ⟨u.heap.size,2,none⟩=some (.int .i64 lo):=X1.out.cell rfl
   have e3:w1.cell? ⟨u.heap.size,3,none⟩=some (.int .i64 hi):=X1.out.cell rfl
   have e4:w1.cell? ⟨u.heap.size,4,none⟩=some (.slice A' m' c'):=X1.out.cell rfl
   go_wp2_with fail
   refine (HW.out (by trivial) _ G1.out).mono ?_
   rintro e w2 ⟨v2,rfl,o2,b2⟩
   obtain ⟨A2,c2,rfl,-,-,-⟩:=o2.form
   have O2:=qh o2
   have B2:=qh (below_then (below_row_none G1.out (Nat.le_refl _)) b2)
   have HZ:=qh G1.out.size
   clear o2 b2 e0 e1 e2 e3 e4
   simp only [ints,List.length_map]
   go_wp2_with fail
   go_ret2
   exact ⟨_,rfl,by simpa [ints] using O2.out.weaken HZ.out,B2.out⟩
  ·have hl:200 < tx.length:=by simp at hd;omega
   rw [if_pos hl]
   have HL:=qh hl
   clear hl
   go_enter Tryz.func9,Tryz.ntmps9
   go_wp2_with fail
   refine HR.out.mono ?_
   rintro e w1 ⟨rfl,g1⟩
   have X1:=qh (X0.out.kept g1 (by simp))
   have G1:=qh (G0.out.trans g1)
   clear g1
   have e0:w1.cell? ⟨u.heap.size,0,none⟩=some (.int .i64 kn):=X1.out.cell rfl
   have e1:w1.cell? ⟨u.heap.size,1,none⟩=some (.slice A m c):=X1.out.cell rfl
   have e2:w1.cell? ⟨u.heap.size,2,none⟩=some (.int .i64 lo):=X1.out.cell rfl
   have e3:w1.cell? ⟨u.heap.size,3,none⟩=some (.int .i64 hi):=X1.out.cell rfl
   have e4:w1.cell? ⟨u.heap.size,4,none⟩=some (.slice A' m' c'):=X1.out.cell rfl
   go_wp2_with fail
   refine (HW.out (by trivial) _ G1.out).mono ?_
   rintro e w2 ⟨v2,rfl,o2,b2⟩
   obtain ⟨A2,c2,rfl,-,-,-⟩:=o2.form
   have B2:=qh (below_then (below_row_none G1.out (Nat.le_refl _)) b2)
   clear o2 b2 e0 e1 e2 e3 e4
   simp only [ints,List.length_map]
   go_wp2_with fail
   go_ret2
   exact ⟨_,rfl,Own.empty _ _ _,B2.out⟩
def neatI (l:List Int) (f:Int):List Int×Int×Int:=match parseD l f with
 | .error (p,x)=>([],p,x)
 | .ok n=>((patI n).1,0,(patI n).2)
def Neat3 (w:World) (r:List Int×Int×Int) (ed:Ending) (w':World):Prop:=∃ v,ed=.returned (.tuple #[v,.int .i64 r.2.1,.int .i64 r.2.2])∧Own w' w.heap.size 3 v (ints .i64 r.1)∧Below w.heap.size w w'
theorem parse_err {l:List Int} {f p x:Int} (h:parseD l f=.error (p,x)):x≠0:=by
 unfold parseD at h
 split at h
 ·injection h with h;injection h with h1 h2;omega
 ·split at h
  ·rename_i q y ho
   injection h with h;injection h with h1 h2
   rw [← h2]
   exact (of_bad ho).2.2.1
  ·rename_i T ho
   split at h
   ·rename_i e he
    injection h with h
    subst h
    rcases of_same f ho with ⟨n,h1,h2,h3⟩ | ⟨h1,h2⟩
    ·rw [h1] at he;cases he
    ·rw [h1] at he
     injection he with he
     rw [he] at h2
     exact h2
   ·split at h
    ·injection h with h;injection h with h1 h2;omega
    ·cases h
theorem neat_any (w:World) (hT:FoTabs w) (hP:PowT w) (A:Option Addr) (l:List Int) (c:Nat) (f:Int) (h:Lies w w.heap.size A (ints .i64 l)) (hc:l.length≤c) :
 Calls Tryz.prog 11 #[.slice A l.length c,.int .i64 f] w (Neat3 w (neatI l f)):=by
 have HC:=qh (parse_any w hT A l c f h hc)
 have HP:=qh hP
 unfold neatI
 rcases hp:parseD l f with ⟨p,x⟩ | n
 ·have hx:=parse_err hp
  rw [hp] at HC
  have d0:(x != 0)=true:=by simpa using hx
  clear hT hP h hc hp hx
  go_enter Tryz.func11,Tryz.ntmps11
  go_wp2_with fail
  refine HC.out.mono ?_
  rintro e w1 ⟨rfl,b1⟩
  have B1:=qh b1
  clear b1
  unfold ndZero
  go_wp2_with fail
  go_ret3
  exact ⟨_,rfl,Own.empty _ _ _,below_then B1.out (below_alloc w1 _)⟩
 ·rw [hp] at HC
  obtain ⟨pt,hpt⟩:∃ x,patI n=x:=⟨_,rfl⟩
  have HPT:=qh hpt
  clear hT hP h hc hp hpt
  go_enter Tryz.func11,Tryz.ntmps11
  go_wp2_with fail
  refine HC.out.mono ?_
  rintro e w1 ⟨v,rfl,t1,b1⟩
  obtain ⟨k,Ar,m,c1,lo,hi,A',m',c',hv⟩:=t1.form
  subst hv
  have B1:=qh b1
  have B2:Hid (Below w.heap.size w (w1.alloc (.cells #[.int .i64 k,.slice Ar m c1,.int .i64 lo,.int .i64 hi,.slice A' m' c'] 25))):=qh (below_then b1 (below_alloc w1 _))
  have HCP:=shpattern_any t1 (w1.alloc (.cells #[.int .i64 k,.slice Ar m c1,.int .i64 lo,.int .i64 hi,.slice A' m' c'] 25)) ⟨fun b _ hl=>(grown_new w1 _ none).block b hl (by simp),(grown_new w1 _ none).size⟩ (HP.out.below B2.out)
  rw [HPT.out] at HCP
  obtain ⟨px,pe⟩:=pt
  have HCQ:=qh HCP
  clear t1 b1 HCP
  go_wp2_with fail
  refine HCQ.out.mono ?_
  rintro e w2 ⟨v2,rfl,o2,b2⟩
  have O2:=qh o2
  have B3:=qh (below_then B2.out b2)
  have HZ:=qh B2.out.size
  clear o2 b2
  go_wp2_with fail
  go_ret3
  unfold Neat3
  rw [HPT.out]
  exact ⟨_,rfl,O2.out.weaken HZ.out,B3.out⟩
end
section
theorem parsed_small {l:List Int} {f:Int} {n:Nd} (h:parseD l f=.ok n):sizeI n≤400∧closN f n∧0≤f∧f≤7:=by
 unfold parseD at h
 by_cases hf:f < 0∨7 < f
 ·rw [if_pos hf] at h;cases h
 ·rw [if_neg hf] at h
  rcases ho:ofT l with ⟨p,x⟩ | T
  ·rw [ho] at h;cases h
  ·rw [ho] at h
   simp only at h
   rcases hd:dP f l.length 201 T with x | m
   ·rw [hd] at h;cases h
   ·rw [hd] at h
    simp only at h
    by_cases hs:400 < sizeI m
    ·rw [if_pos hs] at h;cases h
    ·rw [if_neg hs] at h
     injection h with h
     subst h
     exact ⟨by omega,parsed_clos hd,by omega,by omega⟩
end
section
open Go.RowKit
def groupD (c:Int):List (Int×Int):=if c=100∨c=68 then [(48,57)] else if c=115∨c=83 then [(9,13),(32,32),(133,133),(160,160),(8232,8233)] else [(48,57),(65,90),(95,95),(97,122),(192,214),(216,246),(248,591),(880,1279),(1488,1514),(1568,1610),(1632,1641)]
theorem groupD_set (c:Int):setR (groupD c)=setR (groupR c):=by
 unfold groupD groupR groupL
 by_cases h1:c=100∨c=68
 ·rw [if_pos h1,if_pos h1];rfl
 ·rw [if_neg h1,if_neg h1]
  by_cases h2:c=115∨c=83
  ·rw [if_pos h2,if_pos h2];rfl
  ·rw [if_neg h2,if_neg h2,setR_small (by simp),setR_small (by simp [pairUp])]
   refine setP_congr fun x _ _=>?_
   rw [Bool.eq_iff_iff,hasR_iff,hasR_iff]
   simp only [pairUp,List.mem_cons,List.not_mem_nil,or_false]
   constructor
   ·rintro ⟨r,hr,h1,h2⟩
    rcases hr with rfl | rfl | rfl | rfl | rfl | rfl | rfl | rfl | rfl | rfl | rfl
    all_goals first
     | (refine ⟨_,?_,h1,h2⟩;simp;done)
     | (by_cases hx:x≤1023
        ·exact ⟨(880,1023),by simp,h1,hx⟩
        ·exact ⟨(1024,1279),by simp,by simp only at *;omega,h2⟩)
   ·rintro ⟨r,hr,h1,h2⟩
    rcases hr with rfl | rfl | rfl | rfl | rfl | rfl | rfl | rfl | rfl | rfl | rfl | rfl
    all_goals first
     | (refine ⟨_,?_,h1,h2⟩;simp;done)
     | exact ⟨(880,1279),by simp,by simp only at *;omega,by simp only at *;omega⟩
theorem close_set (b1 b2:Bool) {R R':List (Int×Int)} (h:setR R=setR R'):closeR b1 b2 R=closeR b1 b2 R':=by unfold closeR closeF;rw [h]
def LaidRg (w:World) (S:List (Int×Int)) (ed:Ending) (w':World):Prop:=∃ A c,ed=.returned (.slice A S.length c)∧Lies w' w'.heap.size A (prC S)∧Below w.heap.size w w'
theorem rgroup16_any (c:Int) (w:World):Calls Tryz.prog 97 #[.int .i64 c] w (LaidRg w (groupD c)):=by
 by_cases h1:c=100∨c=68
 ·have HG:Hid (groupD c=[(48,57)]):=qh (by unfold groupD;rw [if_pos h1])
  rw [HG.out]
  have h1:c=100∨((c == 100)=false∧(c == 68)=true):=by
   by_cases h:c=100
   ·exact .inl h
   ·exact .inr ⟨by simpa using h,by simpa using h1.resolve_left h⟩
  rcases h1 with rfl | ⟨d1,d2⟩
  all_goals
   go_enter Tryz.func97,Tryz.ntmps97
   go_wp2_with fail
   go_ret
   exact ⟨_,_,rfl,(Lies.lit (w:=w) (e:=66) _).wider (by simp),below_alloc w _⟩
 ·have d1:(c == 100)=false:=by simpa using fun h=>h1 (.inl h)
  have d2:(c == 68)=false:=by simpa using fun h=>h1 (.inr h)
  by_cases h2:c=115∨c=83
  ·have HG:Hid (groupD c=[(9,13),(32,32),(133,133),(160,160),(8232,8233)]):=qh (by unfold groupD;rw [if_neg h1,if_pos h2])
   rw [HG.out]
   have h2:(c == 115)=true∨((c == 115)=false∧(c == 83)=true):=by
    by_cases h:c=115
    ·exact .inl (by simpa using h)
    ·exact .inr ⟨by simpa using h,by simpa using h2.resolve_left h⟩
   clear h1
   rcases h2 with d3 | ⟨d3,d4⟩
   all_goals
    go_enter Tryz.func97,Tryz.ntmps97
    go_wp2_with fail
    refine (rone16_any 32 w).mono ?_
    rintro e w1 ⟨rfl,b1⟩
    have B1:=qh b1
    clear b1
    go_wp2_with fail
    refine (rone16_any 133 w1).mono ?_
    rintro e w2 ⟨rfl,b2⟩
    have B2:=qh (below_then B1.out b2)
    clear b2
    go_wp2_with fail
    refine (rone16_any 160 w2).mono ?_
    rintro e w3 ⟨rfl,b3⟩
    have B3:=qh (below_then B2.out b3)
    clear b3
    go_wp2_with fail
    go_ret
    exact ⟨_,_,rfl,(Lies.lit (w:=w3) (e:=66) _).wider (by simp),below_then B3.out (below_alloc w3 _)⟩
  ·have HG:Hid (groupD c=[(48,57),(65,90),(95,95),(97,122),(192,214),(216,246),(248,591),(880,1279),(1488,1514),(1568,1610),(1632,1641)]):=qh (by unfold groupD;rw [if_neg h1,if_neg h2])
   rw [HG.out]
   have d3:(c == 115)=false:=by simpa using fun h=>h2 (.inl h)
   have d4:(c == 83)=false:=by simpa using fun h=>h2 (.inr h)
   clear h1 h2
   go_enter Tryz.func97,Tryz.ntmps97
   go_wp2_with fail
   refine (rone16_any 95 w).mono ?_
   rintro e w1 ⟨rfl,b1⟩
   have B1:=qh b1
   clear b1
   go_wp2_with fail
   go_ret
   exact ⟨_,_,rfl,(Lies.lit (w:=w1) (e:=66) _).wider (by simp),below_then B1.out (below_alloc w1 _)⟩
end
section
open Go.RowKit
theorem dPart_group (f:Int) (t:Tok):dPart f t=if t.k=1 then closeR (flag1 f) (flag2 f) [(t.c,t.c)] else if t.k=9 then closeR (flag1 f) (flag2 f) [(t.lo,t.hi)] else if t.c=68∨t.c=83∨t.c=87 then turnR (closeR (flag1 f) (flag2 f) (groupD t.c)) else closeR (flag1 f) (flag2 f) (groupD t.c):=by
 unfold dPart
 rw [close_set _ _ (groupD_set t.c)]
 by_cases h:t.c=68∨t.c=83∨t.c=87
 ·rw [if_pos h,show ([68,83,87]:List Int).contains t.c=true by rcases h with h | h | h <;> rw [h] <;> rfl]
  simp only [if_true]
 ·have h2:([68,83,87]:List Int).contains t.c=false:=by
   rcases hb:([68,83,87]:List Int).contains t.c with _ | _
   ·rfl
   ·exfalso
    simp at hb
    exact h hb
  simp only [h2,if_neg h,Bool.false_eq_true,if_false]
theorem RowedRg.lower {w w1 w2:World} {S:List (Int×Int)} {v:Value} (b1:Below w.heap.size w w1) (o:OwnN w2 w1.heap.size 66 2 v S.length (prC S)) (b2:Below w1.heap.size w1 w2):RowedRg w S (.returned v) w2 :=
 ⟨v,rfl,o.weaken b1.size,below_then b1 b2⟩
theorem rpart16_any (w:World) (t:Tok) (f:Int):Calls Tryz.prog 88 #[.agg t.arr,.int .i64 f] w (RowedRg w (dPart f t)):=by
 obtain ⟨w0,hw0⟩:∃ u,w.alloc (.cells t.arr 56)=u:=⟨_,rfl⟩
 have X0:Hid (Box w0 w.heap.size t.arr 56):=qh (hw0▸Box.new w _ _)
 have B0:Hid (Below w.heap.size w w0):=qh (hw0▸below_alloc w _)
 have HW0:Hid ((w.alloc (.cells t.arr 56))=w0):=qh hw0
 have x0:w0.cell? ⟨w.heap.size,0,none⟩=some (.int .i64 t.k):=X0.out.cell rfl
 have x1:w0.cell? ⟨w.heap.size,1,none⟩=some (.int .i64 t.c):=X0.out.cell rfl
 have x2:w0.cell? ⟨w.heap.size,2,none⟩=some (.int .i64 t.lo):=X0.out.cell rfl
 have x3:w0.cell? ⟨w.heap.size,3,none⟩=some (.int .i64 t.hi):=X0.out.cell rfl
 have HZ0:Hid (w0.heap.size=w.heap.size+1):=qh (by rw [← hw0];simp)
 clear hw0
 rw [dPart_group]
 obtain ⟨k,hk⟩:∃ z,t.k=z:=⟨_,rfl⟩
 obtain ⟨ch,hch⟩:∃ z,t.c=z:=⟨_,rfl⟩
 rw [hk] at x0 ⊢
 rw [hch] at x1 ⊢
 have HX:Hid (∀ u,Box u w.heap.size t.arr 56→u.cell? ⟨w.heap.size,1,none⟩=some (.int .i64 ch)):=qh fun u hu=>by rw [← hch];exact hu.cell rfl
 by_cases h1:k=1
 ·have d1:(k == 1)=true:=by simpa using h1
  rw [if_pos h1]
  obtain ⟨C1,hC1⟩:∃ C,closeR (flag1 f) (flag2 f) [(ch,ch)]=C:=⟨_,rfl⟩
  have HCL:Hid (∀ u:World,Calls Tryz.prog 96 #[.slice (some ⟨u.heap.size,0,none⟩) 1 1,.int .i64 f] (u.alloc (.cells #[.int .i64 ch,.int .i64 ch] 66)) (RowedRg (u.alloc (.cells #[.int .i64 ch,.int .i64 ch] 66)) C1)):=qh fun u=>by
   have h:=rclose16_any (u.alloc (.cells #[.int .i64 ch,.int .i64 ch] 66)) (some ⟨u.heap.size,0,none⟩) [(ch,ch)] 1 f ((rg_lit u (ch,ch)).wider (by simp))
   rw [show closeR (bits .and .i64 f 1 == 1) (bits .and .i64 f 2 == 2) [(ch,ch)]=C1 from hC1] at h
   exact h
  rw [hC1]
  clear h1 hC1 x2 x3
  go_enter Tryz.func88,Tryz.ntmps88
  go_wp2_with fail
  rw [HW0.out]
  refine (rone16_any ch w0).mono ?_
  rintro e w1 ⟨rfl,b1⟩
  have B1:=qh (below_then B0.out b1)
  clear b1
  go_wp2_with fail
  refine (HCL.out w1).mono ?_
  rintro e w2 ⟨v,rfl,o,b2⟩
  have E2:=qh (RowedRg.lower (below_then B1.out (below_alloc w1 _)) o b2)
  clear o b2
  go_wp2_with fail
  go_ret
  exact E2.out
 ·have d1:(k == 1)=false:=by simpa using h1
  rw [if_neg h1]
  by_cases h9:k=9
  ·have d2:(k == 9)=true:=by simpa using h9
   rw [if_pos h9]
   obtain ⟨lo,hlo⟩:∃ z,t.lo=z:=⟨_,rfl⟩
   obtain ⟨hi,hhi⟩:∃ z,t.hi=z:=⟨_,rfl⟩
   rw [hlo] at x2 ⊢
   rw [hhi] at x3 ⊢
   obtain ⟨C1,hC1⟩:∃ C,closeR (flag1 f) (flag2 f) [(lo,hi)]=C:=⟨_,rfl⟩
   have HCL:Hid (∀ u:World,Calls Tryz.prog 96 #[.slice (some ⟨u.heap.size,0,none⟩) 1 1,.int .i64 f] (u.alloc (.cells #[.int .i64 lo,.int .i64 hi] 66)) (RowedRg (u.alloc (.cells #[.int .i64 lo,.int .i64 hi] 66)) C1)):=qh fun u=>by
    have h:=rclose16_any (u.alloc (.cells #[.int .i64 lo,.int .i64 hi] 66)) (some ⟨u.heap.size,0,none⟩) [(lo,hi)] 1 f ((rg_lit u (lo,hi)).wider (by simp))
    rw [show closeR (bits .and .i64 f 1 == 1) (bits .and .i64 f 2 == 2) [(lo,hi)]=C1 from hC1] at h
    exact h
   have HCM:=HCL.out w0
   rw [HZ0.out] at HCM
   have HCM:=qh HCM
   rw [hC1]
   clear h1 h9 hC1
   go_enter Tryz.func88,Tryz.ntmps88
   go_wp2_with fail
   rw [HW0.out]
   refine HCM.out.mono ?_
   rintro e w2 ⟨v,rfl,o,b2⟩
   have E2:=qh (RowedRg.lower (below_then B0.out (below_alloc w0 _)) o b2)
   clear o b2
   go_wp2_with fail
   go_ret
   exact E2.out
  ·have d2:(k == 9)=false:=by simpa using h9
   rw [if_neg h9]
   obtain ⟨G,hG⟩:∃ G,groupD ch=G:=⟨_,rfl⟩
   have HGR:=qh (rgroup16_any ch w0)
   rw [hG] at HGR ⊢
   obtain ⟨C,hC⟩:∃ C,closeR (flag1 f) (flag2 f) G=C:=⟨_,rfl⟩
   have HCC:Hid (closeR (bits .and .i64 f 1 == 1) (bits .and .i64 f 2 == 2) G=C):=qh hC
   rw [hC]
   have hT:(∃ hc:ch=68∨ch=83∨ch=87,(if ch=68∨ch=83∨ch=87 then turnR C else C)=turnR C∧((ch == 68)=true∨((ch == 68)=false∧(ch == 83)=true)∨((ch == 68)=false∧(ch == 83)=false∧(ch == 87)=true)))∨((if ch=68∨ch=83∨ch=87 then turnR C else C)=C∧(ch == 68)=false∧(ch == 83)=false∧(ch == 87)=false):=by
    by_cases hc:ch=68∨ch=83∨ch=87
    ·refine .inl ⟨hc,if_pos hc,?_⟩
     by_cases h68:ch=68
     ·exact .inl (by simpa using h68)
     ·by_cases h83:ch=83
      ·exact .inr (.inl ⟨by simpa using h68,by simpa using h83⟩)
      ·exact .inr (.inr ⟨by simpa using h68,by simpa using h83,by simpa using (hc.resolve_left h68).resolve_left h83⟩)
    ·exact .inr ⟨if_neg hc,by simpa using fun h=>hc (.inl h),by simpa using fun h=>hc (.inr (.inl h)),by simpa using fun h=>hc (.inr (.inr h))⟩
   clear h1 h9 hG hC
   rcases hT with ⟨-,hE,hd⟩ | ⟨hE,e1,e2,e3⟩
   ·rw [hE]
    clear hE
    rcases hd with e1 | ⟨e1,e2⟩ | ⟨e1,e2,e3⟩
    all_goals
     go_enter Tryz.func88,Tryz.ntmps88
     go_wp2_with fail
     rw [HW0.out]
     refine HGR.out.mono ?_
     rintro e w1 ⟨A1,c1,rfl,l1,b1⟩
     have B1:=qh (below_then B0.out b1)
     have L1:=qh l1
     have X1:=qh (X0.out.below b1 X0.out.lt)
     clear b1 l1 x0 x1 x2 x3
     have x1:=HX.out _ X1.out
     go_wp2_with fail
     refine (rclose16_any _ _ G c1 f L1.out).mono ?_
     rw [HCC.out]
     rintro e w2 ⟨v,rfl,o2,b2⟩
     obtain ⟨A2,c2,rfl,l2,-,-⟩:=o2.form
     have B2:=qh (below_then B1.out b2)
     have L2:=qh l2
     have X2:=qh (X1.out.below b2 X1.out.lt)
     clear b2 o2 x1 l2
     have x1:=HX.out _ X2.out
     go_wp2_with fail
     refine (rturn16_any _ _ C c2 L2.out).mono ?_
     rintro e w3 ⟨v,rfl,o3,b3⟩
     have E3:=qh (RowedRg.lower B2.out o3 b3)
     clear o3 b3
     go_wp2_with fail
     go_ret
     exact E3.out
   ·rw [hE]
    clear hE
    go_enter Tryz.func88,Tryz.ntmps88
    go_wp2_with fail
    rw [HW0.out]
    refine HGR.out.mono ?_
    rintro e w1 ⟨A1,c1,rfl,l1,b1⟩
    have B1:=qh (below_then B0.out b1)
    have L1:=qh l1
    have X1:=qh (X0.out.below b1 X0.out.lt)
    clear b1 l1 x0 x1 x2 x3
    go_wp2_with fail
    refine (rclose16_any _ _ G c1 f L1.out).mono ?_
    rw [HCC.out]
    rintro e w2 ⟨v,rfl,o2,b2⟩
    have E3:=qh (RowedRg.lower B1.out o2 b2)
    have X2:=qh (X1.out.below b2 X1.out.lt)
    clear b2 o2
    have x1:=HX.out _ X2.out
    go_wp2_with fail
    go_ret
    exact E3.out
end
section
open Go.RowKit
structure IsD (w:World) (b:Nat) (A:Option Addr) (l:List Int) (c k:Nat) (tv:Value) (T:List Tok) (p x:Int):Prop where
 box:Box w b #[.slice A l.length c,.int .i64 k,tv,.int .i64 p,.int .i64 x] 77
 toks:OwnN w (b+1) 56 5 tv T.length (tokCells T)
 lies:Lies w b A (ints .i64 l)
 le:k≤l.length
 few:l.length≤200
section
variable {w w':World} {b c k:Nat} {A:Option Addr} {l:List Int} {tv:Value} {T:List Tok} {p x:Int}
theorem IsD.lt (h:IsD w b A l c k tv T p x):b < w.heap.size:=h.box.lt
theorem IsD.far (h:IsD w b A l c k tv T p x):tv.ownBlock≠some b:=fun e=>by have:=(h.toks.inside b e).1;omega
theorem IsD.old (h:IsD w b A l c k tv T p x) {g:Nat} (hg:w.heap.size≤g):tv.ownBlock≠some g:=fun e=>by have:=(h.toks.inside g e).2;omega
theorem IsD.grown (h:IsD w b A l c k tv T p x) (hg:w.grownBy w' none):IsD w' b A l c k tv T p x :=
 ⟨h.box.kept hg (by simp),h.toks.keep hg (by cases tv.ownBlock <;> simp),h.lies.same (fun q hq=>World.cell?_of_block (hg.block q.block (by have:=h.lt;omega) (by simp))),h.le,h.few⟩
theorem IsD.drew (h:IsD w b A l c k tv T p x):IsD w.drew b A l c k tv T p x:=h.grown (grown_draw (grown_refl w none))
theorem IsD.new (h:IsD w b A l c k tv T p x) {g:Nat} (hg:w.grownBy w' (some g)) (hb:b < g) (hv:tv.ownBlock≠some g):IsD w' b A l c k tv T p x :=
 ⟨h.box.kept hg (fun e=>by injection e with e;omega),h.toks.keep hg (.inr hv),h.lies.same (fun q hq=>World.cell?_of_block (hg.block q.block (by have:=h.lt;omega) (fun e=>by injection e with e;omega))),h.le,h.few⟩
theorem IsD.went (h:IsD w b A l c k tv T p x) {k':Nat} {p' x':Int} (hb:Box w' b #[.slice A l.length c,.int .i64 k',tv,.int .i64 p',.int .i64 x'] 77) (hg:w.grownBy w' (some b)) (hk:k'≤l.length):IsD w' b A l c k' tv T p' x' :=
 ⟨hb,h.toks.keep hg (.inr h.far),h.lies.same (fun q hq=>World.cell?_of_block (hg.block q.block (by have:=h.lt;omega) (fun e=>by injection e with e;omega))),hk,h.few⟩
theorem IsD.char (h:IsD w b A l c k tv T p x) {i:Nat} (hi:i < l.length):∃ g off,A=some ⟨g,off,none⟩∧g < b∧w.cell? ⟨g,off+i,none⟩=some (.int .i64 l[i]):=by
 obtain ⟨g,off,hA,hg,hc⟩:=h.lies.plainInts (by omega)
 exact ⟨g,off,hA,hg,hc i hi⟩
theorem IsD.c0 (h:IsD w b A l c k tv T p x):w.cell? ⟨b,0,none⟩=some (.slice A l.length c):=h.box.cell rfl
theorem IsD.c1 (h:IsD w b A l c k tv T p x):w.cell? ⟨b,1,none⟩=some (.int .i64 k):=h.box.cell rfl
theorem IsD.c2 (h:IsD w b A l c k tv T p x):w.cell? ⟨b,2,none⟩=some tv:=h.box.cell rfl
theorem IsD.c3 (h:IsD w b A l c k tv T p x):w.cell? ⟨b,3,none⟩=some (.int .i64 p):=h.box.cell rfl
theorem IsD.c4 (h:IsD w b A l c k tv T p x):w.cell? ⟨b,4,none⟩=some (.int .i64 x):=h.box.cell rfl
end
theorem errInfo:(Tryz.prog.info? 29).map (·.size)=some 1:=by kernel_rfl
section
variable {ops:Array Oper} {rest:List Oper} {o:Oper} {a:Act} {Q:Exit→Act→World→Prop}
theorem storeD_at (W:World) (y z:Operand) {b c k:Nat} {A:Option Addr} {l:List Int} {tv:Value} {T:List Tok} {p x:Int} (k':Nat)
 (hgd:o.guard=none) (hd:o.dst=none) (ho:o.op=.store 3 y z) (hx:a.eval y=.pointer (some ⟨b,1,none⟩)) (hy:a.eval z=.int .i64 (k':Int)) (h:IsD W b A l c k tv T p x) (hk:k'≤l.length)
 (hn:∀ w',IsD w' b A l c k' tv T p x→W.grownBy w' (some b)→wpList Tryz.prog ops Q rest a w'):wpList Tryz.prog ops Q (o :: rest) a W :=
 store_in W y z b 1 (.int .i64 (k':Int)) _ hgd hd ho intInfo rfl hx hy h.box (by simp) (by simp [maxLen]) fun w' h1 h2=>hn w' (h.went h1 h2 hk) h2
end
theorem dfail_new (w:World) (b c k:Nat) (A:Option Addr) (l:List Int) (tv:Value) (T:List Tok) (p:Int) (h:IsD w b A l c k tv T p 0) (q y:Int) :
 Calls Tryz.prog 82 #[.pointer (some ⟨b,0,none⟩),.int .i64 q,.int .i64 y] w fun e w'=>e=.returned (.tuple #[])∧IsD w' b A l c k tv T q y∧w.grownBy w' (some b):=by
 have c4:=h.c4
 have H:=qh h
 clear h
 go_enter Tryz.func82,Tryz.ntmps82
 go_wp2_with (first
  | (refine store_in w _ _ b 3 (.int .i64 q) _ rfl rfl rfl intInfo rfl rfl rfl H.out.box (by simp) (by simp [maxLen]) ?_;intro w1 x1 g1;have H1:=qh (H.out.went x1 g1 H.out.le);have G1:=qh g1;clear x1 g1)
  | (refine store_in _ _ _ b 4 (.int .i64 y) _ rfl rfl rfl errInfo rfl rfl rfl H1.out.box (by simp) (by simp [maxLen]) ?_;intro w2 x2 g2;have H2:=qh (H1.out.went x2 g2 H1.out.le);have G2:=qh (G1.out.trans g2);clear x2 g2)
  | fail)
 exact bodyPost_end (results_none rfl _ _ _) rfl ⟨rfl,H2.out,G2.out⟩
theorem dfail_old (w:World) (b c k:Nat) (A:Option Addr) (l:List Int) (tv:Value) (T:List Tok) (p x:Int) (h:IsD w b A l c k tv T p x) (hx:x≠0) (q y:Int) :
 Calls Tryz.prog 82 #[.pointer (some ⟨b,0,none⟩),.int .i64 q,.int .i64 y] w fun e w'=>e=.returned (.tuple #[])∧w=w':=by
 have c4:=h.c4
 have d0:(x == 0)=false:=by simpa using hx
 clear h hx
 go_enter Tryz.func82,Tryz.ntmps82
 go_wp2_with fail
 exact bodyPost_end (results_none rfl _ _ _) rfl ⟨rfl,rfl⟩
theorem dends_end (w:World) (b c:Nat) (A:Option Addr) (l:List Int) (tv:Value) (T:List Tok) (p:Int) (h:IsD w b A l c l.length tv T p 0) :
 Calls Tryz.prog 81 #[.pointer (some ⟨b,0,none⟩)] w fun e w'=>e=.returned (.bool true)∧IsD w' b A l c l.length tv T (l.length:Int) 4∧w.grownBy w' (some b):=by
 have c0:=h.c0
 have c1:=h.c1
 obtain ⟨n,hn⟩:∃ n:Nat,l.length=n:=⟨_,rfl⟩
 have HF:=qh (fun m=>dfail_new (w.drewN m) b c l.length A l tv T p (h.grown (grown_draws (grown_refl w none) m)) (l.length:Int) 4)
 rw [hn] at HF c0 c1 ⊢
 have d0:decide ((n:Int)≤(n:Int))=true:=by simp
 clear h hn
 go_enter Tryz.func81,Tryz.ntmps81
 go_wp2_with fail
 go_quiet (fail)
 go_wp2_with fail
 refine (HF.out _).mono ?_
 rintro e w1 ⟨rfl,h1,g1⟩
 have H1:=qh h1
 have G1:=qh ((grown_draws (grown_refl w (some b)) _).trans g1)
 have c4:=h1.c4
 clear h1 g1 c0 c1
 go_wp2_with fail
 go_ret
 exact ⟨rfl,H1.out,by exact G1.out⟩
theorem dends_not (w:World) (b c k:Nat) (A:Option Addr) (l:List Int) (tv:Value) (T:List Tok) (p x:Int) (h:IsD w b A l c k tv T p x) (hk:k < l.length) :
 Calls Tryz.prog 81 #[.pointer (some ⟨b,0,none⟩)] w fun e w'=>e=.returned (.bool (x != 0))∧w.grownBy w' none:=by
 have c0:=h.c0
 have c1:=h.c1
 have c4:=h.c4
 have d0:decide ((l.length:Int)≤(k:Int))=false:=by simp;omega
 have d1:decide ((k:Int) ≥ (l.length:Int))=false:=by simp;omega
 have d2:decide (l.length≤k)=false:=by simp;omega
 obtain ⟨z,hz⟩:∃ z,(x != 0)=z:=⟨_,rfl⟩
 rw [hz]
 clear h hk
 go_enter Tryz.func81,Tryz.ntmps81
 go_wp2_with fail
 go_quiet (fail)
 go_wp2_with fail
 go_ret
 exact ⟨rfl,grown_draws (grown_refl w none) _⟩
theorem dends_bad (w:World) (b c k:Nat) (A:Option Addr) (l:List Int) (tv:Value) (T:List Tok) (p x:Int) (h:IsD w b A l c k tv T p x) (hx:x≠0) :
 Calls Tryz.prog 81 #[.pointer (some ⟨b,0,none⟩)] w fun e w'=>e=.returned (.bool true)∧w.grownBy w' none:=by
 by_cases hk:k < l.length
 ·refine (dends_not w b c k A l tv T p x h hk).mono ?_
  rintro e w' ⟨he,g⟩
  exact ⟨by rw [he];congr 2;simpa using hx,g⟩
 ·have hkl:k=l.length:=by have:=h.le;omega
  subst hkl
  have c0:=h.c0
  have c1:=h.c1
  obtain ⟨n,hn⟩:∃ n:Nat,l.length=n:=⟨_,rfl⟩
  have HF:=qh (fun m=>dfail_old (w.drewN m) b c l.length A l tv T p x (h.grown (grown_draws (grown_refl w none) m)) hx (l.length:Int) 4)
  have c4:=h.c4
  rw [hn] at HF c0 c1
  have d0:decide ((n:Int)≤(n:Int))=true:=by simp
  have d3:(x != 0)=true:=by simpa using hx
  clear h hn hx
  go_enter Tryz.func81,Tryz.ntmps81
  go_wp2_with fail
  go_quiet (fail)
  go_wp2_with fail
  refine (HF.out _).mono ?_
  rintro e w1 ⟨rfl,rfl⟩
  go_wp2_with fail
  go_ret
  exact ⟨rfl,grown_draws (grown_refl w none) _⟩
end
section
open Go.RowKit
structure IsG (w:World) (b:Nat) (T:List Tok) (E:Nat) (f p x:Int):Prop where
 box:∃ A c,Box w b #[.slice A T.length c,.int .i64 (E:Int),.int .i64 f,.int .i64 p,.int .i64 x] 52∧Lies w b A (tokCells T)∧T.length≤c
 few:T.length≤200
section
variable {w w':World} {b E:Nat} {T:List Tok} {f p x:Int}
theorem IsG.lt (h:IsG w b T E f p x):b < w.heap.size:=by obtain ⟨A,c,hb,-,-⟩:=h.box;exact hb.lt
theorem IsG.grown (h:IsG w b T E f p x) {row:Option Nat} (hg:w.grownBy w' row) (hr:∀ g,row=some g→b < g):IsG w' b T E f p x:=by
 obtain ⟨A,c,hb,hl,hc⟩:=h.box
 exact ⟨⟨A,c,hb.kept hg (fun e=>by have:=hr b e;omega),hl.same (fun q hq=>World.cell?_of_block (hg.block q.block (by have:=hb.lt;omega) (fun e=>by have:=hr _ e.symm;omega))),hc⟩,h.few⟩
theorem IsG.up (h:IsG w b T E f p x) (hg:w.grownBy w' none):IsG w' b T E f p x:=h.grown hg (fun g e=>by cases e)
end
def kd:List Tok→Int
 | []=>0
 | t :: _=>t.k
theorem gkind_any (w:World) (b:Nat) (T:List Tok) (E:Nat) (f p x:Int) (h:IsG w b T E f p x) :
 Calls Tryz.prog 46 #[.pointer (some ⟨b,0,none⟩)] w fun e w'=>e=.returned (.int .i64 (kd T))∧w=w':=by
 obtain ⟨A,c,hb,hl,hc⟩:=h.box
 have c0:w.cell? ⟨b,0,none⟩=some (.slice A T.length c):=hb.cell rfl
 rcases T with _ | ⟨t,R⟩
 ·have d0:(((([]:List Tok).length:Nat):Int) == 0)=true:=rfl
  clear h hb hl hc
  go_enter Tryz.func46,Tryz.ntmps46
  go_wp2_with fail
  go_ret
  exact ⟨rfl,rfl⟩
 ·obtain ⟨g,off,rfl,hg,t0,t1,t2,t3,t4,hrest⟩:=tok_lies hl
  have hn:(t :: R).length=R.length+1:=rfl
  rw [hn] at c0
  obtain ⟨n,hnn⟩:∃ n,R.length=n:=⟨_,rfl⟩
  rw [hnn] at c0
  have d0:(((n+1:Nat):Int) == 0)=false:=beq_eq_false_iff_ne.2 (by omega)
  have d1:(((n:Int)+1) == 0)=false:=beq_eq_false_iff_ne.2 (by omega)
  have p0:(0:Int) < ((n:Int)+1):=by omega
  have p1:(0:Int) < ((n+1:Nat):Int):=by omega
  obtain ⟨k,hk⟩:∃ k,t.k=k:=⟨_,rfl⟩
  have HK:Hid (kd (t :: R)=k):=qh hk
  rw [hk] at t0
  rw [HK.out]
  clear h hb hl hc hrest hnn hn hk t1 t2 t3 t4
  go_enter Tryz.func46,Tryz.ntmps46
  go_wp2_with fail
  go_ret
  exact ⟨rfl,rfl⟩
theorem gfail_new (w:World) (b:Nat) (T:List Tok) (E:Nat) (f p:Int) (h:IsG w b T E f p 0) (q y:Int) :
 Calls Tryz.prog 26 #[.pointer (some ⟨b,0,none⟩),.int .i64 q,.int .i64 y] w fun e w'=>e=.returned (.tuple #[])∧IsG w' b T E f q y∧w.grownBy w' (some b):=by
 obtain ⟨A,c,hb,hl,hc⟩:=h.box
 have c4:w.cell? ⟨b,4,none⟩=some (.int .i64 0):=hb.cell rfl
 have HF:Hid (∀ w3,w.grownBy w3 (some b)→Box w3 b #[.slice A T.length c,.int .i64 (E:Int),.int .i64 f,.int .i64 q,.int .i64 y] 52→IsG w3 b T E f q y):=qh fun w3 g3 h3 =>
  ⟨⟨A,c,h3,hl.same (fun z hz=>World.cell?_of_block (g3.block z.block (by have:=hb.lt;omega) (fun e=>by injection e with e;omega))),hc⟩,h.few⟩
 have HB:=qh hb
 clear h hb hl hc
 go_enter Tryz.func26,Tryz.ntmps26
 go_wp2_with (first
  | (refine store_in w _ _ b 3 (.int .i64 q) _ rfl rfl rfl intInfo rfl rfl rfl HB.out (by simp) (by simp [maxLen]) ?_;intro w1 x1 g1;have X1:=qh x1;have G1:=qh g1;clear x1 g1)
  | (refine store_in _ _ _ b 4 (.int .i64 y) _ rfl rfl rfl errInfo rfl rfl rfl X1.out (by simp) (by simp [maxLen]) ?_;intro w2 x2 g2;have X2:=qh x2;have G2:=qh (G1.out.trans g2);clear x2 g2)
  | fail)
 exact bodyPost_end (results_none rfl _ _ _) rfl ⟨rfl,HF.out _ G2.out X2.out,G2.out⟩
theorem gfail_old (w:World) (b:Nat) (T:List Tok) (E:Nat) (f p x:Int) (h:IsG w b T E f p x) (hx:x≠0) (q y:Int) :
 Calls Tryz.prog 26 #[.pointer (some ⟨b,0,none⟩),.int .i64 q,.int .i64 y] w fun e w'=>e=.returned (.tuple #[])∧w=w':=by
 obtain ⟨A,c,hb,hl,hc⟩:=h.box
 have c4:w.cell? ⟨b,4,none⟩=some (.int .i64 x):=hb.cell rfl
 have d0:(x == 0)=false:=by simpa using hx
 clear h hx hb hl hc
 go_enter Tryz.func26,Tryz.ntmps26
 go_wp2_with fail
 exact bodyPost_end (results_none rfl _ _ _) rfl ⟨rfl,rfl⟩
end
end Go.Proofs.YtoeocodfndbebaaGreatDoor
