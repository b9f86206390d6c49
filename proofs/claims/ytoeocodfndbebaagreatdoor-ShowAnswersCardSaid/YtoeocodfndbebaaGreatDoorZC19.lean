/- Shared texts, shaken for one claim. -/
import Derived.Test.YtoeocodfndbebaaGreatDoorZC8
import Derived.Test.YtoeocodfndbebaaGreatDoorZC18
set_option maxRecDepth 20000
set_option maxHeartbeats 16000000
namespace Go.Proofs.YtoeocodfndbebaaGreatDoor
section
open Go.RowKit
theorem tok_at {w:World} {B:Nat} {A:Option Addr} {T:List Tok} (h:Lies w B A (tokCells T)) {k:Nat} (hk:k < T.length):∃ g off,A=some ⟨g,off,none⟩∧g < B∧w.cell? ⟨g,off+k * 5,none⟩=some (.int .i64 T[k].k)∧w.cell? ⟨g,off+k * 5+1,none⟩=some (.int .i64 T[k].c)∧w.cell? ⟨g,off+k * 5+2,none⟩=some (.int .i64 T[k].lo)∧w.cell? ⟨g,off+k * 5+3,none⟩=some (.int .i64 T[k].hi)∧w.cell? ⟨g,off+k * 5+4,none⟩=some (.int .i64 T[k].pos):=by
 have hl:=tokCells_length T
 obtain ⟨g,off,hA,hg,hc⟩:=Lies.plain h (by omega)
 have hcell:∀ j,j < 5→w.cell? ⟨g,off+k * 5+j,none⟩=T[k].arr[j]?:=fun j hj=>by
  rw [Nat.add_assoc,hc (k * 5+j) (by omega),← List.getElem?_eq_getElem,tokCells_get T k j hk hj]
 exact ⟨g,off,hA,hg,hcell 0 (by decide),hcell 1 (by decide),hcell 2 (by decide),hcell 3 (by decide),hcell 4 (by decide)⟩
theorem fault_any (w:World) (A:Option Addr) (T:List Tok) (c e:Nat) (h:Lies w w.heap.size A (tokCells T)) (hl:T.length≤1000) :
 Calls Tryz.prog 39 #[.slice A T.length c,.int .i64 e] w fun ed w'=>ed=.returned (.tuple #[.int .i64 (faultT e T 0 3).1,.int .i64 (faultT e T 0 3).2])∧w.grownBy w' none:=by
 obtain ⟨⟨rp,rx⟩,hz⟩:∃ z,faultT e T 0 3=z:=⟨_,rfl⟩
 rw [hz]
 have HL:=qh h
 have HZ:=qh hz
 have X0:Hid (Box (w.alloc (.cells #[.int .i64 3,.int .i64 0,.int .i64 0,.int .i64 0,.int .i64 0] 56)) w.heap.size (⟨3,0,0,0,0⟩:Tok).arr 56):=qh (Box.new w _ _)
 have G0:Hid (w.grownBy (w.alloc (.cells #[.int .i64 3,.int .i64 0,.int .i64 0,.int .i64 0,.int .i64 0] 56)) none):=qh (grown_new w _ none)
 clear h hz
 simp only
 go_enter Tryz.func39,Tryz.ntmps39
 go_wp2_with fail
 go_loopw [13,6] (fun iv ov wr=>∃ (k o:Nat) (a:Tok),k≤T.length∧iv=.int .i64 k∧ov=.int .i64 o∧Hid (faultT e (T.drop k) o a.k=(rp,rx))∧Hid (Box wr w.heap.size a.arr 56)∧Hid (w.grownBy wr none)∧o≤20) (fun iv _ _=>T.length - (intOf iv).toNat)
 case atStart=>exact ⟨0,0,⟨3,0,0,0,0⟩,by omega,rfl,rfl,HZ,X0,G0,by omega⟩
 case round =>
  obtain ⟨k,o,a,hk,rfl,rfl,HF,HX7',HG,ho⟩:=hrel
  by_cases hlt:k < T.length
  ·obtain ⟨g,off,rfl,-,c0,c1,c2,c3,c4⟩:=tok_at (HL.out.below (below_row_none HG.out (Nat.le_refl _))) hlt
   have hd:T.drop k=T[k] :: T.drop (k+1):=List.drop_eq_getElem_cons hlt
   have k0:(0:Int)≤(k:Int):=by omega
   have k1:(k:Int) < (T.length:Int):=by omega
   rw [hd] at HF
   obtain ⟨t,ht⟩:∃ t,T[k]=t:=⟨_,rfl⟩
   rw [ht] at c0 c1 c2 c3 c4 HF
   obtain ⟨tk,tc,tl,th,tp⟩:=t
   simp only at c0 c1 c2 c3 c4
   obtain ⟨TR,hTR⟩:∃ TR,T.drop (k+1)=TR:=⟨_,rfl⟩
   have HTR:=qh hTR
   rw [hTR] at HF
   simp only [faultT] at HF
   have HX9:Hid (Box (wr.alloc (.cells #[.int .i64 tk,.int .i64 tc,.int .i64 tl,.int .i64 th,.int .i64 tp] 56)) wr.heap.size (⟨tk,tc,tl,th,tp⟩:Tok).arr 56):=qh (Box.new wr _ _)
   have HX7:Hid (Box (wr.alloc (.cells #[.int .i64 tk,.int .i64 tc,.int .i64 tl,.int .i64 th,.int .i64 tp] 56)) w.heap.size a.arr 56):=qh (HX7'.out.kept (grown_new _ _ none) (by simp))
   have HN0:Hid (wr.grownBy ((wr.alloc (.cells #[.int .i64 tk,.int .i64 tc,.int .i64 tl,.int .i64 th,.int .i64 tp] 56)).alloc (.cells #[.int .i64 4] 3)) none):=qh ((grown_new wr _ none).trans (grown_new _ _ none))
   have HF4:=qh (isof_any ((wr.alloc (.cells #[.int .i64 tk,.int .i64 tc,.int .i64 tl,.int .i64 th,.int .i64 tp] 56)).alloc (.cells #[.int .i64 4] 3)) ⟨tk,tc,tl,th,tp⟩ _ (some ⟨wr.heap.size+1,0,none⟩) [4] 1 (by have:=litI (wr.alloc (.cells #[.int .i64 tk,.int .i64 tc,.int .i64 tl,.int .i64 th,.int .i64 tp] 56)) [4];rw [World.size_alloc] at this;exact this) (by decide) (by simp))
   clear ht hTR hd
   by_cases h4:tk=4
   ·subst h4
    by_cases ho0:o=0
    ·subst ho0
     rw [if_pos (by simp)] at HF
     have hz:=HF.out
     injection hz with z1 z2
     subst z1 z2
     go_wp2_with fail
     refine HF4.out.mono ?_
     rintro e u1 ⟨rfl,g1⟩
     rw [show ([4]:List Int).contains (4:Int)=true from rfl]
     have N:=qh (HN0.out.trans g1)
     have X9:=qh ((HX9.out.kept (grown_new _ _ none) (by simp)).kept g1 (by simp))
     have X7:=qh ((HX7.out.kept (grown_new _ _ none) (by simp)).kept g1 (by simp))
     clear g1
     have q4:=(X9.out.cell (i:=4) rfl:u1.cell? ⟨wr.heap.size,4,none⟩=some (.int .i64 tp))
     go_wp2_with fail
     go_ret2
     exact ⟨rfl,HG.out.trans N.out⟩
    ·rw [if_neg (fun h=>ho0 h.2),if_neg (fun h=>by have:=h.1;omega),if_neg (fun h=>by have:=h.1;omega),if_neg (by decide),if_pos rfl] at HF
     have d0:((o:Int) == 0)=false:=by simp;omega
     have d1:(o == 0)=false:=by simp;omega
     have hw:IntKind.i64.wrap ((o:Int) - 1)=((o - 1:Nat):Int):=by rw [IntWalk.i64_in _ (by omega)];omega
     go_wp2_with fail
     refine HF4.out.mono ?_
     rintro e u1 ⟨rfl,g1⟩
     rw [show ([4]:List Int).contains (4:Int)=true from rfl]
     have N:=qh (HN0.out.trans g1)
     have X9:=qh ((HX9.out.kept (grown_new _ _ none) (by simp)).kept g1 (by simp))
     have X7:=qh ((HX7.out.kept (grown_new _ _ none) (by simp)).kept g1 (by simp))
     clear g1
     go_wp2_with (first
      | (refine load_box _ wr.heap.size _ _ rfl rfl rfl X9.out Tryz.underlying56 rfl (tokInfo ⟨4,tc,tl,th,tp⟩) ?_)
      | (refine load_box _ w.heap.size _ _ rfl rfl rfl X7.out Tryz.underlying56 rfl (tokInfo a) ?_)
      | fail)
     refine (isof_any (u1.alloc (.cells #[.int .i64 6] 3)) ⟨4,tc,tl,th,tp⟩ _ (some ⟨u1.heap.size,0,none⟩) [6] 1 (litI u1 [6]) (by decide) (by simp)).mono ?_
     rintro e u2 ⟨rfl,g1⟩
     rw [show ([6]:List Int).contains (4:Int)=false from rfl]
     have N:=qh (N.out.trans ((grown_new u1 (.cells #[.int .i64 6] 3) none).trans g1))
     have X9:=qh ((X9.out.kept (grown_new u1 (.cells #[.int .i64 6] 3) none) (by simp)).kept g1 (by simp))
     have X7:=qh ((X7.out.kept (grown_new u1 (.cells #[.int .i64 6] 3) none) (by simp)).kept g1 (by simp))
     clear g1
     go_wp2_with (first
      | (refine load_box _ wr.heap.size _ _ rfl rfl rfl X9.out Tryz.underlying56 rfl (tokInfo ⟨4,tc,tl,th,tp⟩) ?_)
      | (refine load_box _ w.heap.size _ _ rfl rfl rfl X7.out Tryz.underlying56 rfl (tokInfo a) ?_)
      | fail)
     refine (isof_any (u2.alloc (.cells #[.int .i64 3] 3)) ⟨4,tc,tl,th,tp⟩ _ (some ⟨u2.heap.size,0,none⟩) [3] 1 (litI u2 [3]) (by decide) (by simp)).mono ?_
     rintro e u3 ⟨rfl,g1⟩
     rw [show ([3]:List Int).contains (4:Int)=false from rfl]
     have N:=qh (N.out.trans ((grown_new u2 (.cells #[.int .i64 3] 3) none).trans g1))
     have X9:=qh ((X9.out.kept (grown_new u2 (.cells #[.int .i64 3] 3) none) (by simp)).kept g1 (by simp))
     have X7:=qh ((X7.out.kept (grown_new u2 (.cells #[.int .i64 3] 3) none) (by simp)).kept g1 (by simp))
     clear g1
     go_wp2_with (first
      | (refine load_box _ wr.heap.size _ _ rfl rfl rfl X9.out Tryz.underlying56 rfl (tokInfo ⟨4,tc,tl,th,tp⟩) ?_)
      | (refine load_box _ w.heap.size _ _ rfl rfl rfl X7.out Tryz.underlying56 rfl (tokInfo a) ?_)
      | fail)
     refine (isof_any (u3.alloc (.cells #[.int .i64 3] 3)) ⟨4,tc,tl,th,tp⟩ _ (some ⟨u3.heap.size,0,none⟩) [3] 1 (litI u3 [3]) (by decide) (by simp)).mono ?_
     rintro e u4 ⟨rfl,g1⟩
     rw [show ([3]:List Int).contains (4:Int)=false from rfl]
     have N:=qh (N.out.trans ((grown_new u3 (.cells #[.int .i64 3] 3) none).trans g1))
     have X9:=qh ((X9.out.kept (grown_new u3 (.cells #[.int .i64 3] 3) none) (by simp)).kept g1 (by simp))
     have X7:=qh ((X7.out.kept (grown_new u3 (.cells #[.int .i64 3] 3) none) (by simp)).kept g1 (by simp))
     clear g1
     go_wp2_with (first
      | (refine load_box _ wr.heap.size _ _ rfl rfl rfl X9.out Tryz.underlying56 rfl (tokInfo ⟨4,tc,tl,th,tp⟩) ?_)
      | (refine load_box _ w.heap.size _ _ rfl rfl rfl X7.out Tryz.underlying56 rfl (tokInfo a) ?_)
      | fail)
     refine (isof_any (u4.alloc (.cells #[.int .i64 4] 3)) ⟨4,tc,tl,th,tp⟩ _ (some ⟨u4.heap.size,0,none⟩) [4] 1 (litI u4 [4]) (by decide) (by simp)).mono ?_
     rintro e u5 ⟨rfl,g1⟩
     rw [show ([4]:List Int).contains (4:Int)=true from rfl]
     have N:=qh (N.out.trans ((grown_new u4 (.cells #[.int .i64 4] 3) none).trans g1))
     have X9:=qh ((X9.out.kept (grown_new u4 (.cells #[.int .i64 4] 3) none) (by simp)).kept g1 (by simp))
     have X7:=qh ((X7.out.kept (grown_new u4 (.cells #[.int .i64 4] 3) none) (by simp)).kept g1 (by simp))
     clear g1
     go_wp2_with (first
      | (refine load_box _ wr.heap.size _ _ rfl rfl rfl X9.out Tryz.underlying56 rfl (tokInfo ⟨4,tc,tl,th,tp⟩) ?_)
      | (refine store_tok u5 _ _ w.heap.size a ⟨4,tc,tl,th,tp⟩ rfl rfl rfl rfl rfl X7.out ?_;intro v x7 g7;have Y7:=qh x7;have M:=qh (grown_two (HG.out.trans N.out) g7 (Nat.le_refl _));clear x7 g7)
      | fail)
     go_roundw
     case rel=>exact ⟨k+1,o - 1,⟨4,tc,tl,th,tp⟩,by omega,by go_num,by first | rfl | go_num,qh (by rw [HTR.out];exact HF.out),Y7,M,by omega⟩
     case measure=>simp [intOf];omega
   ·by_cases h6:tk=6
    ·subst h6
     rw [if_neg (by omega)] at HF
     by_cases ha:([3,5,6,13]:List Int).contains a.k=true
     ·rw [if_pos ⟨rfl,ha⟩] at HF
      have hz:=HF.out
      injection hz with z1 z2
      subst z1 z2
      go_wp2_with fail
      refine HF4.out.mono ?_
      rintro e u1 ⟨rfl,g1⟩
      rw [show ([4]:List Int).contains (6:Int)=false from rfl]
      have N:=qh (HN0.out.trans g1)
      have X9:=qh ((HX9.out.kept (grown_new _ _ none) (by simp)).kept g1 (by simp))
      have X7:=qh ((HX7.out.kept (grown_new _ _ none) (by simp)).kept g1 (by simp))
      clear g1
      go_wp2_with (first
       | (refine load_box _ wr.heap.size _ _ rfl rfl rfl X9.out Tryz.underlying56 rfl (tokInfo ⟨6,tc,tl,th,tp⟩) ?_)
       | (refine load_box _ w.heap.size _ _ rfl rfl rfl X7.out Tryz.underlying56 rfl (tokInfo a) ?_)
       | fail)
      refine (isof_any (u1.alloc (.cells #[.int .i64 6] 3)) ⟨6,tc,tl,th,tp⟩ _ (some ⟨u1.heap.size,0,none⟩) [6] 1 (litI u1 [6]) (by decide) (by simp)).mono ?_
      rintro e u2 ⟨rfl,g1⟩
      rw [show ([6]:List Int).contains (6:Int)=true from rfl]
      have N:=qh (N.out.trans ((grown_new u1 (.cells #[.int .i64 6] 3) none).trans g1))
      have X9:=qh ((X9.out.kept (grown_new u1 (.cells #[.int .i64 6] 3) none) (by simp)).kept g1 (by simp))
      have X7:=qh ((X7.out.kept (grown_new u1 (.cells #[.int .i64 6] 3) none) (by simp)).kept g1 (by simp))
      clear g1
      have a0:=(X7.out.cell (i:=0) rfl:u2.cell? ⟨w.heap.size,0,none⟩=some (.int .i64 a.k))
      have a1:=(X7.out.cell (i:=1) rfl:u2.cell? ⟨w.heap.size,1,none⟩=some (.int .i64 a.c))
      have a2:=(X7.out.cell (i:=2) rfl:u2.cell? ⟨w.heap.size,2,none⟩=some (.int .i64 a.lo))
      have a3:=(X7.out.cell (i:=3) rfl:u2.cell? ⟨w.heap.size,3,none⟩=some (.int .i64 a.hi))
      have a4:=(X7.out.cell (i:=4) rfl:u2.cell? ⟨w.heap.size,4,none⟩=some (.int .i64 a.pos))
      go_wp2_with (first
       | (refine load_box _ wr.heap.size _ _ rfl rfl rfl X9.out Tryz.underlying56 rfl (tokInfo ⟨6,tc,tl,th,tp⟩) ?_)
       | (refine load_box _ w.heap.size _ _ rfl rfl rfl X7.out Tryz.underlying56 rfl (tokInfo a) ?_)
       | fail)
      refine (isof_any (u2.alloc (.cells #[.int .i64 3,.int .i64 5,.int .i64 6,.int .i64 13] 3)) a _ (some ⟨u2.heap.size,0,none⟩) [3,5,6,13] 4 (litI u2 [3,5,6,13]) (by decide) (by simp)).mono ?_
      rintro e u3 ⟨rfl,g1⟩
      rw [ha]
      have N:=qh (N.out.trans ((grown_new u2 (.cells #[.int .i64 3,.int .i64 5,.int .i64 6,.int .i64 13] 3) none).trans g1))
      have X9:=qh ((X9.out.kept (grown_new u2 (.cells #[.int .i64 3,.int .i64 5,.int .i64 6,.int .i64 13] 3) none) (by simp)).kept g1 (by simp))
      have X7:=qh ((X7.out.kept (grown_new u2 (.cells #[.int .i64 3,.int .i64 5,.int .i64 6,.int .i64 13] 3) none) (by simp)).kept g1 (by simp))
      clear g1
      have q4:=(X9.out.cell (i:=4) rfl:u3.cell? ⟨wr.heap.size,4,none⟩=some (.int .i64 tp))
      go_wp2_with fail
      go_ret2
      exact ⟨rfl,HG.out.trans N.out⟩
     ·rw [if_neg (fun h=>ha h.2),if_neg (by omega),if_neg (by omega),if_neg (by omega)] at HF
      have ha:([3,5,6,13]:List Int).contains a.k=false:=by simpa using ha
      go_wp2_with fail
      refine HF4.out.mono ?_
      rintro e u1 ⟨rfl,g1⟩
      rw [show ([4]:List Int).contains (6:Int)=false from rfl]
      have N:=qh (HN0.out.trans g1)
      have X9:=qh ((HX9.out.kept (grown_new _ _ none) (by simp)).kept g1 (by simp))
      have X7:=qh ((HX7.out.kept (grown_new _ _ none) (by simp)).kept g1 (by simp))
      clear g1
      go_wp2_with (first
       | (refine load_box _ wr.heap.size _ _ rfl rfl rfl X9.out Tryz.underlying56 rfl (tokInfo ⟨6,tc,tl,th,tp⟩) ?_)
       | (refine load_box _ w.heap.size _ _ rfl rfl rfl X7.out Tryz.underlying56 rfl (tokInfo a) ?_)
       | fail)
      refine (isof_any (u1.alloc (.cells #[.int .i64 6] 3)) ⟨6,tc,tl,th,tp⟩ _ (some ⟨u1.heap.size,0,none⟩) [6] 1 (litI u1 [6]) (by decide) (by simp)).mono ?_
      rintro e u2 ⟨rfl,g1⟩
      rw [show ([6]:List Int).contains (6:Int)=true from rfl]
      have N:=qh (N.out.trans ((grown_new u1 (.cells #[.int .i64 6] 3) none).trans g1))
      have X9:=qh ((X9.out.kept (grown_new u1 (.cells #[.int .i64 6] 3) none) (by simp)).kept g1 (by simp))
      have X7:=qh ((X7.out.kept (grown_new u1 (.cells #[.int .i64 6] 3) none) (by simp)).kept g1 (by simp))
      clear g1
      have a0:=(X7.out.cell (i:=0) rfl:u2.cell? ⟨w.heap.size,0,none⟩=some (.int .i64 a.k))
      have a1:=(X7.out.cell (i:=1) rfl:u2.cell? ⟨w.heap.size,1,none⟩=some (.int .i64 a.c))
      have a2:=(X7.out.cell (i:=2) rfl:u2.cell? ⟨w.heap.size,2,none⟩=some (.int .i64 a.lo))
      have a3:=(X7.out.cell (i:=3) rfl:u2.cell? ⟨w.heap.size,3,none⟩=some (.int .i64 a.hi))
      have a4:=(X7.out.cell (i:=4) rfl:u2.cell? ⟨w.heap.size,4,none⟩=some (.int .i64 a.pos))
      go_wp2_with (first
       | (refine load_box _ wr.heap.size _ _ rfl rfl rfl X9.out Tryz.underlying56 rfl (tokInfo ⟨6,tc,tl,th,tp⟩) ?_)
       | (refine load_box _ w.heap.size _ _ rfl rfl rfl X7.out Tryz.underlying56 rfl (tokInfo a) ?_)
       | fail)
      refine (isof_any (u2.alloc (.cells #[.int .i64 3,.int .i64 5,.int .i64 6,.int .i64 13] 3)) a _ (some ⟨u2.heap.size,0,none⟩) [3,5,6,13] 4 (litI u2 [3,5,6,13]) (by decide) (by simp)).mono ?_
      rintro e u3 ⟨rfl,g1⟩
      rw [ha]
      have N:=qh (N.out.trans ((grown_new u2 (.cells #[.int .i64 3,.int .i64 5,.int .i64 6,.int .i64 13] 3) none).trans g1))
      have X9:=qh ((X9.out.kept (grown_new u2 (.cells #[.int .i64 3,.int .i64 5,.int .i64 6,.int .i64 13] 3) none) (by simp)).kept g1 (by simp))
      have X7:=qh ((X7.out.kept (grown_new u2 (.cells #[.int .i64 3,.int .i64 5,.int .i64 6,.int .i64 13] 3) none) (by simp)).kept g1 (by simp))
      clear g1
      go_wp2_with (first
       | (refine load_box _ wr.heap.size _ _ rfl rfl rfl X9.out Tryz.underlying56 rfl (tokInfo ⟨6,tc,tl,th,tp⟩) ?_)
       | (refine load_box _ w.heap.size _ _ rfl rfl rfl X7.out Tryz.underlying56 rfl (tokInfo a) ?_)
       | fail)
      refine (isof_any (u3.alloc (.cells #[.int .i64 3] 3)) ⟨6,tc,tl,th,tp⟩ _ (some ⟨u3.heap.size,0,none⟩) [3] 1 (litI u3 [3]) (by decide) (by simp)).mono ?_
      rintro e u4 ⟨rfl,g1⟩
      rw [show ([3]:List Int).contains (6:Int)=false from rfl]
      have N:=qh (N.out.trans ((grown_new u3 (.cells #[.int .i64 3] 3) none).trans g1))
      have X9:=qh ((X9.out.kept (grown_new u3 (.cells #[.int .i64 3] 3) none) (by simp)).kept g1 (by simp))
      have X7:=qh ((X7.out.kept (grown_new u3 (.cells #[.int .i64 3] 3) none) (by simp)).kept g1 (by simp))
      clear g1
      go_wp2_with (first
       | (refine load_box _ wr.heap.size _ _ rfl rfl rfl X9.out Tryz.underlying56 rfl (tokInfo ⟨6,tc,tl,th,tp⟩) ?_)
       | (refine load_box _ w.heap.size _ _ rfl rfl rfl X7.out Tryz.underlying56 rfl (tokInfo a) ?_)
       | fail)
      refine (isof_any (u4.alloc (.cells #[.int .i64 3] 3)) ⟨6,tc,tl,th,tp⟩ _ (some ⟨u4.heap.size,0,none⟩) [3] 1 (litI u4 [3]) (by decide) (by simp)).mono ?_
      rintro e u5 ⟨rfl,g1⟩
      rw [show ([3]:List Int).contains (6:Int)=false from rfl]
      have N:=qh (N.out.trans ((grown_new u4 (.cells #[.int .i64 3] 3) none).trans g1))
      have X9:=qh ((X9.out.kept (grown_new u4 (.cells #[.int .i64 3] 3) none) (by simp)).kept g1 (by simp))
      have X7:=qh ((X7.out.kept (grown_new u4 (.cells #[.int .i64 3] 3) none) (by simp)).kept g1 (by simp))
      clear g1
      go_wp2_with (first
       | (refine load_box _ wr.heap.size _ _ rfl rfl rfl X9.out Tryz.underlying56 rfl (tokInfo ⟨6,tc,tl,th,tp⟩) ?_)
       | (refine load_box _ w.heap.size _ _ rfl rfl rfl X7.out Tryz.underlying56 rfl (tokInfo a) ?_)
       | fail)
      refine (isof_any (u5.alloc (.cells #[.int .i64 4] 3)) ⟨6,tc,tl,th,tp⟩ _ (some ⟨u5.heap.size,0,none⟩) [4] 1 (litI u5 [4]) (by decide) (by simp)).mono ?_
      rintro e u6 ⟨rfl,g1⟩
      rw [show ([4]:List Int).contains (6:Int)=false from rfl]
      have N:=qh (N.out.trans ((grown_new u5 (.cells #[.int .i64 4] 3) none).trans g1))
      have X9:=qh ((X9.out.kept (grown_new u5 (.cells #[.int .i64 4] 3) none) (by simp)).kept g1 (by simp))
      have X7:=qh ((X7.out.kept (grown_new u5 (.cells #[.int .i64 4] 3) none) (by simp)).kept g1 (by simp))
      clear g1
      go_wp2_with (first
       | (refine load_box _ wr.heap.size _ _ rfl rfl rfl X9.out Tryz.underlying56 rfl (tokInfo ⟨6,tc,tl,th,tp⟩) ?_)
       | (refine store_tok u6 _ _ w.heap.size a ⟨6,tc,tl,th,tp⟩ rfl rfl rfl rfl rfl X7.out ?_;intro v x7 g7;have Y7:=qh x7;have M:=qh (grown_two (HG.out.trans N.out) g7 (Nat.le_refl _));clear x7 g7)
       | fail)
      go_roundw
      case rel=>exact ⟨k+1,o,⟨6,tc,tl,th,tp⟩,by omega,by go_num,by first | rfl | go_num,qh (by rw [HTR.out];exact HF.out),Y7,M,by omega⟩
      case measure=>simp [intOf];omega
    ·by_cases h3:tk=3
     ·subst h3
      rw [if_neg (by omega),if_neg (by omega)] at HF
      by_cases hd:o=20
      ·subst hd
       rw [if_pos (by simp)] at HF
       have hz:=HF.out
       injection hz with z1 z2
       subst z1 z2
       go_wp2_with fail
       refine HF4.out.mono ?_
       rintro e u1 ⟨rfl,g1⟩
       rw [show ([4]:List Int).contains (3:Int)=false from rfl]
       have N:=qh (HN0.out.trans g1)
       have X9:=qh ((HX9.out.kept (grown_new _ _ none) (by simp)).kept g1 (by simp))
       have X7:=qh ((HX7.out.kept (grown_new _ _ none) (by simp)).kept g1 (by simp))
       clear g1
       go_wp2_with (first
        | (refine load_box _ wr.heap.size _ _ rfl rfl rfl X9.out Tryz.underlying56 rfl (tokInfo ⟨3,tc,tl,th,tp⟩) ?_)
        | (refine load_box _ w.heap.size _ _ rfl rfl rfl X7.out Tryz.underlying56 rfl (tokInfo a) ?_)
        | fail)
       refine (isof_any (u1.alloc (.cells #[.int .i64 6] 3)) ⟨3,tc,tl,th,tp⟩ _ (some ⟨u1.heap.size,0,none⟩) [6] 1 (litI u1 [6]) (by decide) (by simp)).mono ?_
       rintro e u2 ⟨rfl,g1⟩
       rw [show ([6]:List Int).contains (3:Int)=false from rfl]
       have N:=qh (N.out.trans ((grown_new u1 (.cells #[.int .i64 6] 3) none).trans g1))
       have X9:=qh ((X9.out.kept (grown_new u1 (.cells #[.int .i64 6] 3) none) (by simp)).kept g1 (by simp))
       have X7:=qh ((X7.out.kept (grown_new u1 (.cells #[.int .i64 6] 3) none) (by simp)).kept g1 (by simp))
       clear g1
       go_wp2_with (first
        | (refine load_box _ wr.heap.size _ _ rfl rfl rfl X9.out Tryz.underlying56 rfl (tokInfo ⟨3,tc,tl,th,tp⟩) ?_)
        | (refine load_box _ w.heap.size _ _ rfl rfl rfl X7.out Tryz.underlying56 rfl (tokInfo a) ?_)
        | fail)
       refine (isof_any (u2.alloc (.cells #[.int .i64 3] 3)) ⟨3,tc,tl,th,tp⟩ _ (some ⟨u2.heap.size,0,none⟩) [3] 1 (litI u2 [3]) (by decide) (by simp)).mono ?_
       rintro e u3 ⟨rfl,g1⟩
       rw [show ([3]:List Int).contains (3:Int)=true from rfl]
       have N:=qh (N.out.trans ((grown_new u2 (.cells #[.int .i64 3] 3) none).trans g1))
       have X9:=qh ((X9.out.kept (grown_new u2 (.cells #[.int .i64 3] 3) none) (by simp)).kept g1 (by simp))
       have X7:=qh ((X7.out.kept (grown_new u2 (.cells #[.int .i64 3] 3) none) (by simp)).kept g1 (by simp))
       clear g1
       have q4:=(X9.out.cell (i:=4) rfl:u3.cell? ⟨wr.heap.size,4,none⟩=some (.int .i64 tp))
       go_wp2_with fail
       go_ret2
       exact ⟨rfl,HG.out.trans N.out⟩
      ·rw [if_neg (fun h=>hd h.2),if_pos rfl] at HF
       have d0:((o:Int) == 20)=false:=by simp;omega
       have d1:(o == 20)=false:=by simp;omega
       have hw:IntKind.i64.wrap ((o:Int)+1)=((o+1:Nat):Int):=by rw [IntWalk.i64_in _ (by omega)];omega
       go_wp2_with fail
       refine HF4.out.mono ?_
       rintro e u1 ⟨rfl,g1⟩
       rw [show ([4]:List Int).contains (3:Int)=false from rfl]
       have N:=qh (HN0.out.trans g1)
       have X9:=qh ((HX9.out.kept (grown_new _ _ none) (by simp)).kept g1 (by simp))
       have X7:=qh ((HX7.out.kept (grown_new _ _ none) (by simp)).kept g1 (by simp))
       clear g1
       go_wp2_with (first
        | (refine load_box _ wr.heap.size _ _ rfl rfl rfl X9.out Tryz.underlying56 rfl (tokInfo ⟨3,tc,tl,th,tp⟩) ?_)
        | (refine load_box _ w.heap.size _ _ rfl rfl rfl X7.out Tryz.underlying56 rfl (tokInfo a) ?_)
        | fail)
       refine (isof_any (u1.alloc (.cells #[.int .i64 6] 3)) ⟨3,tc,tl,th,tp⟩ _ (some ⟨u1.heap.size,0,none⟩) [6] 1 (litI u1 [6]) (by decide) (by simp)).mono ?_
       rintro e u2 ⟨rfl,g1⟩
       rw [show ([6]:List Int).contains (3:Int)=false from rfl]
       have N:=qh (N.out.trans ((grown_new u1 (.cells #[.int .i64 6] 3) none).trans g1))
       have X9:=qh ((X9.out.kept (grown_new u1 (.cells #[.int .i64 6] 3) none) (by simp)).kept g1 (by simp))
       have X7:=qh ((X7.out.kept (grown_new u1 (.cells #[.int .i64 6] 3) none) (by simp)).kept g1 (by simp))
       clear g1
       go_wp2_with (first
        | (refine load_box _ wr.heap.size _ _ rfl rfl rfl X9.out Tryz.underlying56 rfl (tokInfo ⟨3,tc,tl,th,tp⟩) ?_)
        | (refine load_box _ w.heap.size _ _ rfl rfl rfl X7.out Tryz.underlying56 rfl (tokInfo a) ?_)
        | fail)
       refine (isof_any (u2.alloc (.cells #[.int .i64 3] 3)) ⟨3,tc,tl,th,tp⟩ _ (some ⟨u2.heap.size,0,none⟩) [3] 1 (litI u2 [3]) (by decide) (by simp)).mono ?_
       rintro e u3 ⟨rfl,g1⟩
       rw [show ([3]:List Int).contains (3:Int)=true from rfl]
       have N:=qh (N.out.trans ((grown_new u2 (.cells #[.int .i64 3] 3) none).trans g1))
       have X9:=qh ((X9.out.kept (grown_new u2 (.cells #[.int .i64 3] 3) none) (by simp)).kept g1 (by simp))
       have X7:=qh ((X7.out.kept (grown_new u2 (.cells #[.int .i64 3] 3) none) (by simp)).kept g1 (by simp))
       clear g1
       go_wp2_with (first
        | (refine load_box _ wr.heap.size _ _ rfl rfl rfl X9.out Tryz.underlying56 rfl (tokInfo ⟨3,tc,tl,th,tp⟩) ?_)
        | (refine load_box _ w.heap.size _ _ rfl rfl rfl X7.out Tryz.underlying56 rfl (tokInfo a) ?_)
        | fail)
       refine (isof_any (u3.alloc (.cells #[.int .i64 3] 3)) ⟨3,tc,tl,th,tp⟩ _ (some ⟨u3.heap.size,0,none⟩) [3] 1 (litI u3 [3]) (by decide) (by simp)).mono ?_
       rintro e u4 ⟨rfl,g1⟩
       rw [show ([3]:List Int).contains (3:Int)=true from rfl]
       have N:=qh (N.out.trans ((grown_new u3 (.cells #[.int .i64 3] 3) none).trans g1))
       have X9:=qh ((X9.out.kept (grown_new u3 (.cells #[.int .i64 3] 3) none) (by simp)).kept g1 (by simp))
       have X7:=qh ((X7.out.kept (grown_new u3 (.cells #[.int .i64 3] 3) none) (by simp)).kept g1 (by simp))
       clear g1
       go_wp2_with (first
        | (refine load_box _ wr.heap.size _ _ rfl rfl rfl X9.out Tryz.underlying56 rfl (tokInfo ⟨3,tc,tl,th,tp⟩) ?_)
        | (refine store_tok u4 _ _ w.heap.size a ⟨3,tc,tl,th,tp⟩ rfl rfl rfl rfl rfl X7.out ?_;intro v x7 g7;have Y7:=qh x7;have M:=qh (grown_two (HG.out.trans N.out) g7 (Nat.le_refl _));clear x7 g7)
        | fail)
       go_roundw
       case rel=>exact ⟨k+1,o+1,⟨3,tc,tl,th,tp⟩,by omega,by go_num,by first | rfl | go_num,qh (by rw [HTR.out];exact HF.out),Y7,M,by omega⟩
       case measure=>simp [intOf];omega
     ·rw [if_neg (by omega),if_neg (by omega),if_neg (by omega),if_neg h3,if_neg h4] at HF
      have n4:([4]:List Int).contains tk=false:=by simp;omega
      have n6:([6]:List Int).contains tk=false:=by simp;omega
      have n3:([3]:List Int).contains tk=false:=by simp;omega
      go_wp2_with fail
      refine HF4.out.mono ?_
      rintro e u1 ⟨rfl,g1⟩
      rw [n4]
      have N:=qh (HN0.out.trans g1)
      have X9:=qh ((HX9.out.kept (grown_new _ _ none) (by simp)).kept g1 (by simp))
      have X7:=qh ((HX7.out.kept (grown_new _ _ none) (by simp)).kept g1 (by simp))
      clear g1
      go_wp2_with (first
       | (refine load_box _ wr.heap.size _ _ rfl rfl rfl X9.out Tryz.underlying56 rfl (tokInfo ⟨tk,tc,tl,th,tp⟩) ?_)
       | (refine load_box _ w.heap.size _ _ rfl rfl rfl X7.out Tryz.underlying56 rfl (tokInfo a) ?_)
       | fail)
      refine (isof_any (u1.alloc (.cells #[.int .i64 6] 3)) ⟨tk,tc,tl,th,tp⟩ _ (some ⟨u1.heap.size,0,none⟩) [6] 1 (litI u1 [6]) (by decide) (by simp)).mono ?_
      rintro e u2 ⟨rfl,g1⟩
      rw [n6]
      have N:=qh (N.out.trans ((grown_new u1 (.cells #[.int .i64 6] 3) none).trans g1))
      have X9:=qh ((X9.out.kept (grown_new u1 (.cells #[.int .i64 6] 3) none) (by simp)).kept g1 (by simp))
      have X7:=qh ((X7.out.kept (grown_new u1 (.cells #[.int .i64 6] 3) none) (by simp)).kept g1 (by simp))
      clear g1
      go_wp2_with (first
       | (refine load_box _ wr.heap.size _ _ rfl rfl rfl X9.out Tryz.underlying56 rfl (tokInfo ⟨tk,tc,tl,th,tp⟩) ?_)
       | (refine load_box _ w.heap.size _ _ rfl rfl rfl X7.out Tryz.underlying56 rfl (tokInfo a) ?_)
       | fail)
      refine (isof_any (u2.alloc (.cells #[.int .i64 3] 3)) ⟨tk,tc,tl,th,tp⟩ _ (some ⟨u2.heap.size,0,none⟩) [3] 1 (litI u2 [3]) (by decide) (by simp)).mono ?_
      rintro e u3 ⟨rfl,g1⟩
      rw [n3]
      have N:=qh (N.out.trans ((grown_new u2 (.cells #[.int .i64 3] 3) none).trans g1))
      have X9:=qh ((X9.out.kept (grown_new u2 (.cells #[.int .i64 3] 3) none) (by simp)).kept g1 (by simp))
      have X7:=qh ((X7.out.kept (grown_new u2 (.cells #[.int .i64 3] 3) none) (by simp)).kept g1 (by simp))
      clear g1
      go_wp2_with (first
       | (refine load_box _ wr.heap.size _ _ rfl rfl rfl X9.out Tryz.underlying56 rfl (tokInfo ⟨tk,tc,tl,th,tp⟩) ?_)
       | (refine load_box _ w.heap.size _ _ rfl rfl rfl X7.out Tryz.underlying56 rfl (tokInfo a) ?_)
       | fail)
      refine (isof_any (u3.alloc (.cells #[.int .i64 3] 3)) ⟨tk,tc,tl,th,tp⟩ _ (some ⟨u3.heap.size,0,none⟩) [3] 1 (litI u3 [3]) (by decide) (by simp)).mono ?_
      rintro e u4 ⟨rfl,g1⟩
      rw [n3]
      have N:=qh (N.out.trans ((grown_new u3 (.cells #[.int .i64 3] 3) none).trans g1))
      have X9:=qh ((X9.out.kept (grown_new u3 (.cells #[.int .i64 3] 3) none) (by simp)).kept g1 (by simp))
      have X7:=qh ((X7.out.kept (grown_new u3 (.cells #[.int .i64 3] 3) none) (by simp)).kept g1 (by simp))
      clear g1
      go_wp2_with (first
       | (refine load_box _ wr.heap.size _ _ rfl rfl rfl X9.out Tryz.underlying56 rfl (tokInfo ⟨tk,tc,tl,th,tp⟩) ?_)
       | (refine load_box _ w.heap.size _ _ rfl rfl rfl X7.out Tryz.underlying56 rfl (tokInfo a) ?_)
       | fail)
      refine (isof_any (u4.alloc (.cells #[.int .i64 4] 3)) ⟨tk,tc,tl,th,tp⟩ _ (some ⟨u4.heap.size,0,none⟩) [4] 1 (litI u4 [4]) (by decide) (by simp)).mono ?_
      rintro e u5 ⟨rfl,g1⟩
      rw [n4]
      have N:=qh (N.out.trans ((grown_new u4 (.cells #[.int .i64 4] 3) none).trans g1))
      have X9:=qh ((X9.out.kept (grown_new u4 (.cells #[.int .i64 4] 3) none) (by simp)).kept g1 (by simp))
      have X7:=qh ((X7.out.kept (grown_new u4 (.cells #[.int .i64 4] 3) none) (by simp)).kept g1 (by simp))
      clear g1
      go_wp2_with (first
       | (refine load_box _ wr.heap.size _ _ rfl rfl rfl X9.out Tryz.underlying56 rfl (tokInfo ⟨tk,tc,tl,th,tp⟩) ?_)
       | (refine store_tok u5 _ _ w.heap.size a ⟨tk,tc,tl,th,tp⟩ rfl rfl rfl rfl rfl X7.out ?_;intro v x7 g7;have Y7:=qh x7;have M:=qh (grown_two (HG.out.trans N.out) g7 (Nat.le_refl _));clear x7 g7)
       | fail)
      go_roundw
      case rel=>exact ⟨k+1,o,⟨tk,tc,tl,th,tp⟩,by omega,by go_num,by first | rfl | go_num,qh (by rw [HTR.out];exact HF.out),Y7,M,by omega⟩
      case measure=>simp [intOf];omega
  ·obtain rfl:k=T.length:=by omega
   rw [List.drop_length] at HF
   have hf:=HF.out
   rw [faultT] at hf
   by_cases h0:0 < o
   ·rw [if_pos h0] at hf
    injection hf with z1 z2
    subst z1 z2
    have d0:decide ((0:Int) < (o:Int))=true:=decide_eq_true (by omega)
    have d1:decide (0 < o)=true:=decide_eq_true h0
    clear h0
    go_wp2_with fail
    go_ret2
    exact ⟨rfl,HG.out⟩
   ·rw [if_neg h0] at hf
    injection hf with z1 z2
    subst z1 z2
    obtain rfl:o=0:=by omega
    clear h0
    go_wp2_with fail
    go_ret2
    exact ⟨rfl,HG.out⟩
end
section
open Go.RowKit
theorem results_box2 {P:Program} {fn:Func} {t u p:Tmp} {ty:TypeId} (h:fn.results=#[.cell p ty,.tmp t,.tmp u]) (tmps:Array Value) (w:World) (g:Nat) (e:TypeId) (cs:Array Value) (d:TypeDesc)
 (hp:tmps.getD p undef=.pointer (some ⟨g,0,none⟩)) (hg:Box w g cs e)
 (hu:P.underlying ty=some d) (hd:(match d with | .struct _ | .array _ _=>true | _=>false)=true) (hi:(P.info? ty).map (·.size)=some cs.size) :
 (results fn tmps).run P w=.ok (.tuple #[.agg cs,tmps.getD t undef,tmps.getD u undef]) w:=by
 have hp':tmps[p]?.getD undef=.pointer (some ⟨g,0,none⟩):=by simpa using hp
 simp [results,h,hp',asAddr,run_loadVar_row w g e ty cs (0,0) d hg hu hd hi]
def Wronged (w:World) (p x:Int) (ed:Ending) (w':World):Prop:=ed=.returned (.tuple #[.agg ndZero,.int .i64 p,.int .i64 x])∧Below w.heap.size w w'
theorem parse_flag (w:World) (A:Option Addr) (l:List Int) (c:Nat) (f:Int) (hf:7 < f):Calls Tryz.prog 20 #[.slice A l.length c,.int .i64 f] w (Wronged w 0 11):=by
 have d0:decide (f < 0)=false:=decide_eq_false (by omega)
 have d1:decide (7 < f)=true:=decide_eq_true hf
 have d2:decide (f > 7)=true:=decide_eq_true hf
 have X0:Hid (Box (w.alloc (.cells #[.int .i64 0,.slice none 0 0,.int .i64 0,.int .i64 0,.slice none 0 0] 25)) w.heap.size ndZero 25):=qh (Box.new w _ _)
 clear hf
 go_enter Tryz.func20,Tryz.ntmps20
 go_wp2_with (first
  | (refine store_nd _ _ _ w.heap.size ndZero ndZero rfl rfl rfl rfl rfl X0.out rfl rfl (by simp [ndZero,Value.oneCell']) ?_;intro w1 x1 g1;have X1:=qh x1;have G1:=qh (grown_two (grown_new w _ none) g1 (Nat.le_refl _));clear x1 g1)
  | fail)
 (try simp only [Exit.inBlock,Exit.then])
 exact bodyPost_ret (results_box2 rfl _ _ w.heap.size 25 _ _ rfl X1.out Tryz.underlying25 rfl (ndInfo rfl)) rfl ⟨rfl,below_row_none G1.out (Nat.le_refl _)⟩
theorem parse_fault (w:World) (A:Option Addr) (l:List Int) (c:Nat) (f:Int) (hf:0≤f∧f≤7) (h:Lies w w.heap.size A (ints .i64 l)) (hc:l.length≤c) (T:List Tok) (ho:ofT l=.ok T) (hn:T.length≤1000) (p x:Int) (hx:x≠0) (hz:faultT l.length T 0 3=(p,x)) :
 Calls Tryz.prog 20 #[.slice A l.length c,.int .i64 f] w (Wronged w p x):=by
 have d0:decide (f < 0)=false:=decide_eq_false (by omega)
 have d1:decide (7 < f)=false:=decide_eq_false (by omega)
 have d2:decide (f > 7)=false:=decide_eq_false (by omega)
 have d3:(x != 0)=true:=by simpa using hx
 obtain ⟨w0,hw0⟩:∃ u,w.alloc (.cells #[.int .i64 0,.slice none 0 0,.int .i64 0,.int .i64 0,.slice none 0 0] 25)=u:=⟨_,rfl⟩
 have G0:Hid (w.grownBy w0 none):=qh (hw0▸grown_new w _ none)
 have X0:Hid (Box w0 w.heap.size ndZero 25):=qh (hw0▸Box.new w _ _)
 have HW0:=qh hw0
 have HC:=qh (tkof_any w0 c A l (h.up (below_row_none G0.out (Nat.le_refl _))) hc)
 rw [ho] at HC
 have HFA:=qh (fun (u:World) (A:Option Addr) (c:Nat) h=>fault_any u A T c l.length h hn)
 rw [hz] at HFA
 clear hf hx hw0 h ho hz
 go_enter Tryz.func20,Tryz.ntmps20
 go_wp2_with fail
 rw [HW0.out]
 refine HC.out.mono ?_
 rintro e w1 ⟨⟨tv,rfl,o1⟩,b1⟩
 obtain ⟨A1,c1,rfl,l1,-,-⟩:=o1.form
 have X1:=qh (X0.out.kept (grown_of_below b1 none) (by simp))
 have G1:=qh (G0.out.trans (grown_of_below b1 none))
 have HF:=qh (HFA.out w1 A1 c1 l1)
 clear o1 b1 l1
 go_wp2_with fail
 refine HF.out.mono ?_
 rintro e w2 ⟨rfl,g2⟩
 have X2:=qh (X1.out.kept g2 (by simp))
 have G2:=qh (G1.out.trans g2)
 clear g2
 go_wp2_with (first
  | (refine store_nd w2 _ _ w.heap.size ndZero ndZero rfl rfl rfl rfl rfl X2.out rfl rfl (by simp [ndZero,Value.oneCell']) ?_;intro w3 x3 g3;have X3:=qh x3;have G3:=qh (grown_two G2.out g3 (Nat.le_refl _));clear x3 g3)
  | fail)
 (try simp only [Exit.inBlock,Exit.then])
 exact bodyPost_ret (results_box2 rfl _ _ w.heap.size 25 _ _ rfl X3.out Tryz.underlying25 rfl (ndInfo rfl)) rfl ⟨rfl,below_row_none G3.out (Nat.le_refl _)⟩
def ParsedTo (w:World) (n:Nd) (ed:Ending) (w':World):Prop:=∃ v,ed=.returned (.tuple #[.agg v,.int .i64 0,.int .i64 0])∧Treed w' (Fresh w w') n v∧Below w.heap.size w w'
theorem parse_right (w:World) (hT:FoTabs w) (A:Option Addr) (l:List Int) (c:Nat) (f:Int) (hf:0≤f∧f≤7) (h:Lies w w.heap.size A (ints .i64 l)) (hc:l.length≤c) (T:List Tok) (ho:ofT l=.ok T) (hn:T.length≤1000) (hz:faultT l.length T 0 3=(0,0)) (q d:Nat) (n:Nd) (R:List Tok) (hp:patT f q d T=some (n,R)) (hs:sizeI n≤400) :
 Calls Tryz.prog 20 #[.slice A l.length c,.int .i64 f] w (ParsedTo w n):=by
 have d0:decide (f < 0)=false:=decide_eq_false (by omega)
 have d1:decide (7 < f)=false:=decide_eq_false (by omega)
 have d2:decide (f > 7)=false:=decide_eq_false (by omega)
 obtain ⟨w0,hw0⟩:∃ u,w.alloc (.cells #[.int .i64 0,.slice none 0 0,.int .i64 0,.int .i64 0,.slice none 0 0] 25)=u:=⟨_,rfl⟩
 have G0:Hid (w.grownBy w0 none):=qh (hw0▸grown_new w _ none)
 have X0:Hid (Box w0 w.heap.size ndZero 25):=qh (hw0▸Box.new w _ _)
 have HW0:=qh hw0
 have HC:=qh (tkof_any w0 c A l (h.up (below_row_none G0.out (Nat.le_refl _))) hc)
 rw [ho] at HC
 have HFA:=qh (fun (u:World) (A:Option Addr) (c:Nat) h=>fault_any u A T c l.length h hn)
 rw [hz] at HFA
 have HTH:=qh hT
 have HPA:Hid (∀ (b:Nat) (u:World),3 < b→FoTabs u→IsT u b T f→Calls Tryz.prog 40 #[.pointer (some ⟨b,0,none⟩)] u (NdTo u b f n R)):=qh fun b u hb h1 h2=>pat_ok b f q hb d u T n R h1 h2 hp
 obtain ⟨sz,hsz⟩:∃ s,sizeI n=s:=⟨_,rfl⟩
 have HSZ:Hid (∀ (w:World) (P:Nat→Prop) (v:Array Value),Treed w P n v→Calls Tryz.prog 41 #[.agg v] w fun e u'=>e=.returned (.int .i64 sz)∧w.grownBy u' none):=qh fun w P v t=>hsz▸size_any t w (fun _ _ _=>rfl) (Nat.le_refl _)
 rw [hsz] at hs
 have d3:decide (400 < sz)=false:=decide_eq_false (by omega)
 have d4:decide (sz > 400)=false:=decide_eq_false (by omega)
 clear hf hw0 h ho hz hp hs hsz hT
 go_enter Tryz.func20,Tryz.ntmps20
 go_wp2_with fail
 rw [HW0.out]
 refine HC.out.mono ?_
 rintro e w1 ⟨⟨tv,rfl,o1⟩,b1⟩
 obtain ⟨A1,c1,rfl,l1,hc1,-⟩:=o1.form
 have X1:=qh (X0.out.kept (grown_of_below b1 none) (by simp))
 have G1:=qh (G0.out.trans (grown_of_below b1 none))
 have HF:=qh (HFA.out w1 A1 c1 l1)
 have L1:=qh l1
 clear o1 b1 l1
 go_wp2_with fail
 refine HF.out.mono ?_
 rintro e w2 ⟨rfl,g2⟩
 have X2:=qh (X1.out.kept g2 (by simp))
 have G2:=qh (G1.out.trans g2)
 have L2:=qh (L1.out.up (below_row_none g2 (Nat.le_refl _)))
 clear g2
 obtain ⟨w3,hw3⟩:∃ u,w2.alloc (.cells #[.slice A1 T.length c1,.int .i64 f] 72)=u:=⟨_,rfl⟩
 have N3:w2.grownBy w3 none:=hw3▸grown_new w2 _ none
 have R3:Hid (IsT w3 w2.heap.size T f):=qh ⟨⟨A1,c1,hw3▸Box.new w2 _ _,L2.out.same (fun q hq=>World.cell?_of_block (N3.block q.block hq (by simp))),hc1⟩,hn⟩
 have X3:=qh (X2.out.kept N3 (by simp))
 have G3:=qh (G2.out.trans N3)
 have HP3:=qh (HPA.out w2.heap.size w3 (by have:=HTH.out.big;have:=G2.out.size;omega) (HTH.out.grown0 G3.out) R3.out)
 have HW3:=qh hw3
 have HLT:Hid (w.heap.size < w2.heap.size):=qh X2.out.lt
 have HZ3:=qh N3.size
 clear hw3 N3
 go_wp2_with fail
 rw [HW3.out]
 refine HP3.out.mono ?_
 rintro e w4 ⟨v,rfl,t4,-,g4⟩
 have h5:=t4.size
 have h51:=t4.one
 have X4:=qh (X3.out.kept g4 (by have:=HLT.out;simp;omega))
 have G4:=qh (grown_two G3.out g4 (by have:=HLT.out;omega))
 have T4:=qh t4
 have Y4:Hid (Box (w4.alloc (.cells #[.int .i64 0,.slice none 0 0,.int .i64 0,.int .i64 0,.slice none 0 0] 25)) w4.heap.size ndZero 25):=qh (Box.new w4 _ _)
 have HL4:Hid (w.heap.size < w4.heap.size):=qh X4.out.lt
 clear t4 g4
 go_wp2_with (first
  | (refine store_nd _ _ _ w4.heap.size ndZero v rfl rfl rfl rfl rfl Y4.out rfl h5 h51 ?_;intro w5 x5 g5;have Y5:=qh x5;have N5:Hid (w4.grownBy w5 none):=qh (grown_two (grown_new w4 _ none) g5 (Nat.le_refl _));have X5:=qh (X4.out.kept N5.out (by simp));have G5:=qh (G4.out.trans N5.out);have T5:=qh (T4.out.grown N5.out (fun x hx e=>by cases e));clear x5 g5)
  | (refine load_nd _ w4.heap.size v rfl rfl rfl Y5.out h5 ?_)
  | fail)
 refine (HSZ.out w5 _ v T5.out).mono ?_
 rintro e w6 ⟨rfl,g6⟩
 have Y6:=qh (Y5.out.kept g6 (by simp))
 have X6:=qh (X5.out.kept g6 (by simp))
 have G6:=qh (G5.out.trans g6)
 have T6:=qh (T5.out.grown g6 (fun x hx e=>by cases e))
 have HZ6:=qh (Nat.le_trans N5.out.size g6.size)
 clear g6
 go_wp2_with (first
  | (refine load_nd _ w4.heap.size v rfl rfl rfl Y6.out h5 ?_)
  | (refine store_nd w6 _ _ w.heap.size ndZero v rfl rfl rfl rfl rfl X6.out rfl h5 h51 ?_;intro w7 x7 g7;have X7:=qh x7;have G7:=qh (grown_two G6.out g7 (Nat.le_refl _));have T7:=qh (T6.out.grown g7 (fun x hx e=>by injection e with e;have:=hx.1;have:=HLT.out;have:=HZ3.out;omega));have HZ7:=qh (Nat.le_trans HZ6.out g7.size);clear x7 g7)
  | fail)
 (try simp only [Exit.inBlock,Exit.then])
 exact bodyPost_ret (results_box2 rfl _ _ w.heap.size 25 _ _ rfl X7.out Tryz.underlying25 rfl (ndInfo h5)) rfl ⟨_,rfl,T7.out.mono fun x hx=>⟨by have:=hx.1;have:=HLT.out;have:=HZ3.out;omega,Nat.lt_of_lt_of_le hx.2 HZ7.out⟩,below_row_none G7.out (Nat.le_refl _)⟩
end
section
def itemT' (r:Int×Int) (p:Int):Tok:=if r.2≠r.1 then ⟨9,0,r.1,r.2,p⟩ else ⟨1,r.1,0,0,p⟩
end
section
def z (t:Tok):Tok:=⟨t.k,t.c,t.lo,t.hi,0⟩
def Spelt (L:List Int) (k:Nat) (x:List Int) (S:List Tok):Prop :=
 ∀ (fuel:Nat) (T:List Tok),∃ X,X.map z=S∧readT L (fuel+S.length) false k T=readT L fuel false (k+x.length) (T++X)
theorem Spelt.join {L:List Int} {k:Nat} {x y:List Int} {S S':List Tok} (h:Spelt L k x S) (h':Spelt L (k+x.length) y S'):Spelt L k (x++y) (S++S'):=by
 intro fuel T
 obtain ⟨X,h1,h2⟩:=h (fuel+S'.length) T
 obtain ⟨Y,h3,h4⟩:=h' fuel (T++X)
 refine ⟨X++Y,by rw [List.map_append,h1,h3],?_⟩
 rw [List.length_append,show fuel+(S.length+S'.length)=fuel+S'.length+S.length by omega,h2,h4]
 simp [Nat.add_assoc]
theorem Spelt.none (L:List Int) (k:Nat):Spelt L k [] []:=fun fuel T=>⟨[],rfl,by simp⟩
theorem Spelt.one {L:List Int} {k:Nat} {x:List Int} {t:Tok} (hk:k < L.length) (hx:∀ r,outT L r k=.ok (⟨t.k,t.c,t.lo,t.hi,(k:Int)⟩,k+x.length)) (h7:(t.k == 7)=false) (hz:t.pos=0):Spelt L k x [t]:=by
 intro fuel T
 refine ⟨[⟨t.k,t.c,t.lo,t.hi,(k:Int)⟩],?_,?_⟩
 ·cases t
  simp only at hz
  subst hz
  rfl
 ·show readT L (fuel+1) false k T=_
  rw [readT_out (Nat.ne_of_lt hk),hx]
  simp only
  rw [h7]
def shSet (rs:List (Int×Int)):List Tok:=match rs with
 | [r]=>if r.1=r.2 then [⟨1,r.1,0,0,0⟩] else ⟨7,0,0,0,0⟩ :: ([itemT' r 0]++[⟨8,0,0,0,0⟩])
 | rs=>⟨7,0,0,0,0⟩ :: (rs.map (fun r=>itemT' r 0)++[⟨8,0,0,0,0⟩])
end
section
def SpeltAfter (L:List Int) (k:Nat) (x:List Int) (S:List Tok):Prop :=
 ∀ (fuel:Nat) (T:List Tok),lastR T=false→∃ X,X.map z=S∧readT L (fuel+S.length) false k T=readT L fuel false (k+x.length) (T++X)
theorem SpeltAfter.one {L:List Int} {k:Nat} {x:List Int} {lo hi:Int} (hk:k < L.length) (hx:outT L false k=.ok (⟨6,0,lo,hi,(k:Int)⟩,k+x.length)):SpeltAfter L k x [⟨6,0,lo,hi,0⟩]:=by
 intro fuel T hT
 refine ⟨[⟨6,0,lo,hi,(k:Int)⟩],rfl,?_⟩
 show readT L (fuel+1) false k T=_
 rw [readT_out (Nat.ne_of_lt hk),hT,hx]
 rfl
end
end Go.Proofs.YtoeocodfndbebaaGreatDoor
