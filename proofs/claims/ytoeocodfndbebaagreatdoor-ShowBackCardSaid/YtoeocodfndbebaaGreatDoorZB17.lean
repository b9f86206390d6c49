/- Shared texts, shaken for one claim. -/
import Derived.Test.YtoeocodfndbebaaGreatDoorZB15
import Derived.Test.YtoeocodfndbebaaGreatDoorZB16
set_option maxRecDepth 20000
set_option maxHeartbeats 16000000
namespace Go.Proofs.YtoeocodfndbebaaGreatDoor
section
open Go.RowKit
theorem tok_at {w:World} {B:Nat} {A:Option Addr} {T:List Tok} (h:Lies w B A (tokCells T)) {k:Nat} (hk:k < T.length):∃ g off,A=some ⟨g,off,none⟩∧g < B∧w.cell? ⟨g,off+k * 5,none⟩=some (.int .i64 T[k].k)∧w.cell? ⟨g,off+k * 5+1,none⟩=some (.int .i64 T[k].c)∧w.cell? ⟨g,off+k * 5+2,none⟩=some (.int .i64 T[k].lo)∧w.cell? ⟨g,off+k * 5+3,none⟩=some (.int .i64 T[k].hi)∧w.cell? ⟨g,off+k * 5+4,none⟩=some (.int .i64 T[k].pos):=by
 have hl:=tokCells_length T
 obtain ⟨g,off,hA,hg,hc⟩:=Lies.plain h (by omega)
 have hcell:∀ j,j < 5→w.cell? ⟨g,off+k * 5+j,none⟩=T[k].arr[j]?:=fun j hj=>by
  rw [Nat.add_assoc,hc (k * 5+j) (by omega),← List.getElem?_eq_getElem,tokCells_get T k j hk hj]
 exact ⟨g,off,hA,hg,hcell 0 (by decide),hcell 1 (by decide),hcell 2 (by decide),hcell 3 (by decide),hcell 4 (by decide)⟩
theorem fault_any (w:World) (A:Option Addr) (T:List Tok) (c e:Nat) (h:Lies w w.heap.size A (tokCells T)) (hl:T.length≤1000) :
 Calls Tryz.prog 39 #[.slice A T.length c,.int .i64 e] w fun ed w'=>ed=.returned (.tuple #[.int .i64 (faultT e T 0 3).1,.int .i64 (faultT e T 0 3).2])∧w.grownBy w' none:=by
 obtain ⟨⟨rp,rx⟩,hz⟩:∃ z,faultT e T 0 3=z:=⟨_,rfl⟩
 rw [hz]
 have HL:=qh h
 have HZ:=qh hz
 have X0:Hid (Box (w.alloc (.cells #[.int .i64 3,.int .i64 0,.int .i64 0,.int .i64 0,.int .i64 0] 56)) w.heap.size (⟨3,0,0,0,0⟩:Tok).arr 56):=qh (Box.new w _ _)
 have G0:Hid (w.grownBy (w.alloc (.cells #[.int .i64 3,.int .i64 0,.int .i64 0,.int .i64 0,.int .i64 0] 56)) none):=qh (grown_new w _ none)
 clear h hz
 simp only
 go_enter Tryz.func39,Tryz.ntmps39
 go_wp2_with fail
 go_loopw [13,6] (fun iv ov wr=>∃ (k o:Nat) (a:Tok),k≤T.length∧iv=.int .i64 k∧ov=.int .i64 o∧Hid (faultT e (T.drop k) o a.k=(rp,rx))∧Hid (Box wr w.heap.size a.arr 56)∧Hid (w.grownBy wr none)∧o≤20) (fun iv _ _=>T.length - (intOf iv).toNat)
 case atStart=>exact ⟨0,0,⟨3,0,0,0,0⟩,by omega,rfl,rfl,HZ,X0,G0,by omega⟩
 case round =>
  obtain ⟨k,o,a,hk,rfl,rfl,HF,HX7',HG,ho⟩:=hrel
  by_cases hlt:k < T.length
  ·obtain ⟨g,off,rfl,-,c0,c1,c2,c3,c4⟩:=tok_at (HL.out.below (below_row_none HG.out (Nat.le_refl _))) hlt
   have hd:T.drop k=T[k] :: T.drop (k+1):=List.drop_eq_getElem_cons hlt
   have k0:(0:Int)≤(k:Int):=by omega
   have k1:(k:Int) < (T.length:Int):=by omega
   rw [hd] at HF
   obtain ⟨t,ht⟩:∃ t,T[k]=t:=⟨_,rfl⟩
   rw [ht] at c0 c1 c2 c3 c4 HF
   obtain ⟨tk,tc,tl,th,tp⟩:=t
   simp only at c0 c1 c2 c3 c4
   obtain ⟨TR,hTR⟩:∃ TR,T.drop (k+1)=TR:=⟨_,rfl⟩
   have HTR:=qh hTR
   rw [hTR] at HF
   simp only [faultT] at HF
   have HX9:Hid (Box (wr.alloc (.cells #[.int .i64 tk,.int .i64 tc,.int .i64 tl,.int .i64 th,.int .i64 tp] 56)) wr.heap.size (⟨tk,tc,tl,th,tp⟩:Tok).arr 56):=qh (Box.new wr _ _)
   have HX7:Hid (Box (wr.alloc (.cells #[.int .i64 tk,.int .i64 tc,.int .i64 tl,.int .i64 th,.int .i64 tp] 56)) w.heap.size a.arr 56):=qh (HX7'.out.kept (grown_new _ _ none) (by simp))
   have HN0:Hid (wr.grownBy ((wr.alloc (.cells #[.int .i64 tk,.int .i64 tc,.int .i64 tl,.int .i64 th,.int .i64 tp] 56)).alloc (.cells #[.int .i64 4] 3)) none):=qh ((grown_new wr _ none).trans (grown_new _ _ none))
   have HF4:=qh (isof_any ((wr.alloc (.cells #[.int .i64 tk,.int .i64 tc,.int .i64 tl,.int .i64 th,.int .i64 tp] 56)).alloc (.cells #[.int .i64 4] 3)) ⟨tk,tc,tl,th,tp⟩ _ (some ⟨wr.heap.size+1,0,none⟩) [4] 1 (by have:=litI (wr.alloc (.cells #[.int .i64 tk,.int .i64 tc,.int .i64 tl,.int .i64 th,.int .i64 tp] 56)) [4];rw [World.size_alloc] at this;exact this) (by decide) (by simp))
   clear ht hTR hd
   by_cases h4:tk=4
   ·subst h4
    by_cases ho0:o=0
    ·subst ho0
     rw [if_pos (by simp)] at HF
     have hz:=HF.out
     injection hz with z1 z2
     subst z1 z2
     go_wp2_with fail
     refine HF4.out.mono ?_
     rintro e u1 ⟨rfl,g1⟩
     rw [show ([4]:List Int).contains (4:Int)=true from rfl]
     have N:=qh (HN0.out.trans g1)
     have X9:=qh ((HX9.out.kept (grown_new _ _ none) (by simp)).kept g1 (by simp))
     have X7:=qh ((HX7.out.kept (grown_new _ _ none) (by simp)).kept g1 (by simp))
     clear g1
     have q4:=(X9.out.cell (i:=4) rfl:u1.cell? ⟨wr.heap.size,4,none⟩=some (.int .i64 tp))
     go_wp2_with fail
     go_ret2
     exact ⟨rfl,HG.out.trans N.out⟩
    ·rw [if_neg (fun h=>ho0 h.2),if_neg (fun h=>by have:=h.1;omega),if_neg (fun h=>by have:=h.1;omega),if_neg (by decide),if_pos rfl] at HF
     have d0:((o:Int) == 0)=false:=by simp;omega
     have d1:(o == 0)=false:=by simp;omega
     have hw:IntKind.i64.wrap ((o:Int) - 1)=((o - 1:Nat):Int):=by rw [IntWalk.i64_in _ (by omega)];omega
     go_wp2_with fail
     refine HF4.out.mono ?_
     rintro e u1 ⟨rfl,g1⟩
     rw [show ([4]:List Int).contains (4:Int)=true from rfl]
     have N:=qh (HN0.out.trans g1)
     have X9:=qh ((HX9.out.kept (grown_new _ _ none) (by simp)).kept g1 (by simp))
     have X7:=qh ((HX7.out.kept (grown_new _ _ none) (by simp)).kept g1 (by simp))
     clear g1
     go_wp2_with (first
      | (refine load_box _ wr.heap.size _ _ rfl rfl rfl X9.out Tryz.underlying56 rfl (tokInfo ⟨4,tc,tl,th,tp⟩) ?_)
      | (refine load_box _ w.heap.size _ _ rfl rfl rfl X7.out Tryz.underlying56 rfl (tokInfo a) ?_)
      | fail)
     refine (isof_any (u1.alloc (.cells #[.int .i64 6] 3)) ⟨4,tc,tl,th,tp⟩ _ (some ⟨u1.heap.size,0,none⟩) [6] 1 (litI u1 [6]) (by decide) (by simp)).mono ?_
     rintro e u2 ⟨rfl,g1⟩
     rw [show ([6]:List Int).contains (4:Int)=false from rfl]
     have N:=qh (N.out.trans ((grown_new u1 (.cells #[.int .i64 6] 3) none).trans g1))
     have X9:=qh ((X9.out.kept (grown_new u1 (.cells #[.int .i64 6] 3) none) (by simp)).kept g1 (by simp))
     have X7:=qh ((X7.out.kept (grown_new u1 (.cells #[.int .i64 6] 3) none) (by simp)).kept g1 (by simp))
     clear g1
     go_wp2_with (first
      | (refine load_box _ wr.heap.size _ _ rfl rfl rfl X9.out Tryz.underlying56 rfl (tokInfo ⟨4,tc,tl,th,tp⟩) ?_)
      | (refine load_box _ w.heap.size _ _ rfl rfl rfl X7.out Tryz.underlying56 rfl (tokInfo a) ?_)
      | fail)
     refine (isof_any (u2.alloc (.cells #[.int .i64 3] 3)) ⟨4,tc,tl,th,tp⟩ _ (some ⟨u2.heap.size,0,none⟩) [3] 1 (litI u2 [3]) (by decide) (by simp)).mono ?_
     rintro e u3 ⟨rfl,g1⟩
     rw [show ([3]:List Int).contains (4:Int)=false from rfl]
     have N:=qh (N.out.trans ((grown_new u2 (.cells #[.int .i64 3] 3) none).trans g1))
     have X9:=qh ((X9.out.kept (grown_new u2 (.cells #[.int .i64 3] 3) none) (by simp)).kept g1 (by simp))
     have X7:=qh ((X7.out.kept (grown_new u2 (.cells #[.int .i64 3] 3) none) (by simp)).kept g1 (by simp))
     clear g1
     go_wp2_with (first
      | (refine load_box _ wr.heap.size _ _ rfl rfl rfl X9.out Tryz.underlying56 rfl (tokInfo ⟨4,tc,tl,th,tp⟩) ?_)
      | (refine load_box _ w.heap.size _ _ rfl rfl rfl X7.out Tryz.underlying56 rfl (tokInfo a) ?_)
      | fail)
     refine (isof_any (u3.alloc (.cells #[.int .i64 3] 3)) ⟨4,tc,tl,th,tp⟩ _ (some ⟨u3.heap.size,0,none⟩) [3] 1 (litI u3 [3]) (by decide) (by simp)).mono ?_
     rintro e u4 ⟨rfl,g1⟩
     rw [show ([3]:List Int).contains (4:Int)=false from rfl]
     have N:=qh (N.out.trans ((grown_new u3 (.cells #[.int .i64 3] 3) none).trans g1))
     have X9:=qh ((X9.out.kept (grown_new u3 (.cells #[.int .i64 3] 3) none) (by simp)).kept g1 (by simp))
     have X7:=qh ((X7.out.kept (grown_new u3 (.cells #[.int .i64 3] 3) none) (by simp)).kept g1 (by simp))
     clear g1
     go_wp2_with (first
      | (refine load_box _ wr.heap.size _ _ rfl rfl rfl X9.out Tryz.underlying56 rfl (tokInfo ⟨4,tc,tl,th,tp⟩) ?_)
      | (refine load_box _ w.heap.size _ _ rfl rfl rfl X7.out Tryz.underlying56 rfl (tokInfo a) ?_)
      | fail)
     refine (isof_any (u4.alloc (.cells #[.int .i64 4] 3)) ⟨4,tc,tl,th,tp⟩ _ (some ⟨u4.heap.size,0,none⟩) [4] 1 (litI u4 [4]) (by decide) (by simp)).mono ?_
     rintro e u5 ⟨rfl,g1⟩
     rw [show ([4]:List Int).contains (4:Int)=true from rfl]
     have N:=qh (N.out.trans ((grown_new u4 (.cells #[.int .i64 4] 3) none).trans g1))
     have X9:=qh ((X9.out.kept (grown_new u4 (.cells #[.int .i64 4] 3) none) (by simp)).kept g1 (by simp))
     have X7:=qh ((X7.out.kept (grown_new u4 (.cells #[.int .i64 4] 3) none) (by simp)).kept g1 (by simp))
     clear g1
     go_wp2_with (first
      | (refine load_box _ wr.heap.size _ _ rfl rfl rfl X9.out Tryz.underlying56 rfl (tokInfo ⟨4,tc,tl,th,tp⟩) ?_)
      | (refine store_tok u5 _ _ w.heap.size a ⟨4,tc,tl,th,tp⟩ rfl rfl rfl rfl rfl X7.out ?_;intro v x7 g7;have Y7:=qh x7;have M:=qh (grown_two (HG.out.trans N.out) g7 (Nat.le_refl _));clear x7 g7)
      | fail)
     go_roundw
     case rel=>exact ⟨k+1,o - 1,⟨4,tc,tl,th,tp⟩,by omega,by go_num,by first | rfl | go_num,qh (by rw [HTR.out];exact HF.out),Y7,M,by omega⟩
     case measure=>simp [intOf];omega
   ·by_cases h6:tk=6
    ·subst h6
     rw [if_neg (by omega)] at HF
     by_cases ha:([3,5,6,13]:List Int).contains a.k=true
     ·rw [if_pos ⟨rfl,ha⟩] at HF
      have hz:=HF.out
      injection hz with z1 z2
      subst z1 z2
      go_wp2_with fail
      refine HF4.out.mono ?_
      rintro e u1 ⟨rfl,g1⟩
      rw [show ([4]:List Int).contains (6:Int)=false from rfl]
      have N:=qh (HN0.out.trans g1)
      have X9:=qh ((HX9.out.kept (grown_new _ _ none) (by simp)).kept g1 (by simp))
      have X7:=qh ((HX7.out.kept (grown_new _ _ none) (by simp)).kept g1 (by simp))
      clear g1
      go_wp2_with (first
       | (refine load_box _ wr.heap.size _ _ rfl rfl rfl X9.out Tryz.underlying56 rfl (tokInfo ⟨6,tc,tl,th,tp⟩) ?_)
       | (refine load_box _ w.heap.size _ _ rfl rfl rfl X7.out Tryz.underlying56 rfl (tokInfo a) ?_)
       | fail)
      refine (isof_any (u1.alloc (.cells #[.int .i64 6] 3)) ⟨6,tc,tl,th,tp⟩ _ (some ⟨u1.heap.size,0,none⟩) [6] 1 (litI u1 [6]) (by decide) (by simp)).mono ?_
      rintro e u2 ⟨rfl,g1⟩
      rw [show ([6]:List Int).contains (6:Int)=true from rfl]
      have N:=qh (N.out.trans ((grown_new u1 (.cells #[.int .i64 6] 3) none).trans g1))
      have X9:=qh ((X9.out.kept (grown_new u1 (.cells #[.int .i64 6] 3) none) (by simp)).kept g1 (by simp))
      have X7:=qh ((X7.out.kept (grown_new u1 (.cells #[.int .i64 6] 3) none) (by simp)).kept g1 (by simp))
      clear g1
      have a0:=(X7.out.cell (i:=0) rfl:u2.cell? ⟨w.heap.size,0,none⟩=some (.int .i64 a.k))
      have a1:=(X7.out.cell (i:=1) rfl:u2.cell? ⟨w.heap.size,1,none⟩=some (.int .i64 a.c))
      have a2:=(X7.out.cell (i:=2) rfl:u2.cell? ⟨w.heap.size,2,none⟩=some (.int .i64 a.lo))
      have a3:=(X7.out.cell (i:=3) rfl:u2.cell? ⟨w.heap.size,3,none⟩=some (.int .i64 a.hi))
      have a4:=(X7.out.cell (i:=4) rfl:u2.cell? ⟨w.heap.size,4,none⟩=some (.int .i64 a.pos))
      go_wp2_with (first
       | (refine load_box _ wr.heap.size _ _ rfl rfl rfl X9.out Tryz.underlying56 rfl (tokInfo ⟨6,tc,tl,th,tp⟩) ?_)
       | (refine load_box _ w.heap.size _ _ rfl rfl rfl X7.out Tryz.underlying56 rfl (tokInfo a) ?_)
       | fail)
      refine (isof_any (u2.alloc (.cells #[.int .i64 3,.int .i64 5,.int .i64 6,.int .i64 13] 3)) a _ (some ⟨u2.heap.size,0,none⟩) [3,5,6,13] 4 (litI u2 [3,5,6,13]) (by decide) (by simp)).mono ?_
      rintro e u3 ⟨rfl,g1⟩
      rw [ha]
      have N:=qh (N.out.trans ((grown_new u2 (.cells #[.int .i64 3,.int .i64 5,.int .i64 6,.int .i64 13] 3) none).trans g1))
      have X9:=qh ((X9.out.kept (grown_new u2 (.cells #[.int .i64 3,.int .i64 5,.int .i64 6,.int .i64 13] 3) none) (by simp)).kept g1 (by simp))
      have X7:=qh ((X7.out.kept (grown_new u2 (.cells #[.int .i64 3,.int .i64 5,.int .i64 6,.int .i64 13] 3) none) (by simp)).kept g1 (by simp))
      clear g1
      have q4:=(X9.out.cell (i:=4) rfl:u3.cell? ⟨wr.heap.size,4,none⟩=some (.int .i64 tp))
      go_wp2_with fail
      go_ret2
      exact ⟨rfl,HG.out.trans N.out⟩
     ·rw [if_neg (fun h=>ha h.2),if_neg (by omega),if_neg (by omega),if_neg (by omega)] at HF
      have ha:([3,5,6,13]:List Int).contains a.k=false:=by simpa using ha
      go_wp2_with fail
      refine HF4.out.mono ?_
      rintro e u1 ⟨rfl,g1⟩
      rw [show ([4]:List Int).contains (6:Int)=false from rfl]
      have N:=qh (HN0.out.trans g1)
      have X9:=qh ((HX9.out.kept (grown_new _ _ none) (by simp)).kept g1 (by simp))
      have X7:=qh ((HX7.out.kept (grown_new _ _ none) (by simp)).kept g1 (by simp))
      clear g1
      go_wp2_with (first
       | (refine load_box _ wr.heap.size _ _ rfl rfl rfl X9.out Tryz.underlying56 rfl (tokInfo ⟨6,tc,tl,th,tp⟩) ?_)
       | (refine load_box _ w.heap.size _ _ rfl rfl rfl X7.out Tryz.underlying56 rfl (tokInfo a) ?_)
       | fail)
      refine (isof_any (u1.alloc (.cells #[.int .i64 6] 3)) ⟨6,tc,tl,th,tp⟩ _ (some ⟨u1.heap.size,0,none⟩) [6] 1 (litI u1 [6]) (by decide) (by simp)).mono ?_
      rintro e u2 ⟨rfl,g1⟩
      rw [show ([6]:List Int).contains (6:Int)=true from rfl]
      have N:=qh (N.out.trans ((grown_new u1 (.cells #[.int .i64 6] 3) none).trans g1))
      have X9:=qh ((X9.out.kept (grown_new u1 (.cells #[.int .i64 6] 3) none) (by simp)).kept g1 (by simp))
      have X7:=qh ((X7.out.kept (grown_new u1 (.cells #[.int .i64 6] 3) none) (by simp)).kept g1 (by simp))
      clear g1
      have a0:=(X7.out.cell (i:=0) rfl:u2.cell? ⟨w.heap.size,0,none⟩=some (.int .i64 a.k))
      have a1:=(X7.out.cell (i:=1) rfl:u2.cell? ⟨w.heap.size,1,none⟩=some (.int .i64 a.c))
      have a2:=(X7.out.cell (i:=2) rfl:u2.cell? ⟨w.heap.size,2,none⟩=some (.int .i64 a.lo))
      have a3:=(X7.out.cell (i:=3) rfl:u2.cell? ⟨w.heap.size,3,none⟩=some (.int .i64 a.hi))
      have a4:=(X7.out.cell (i:=4) rfl:u2.cell? ⟨w.heap.size,4,none⟩=some (.int .i64 a.pos))
      go_wp2_with (first
       | (refine load_box _ wr.heap.size _ _ rfl rfl rfl X9.out Tryz.underlying56 rfl (tokInfo ⟨6,tc,tl,th,tp⟩) ?_)
       | (refine load_box _ w.heap.size _ _ rfl rfl rfl X7.out Tryz.underlying56 rfl (tokInfo a) ?_)
       | fail)
      refine (isof_any (u2.alloc (.cells #[.int .i64 3,.int .i64 5,.int .i64 6,.int .i64 13] 3)) a _ (some ⟨u2.heap.size,0,none⟩) [3,5,6,13] 4 (litI u2 [3,5,6,13]) (by decide) (by simp)).mono ?_
      rintro e u3 ⟨rfl,g1⟩
      rw [ha]
      have N:=qh (N.out.trans ((grown_new u2 (.cells #[.int .i64 3,.int .i64 5,.int .i64 6,.int .i64 13] 3) none).trans g1))
      have X9:=qh ((X9.out.kept (grown_new u2 (.cells #[.int .i64 3,.int .i64 5,.int .i64 6,.int .i64 13] 3) none) (by simp)).kept g1 (by simp))
      have X7:=qh ((X7.out.kept (grown_new u2 (.cells #[.int .i64 3,.int .i64 5,.int .i64 6,.int .i64 13] 3) none) (by simp)).kept g1 (by simp))
      clear g1
      go_wp2_with (first
       | (refine load_box _ wr.heap.size _ _ rfl rfl rfl X9.out Tryz.underlying56 rfl (tokInfo ⟨6,tc,tl,th,tp⟩) ?_)
       | (refine load_box _ w.heap.size _ _ rfl rfl rfl X7.out Tryz.underlying56 rfl (tokInfo a) ?_)
       | fail)
      refine (isof_any (u3.alloc (.cells #[.int .i64 3] 3)) ⟨6,tc,tl,th,tp⟩ _ (some ⟨u3.heap.size,0,none⟩) [3] 1 (litI u3 [3]) (by decide) (by simp)).mono ?_
      rintro e u4 ⟨rfl,g1⟩
      rw [show ([3]:List Int).contains (6:Int)=false from rfl]
      have N:=qh (N.out.trans ((grown_new u3 (.cells #[.int .i64 3] 3) none).trans g1))
      have X9:=qh ((X9.out.kept (grown_new u3 (.cells #[.int .i64 3] 3) none) (by simp)).kept g1 (by simp))
      have X7:=qh ((X7.out.kept (grown_new u3 (.cells #[.int .i64 3] 3) none) (by simp)).kept g1 (by simp))
      clear g1
      go_wp2_with (first
       | (refine load_box _ wr.heap.size _ _ rfl rfl rfl X9.out Tryz.underlying56 rfl (tokInfo ⟨6,tc,tl,th,tp⟩) ?_)
       | (refine load_box _ w.heap.size _ _ rfl rfl rfl X7.out Tryz.underlying56 rfl (tokInfo a) ?_)
       | fail)
      refine (isof_any (u4.alloc (.cells #[.int .i64 3] 3)) ⟨6,tc,tl,th,tp⟩ _ (some ⟨u4.heap.size,0,none⟩) [3] 1 (litI u4 [3]) (by decide) (by simp)).mono ?_
      rintro e u5 ⟨rfl,g1⟩
      rw [show ([3]:List Int).contains (6:Int)=false from rfl]
      have N:=qh (N.out.trans ((grown_new u4 (.cells #[.int .i64 3] 3) none).trans g1))
      have X9:=qh ((X9.out.kept (grown_new u4 (.cells #[.int .i64 3] 3) none) (by simp)).kept g1 (by simp))
      have X7:=qh ((X7.out.kept (grown_new u4 (.cells #[.int .i64 3] 3) none) (by simp)).kept g1 (by simp))
      clear g1
      go_wp2_with (first
       | (refine load_box _ wr.heap.size _ _ rfl rfl rfl X9.out Tryz.underlying56 rfl (tokInfo ⟨6,tc,tl,th,tp⟩) ?_)
       | (refine load_box _ w.heap.size _ _ rfl rfl rfl X7.out Tryz.underlying56 rfl (tokInfo a) ?_)
       | fail)
      refine (isof_any (u5.alloc (.cells #[.int .i64 4] 3)) ⟨6,tc,tl,th,tp⟩ _ (some ⟨u5.heap.size,0,none⟩) [4] 1 (litI u5 [4]) (by decide) (by simp)).mono ?_
      rintro e u6 ⟨rfl,g1⟩
      rw [show ([4]:List Int).contains (6:Int)=false from rfl]
      have N:=qh (N.out.trans ((grown_new u5 (.cells #[.int .i64 4] 3) none).trans g1))
      have X9:=qh ((X9.out.kept (grown_new u5 (.cells #[.int .i64 4] 3) none) (by simp)).kept g1 (by simp))
      have X7:=qh ((X7.out.kept (grown_new u5 (.cells #[.int .i64 4] 3) none) (by simp)).kept g1 (by simp))
      clear g1
      go_wp2_with (first
       | (refine load_box _ wr.heap.size _ _ rfl rfl rfl X9.out Tryz.underlying56 rfl (tokInfo ⟨6,tc,tl,th,tp⟩) ?_)
       | (refine store_tok u6 _ _ w.heap.size a ⟨6,tc,tl,th,tp⟩ rfl rfl rfl rfl rfl X7.out ?_;intro v x7 g7;have Y7:=qh x7;have M:=qh (grown_two (HG.out.trans N.out) g7 (Nat.le_refl _));clear x7 g7)
       | fail)
      go_roundw
      case rel=>exact ⟨k+1,o,⟨6,tc,tl,th,tp⟩,by omega,by go_num,by first | rfl | go_num,qh (by rw [HTR.out];exact HF.out),Y7,M,by omega⟩
      case measure=>simp [intOf];omega
    ·by_cases h3:tk=3
     ·subst h3
      rw [if_neg (by omega),if_neg (by omega)] at HF
      by_cases hd:o=20
      ·subst hd
       rw [if_pos (by simp)] at HF
       have hz:=HF.out
       injection hz with z1 z2
       subst z1 z2
       go_wp2_with fail
       refine HF4.out.mono ?_
       rintro e u1 ⟨rfl,g1⟩
       rw [show ([4]:List Int).contains (3:Int)=false from rfl]
       have N:=qh (HN0.out.trans g1)
       have X9:=qh ((HX9.out.kept (grown_new _ _ none) (by simp)).kept g1 (by simp))
       have X7:=qh ((HX7.out.kept (grown_new _ _ none) (by simp)).kept g1 (by simp))
       clear g1
       go_wp2_with (first
        | (refine load_box _ wr.heap.size _ _ rfl rfl rfl X9.out Tryz.underlying56 rfl (tokInfo ⟨3,tc,tl,th,tp⟩) ?_)
        | (refine load_box _ w.heap.size _ _ rfl rfl rfl X7.out Tryz.underlying56 rfl (tokInfo a) ?_)
        | fail)
       refine (isof_any (u1.alloc (.cells #[.int .i64 6] 3)) ⟨3,tc,tl,th,tp⟩ _ (some ⟨u1.heap.size,0,none⟩) [6] 1 (litI u1 [6]) (by decide) (by simp)).mono ?_
       rintro e u2 ⟨rfl,g1⟩
       rw [show ([6]:List Int).contains (3:Int)=false from rfl]
       have N:=qh (N.out.trans ((grown_new u1 (.cells #[.int .i64 6] 3) none).trans g1))
       have X9:=qh ((X9.out.kept (grown_new u1 (.cells #[.int .i64 6] 3) none) (by simp)).kept g1 (by simp))
       have X7:=qh ((X7.out.kept (grown_new u1 (.cells #[.int .i64 6] 3) none) (by simp)).kept g1 (by simp))
       clear g1
       go_wp2_with (first
        | (refine load_box _ wr.heap.size _ _ rfl rfl rfl X9.out Tryz.underlying56 rfl (tokInfo ⟨3,tc,tl,th,tp⟩) ?_)
        | (refine load_box _ w.heap.size _ _ rfl rfl rfl X7.out Tryz.underlying56 rfl (tokInfo a) ?_)
        | fail)
       refine (isof_any (u2.alloc (.cells #[.int .i64 3] 3)) ⟨3,tc,tl,th,tp⟩ _ (some ⟨u2.heap.size,0,none⟩) [3] 1 (litI u2 [3]) (by decide) (by simp)).mono ?_
       rintro e u3 ⟨rfl,g1⟩
       rw [show ([3]:List Int).contains (3:Int)=true from rfl]
       have N:=qh (N.out.trans ((grown_new u2 (.cells #[.int .i64 3] 3) none).trans g1))
       have X9:=qh ((X9.out.kept (grown_new u2 (.cells #[.int .i64 3] 3) none) (by simp)).kept g1 (by simp))
       have X7:=qh ((X7.out.kept (grown_new u2 (.cells #[.int .i64 3] 3) none) (by simp)).kept g1 (by simp))
       clear g1
       have q4:=(X9.out.cell (i:=4) rfl:u3.cell? ⟨wr.heap.size,4,none⟩=some (.int .i64 tp))
       go_wp2_with fail
       go_ret2
       exact ⟨rfl,HG.out.trans N.out⟩
      ·rw [if_neg (fun h=>hd h.2),if_pos rfl] at HF
       have d0:((o:Int) == 20)=false:=by simp;omega
       have d1:(o == 20)=false:=by simp;omega
       have hw:IntKind.i64.wrap ((o:Int)+1)=((o+1:Nat):Int):=by rw [IntWalk.i64_in _ (by omega)];omega
       go_wp2_with fail
       refine HF4.out.mono ?_
       rintro e u1 ⟨rfl,g1⟩
       rw [show ([4]:List Int).contains (3:Int)=false from rfl]
       have N:=qh (HN0.out.trans g1)
       have X9:=qh ((HX9.out.kept (grown_new _ _ none) (by simp)).kept g1 (by simp))
       have X7:=qh ((HX7.out.kept (grown_new _ _ none) (by simp)).kept g1 (by simp))
       clear g1
       go_wp2_with (first
        | (refine load_box _ wr.heap.size _ _ rfl rfl rfl X9.out Tryz.underlying56 rfl (tokInfo ⟨3,tc,tl,th,tp⟩) ?_)
        | (refine load_box _ w.heap.size _ _ rfl rfl rfl X7.out Tryz.underlying56 rfl (tokInfo a) ?_)
        | fail)
       refine (isof_any (u1.alloc (.cells #[.int .i64 6] 3)) ⟨3,tc,tl,th,tp⟩ _ (some ⟨u1.heap.size,0,none⟩) [6] 1 (litI u1 [6]) (by decide) (by simp)).mono ?_
       rintro e u2 ⟨rfl,g1⟩
       rw [show ([6]:List Int).contains (3:Int)=false from rfl]
       have N:=qh (N.out.trans ((grown_new u1 (.cells #[.int .i64 6] 3) none).trans g1))
       have X9:=qh ((X9.out.kept (grown_new u1 (.cells #[.int .i64 6] 3) none) (by simp)).kept g1 (by simp))
       have X7:=qh ((X7.out.kept (grown_new u1 (.cells #[.int .i64 6] 3) none) (by simp)).kept g1 (by simp))
       clear g1
       go_wp2_with (first
        | (refine load_box _ wr.heap.size _ _ rfl rfl rfl X9.out Tryz.underlying56 rfl (tokInfo ⟨3,tc,tl,th,tp⟩) ?_)
        | (refine load_box _ w.heap.size _ _ rfl rfl rfl X7.out Tryz.underlying56 rfl (tokInfo a) ?_)
        | fail)
       refine (isof_any (u2.alloc (.cells #[.int .i64 3] 3)) ⟨3,tc,tl,th,tp⟩ _ (some ⟨u2.heap.size,0,none⟩) [3] 1 (litI u2 [3]) (by decide) (by simp)).mono ?_
       rintro e u3 ⟨rfl,g1⟩
       rw [show ([3]:List Int).contains (3:Int)=true from rfl]
       have N:=qh (N.out.trans ((grown_new u2 (.cells #[.int .i64 3] 3) none).trans g1))
       have X9:=qh ((X9.out.kept (grown_new u2 (.cells #[.int .i64 3] 3) none) (by simp)).kept g1 (by simp))
       have X7:=qh ((X7.out.kept (grown_new u2 (.cells #[.int .i64 3] 3) none) (by simp)).kept g1 (by simp))
       clear g1
       go_wp2_with (first
        | (refine load_box _ wr.heap.size _ _ rfl rfl rfl X9.out Tryz.underlying56 rfl (tokInfo ⟨3,tc,tl,th,tp⟩) ?_)
        | (refine load_box _ w.heap.size _ _ rfl rfl rfl X7.out Tryz.underlying56 rfl (tokInfo a) ?_)
        | fail)
       refine (isof_any (u3.alloc (.cells #[.int .i64 3] 3)) ⟨3,tc,tl,th,tp⟩ _ (some ⟨u3.heap.size,0,none⟩) [3] 1 (litI u3 [3]) (by decide) (by simp)).mono ?_
       rintro e u4 ⟨rfl,g1⟩
       rw [show ([3]:List Int).contains (3:Int)=true from rfl]
       have N:=qh (N.out.trans ((grown_new u3 (.cells #[.int .i64 3] 3) none).trans g1))
       have X9:=qh ((X9.out.kept (grown_new u3 (.cells #[.int .i64 3] 3) none) (by simp)).kept g1 (by simp))
       have X7:=qh ((X7.out.kept (grown_new u3 (.cells #[.int .i64 3] 3) none) (by simp)).kept g1 (by simp))
       clear g1
       go_wp2_with (first
        | (refine load_box _ wr.heap.size _ _ rfl rfl rfl X9.out Tryz.underlying56 rfl (tokInfo ⟨3,tc,tl,th,tp⟩) ?_)
        | (refine store_tok u4 _ _ w.heap.size a ⟨3,tc,tl,th,tp⟩ rfl rfl rfl rfl rfl X7.out ?_;intro v x7 g7;have Y7:=qh x7;have M:=qh (grown_two (HG.out.trans N.out) g7 (Nat.le_refl _));clear x7 g7)
        | fail)
       go_roundw
       case rel=>exact ⟨k+1,o+1,⟨3,tc,tl,th,tp⟩,by omega,by go_num,by first | rfl | go_num,qh (by rw [HTR.out];exact HF.out),Y7,M,by omega⟩
       case measure=>simp [intOf];omega
     ·rw [if_neg (by omega),if_neg (by omega),if_neg (by omega),if_neg h3,if_neg h4] at HF
      have n4:([4]:List Int).contains tk=false:=by simp;omega
      have n6:([6]:List Int).contains tk=false:=by simp;omega
      have n3:([3]:List Int).contains tk=false:=by simp;omega
      go_wp2_with fail
      refine HF4.out.mono ?_
      rintro e u1 ⟨rfl,g1⟩
      rw [n4]
      have N:=qh (HN0.out.trans g1)
      have X9:=qh ((HX9.out.kept (grown_new _ _ none) (by simp)).kept g1 (by simp))
      have X7:=qh ((HX7.out.kept (grown_new _ _ none) (by simp)).kept g1 (by simp))
      clear g1
      go_wp2_with (first
       | (refine load_box _ wr.heap.size _ _ rfl rfl rfl X9.out Tryz.underlying56 rfl (tokInfo ⟨tk,tc,tl,th,tp⟩) ?_)
       | (refine load_box _ w.heap.size _ _ rfl rfl rfl X7.out Tryz.underlying56 rfl (tokInfo a) ?_)
       | fail)
      refine (isof_any (u1.alloc (.cells #[.int .i64 6] 3)) ⟨tk,tc,tl,th,tp⟩ _ (some ⟨u1.heap.size,0,none⟩) [6] 1 (litI u1 [6]) (by decide) (by simp)).mono ?_
      rintro e u2 ⟨rfl,g1⟩
      rw [n6]
      have N:=qh (N.out.trans ((grown_new u1 (.cells #[.int .i64 6] 3) none).trans g1))
      have X9:=qh ((X9.out.kept (grown_new u1 (.cells #[.int .i64 6] 3) none) (by simp)).kept g1 (by simp))
      have X7:=qh ((X7.out.kept (grown_new u1 (.cells #[.int .i64 6] 3) none) (by simp)).kept g1 (by simp))
      clear g1
      go_wp2_with (first
       | (refine load_box _ wr.heap.size _ _ rfl rfl rfl X9.out Tryz.underlying56 rfl (tokInfo ⟨tk,tc,tl,th,tp⟩) ?_)
       | (refine load_box _ w.heap.size _ _ rfl rfl rfl X7.out Tryz.underlying56 rfl (tokInfo a) ?_)
       | fail)
      refine (isof_any (u2.alloc (.cells #[.int .i64 3] 3)) ⟨tk,tc,tl,th,tp⟩ _ (some ⟨u2.heap.size,0,none⟩) [3] 1 (litI u2 [3]) (by decide) (by simp)).mono ?_
      rintro e u3 ⟨rfl,g1⟩
      rw [n3]
      have N:=qh (N.out.trans ((grown_new u2 (.cells #[.int .i64 3] 3) none).trans g1))
      have X9:=qh ((X9.out.kept (grown_new u2 (.cells #[.int .i64 3] 3) none) (by simp)).kept g1 (by simp))
      have X7:=qh ((X7.out.kept (grown_new u2 (.cells #[.int .i64 3] 3) none) (by simp)).kept g1 (by simp))
      clear g1
      go_wp2_with (first
       | (refine load_box _ wr.heap.size _ _ rfl rfl rfl X9.out Tryz.underlying56 rfl (tokInfo ⟨tk,tc,tl,th,tp⟩) ?_)
       | (refine load_box _ w.heap.size _ _ rfl rfl rfl X7.out Tryz.underlying56 rfl (tokInfo a) ?_)
       | fail)
      refine (isof_any (u3.alloc (.cells #[.int .i64 3] 3)) ⟨tk,tc,tl,th,tp⟩ _ (some ⟨u3.heap.size,0,none⟩) [3] 1 (litI u3 [3]) (by decide) (by simp)).mono ?_
      rintro e u4 ⟨rfl,g1⟩
      rw [n3]
      have N:=qh (N.out.trans ((grown_new u3 (.cells #[.int .i64 3] 3) none).trans g1))
      have X9:=qh ((X9.out.kept (grown_new u3 (.cells #[.int .i64 3] 3) none) (by simp)).kept g1 (by simp))
      have X7:=qh ((X7.out.kept (grown_new u3 (.cells #[.int .i64 3] 3) none) (by simp)).kept g1 (by simp))
      clear g1
      go_wp2_with (first
       | (refine load_box _ wr.heap.size _ _ rfl rfl rfl X9.out Tryz.underlying56 rfl (tokInfo ⟨tk,tc,tl,th,tp⟩) ?_)
       | (refine load_box _ w.heap.size _ _ rfl rfl rfl X7.out Tryz.underlying56 rfl (tokInfo a) ?_)
       | fail)
      refine (isof_any (u4.alloc (.cells #[.int .i64 4] 3)) ⟨tk,tc,tl,th,tp⟩ _ (some ⟨u4.heap.size,0,none⟩) [4] 1 (litI u4 [4]) (by decide) (by simp)).mono ?_
      rintro e u5 ⟨rfl,g1⟩
      rw [n4]
      have N:=qh (N.out.trans ((grown_new u4 (.cells #[.int .i64 4] 3) none).trans g1))
      have X9:=qh ((X9.out.kept (grown_new u4 (.cells #[.int .i64 4] 3) none) (by simp)).kept g1 (by simp))
      have X7:=qh ((X7.out.kept (grown_new u4 (.cells #[.int .i64 4] 3) none) (by simp)).kept g1 (by simp))
      clear g1
      go_wp2_with (first
       | (refine load_box _ wr.heap.size _ _ rfl rfl rfl X9.out Tryz.underlying56 rfl (tokInfo ⟨tk,tc,tl,th,tp⟩) ?_)
       | (refine store_tok u5 _ _ w.heap.size a ⟨tk,tc,tl,th,tp⟩ rfl rfl rfl rfl rfl X7.out ?_;intro v x7 g7;have Y7:=qh x7;have M:=qh (grown_two (HG.out.trans N.out) g7 (Nat.le_refl _));clear x7 g7)
       | fail)
      go_roundw
      case rel=>exact ⟨k+1,o,⟨tk,tc,tl,th,tp⟩,by omega,by go_num,by first | rfl | go_num,qh (by rw [HTR.out];exact HF.out),Y7,M,by omega⟩
      case measure=>simp [intOf];omega
  ·obtain rfl:k=T.length:=by omega
   rw [List.drop_length] at HF
   have hf:=HF.out
   rw [faultT] at hf
   by_cases h0:0 < o
   ·rw [if_pos h0] at hf
    injection hf with z1 z2
    subst z1 z2
    have d0:decide ((0:Int) < (o:Int))=true:=decide_eq_true (by omega)
    have d1:decide (0 < o)=true:=decide_eq_true h0
    clear h0
    go_wp2_with fail
    go_ret2
    exact ⟨rfl,HG.out⟩
   ·rw [if_neg h0] at hf
    injection hf with z1 z2
    subst z1 z2
    obtain rfl:o=0:=by omega
    clear h0
    go_wp2_with fail
    go_ret2
    exact ⟨rfl,HG.out⟩
end
section
open Go.RowKit
theorem times_any (k lo hi:Int) (s1 s2:Value) (_:s1.oneCell'=true) (_:s2.oneCell'=true) (w:World):Calls Tryz.prog 58 #[.agg #[.int .i64 k,s1,.int .i64 lo,.int .i64 hi,s2]] w fun e w'=>e=.returned (.int .i64 (timesI k lo hi))∧w.grownBy w' none:=by
 by_cases hk:k=5
 ·subst hk
  by_cases hh:hi < 0
  ·have HZ:Hid (timesI 5 lo hi=max (IntKind.i64.wrap (min lo 1000000+1)) 1):=qh (by unfold timesI;rw [if_pos rfl,if_pos hh])
   rw [HZ.out]
   have d1:decide (hi < 0)=true:=decide_eq_true hh
   obtain ⟨a,ha⟩:∃ a,min lo 1000000=a:=⟨_,rfl⟩
   have e1:(if 1000000 < lo then (1000000:Int) else lo)=a:=by rw [← ha];split <;> omega
   rw [ha]
   obtain ⟨x,hx⟩:∃ x,IntKind.i64.wrap (a+1)=x:=⟨_,rfl⟩
   rw [hx]
   obtain ⟨z,hz⟩:∃ z,max x 1=z:=⟨_,rfl⟩
   have e2:(if 1 > x then (1:Int) else x)=z:=by rw [← hz];split <;> omega
   rw [hz]
   clear hh
   go_enter Tryz.func58,Tryz.ntmps58
   go_wp2
   go_ret
   exact ⟨rfl,grown_new w _ none⟩
  ·have HZ:Hid (timesI 5 lo hi=max hi 1):=qh (by unfold timesI;rw [if_pos rfl,if_neg hh])
   rw [HZ.out]
   have d1:decide (hi < 0)=false:=decide_eq_false hh
   obtain ⟨z,hz⟩:∃ z,max hi 1=z:=⟨_,rfl⟩
   have e2:(if 1 > hi then (1:Int) else hi)=z:=by rw [← hz];split <;> omega
   rw [hz]
   clear hh
   go_enter Tryz.func58,Tryz.ntmps58
   go_wp2
   go_ret
   exact ⟨rfl,grown_new w _ none⟩
 ·have HZ:Hid (timesI k lo hi=1):=qh (by unfold timesI;rw [if_neg hk])
  rw [HZ.out]
  have d1:(k != 5)=true:=by simpa using hk
  clear hk
  go_enter Tryz.func58,Tryz.ntmps58
  go_wp2
  go_ret
  exact ⟨rfl,grown_new w _ none⟩
theorem kid_at {w u:World} {P:Nat→Prop} {A:Option Addr} {vs:List (Array Value)} (h:LiesP w P A (vs.flatMap Array.toList)) (h5:∀ v∈vs,v.size=5) (hu:∀ b,P b→b < w.heap.size→u.heap[b]?=w.heap[b]?) {i:Nat} (hi:i < vs.length) :
 ∃ g off,A=some ⟨g,off,none⟩∧g < w.heap.size∧∀ j,j < 5→u.cell? ⟨g,off+i * 5+j,none⟩=vs[i][j]?:=by
 have hl:=nflat_len h5
 obtain ⟨g,off,hA,hP,hg,hc⟩:=h (by intro e;rw [e] at hl;simp at hl;omega)
 refine ⟨g,off,hA,hg,fun j hj=>?_⟩
 have hlt:i * 5+j < (vs.flatMap Array.toList).length:=by omega
 rw [World.cell?_of_block (a:=⟨g,off+i * 5+j,none⟩) (hu g hP hg),Nat.add_assoc,hc (i * 5+j) _ (List.getElem?_eq_getElem hlt),← nflat_at h5 i j hi hj,List.getElem?_eq_getElem hlt]
theorem size_any {w:World} {P:Nat→Prop} {n:Nd} {v:Array Value} (h:Treed w P n v):∀ (u:World),(∀ b,P b→b < w.heap.size→u.heap[b]?=w.heap[b]?)→w.heap.size≤u.heap.size →
 Calls Tryz.prog 41 #[.agg v] u fun e u'=>e=.returned (.int .i64 (sizeI n))∧u.grownBy u' none:=by
 induction h with
 | @mk k lo hi rs ks A A' c c' vs h1 hc h0 h2 hc' hk ih =>
  intro u hu hs
  have HU:=qh hu
  have HIH:=qh ih
  have H2:=qh h2
  have H5:Hid (∀ v∈vs,v.size=5):=qh fun v hv=>by
   obtain ⟨i,hi,rfl⟩:=List.getElem_of_mem hv
   exact (hk i hi (by omega)).size
  have HFO:=qh (fun (i:Nat) (hi:i < vs.length)=>(hk i hi (by omega)).form)
  have HN0:=qh h0
  have HS:=qh hs
  have HSZ:Hid (sizeI (.mk k lo hi rs ks)=finI (sumI ks) (timesI k lo hi)):=qh (by rw [sizeI])
  rw [HSZ.out]
  obtain ⟨t,ht⟩:∃ t,timesI k lo hi=t:=⟨_,rfl⟩
  have HTI:=qh (fun u=>ht▸times_any k lo hi (.slice A rs.length c) (.slice A' ks.length c') rfl rfl u)
  have htp:=times_pos k lo hi
  rw [ht] at htp ⊢
  obtain ⟨Z,hZ⟩:∃ Z,finI (sumI ks) t=Z:=⟨_,rfl⟩
  have HZ:=qh hZ
  rw [hZ]
  have X0:Hid (Box (u.alloc (.cells #[.int .i64 k,.slice A rs.length c,.int .i64 lo,.int .i64 hi,.slice A' ks.length c'] 25)) u.heap.size #[.int .i64 k,.slice A rs.length c,.int .i64 lo,.int .i64 hi,.slice A' ks.length c'] 25):=qh (Box.new u _ _)
  have HLE:=qh (fun k=>sumI_le (ks:=ks) k)
  have HNN:=qh (sumI_nn ks)
  have hkl:ks.length≤9223372036854775807:=by have h1:=hc'.1;have h2:=hc'.2;unfold maxLen at h2;omega
  clear h1 h2 hc hc' hk ih hu hs ht hZ
  go_enter Tryz.func41,Tryz.ntmps41
  go_wp2_with fail
  go_loopw [9,3] (fun iv sv wr=>∃ (i:Nat),i≤ks.length∧iv=.int .i64 i∧sv=.int .i64 (sumI (ks.take i))∧sumI (ks.take i) < 1000000∧Hid (u.grownBy wr none)∧Hid (Box wr u.heap.size #[.int .i64 k,.slice A rs.length c,.int .i64 lo,.int .i64 hi,.slice A' ks.length c'] 25)) (fun iv _ _=>ks.length - (intOf iv).toNat)
  case atStart=>exact ⟨0,by omega,rfl,by simp [sumI],by simp [sumI],qh (grown_new u _ none),X0⟩
  case round =>
   obtain ⟨i,hi',rfl,rfl,hsm,HG,HX⟩:=hrel
   have hnn0:=sumI_nn (ks.take i)
   by_cases hlt:i < ks.length
   ·have hlv:i < vs.length:=by have:=HN0.out;omega
    have hagree:∀ b,P b→b < w.heap.size→wr.heap[b]?=w.heap[b]?:=fun b hb hl=>(HG.out.block b (by have:=HS.out;omega) (by simp)).trans (HU.out b hb hl)
    obtain ⟨g,off,rfl,hg,hcell⟩:=kid_at H2.out H5.out hagree hlv
    obtain ⟨k1,Ar,nr,cr,lo1,hi1,Ak,nk,ck,hv⟩:=HFO.out i hlv
    have q0:wr.cell? ⟨g,off+i * 5,none⟩=vs[i][0]?:=hcell 0 (by decide)
    have q1:=hcell 1 (by decide)
    have q2:=hcell 2 (by decide)
    have q3:=hcell 3 (by decide)
    have q4:=hcell 4 (by decide)
    rw [hv] at q0 q1 q2 q3 q4
    have hrec:=fun u' a b=>HIH.out i hlv hlt u' a b
    rw [hv] at hrec
    have hin:=sizeI_in ks[i]
    have HNX:=qh (sumI_next hlt)
    have HLN:=qh (HLE.out (i+1))
    obtain ⟨s1,hs1⟩:∃ s,sizeI ks[i]=s:=⟨_,rfl⟩
    obtain ⟨s0,hs0⟩:∃ s,sumI (ks.take i)=s:=⟨_,rfl⟩
    rw [hs1] at hrec hin HNX
    rw [hs0] at hsm hnn0 HNX ⊢
    have N1:wr.grownBy (wr.alloc (.cells #[.int .i64 k1,.slice Ar nr cr,.int .i64 lo1,.int .i64 hi1,.slice Ak nk ck] 25)) none:=grown_new _ _ none
    have HRC:=qh (hrec (wr.alloc (.cells #[.int .i64 k1,.slice Ar nr cr,.int .i64 lo1,.int .i64 hi1,.slice Ak nk ck] 25)) (fun b hb hl=>(N1.block b (by have:=HS.out;have:=HG.out.size;omega) (by simp)).trans (hagree b hb hl)) (by have:=HS.out;have:=HG.out.size;have:=N1.size;omega))
    have HGN:=qh (HG.out.trans N1)
    have HXN:=qh (HX.out.kept N1 (by simp))
    have b0:(0:Int)≤(i:Int):=by omega
    have b1:(i:Int) < (ks.length:Int):=by omega
    have hw1:IntKind.i64.wrap (s0+s1)=s0+s1:=IntWalk.i64_in _ (by omega)
    clear hs1 hs0 hcell hv hrec hagree N1
    simp only [List.getElem?_toArray,List.getElem?_cons_zero,List.getElem?_cons_succ] at q0 q1 q2 q3 q4
    go_wp2_with fail
    refine HRC.out.mono ?_
    rintro e w2 ⟨rfl,g2⟩
    have HG2:=qh (HGN.out.trans g2)
    have HX2:=qh (HXN.out.kept g2 (by simp))
    clear g2
    by_cases hge:1000000≤s0+s1
    ·have d1:decide (1000000≤s0+s1)=true:=decide_eq_true hge
     have HF:Hid (finI (sumI ks) t=1000000):=qh (by unfold finI;rw [if_pos (by have:=HNX.out;have:=HLN.out;omega)])
     have hz:=HZ.out.symm.trans HF.out
     subst hz
     clear hge HF
     go_wp2_with fail
     go_ret
     exact ⟨rfl,HG2.out⟩
    ·have d1:decide (1000000≤s0+s1)=false:=decide_eq_false hge
     go_wp2_with fail
     go_roundw
     case rel=>exact ⟨i+1,by omega,by go_num,by rw [HNX.out],by rw [HNX.out];omega,HG2,HX2⟩
     case measure=>simp [intOf];omega
   ·obtain rfl:i=ks.length:=by omega
    rw [List.take_length] at hsm hnn0 ⊢
    have HF:Hid (finI (sumI ks) t=min (1+sumI ks * min t 1000000) 1000000):=qh (by unfold finI;rw [if_neg (by omega)])
    have hzz:=HZ.out.symm.trans HF.out
    obtain ⟨s,hs⟩:∃ s,sumI ks=s:=⟨_,rfl⟩
    rw [hs] at hsm hnn0 hzz ⊢
    obtain ⟨m,hm⟩:∃ m,min t 1000000=m:=⟨_,rfl⟩
    have e1:(if 1000000 < t then (1000000:Int) else t)=m:=by rw [← hm];split <;> omega
    have hm0:1≤m∧m≤1000000:=by omega
    have hp0:0≤s * m:=Int.mul_nonneg hnn0 (by omega)
    have hp1:s * m≤1000000 * 1000000:=Int.le_trans (Int.mul_le_mul_of_nonneg_right (by omega:s≤1000000) (by omega)) (Int.mul_le_mul_of_nonneg_left hm0.2 (by omega))
    rw [hm] at hzz
    obtain ⟨p,hp⟩:∃ p,s * m=p:=⟨_,rfl⟩
    rw [hp] at hp0 hp1 hzz
    have hw1:IntKind.i64.wrap (s * m)=p:=by rw [hp];exact IntWalk.i64_in _ (by omega)
    have hw2:IntKind.i64.wrap (1+p)=1+p:=IntWalk.i64_in _ (by omega)
    obtain ⟨z,hz⟩:∃ z,min (1+p) 1000000=z:=⟨_,rfl⟩
    have e2:(if 1000000 < 1+p then (1000000:Int) else 1+p)=z:=by rw [← hz];split <;> omega
    rw [hz] at hzz
    subst hzz
    clear hs
    go_wp2_with (first
     | (refine load_nd _ u.heap.size _ rfl rfl rfl HX.out rfl ?_)
     | fail)
    refine (HTI.out wr).mono ?_
    rintro e w2 ⟨rfl,g2⟩
    have HG2:=qh (HG.out.trans g2)
    clear g2
    go_wp2_with fail
    go_ret
    exact ⟨rfl,HG2.out⟩
end
end Go.Proofs.YtoeocodfndbebaaGreatDoor
