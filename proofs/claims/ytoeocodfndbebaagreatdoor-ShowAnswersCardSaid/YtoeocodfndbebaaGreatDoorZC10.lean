/- Shared texts, shaken for one claim. -/
import Derived.Test.YtoeocodfndbebaaGreatDoorZC9
set_option maxRecDepth 20000
set_option maxHeartbeats 16000000
namespace Go.Proofs.YtoeocodfndbebaaGreatDoor
section
open Go.RowKit
theorem lies_row {w w':World} {b:Nat} {A:Option Addr} {xs:List Value} (h:Lies w b A xs) (hg:w.grownBy w' (some b)) (hb:b≤w.heap.size):Lies w' b A xs :=
 h.same fun q hq=>World.cell?_of_block (hg.block q.block (by omega) (fun e=>by injection e with e;omega))
theorem tkbra_end (w:World) (b c k:Nat) (A:Option Addr) (l:List Int) (tv:Value) (T:List Tok) (h:IsR w b A l c k tv T) (hl:l.length≤1000) (fr:Nat) (n:Nat) (y:Int) (hn:nxT l (k+(digT l k).length)=.error (n,y)) :
 Calls Tryz.prog 105 #[.pointer (some ⟨b,0,none⟩),.int .i64 fr] w (Told w b A l c tv T (fun t:Tok=>.agg t.arr) (Except.error (n,y):Wr (Tok×Nat))):=by
 obtain ⟨w0,hw0⟩:∃ u,w.alloc (.cells #[.int .i64 0,.int .i64 0,.int .i64 0,.int .i64 0,.int .i64 0] 56)=u:=⟨_,rfl⟩
 have X0:Hid (Box w0 w.heap.size noTok.arr 56):=qh (hw0▸Box.new w _ _)
 have G0:Hid (w.grownBy w0 none):=qh (hw0▸grown_new w _ _)
 have H0:Hid (IsR w0 b A l c k tv T):=qh (h.grown G0.out)
 have hbw:=h.lt
 have HO:Hid (∀ g,w.heap.size≤g→tv.ownBlock≠some g):=qh fun g hg=>h.old hg
 have HW0:=qh hw0
 have HDG:=qh (tkdigits_any w0 b c k A l tv T H0.out hl)
 have HDA:=qh (digT_all l k)
 have hdl:(digT l k).length≤1000:=by have:=digT_length l k;omega
 clear h hw0
 have HN:=qh hn
 clear hn
 go_enter Tryz.func105,Tryz.ntmps105
 go_wp2_with fail
 rw [HW0.out]
 refine HDG.out.mono ?_
 rintro e w1 ⟨A1,c1,rfl,l1,h1,g1⟩
 have G1:=qh ((grown_any G0.out (some b)).trans g1)
 have N1:=qh (tknext_any w1 b c _ A l tv T h1 hl)
 rw [HN.out] at N1
 clear l1 h1 g1
 go_wp2_with fail
 refine N1.out.mono ?_
 rintro e w2 ⟨rfl,g2⟩
 have G2:=qh (G1.out.trans g2)
 clear g2
 go_wp2_with fail
 exact ⟨rfl,rfl,G2.out⟩
theorem tkbra_one (w:World) (b c k:Nat) (A:Option Addr) (l:List Int) (tv:Value) (T:List Tok) (h:IsR w b A l c k tv T) (hl:l.length≤1000) (fr:Nat) (x:Int) (k2:Nat) (hn:nxT l (k+(digT l k).length)=.ok (x,k2)) (hx:¬ (x=44∧digT l k≠[])) :
 Calls Tryz.prog 105 #[.pointer (some ⟨b,0,none⟩),.int .i64 fr] w (Told w b A l c tv T (fun t:Tok=>.agg t.arr) (shutT fr (numT (digT l k)) (numT (digT l k)) x k2)):=by
 obtain ⟨w0,hw0⟩:∃ u,w.alloc (.cells #[.int .i64 0,.int .i64 0,.int .i64 0,.int .i64 0,.int .i64 0] 56)=u:=⟨_,rfl⟩
 have X0:Hid (Box w0 w.heap.size noTok.arr 56):=qh (hw0▸Box.new w _ _)
 have G0:Hid (w.grownBy w0 none):=qh (hw0▸grown_new w _ _)
 have H0:Hid (IsR w0 b A l c k tv T):=qh (h.grown G0.out)
 have hbw:=h.lt
 have HO:Hid (∀ g,w.heap.size≤g→tv.ownBlock≠some g):=qh fun g hg=>h.old hg
 have HW0:=qh hw0
 have HDG:=qh (tkdigits_any w0 b c k A l tv T H0.out hl)
 have HDA:=qh (digT_all l k)
 have hdl:(digT l k).length≤1000:=by have:=digT_length l k;omega
 clear h hw0
 have HN:=qh hn
 obtain ⟨D,hD⟩:∃ D,digT l k=D:=⟨_,rfl⟩
 rw [hD] at HDG HDA hdl HN hx ⊢
 obtain ⟨a,ha⟩:∃ a,numT D=a:=⟨_,rfl⟩
 have HA:=qh ha
 obtain ⟨z,hz⟩:∃ z,numT D=z:=⟨_,rfl⟩
 have HZ:=qh hz
 have hres:shutT fr (numT D) (numT D) x k2=shutT fr a z x k2:=by rw [hz];rw [← ha,← hz]
 rw [hres]
 have hor:(x == 44)=false∨((x == 44)=true∧D=[]):=by
  by_cases h:x=44
  ·refine .inr ⟨by simpa using h,?_⟩
   apply Classical.byContradiction
   exact fun e=>hx ⟨h,e⟩
  ·exact .inl (by simpa using h)
 clear hn hD ha hz hres hx
 rcases hor with h44 | ⟨h44,hD0⟩
 ·go_enter Tryz.func105,Tryz.ntmps105
  go_wp2_with fail
  rw [HW0.out]
  refine HDG.out.mono ?_
  rintro e w1 ⟨A1,c1,rfl,l1,h1,g1⟩
  have G1:=qh ((grown_any G0.out (some b)).trans g1)
  have X1:=qh (X0.out.kept g1 (by simp;omega))
  have L1:=qh l1
  have N1:=qh (tknext_any w1 b c _ A l tv T h1 hl)
  rw [HN.out] at N1
  have b1:b≤w1.heap.size:=by have:=h1.lt;omega
  clear l1 h1 g1
  go_wp2_with fail
  refine N1.out.mono ?_
  rintro e w2 ⟨rfl,h2,g2⟩
  have G2:=qh (G1.out.trans g2)
  have X2:=qh (X1.out.kept g2 (by simp;omega))
  have L2:=qh (lies_row L1.out g2 b1)
  have H2:=qh h2
  clear h2 g2 N1
  go_wp2_with fail
  refine (tknumber_any w2 b A1 D c1 L2.out HDA.out hdl).mono ?_
  rintro e wq ⟨rfl,rfl⟩
  rw [HA.out]
  go_wp2_with fail
  refine (tknumber_any w2 b A1 D c1 L2.out HDA.out hdl).mono ?_
  rintro e wq ⟨rfl,rfl⟩
  rw [HZ.out]
  by_cases q1:x=125
  ·by_cases q2:a < 0
   ·have e1:(x != 125)=false:=by simpa using q1
    have e2:decide (a < 0)=true:=decide_eq_true q2
    have HB:Hid (shutT fr a z x k2=.error (fr,8)):=qh (by unfold shutT;rw [if_pos (by simp [badB,q2])])
    clear q1 q2
    go_wp2_with fail
    exact ⟨rfl,by rw [HB.out];exact ⟨rfl,G2.out⟩⟩
   ·by_cases q3:a < z
    ·by_cases q4:20 < z
     ·have e1:(x != 125)=false:=by simpa using q1
      have e2:decide (a < 0)=false:=decide_eq_false q2
      have e4:decide (20 < z)=true:=decide_eq_true q4
      have HB:Hid (shutT fr a z x k2=.error (fr,8)):=qh (by unfold shutT;rw [if_pos (by simp [badB];omega)])
      clear q1 q2 q4
      go_wp2_with fail
      exact ⟨rfl,by rw [HB.out];exact ⟨rfl,G2.out⟩⟩
     ·have e1:(x != 125)=false:=by simpa using q1
      have e2:decide (a < 0)=false:=decide_eq_false q2
      have e4:decide (20 < z)=false:=decide_eq_false q4
      have e5:decide (0≤z)=true:=decide_eq_true (by omega)
      have e6:decide (z < a)=false:=decide_eq_false (by omega)
      have HB:Hid (shutT fr a z x k2=.ok (⟨6,0,a,z,0⟩,k2)):=qh (by unfold shutT;rw [if_neg (by simp [badB,q1];omega)])
      clear q1 q2 q4
      go_wp2_with (first
       | (refine store_tok w2 _ _ w.heap.size noTok ⟨6,0,a,z,0⟩ rfl rfl rfl rfl rfl X2.out ?_;intro w9 x9 g9;have X9:=qh x9;have G9:=qh g9;clear x9 g9)
       | fail)
      (try simp only [Exit.inBlock,Exit.then])
      exact bodyPost_ret (v:=.agg (⟨6,0,a,z,0⟩:Tok).arr) (ret_tok rfl _ _ w.heap.size _ rfl X9.out) rfl (by rw [HB.out];exact ⟨rfl,H2.out.new G9.out hbw (HO.out _ (Nat.le_refl _)),grown_two G2.out G9.out (Nat.le_refl _)⟩)
    ·by_cases q4:20 < a
     ·have e1:(x != 125)=false:=by simpa using q1
      have e2:decide (a < 0)=false:=decide_eq_false q2
      have e4:decide (20 < a)=true:=decide_eq_true q4
      have HB:Hid (shutT fr a z x k2=.error (fr,8)):=qh (by unfold shutT;rw [if_pos (by simp [badB];omega)])
      clear q1 q2 q4
      go_wp2_with fail
      exact ⟨rfl,by rw [HB.out];exact ⟨rfl,G2.out⟩⟩
     ·by_cases q5:0≤z
      ·by_cases q6:z < a
       ·have e1:(x != 125)=false:=by simpa using q1
        have e2:decide (a < 0)=false:=decide_eq_false q2
        have e4:decide (20 < a)=false:=decide_eq_false q4
        have e5:decide (0≤z)=true:=decide_eq_true q5
        have e6:decide (z < a)=true:=decide_eq_true q6
        have HB:Hid (shutT fr a z x k2=.error (fr,8)):=qh (by unfold shutT;rw [if_pos (by simp [badB];omega)])
        clear q1 q2 q4 q5 q6
        go_wp2_with fail
        exact ⟨rfl,by rw [HB.out];exact ⟨rfl,G2.out⟩⟩
       ·have e1:(x != 125)=false:=by simpa using q1
        have e2:decide (a < 0)=false:=decide_eq_false q2
        have e4:decide (20 < a)=false:=decide_eq_false q4
        have e5:decide (0≤z)=true:=decide_eq_true q5
        have e6:decide (z < a)=false:=decide_eq_false q6
        have HB:Hid (shutT fr a z x k2=.ok (⟨6,0,a,z,0⟩,k2)):=qh (by unfold shutT;rw [if_neg (by simp [badB,q1];omega)])
        clear q1 q2 q4 q5 q6
        go_wp2_with (first
         | (refine store_tok w2 _ _ w.heap.size noTok ⟨6,0,a,z,0⟩ rfl rfl rfl rfl rfl X2.out ?_;intro w9 x9 g9;have X9:=qh x9;have G9:=qh g9;clear x9 g9)
         | fail)
        (try simp only [Exit.inBlock,Exit.then])
        exact bodyPost_ret (v:=.agg (⟨6,0,a,z,0⟩:Tok).arr) (ret_tok rfl _ _ w.heap.size _ rfl X9.out) rfl (by rw [HB.out];exact ⟨rfl,H2.out.new G9.out hbw (HO.out _ (Nat.le_refl _)),grown_two G2.out G9.out (Nat.le_refl _)⟩)
      ·have e1:(x != 125)=false:=by simpa using q1
       have e2:decide (a < 0)=false:=decide_eq_false q2
       have e4:decide (20 < a)=false:=decide_eq_false q4
       have e5:decide (0≤z)=false:=decide_eq_false q5
       have HB:Hid (shutT fr a z x k2=.ok (⟨6,0,a,z,0⟩,k2)):=qh (by unfold shutT;rw [if_neg (by simp [badB,q1];omega)])
       clear q1 q2 q4 q5
       go_wp2_with (first
        | (refine store_tok w2 _ _ w.heap.size noTok ⟨6,0,a,z,0⟩ rfl rfl rfl rfl rfl X2.out ?_;intro w9 x9 g9;have X9:=qh x9;have G9:=qh g9;clear x9 g9)
        | fail)
       (try simp only [Exit.inBlock,Exit.then])
       exact bodyPost_ret (v:=.agg (⟨6,0,a,z,0⟩:Tok).arr) (ret_tok rfl _ _ w.heap.size _ rfl X9.out) rfl (by rw [HB.out];exact ⟨rfl,H2.out.new G9.out hbw (HO.out _ (Nat.le_refl _)),grown_two G2.out G9.out (Nat.le_refl _)⟩)
  ·have e1:(x != 125)=true:=by simpa using q1
   have HB:Hid (shutT fr a z x k2=.error (fr,8)):=qh (by unfold shutT;rw [if_pos (by simp [badB,q1])])
   clear q1
   go_wp2_with fail
   exact ⟨rfl,by rw [HB.out];exact ⟨rfl,G2.out⟩⟩
 ·have d0:decide (0 < D.length)=false:=by rw [hD0];rfl
  have d0':decide ((0:Int) < (D.length:Int))=false:=by rw [hD0];rfl
  clear hD0
  go_enter Tryz.func105,Tryz.ntmps105
  go_wp2_with fail
  rw [HW0.out]
  refine HDG.out.mono ?_
  rintro e w1 ⟨A1,c1,rfl,l1,h1,g1⟩
  have G1:=qh ((grown_any G0.out (some b)).trans g1)
  have X1:=qh (X0.out.kept g1 (by simp;omega))
  have L1:=qh l1
  have N1:=qh (tknext_any w1 b c _ A l tv T h1 hl)
  rw [HN.out] at N1
  have b1:b≤w1.heap.size:=by have:=h1.lt;omega
  clear l1 h1 g1
  go_wp2_with fail
  refine N1.out.mono ?_
  rintro e w2 ⟨rfl,h2,g2⟩
  have G2:=qh (G1.out.trans g2)
  have X2:=qh (X1.out.kept g2 (by simp;omega))
  have L2:=qh (lies_row L1.out g2 b1)
  have H2:=qh h2
  clear h2 g2 N1
  go_wp2_with fail
  refine (tknumber_any w2 b A1 D c1 L2.out HDA.out hdl).mono ?_
  rintro e wq ⟨rfl,rfl⟩
  rw [HA.out]
  go_wp2_with fail
  refine (tknumber_any w2 b A1 D c1 L2.out HDA.out hdl).mono ?_
  rintro e wq ⟨rfl,rfl⟩
  rw [HZ.out]
  by_cases q1:x=125
  ·by_cases q2:a < 0
   ·have e1:(x != 125)=false:=by simpa using q1
    have e2:decide (a < 0)=true:=decide_eq_true q2
    have HB:Hid (shutT fr a z x k2=.error (fr,8)):=qh (by unfold shutT;rw [if_pos (by simp [badB,q2])])
    clear q1 q2
    go_wp2_with fail
    exact ⟨rfl,by rw [HB.out];exact ⟨rfl,G2.out⟩⟩
   ·by_cases q3:a < z
    ·by_cases q4:20 < z
     ·have e1:(x != 125)=false:=by simpa using q1
      have e2:decide (a < 0)=false:=decide_eq_false q2
      have e4:decide (20 < z)=true:=decide_eq_true q4
      have HB:Hid (shutT fr a z x k2=.error (fr,8)):=qh (by unfold shutT;rw [if_pos (by simp [badB];omega)])
      clear q1 q2 q4
      go_wp2_with fail
      exact ⟨rfl,by rw [HB.out];exact ⟨rfl,G2.out⟩⟩
     ·have e1:(x != 125)=false:=by simpa using q1
      have e2:decide (a < 0)=false:=decide_eq_false q2
      have e4:decide (20 < z)=false:=decide_eq_false q4
      have e5:decide (0≤z)=true:=decide_eq_true (by omega)
      have e6:decide (z < a)=false:=decide_eq_false (by omega)
      have HB:Hid (shutT fr a z x k2=.ok (⟨6,0,a,z,0⟩,k2)):=qh (by unfold shutT;rw [if_neg (by simp [badB,q1];omega)])
      clear q1 q2 q4
      go_wp2_with (first
       | (refine store_tok w2 _ _ w.heap.size noTok ⟨6,0,a,z,0⟩ rfl rfl rfl rfl rfl X2.out ?_;intro w9 x9 g9;have X9:=qh x9;have G9:=qh g9;clear x9 g9)
       | fail)
      (try simp only [Exit.inBlock,Exit.then])
      exact bodyPost_ret (v:=.agg (⟨6,0,a,z,0⟩:Tok).arr) (ret_tok rfl _ _ w.heap.size _ rfl X9.out) rfl (by rw [HB.out];exact ⟨rfl,H2.out.new G9.out hbw (HO.out _ (Nat.le_refl _)),grown_two G2.out G9.out (Nat.le_refl _)⟩)
    ·by_cases q4:20 < a
     ·have e1:(x != 125)=false:=by simpa using q1
      have e2:decide (a < 0)=false:=decide_eq_false q2
      have e4:decide (20 < a)=true:=decide_eq_true q4
      have HB:Hid (shutT fr a z x k2=.error (fr,8)):=qh (by unfold shutT;rw [if_pos (by simp [badB];omega)])
      clear q1 q2 q4
      go_wp2_with fail
      exact ⟨rfl,by rw [HB.out];exact ⟨rfl,G2.out⟩⟩
     ·by_cases q5:0≤z
      ·by_cases q6:z < a
       ·have e1:(x != 125)=false:=by simpa using q1
        have e2:decide (a < 0)=false:=decide_eq_false q2
        have e4:decide (20 < a)=false:=decide_eq_false q4
        have e5:decide (0≤z)=true:=decide_eq_true q5
        have e6:decide (z < a)=true:=decide_eq_true q6
        have HB:Hid (shutT fr a z x k2=.error (fr,8)):=qh (by unfold shutT;rw [if_pos (by simp [badB];omega)])
        clear q1 q2 q4 q5 q6
        go_wp2_with fail
        exact ⟨rfl,by rw [HB.out];exact ⟨rfl,G2.out⟩⟩
       ·have e1:(x != 125)=false:=by simpa using q1
        have e2:decide (a < 0)=false:=decide_eq_false q2
        have e4:decide (20 < a)=false:=decide_eq_false q4
        have e5:decide (0≤z)=true:=decide_eq_true q5
        have e6:decide (z < a)=false:=decide_eq_false q6
        have HB:Hid (shutT fr a z x k2=.ok (⟨6,0,a,z,0⟩,k2)):=qh (by unfold shutT;rw [if_neg (by simp [badB,q1];omega)])
        clear q1 q2 q4 q5 q6
        go_wp2_with (first
         | (refine store_tok w2 _ _ w.heap.size noTok ⟨6,0,a,z,0⟩ rfl rfl rfl rfl rfl X2.out ?_;intro w9 x9 g9;have X9:=qh x9;have G9:=qh g9;clear x9 g9)
         | fail)
        (try simp only [Exit.inBlock,Exit.then])
        exact bodyPost_ret (v:=.agg (⟨6,0,a,z,0⟩:Tok).arr) (ret_tok rfl _ _ w.heap.size _ rfl X9.out) rfl (by rw [HB.out];exact ⟨rfl,H2.out.new G9.out hbw (HO.out _ (Nat.le_refl _)),grown_two G2.out G9.out (Nat.le_refl _)⟩)
      ·have e1:(x != 125)=false:=by simpa using q1
       have e2:decide (a < 0)=false:=decide_eq_false q2
       have e4:decide (20 < a)=false:=decide_eq_false q4
       have e5:decide (0≤z)=false:=decide_eq_false q5
       have HB:Hid (shutT fr a z x k2=.ok (⟨6,0,a,z,0⟩,k2)):=qh (by unfold shutT;rw [if_neg (by simp [badB,q1];omega)])
       clear q1 q2 q4 q5
       go_wp2_with (first
        | (refine store_tok w2 _ _ w.heap.size noTok ⟨6,0,a,z,0⟩ rfl rfl rfl rfl rfl X2.out ?_;intro w9 x9 g9;have X9:=qh x9;have G9:=qh g9;clear x9 g9)
        | fail)
       (try simp only [Exit.inBlock,Exit.then])
       exact bodyPost_ret (v:=.agg (⟨6,0,a,z,0⟩:Tok).arr) (ret_tok rfl _ _ w.heap.size _ rfl X9.out) rfl (by rw [HB.out];exact ⟨rfl,H2.out.new G9.out hbw (HO.out _ (Nat.le_refl _)),grown_two G2.out G9.out (Nat.le_refl _)⟩)
  ·have e1:(x != 125)=true:=by simpa using q1
   have HB:Hid (shutT fr a z x k2=.error (fr,8)):=qh (by unfold shutT;rw [if_pos (by simp [badB,q1])])
   clear q1
   go_wp2_with fail
   exact ⟨rfl,by rw [HB.out];exact ⟨rfl,G2.out⟩⟩
theorem tkbra_two_end (w:World) (b c k:Nat) (A:Option Addr) (l:List Int) (tv:Value) (T:List Tok) (h:IsR w b A l c k tv T) (hl:l.length≤1000) (fr:Nat) (x:Int) (k2:Nat) (hn:nxT l (k+(digT l k).length)=.ok (x,k2)) (h44:x=44) (hD0:digT l k≠[]) (n:Nat) (y:Int) (hn2:nxT l (k2+(digT l k2).length)=.error (n,y)) :
 Calls Tryz.prog 105 #[.pointer (some ⟨b,0,none⟩),.int .i64 fr] w (Told w b A l c tv T (fun t:Tok=>.agg t.arr) (Except.error (n,y):Wr (Tok×Nat))):=by
 obtain ⟨w0,hw0⟩:∃ u,w.alloc (.cells #[.int .i64 0,.int .i64 0,.int .i64 0,.int .i64 0,.int .i64 0] 56)=u:=⟨_,rfl⟩
 have X0:Hid (Box w0 w.heap.size noTok.arr 56):=qh (hw0▸Box.new w _ _)
 have G0:Hid (w.grownBy w0 none):=qh (hw0▸grown_new w _ _)
 have H0:Hid (IsR w0 b A l c k tv T):=qh (h.grown G0.out)
 have hbw:=h.lt
 have HO:Hid (∀ g,w.heap.size≤g→tv.ownBlock≠some g):=qh fun g hg=>h.old hg
 have HW0:=qh hw0
 have HDG:=qh (tkdigits_any w0 b c k A l tv T H0.out hl)
 have HDA:=qh (digT_all l k)
 have hdl:(digT l k).length≤1000:=by have:=digT_length l k;omega
 clear h hw0
 have HN:=qh hn
 have HN2:=qh hn2
 have HMA:=qh (digT_all l k2)
 have hml:(digT l k2).length≤1000:=by have:=digT_length l k2;omega
 obtain ⟨D,hD⟩:∃ D,digT l k=D:=⟨_,rfl⟩
 rw [hD] at HDG HDA hdl HN hD0
 obtain ⟨M,hM⟩:∃ M,digT l k2=M:=⟨_,rfl⟩
 have HM:=qh hM
 rw [hM] at HMA hml HN2
 have hdp:0 < D.length:=List.length_pos_iff.2 hD0
 have dp:decide (0 < D.length)=true:=decide_eq_true hdp
 have dp':decide ((0:Int) < (D.length:Int))=true:=decide_eq_true (by omega)
 have d44:(x == 44)=true:=by simpa using h44
 clear hn hn2 hD hM hD0 h44
 go_enter Tryz.func105,Tryz.ntmps105
 go_wp2_with fail
 rw [HW0.out]
 refine HDG.out.mono ?_
 rintro e w1 ⟨A1,c1,rfl,l1,h1,g1⟩
 have G1:=qh ((grown_any G0.out (some b)).trans g1)
 have N1:=qh (tknext_any w1 b c _ A l tv T h1 hl)
 rw [HN.out] at N1
 clear l1 h1 g1
 go_wp2_with fail
 refine N1.out.mono ?_
 rintro e w2 ⟨rfl,h2,g2⟩
 have G2:=qh (G1.out.trans g2)
 have M2:=qh (tkdigits_any w2 b c _ A l tv T h2 hl)
 rw [HM.out] at M2
 clear h2 g2 N1
 go_wp2_with fail
 refine M2.out.mono ?_
 rintro e w3 ⟨A3,c3,rfl,l3,h3,g3⟩
 have G3:=qh (G2.out.trans g3)
 have N3:=qh (tknext_any w3 b c _ A l tv T h3 hl)
 rw [HN2.out] at N3
 clear l3 h3 g3 M2
 go_wp2_with fail
 refine N3.out.mono ?_
 rintro e w4 ⟨rfl,g4⟩
 have G4:=qh (G3.out.trans g4)
 clear g4 N3
 go_wp2_with fail
 exact ⟨rfl,rfl,G4.out⟩
theorem tkbra_two (w:World) (b c k:Nat) (A:Option Addr) (l:List Int) (tv:Value) (T:List Tok) (h:IsR w b A l c k tv T) (hl:l.length≤1000) (fr:Nat) (x:Int) (k2:Nat) (hn:nxT l (k+(digT l k).length)=.ok (x,k2)) (h44:x=44) (hD0:digT l k≠[]) (y:Int) (k3:Nat) (hn2:nxT l (k2+(digT l k2).length)=.ok (y,k3)) :
 Calls Tryz.prog 105 #[.pointer (some ⟨b,0,none⟩),.int .i64 fr] w (Told w b A l c tv T (fun t:Tok=>.agg t.arr) (shutT fr (numT (digT l k)) (numT (digT l k2)) y k3)):=by
 obtain ⟨w0,hw0⟩:∃ u,w.alloc (.cells #[.int .i64 0,.int .i64 0,.int .i64 0,.int .i64 0,.int .i64 0] 56)=u:=⟨_,rfl⟩
 have X0:Hid (Box w0 w.heap.size noTok.arr 56):=qh (hw0▸Box.new w _ _)
 have G0:Hid (w.grownBy w0 none):=qh (hw0▸grown_new w _ _)
 have H0:Hid (IsR w0 b A l c k tv T):=qh (h.grown G0.out)
 have hbw:=h.lt
 have HO:Hid (∀ g,w.heap.size≤g→tv.ownBlock≠some g):=qh fun g hg=>h.old hg
 have HW0:=qh hw0
 have HDG:=qh (tkdigits_any w0 b c k A l tv T H0.out hl)
 have HDA:=qh (digT_all l k)
 have hdl:(digT l k).length≤1000:=by have:=digT_length l k;omega
 clear h hw0
 have HN:=qh hn
 have HN2:=qh hn2
 have HMA:=qh (digT_all l k2)
 have hml:(digT l k2).length≤1000:=by have:=digT_length l k2;omega
 obtain ⟨D,hD⟩:∃ D,digT l k=D:=⟨_,rfl⟩
 rw [hD] at HDG HDA hdl HN hD0 ⊢
 obtain ⟨M,hM⟩:∃ M,digT l k2=M:=⟨_,rfl⟩
 have HM:=qh hM
 rw [hM] at HMA hml HN2 ⊢
 have hdp:0 < D.length:=List.length_pos_iff.2 hD0
 have dp:decide (0 < D.length)=true:=decide_eq_true hdp
 have dp':decide ((0:Int) < (D.length:Int))=true:=decide_eq_true (by omega)
 have d44:(x == 44)=true:=by simpa using h44
 clear hn hn2 hD hM hD0 h44
 obtain ⟨a,ha⟩:∃ a,numT D=a:=⟨_,rfl⟩
 have HA:=qh ha
 obtain ⟨z,hz⟩:∃ z,numT M=z:=⟨_,rfl⟩
 have HZ:=qh hz
 rw [ha,hz]
 clear ha hz
 go_enter Tryz.func105,Tryz.ntmps105
 go_wp2_with fail
 rw [HW0.out]
 refine HDG.out.mono ?_
 rintro e w1 ⟨A1,c1,rfl,l1,h1,g1⟩
 have G1:=qh ((grown_any G0.out (some b)).trans g1)
 have X1:=qh (X0.out.kept g1 (by simp;omega))
 have L1:=qh l1
 have N1:=qh (tknext_any w1 b c _ A l tv T h1 hl)
 rw [HN.out] at N1
 have b1:b≤w1.heap.size:=by have:=h1.lt;omega
 clear l1 h1 g1
 go_wp2_with fail
 refine N1.out.mono ?_
 rintro e w2 ⟨rfl,h2,g2⟩
 have G2:=qh (G1.out.trans g2)
 have X2:=qh (X1.out.kept g2 (by simp;omega))
 have L2:=qh (lies_row L1.out g2 b1)
 have M2:=qh (tkdigits_any w2 b c _ A l tv T h2 hl)
 rw [HM.out] at M2
 have b2:b≤w2.heap.size:=by have:=h2.lt;omega
 clear h2 g2 N1
 go_wp2_with fail
 refine M2.out.mono ?_
 rintro e w3 ⟨A3,c3,rfl,l3,h3,g3⟩
 have G3:=qh (G2.out.trans g3)
 have X3:=qh (X2.out.kept g3 (by simp;omega))
 have L3:=qh (lies_row L2.out g3 b2)
 have K3:=qh l3
 have N3:=qh (tknext_any w3 b c _ A l tv T h3 hl)
 rw [HN2.out] at N3
 have b3:b≤w3.heap.size:=by have:=h3.lt;omega
 clear l3 h3 g3 M2
 go_wp2_with fail
 refine N3.out.mono ?_
 rintro e w4 ⟨rfl,h4,g4⟩
 have G4:=qh (G3.out.trans g4)
 have X4:=qh (X3.out.kept g4 (by simp;omega))
 have L4:=qh (lies_row L3.out g4 b3)
 have K4:=qh (lies_row K3.out g4 b3)
 have H4:=qh h4
 clear h4 g4 N3
 go_wp2_with fail
 refine (tknumber_any w4 b A1 D c1 L4.out HDA.out hdl).mono ?_
 rintro e wq ⟨rfl,rfl⟩
 rw [HA.out]
 go_wp2_with fail
 refine (tknumber_any w4 b A3 M c3 K4.out HMA.out hml).mono ?_
 rintro e wq ⟨rfl,rfl⟩
 rw [HZ.out]
 by_cases q1:y=125
 ·by_cases q2:a < 0
  ·have e1:(y != 125)=false:=by simpa using q1
   have e2:decide (a < 0)=true:=decide_eq_true q2
   have HB:Hid (shutT fr a z y k3=.error (fr,8)):=qh (by unfold shutT;rw [if_pos (by simp [badB,q2])])
   clear q1 q2
   go_wp2_with fail
   exact ⟨rfl,by rw [HB.out];exact ⟨rfl,G4.out⟩⟩
  ·by_cases q3:a < z
   ·by_cases q4:20 < z
    ·have e1:(y != 125)=false:=by simpa using q1
     have e2:decide (a < 0)=false:=decide_eq_false q2
     have e4:decide (20 < z)=true:=decide_eq_true q4
     have HB:Hid (shutT fr a z y k3=.error (fr,8)):=qh (by unfold shutT;rw [if_pos (by simp [badB];omega)])
     clear q1 q2 q4
     go_wp2_with fail
     exact ⟨rfl,by rw [HB.out];exact ⟨rfl,G4.out⟩⟩
    ·have e1:(y != 125)=false:=by simpa using q1
     have e2:decide (a < 0)=false:=decide_eq_false q2
     have e4:decide (20 < z)=false:=decide_eq_false q4
     have e5:decide (0≤z)=true:=decide_eq_true (by omega)
     have e6:decide (z < a)=false:=decide_eq_false (by omega)
     have HB:Hid (shutT fr a z y k3=.ok (⟨6,0,a,z,0⟩,k3)):=qh (by unfold shutT;rw [if_neg (by simp [badB,q1];omega)])
     clear q1 q2 q4
     go_wp2_with (first
      | (refine store_tok w4 _ _ w.heap.size noTok ⟨6,0,a,z,0⟩ rfl rfl rfl rfl rfl X4.out ?_;intro w9 x9 g9;have X9:=qh x9;have G9:=qh g9;clear x9 g9)
      | fail)
     (try simp only [Exit.inBlock,Exit.then])
     exact bodyPost_ret (v:=.agg (⟨6,0,a,z,0⟩:Tok).arr) (ret_tok rfl _ _ w.heap.size _ rfl X9.out) rfl (by rw [HB.out];exact ⟨rfl,H4.out.new G9.out hbw (HO.out _ (Nat.le_refl _)),grown_two G4.out G9.out (Nat.le_refl _)⟩)
   ·by_cases q4:20 < a
    ·have e1:(y != 125)=false:=by simpa using q1
     have e2:decide (a < 0)=false:=decide_eq_false q2
     have e4:decide (20 < a)=true:=decide_eq_true q4
     have HB:Hid (shutT fr a z y k3=.error (fr,8)):=qh (by unfold shutT;rw [if_pos (by simp [badB];omega)])
     clear q1 q2 q4
     go_wp2_with fail
     exact ⟨rfl,by rw [HB.out];exact ⟨rfl,G4.out⟩⟩
    ·by_cases q5:0≤z
     ·by_cases q6:z < a
      ·have e1:(y != 125)=false:=by simpa using q1
       have e2:decide (a < 0)=false:=decide_eq_false q2
       have e4:decide (20 < a)=false:=decide_eq_false q4
       have e5:decide (0≤z)=true:=decide_eq_true q5
       have e6:decide (z < a)=true:=decide_eq_true q6
       have HB:Hid (shutT fr a z y k3=.error (fr,8)):=qh (by unfold shutT;rw [if_pos (by simp [badB];omega)])
       clear q1 q2 q4 q5 q6
       go_wp2_with fail
       exact ⟨rfl,by rw [HB.out];exact ⟨rfl,G4.out⟩⟩
      ·have e1:(y != 125)=false:=by simpa using q1
       have e2:decide (a < 0)=false:=decide_eq_false q2
       have e4:decide (20 < a)=false:=decide_eq_false q4
       have e5:decide (0≤z)=true:=decide_eq_true q5
       have e6:decide (z < a)=false:=decide_eq_false q6
       have HB:Hid (shutT fr a z y k3=.ok (⟨6,0,a,z,0⟩,k3)):=qh (by unfold shutT;rw [if_neg (by simp [badB,q1];omega)])
       clear q1 q2 q4 q5 q6
       go_wp2_with (first
        | (refine store_tok w4 _ _ w.heap.size noTok ⟨6,0,a,z,0⟩ rfl rfl rfl rfl rfl X4.out ?_;intro w9 x9 g9;have X9:=qh x9;have G9:=qh g9;clear x9 g9)
        | fail)
       (try simp only [Exit.inBlock,Exit.then])
       exact bodyPost_ret (v:=.agg (⟨6,0,a,z,0⟩:Tok).arr) (ret_tok rfl _ _ w.heap.size _ rfl X9.out) rfl (by rw [HB.out];exact ⟨rfl,H4.out.new G9.out hbw (HO.out _ (Nat.le_refl _)),grown_two G4.out G9.out (Nat.le_refl _)⟩)
     ·have e1:(y != 125)=false:=by simpa using q1
      have e2:decide (a < 0)=false:=decide_eq_false q2
      have e4:decide (20 < a)=false:=decide_eq_false q4
      have e5:decide (0≤z)=false:=decide_eq_false q5
      have HB:Hid (shutT fr a z y k3=.ok (⟨6,0,a,z,0⟩,k3)):=qh (by unfold shutT;rw [if_neg (by simp [badB,q1];omega)])
      clear q1 q2 q4 q5
      go_wp2_with (first
       | (refine store_tok w4 _ _ w.heap.size noTok ⟨6,0,a,z,0⟩ rfl rfl rfl rfl rfl X4.out ?_;intro w9 x9 g9;have X9:=qh x9;have G9:=qh g9;clear x9 g9)
       | fail)
      (try simp only [Exit.inBlock,Exit.then])
      exact bodyPost_ret (v:=.agg (⟨6,0,a,z,0⟩:Tok).arr) (ret_tok rfl _ _ w.heap.size _ rfl X9.out) rfl (by rw [HB.out];exact ⟨rfl,H4.out.new G9.out hbw (HO.out _ (Nat.le_refl _)),grown_two G4.out G9.out (Nat.le_refl _)⟩)
 ·have e1:(y != 125)=true:=by simpa using q1
  have HB:Hid (shutT fr a z y k3=.error (fr,8)):=qh (by unfold shutT;rw [if_pos (by simp [badB,q1])])
  clear q1
  go_wp2_with fail
  exact ⟨rfl,by rw [HB.out];exact ⟨rfl,G4.out⟩⟩
theorem tkbraces_any (w:World) (b c k:Nat) (A:Option Addr) (l:List Int) (tv:Value) (T:List Tok) (h:IsR w b A l c k tv T) (hl:l.length≤1000) (fr:Nat) :
 Calls Tryz.prog 105 #[.pointer (some ⟨b,0,none⟩),.int .i64 fr] w (Told w b A l c tv T (fun t:Tok=>.agg t.arr) (braT l fr k)):=by
 unfold braT
 rcases hn:nxT l (k+(digT l k).length) with ⟨n,y⟩ | ⟨x,k2⟩
 ·exact tkbra_end w b c k A l tv T h hl fr n y hn
 ·simp only
  by_cases hx:x=44∧digT l k≠[]
  ·rw [if_pos hx]
   rcases hn2:nxT l (k2+(digT l k2).length) with ⟨n,y⟩ | ⟨y,k3⟩
   ·exact tkbra_two_end w b c k A l tv T h hl fr x k2 hn hx.1 hx.2 n y hn2
   ·exact tkbra_two w b c k A l tv T h hl fr x k2 hn hx.1 hx.2 y k3 hn2
  ·rw [if_neg hx]
   exact tkbra_one w b c k A l tv T h hl fr x k2 hn hx
end
end Go.Proofs.YtoeocodfndbebaaGreatDoor
