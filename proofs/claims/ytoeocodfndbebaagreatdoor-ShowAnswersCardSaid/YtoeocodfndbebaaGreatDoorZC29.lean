/- Shared texts, shaken for one claim. -/
import Derived.Test.YtoeocodfndbebaaGreatDoorZC21
import Derived.Test.YtoeocodfndbebaaGreatDoorZC28
set_option maxRecDepth 20000
set_option maxHeartbeats 16000000
namespace Go.Proofs.YtoeocodfndbebaaGreatDoor
section
open Go.RowKit
theorem rsamesets_len (w:World) (A A':Option Addr) (n n':Nat) (c c':Nat) (h:n≠n') :
 Calls Tryz.prog 28 #[.slice A n c,.slice A' n' c'] w fun e w'=>e=.returned (.bool false)∧Below w.heap.size w w':=by
 have d0:((n:Int) != (n':Int))=true:=by simp;omega
 have d1:(n != n')=true:=by simpa using h
 clear h
 go_enter Tryz.func28,Tryz.ntmps28
 go_wp2_with fail
 go_ret
 exact ⟨rfl,Below.refl _ _⟩
theorem rsame_any (w:World) (B B':Nat) (A A':Option Addr) (R R':List (Int×Int)) (c c':Nat) (h:Lies w B A (prC R)) (h':Lies w B' A' (prC R')) (hl:R.length≤1000) :
 Calls Tryz.prog 28 #[.slice A R.length c,.slice A' R'.length c'] w fun e w'=>e=.returned (.bool (decide (R=R')))∧Below w.heap.size w w':=by
 by_cases he:R.length=R'.length
 ·exact rsamesets_any w B B' A A' R R' c c' h h' (by omega) (by omega)
 ·rw [decide_eq_false (fun e=>he (by rw [e]))]
  exact rsamesets_len w A A' _ _ c c' he
theorem node_bad (w:World) (k lo hi:Int) (A A':Option Addr) (n c m c':Nat) (h:(k≠2∧0 < n)∨(k≠5∧(lo≠0∨hi≠0))) :
 Calls Tryz.prog 43 #[.agg #[.int .i64 k,.slice A n c,.int .i64 lo,.int .i64 hi,.slice A' m c']] w fun e w'=>e=.returned (.bool false)∧w.grownBy w' none:=by
 have h:((k != 2)=true∧decide (0 < n)=true∧decide ((n:Int) > 0)=true)∨(((k != 2)=false∨((k != 2)=true∧decide (0 < n)=false∧decide ((n:Int) > 0)=false))∧(k != 5)=true∧((lo != 0)=true∨((lo != 0)=false∧(hi != 0)=true))):=by
  by_cases h1:k≠2∧0 < n
  ·exact .inl ⟨by simpa using h1.1,decide_eq_true h1.2,decide_eq_true (by omega)⟩
  ·obtain ⟨h5,h0⟩:=h.resolve_left h1
   refine .inr ⟨?_,by simpa using h5,?_⟩
   ·by_cases h2:k=2
    ·exact .inl (by simpa using h2)
    ·exact .inr ⟨by simpa using h2,decide_eq_false (by omega),decide_eq_false (by omega)⟩
   ·by_cases hl:lo=0
    ·exact .inr ⟨by simpa using hl,by simpa using h0.resolve_left (fun x=>x hl)⟩
    ·exact .inl (by simpa using hl)
 rcases h with ⟨e2,e0,e1⟩ | ⟨e2 | ⟨e2,e0,e1⟩,e5,el | ⟨el,eh⟩⟩
 all_goals
  go_enter Tryz.func43,Tryz.ntmps43
  go_wp2_with fail
  go_ret
  exact ⟨rfl,grown_new w _ none⟩
theorem node_leaf1 (w:World) (k lo hi:Int) (A A':Option Addr) (n c m c':Nat) (hk:k=1) (h0:n=0) (h1:lo=0) (h2:hi=0) :
 Calls Tryz.prog 43 #[.agg #[.int .i64 k,.slice A n c,.int .i64 lo,.int .i64 hi,.slice A' m c']] w fun e w'=>e=.returned (.bool (m == 0))∧w.grownBy w' none:=by
 subst hk h0 h1 h2
 have em:((m:Int) == 0)=(m == 0):=by rw [Bool.eq_iff_iff];simp
 obtain ⟨b,hb⟩:∃ b,(m == 0)=b:=⟨_,rfl⟩
 rw [hb] at em ⊢
 clear hb
 go_enter Tryz.func43,Tryz.ntmps43
 go_wp2_with fail
 go_ret
 exact ⟨rfl,grown_new w _ none⟩
theorem node_leaf6 (w:World) (k lo hi:Int) (A A':Option Addr) (n c m c':Nat) (hk:k=6) (h0:n=0) (h1:lo=0) (h2:hi=0) :
 Calls Tryz.prog 43 #[.agg #[.int .i64 k,.slice A n c,.int .i64 lo,.int .i64 hi,.slice A' m c']] w fun e w'=>e=.returned (.bool (m == 0))∧w.grownBy w' none:=by
 subst hk h0 h1 h2
 have em:((m:Int) == 0)=(m == 0):=by rw [Bool.eq_iff_iff];simp
 obtain ⟨b,hb⟩:∃ b,(m == 0)=b:=⟨_,rfl⟩
 rw [hb] at em ⊢
 clear hb
 go_enter Tryz.func43,Tryz.ntmps43
 go_wp2_with fail
 go_ret
 exact ⟨rfl,grown_new w _ none⟩
theorem node_leaf7 (w:World) (k lo hi:Int) (A A':Option Addr) (n c m c':Nat) (hk:k=7) (h0:n=0) (h1:lo=0) (h2:hi=0) :
 Calls Tryz.prog 43 #[.agg #[.int .i64 k,.slice A n c,.int .i64 lo,.int .i64 hi,.slice A' m c']] w fun e w'=>e=.returned (.bool (m == 0))∧w.grownBy w' none:=by
 subst hk h0 h1 h2
 have em:((m:Int) == 0)=(m == 0):=by rw [Bool.eq_iff_iff];simp
 obtain ⟨b,hb⟩:∃ b,(m == 0)=b:=⟨_,rfl⟩
 rw [hb] at em ⊢
 clear hb
 go_enter Tryz.func43,Tryz.ntmps43
 go_wp2_with fail
 go_ret
 exact ⟨rfl,grown_new w _ none⟩
theorem node_many3 (w:World) (k lo hi:Int) (A A':Option Addr) (n c m c':Nat) (hk:k=3) (h0:n=0) (h1:lo=0) (h2:hi=0) :
 Calls Tryz.prog 43 #[.agg #[.int .i64 k,.slice A n c,.int .i64 lo,.int .i64 hi,.slice A' m c']] w fun e w'=>e=.returned (.bool (decide (2≤m)))∧w.grownBy w' none:=by
 subst hk h0 h1 h2
 have em:decide ((2:Int)≤(m:Int))=decide (2≤m):=by rw [Bool.eq_iff_iff];simp;omega
 have em2:decide ((m:Int) ≥ 2)=decide (2≤m):=em
 obtain ⟨b,hb⟩:∃ b,decide (2≤m)=b:=⟨_,rfl⟩
 rw [hb] at em em2 ⊢
 clear hb
 go_enter Tryz.func43,Tryz.ntmps43
 go_wp2_with fail
 go_ret
 exact ⟨rfl,grown_new w _ none⟩
theorem node_many4 (w:World) (k lo hi:Int) (A A':Option Addr) (n c m c':Nat) (hk:k=4) (h0:n=0) (h1:lo=0) (h2:hi=0) :
 Calls Tryz.prog 43 #[.agg #[.int .i64 k,.slice A n c,.int .i64 lo,.int .i64 hi,.slice A' m c']] w fun e w'=>e=.returned (.bool (decide (2≤m)))∧w.grownBy w' none:=by
 subst hk h0 h1 h2
 have em:decide ((2:Int)≤(m:Int))=decide (2≤m):=by rw [Bool.eq_iff_iff];simp;omega
 have em2:decide ((m:Int) ≥ 2)=decide (2≤m):=em
 obtain ⟨b,hb⟩:∃ b,decide (2≤m)=b:=⟨_,rfl⟩
 rw [hb] at em em2 ⊢
 clear hb
 go_enter Tryz.func43,Tryz.ntmps43
 go_wp2_with fail
 go_ret
 exact ⟨rfl,grown_new w _ none⟩
theorem node_none (w:World) (k lo hi:Int) (A A':Option Addr) (n c m c':Nat) (hk:¬ (k=1∨k=2∨k=3∨k=4∨k=5∨k=6∨k=7)) (h0:n=0) (h1:lo=0) (h2:hi=0) :
 Calls Tryz.prog 43 #[.agg #[.int .i64 k,.slice A n c,.int .i64 lo,.int .i64 hi,.slice A' m c']] w fun e w'=>e=.returned (.bool false)∧w.grownBy w' none:=by
 subst h0 h1 h2
 have f1:(k == 1)=false:=by simp;omega
 have f6:(k == 6)=false:=by simp;omega
 have f7:(k == 7)=false:=by simp;omega
 have f2:(k == 2)=false:=by simp;omega
 have f3:(k == 3)=false:=by simp;omega
 have f4:(k == 4)=false:=by simp;omega
 have f5:(k == 5)=false:=by simp;omega
 have g2:(k != 2)=true:=by simp;omega
 have g5:(k != 5)=true:=by simp;omega
 clear hk
 go_enter Tryz.func43,Tryz.ntmps43
 go_wp2_with fail
 go_ret
 exact ⟨rfl,grown_new w _ none⟩
theorem node_rep (w:World) (k lo hi:Int) (A A':Option Addr) (n c m c':Nat) (hk:k=5) (h0:n=0) :
 Calls Tryz.prog 43 #[.agg #[.int .i64 k,.slice A n c,.int .i64 lo,.int .i64 hi,.slice A' m c']] w fun e w'=>e=.returned (.bool ((m == 1) && (decide (0≤lo) && (decide (lo≤20) && (hi == -1 || (decide (lo≤hi) && decide (hi≤20)))))))∧w.grownBy w' none:=by
 subst hk h0
 have em:((m:Int) == 1)=(m == 1):=by rw [Bool.eq_iff_iff];simp;omega
 obtain ⟨b1,h1⟩:∃ b,(m == 1)=b:=⟨_,rfl⟩
 obtain ⟨b2,h2⟩:∃ b,decide (0≤lo)=b:=⟨_,rfl⟩
 obtain ⟨b3,h3⟩:∃ b,decide (lo≤20)=b:=⟨_,rfl⟩
 obtain ⟨b4,h4⟩:∃ b,(hi == -1)=b:=⟨_,rfl⟩
 obtain ⟨b5,h5⟩:∃ b,decide (lo≤hi)=b:=⟨_,rfl⟩
 obtain ⟨b6,h6⟩:∃ b,decide (hi≤20)=b:=⟨_,rfl⟩
 rw [h1] at em
 rw [h1,h2,h3,h4,h5,h6]
 have h2':decide (lo ≥ 0)=b2:=h2
 have h5':decide (hi ≥ lo)=b5:=h5
 clear h1
 rcases b1 with _ | _
 rotate_left
 rcases b2 with _ | _
 rotate_left
 rcases b3 with _ | _
 rotate_left
 rcases b4 with _ | _
 rcases b5 with _ | _
 rotate_left
 all_goals
  go_enter Tryz.func43,Tryz.ntmps43
  go_wp2_with fail
  go_ret
  exact ⟨rfl,grown_new w _ none⟩
theorem node_set (w:World) (A A':Option Addr) (rs:List (Int×Int)) (c m c':Nat) (h:Lies w w.heap.size A (prC rs)) :
 Calls Tryz.prog 43 #[.agg #[.int .i64 2,.slice A rs.length c,.int .i64 0,.int .i64 0,.slice A' m c']] w fun e w'=>e=.returned (.bool ((m == 0) && decide (setR rs=rs)))∧w.grownBy w' none:=by
 have em:((m:Int) == 0)=(m == 0):=by rw [Bool.eq_iff_iff];simp
 obtain ⟨w0,hw0⟩:∃ u,w.alloc (.cells #[.int .i64 2,.slice A rs.length c,.int .i64 0,.int .i64 0,.slice A' m c'] 25)=u:=⟨_,rfl⟩
 have G0:Hid (w.grownBy w0 none):=qh (hw0▸grown_new w _ none)
 have X0:Hid (Box w0 w.heap.size #[.int .i64 2,.slice A rs.length c,.int .i64 0,.int .i64 0,.slice A' m c'] 25):=qh (hw0▸Box.new w _ _)
 have HW0:=qh hw0
 obtain ⟨b,hb⟩:∃ b,(m == 0)=b:=⟨_,rfl⟩
 rw [hb] at em ⊢
 obtain ⟨S,hS⟩:∃ S,setR rs=S:=⟨_,rfl⟩
 have HL:=qh h
 have HST:Hid (∀ u,w.grownBy u none→Calls Tryz.prog 63 #[.slice A rs.length c] u (RowedRg u S)):=qh fun u hu=>hS▸rset16_any u A rs c (h.up (below_row_none hu (Nat.le_refl _)))
 have HSL:Hid (S.length≤1000):=qh (by rw [← hS];have:=(setR_le rs).1;omega)
 rw [hS]
 have S0:Hid (∀ u,w0.grownBy u none→u.cell? ⟨w.heap.size,1,none⟩=some (.slice A rs.length c)∧u.cell? ⟨w.heap.size,4,none⟩=some (.slice A' m c')):=qh fun u hu=>⟨(X0.out.kept hu (by simp)).cell rfl,(X0.out.kept hu (by simp)).cell rfl⟩
 have HSM:Hid (∀ (u:World) (A2:Option Addr) (c2:Nat),w.grownBy u none→Lies u u.heap.size A2 (prC S)→Calls Tryz.prog 28 #[.slice A2 S.length c2,.slice A rs.length c] u fun e w'=>e=.returned (.bool (decide (S=rs)))∧Below u.heap.size u w'):=qh fun u A2 c2 hu h2=>rsame_any u _ _ A2 A S rs c2 c h2 (HL.out.up (below_row_none hu (Nat.le_refl _))) HSL.out
 obtain ⟨n,hn⟩:∃ n,rs.length=n:=⟨_,rfl⟩
 obtain ⟨r,hr⟩:∃ r,decide (S=rs)=r:=⟨_,rfl⟩
 rw [hn] at HST HSM S0 X0
 rw [hr] at HSM ⊢
 rw [hn] at HW0
 rw [hn]
 clear h hb hS hw0 hn hr
 have a0:(w.alloc (.cells #[.int .i64 2,.slice A n c,.int .i64 0,.int .i64 0,.slice A' m c'] 25)).cell? ⟨w.heap.size,4,none⟩=some (.slice A' m c'):=(Box.new w _ _).cell rfl
 rcases b with _ | _
 ·go_enter Tryz.func43,Tryz.ntmps43
  go_wp2_with fail
  rw [HW0.out]
  clear a0
  refine wp_region_held_drew (S:=fun z=>z.cell? ⟨w.heap.size,1,none⟩=some (.slice A n c)∧z.cell? ⟨w.heap.size,4,none⟩=some (.slice A' m c')) (by kernel_rfl) (S0.out _ (grown_draw (grown_refl _ _))) (fun hHeld=>?_)
  refine' hY 0 ?_
  try simp only [Act.put,ZA,ZB,ZD,ZE,ZF]
  refine' hY 1 ?_
  try simp only [Act.put,ZA,ZB,ZC,ZD,ZE,ZF]
  refine' hY 2 ?_
  try simp only [Act.put,ZA,ZB,ZC,ZD,ZE,ZF]
  refine' hY 3 ?_
  try simp only [Act.put,ZA,ZB,ZC,ZD,ZE,ZF]
  refine' hY 4 ?_
  try simp only [Act.put,ZA,ZB,ZC,ZD,ZE,ZF]
  refine' hN 5 ?_
  try simp only [Act.put,ZA,ZB,ZC,ZD,ZE,ZF]
  refine' hN 6 ?_
  try simp only [Act.put,ZA,ZB,ZC,ZD,ZE,ZF]
  refine' hN 7 ?_
  try simp only [Act.put,ZA,ZB,ZC,ZD,ZE,ZF]
  refine' hN 8 ?_
  try simp only [Act.put,ZA,ZB,ZC,ZD,ZE,ZF]
  refine' hN 9 ?_
  try simp only [Act.put,ZA,ZB,ZC,ZD,ZE,ZF]
  refine' hN 10 ?_
  try simp only [Act.put,ZA,ZB,ZC,ZD,ZE,ZF]
  refine' hY 11 ?_
  try simp only [Act.put,ZA,ZB,ZC,ZD,ZE,ZF]
  refine' hY 12 ?_
  try simp only [Act.put,ZA,ZB,ZC,ZD,ZE,ZF]
  refine wpAnyH_done (by kernel_rfl) ?_ _
  go_wp2_with fail
  go_ret
  exact ⟨rfl,by exact grown_draw G0.out⟩
 ·go_enter Tryz.func43,Tryz.ntmps43
  go_wp2_with fail
  rw [HW0.out]
  clear a0
  refine wp_region_held_drew (S:=fun z=>z.cell? ⟨w.heap.size,1,none⟩=some (.slice A n c)∧z.cell? ⟨w.heap.size,4,none⟩=some (.slice A' m c')) (by kernel_rfl) (S0.out _ (grown_draw (grown_refl _ _))) (fun hHeld=>?_)
  refine' hY 0 ?_
  try simp only [Act.put,ZA,ZB,ZD,ZE,ZF]
  refine' hY 1 ?_
  try simp only [Act.put,ZA,ZB,ZC,ZD,ZE,ZF]
  refine' hY 2 ?_
  try simp only [Act.put,ZA,ZB,ZC,ZD,ZE,ZF]
  refine' hY 3 ?_
  try simp only [Act.put,ZA,ZB,ZC,ZD,ZE,ZF]
  refine' hY 4 ?_
  try simp only [Act.put,ZA,ZB,ZC,ZD,ZE,ZF]
  refine' hY 5 ?_
  try simp only [Act.put,ZA,ZB,ZC,ZD,ZE,ZF]
  refine' hY 6 ?_
  try simp only [Act.put,ZA,ZB,ZC,ZD,ZE,ZF]
  refine' hY 8 ?_
  try simp only [Act.put,ZA,ZB,ZC,ZD,ZE,ZF]
  refine' hY 9 ?_
  try simp only [Act.put,ZA,ZB,ZC,ZD,ZE,ZF]
  refine hA 7 fun K hK=>?_
  go_simp
  refine (HST.out _ (by exact grown_draw G0.out)).mono ?_
  rintro e w1 ⟨v1,rfl,o1,b1⟩
  obtain ⟨A1,c1,rfl,l1,-,-⟩:=o1.form
  have G1:Hid (w0.grownBy w1 none):=qh (World.grownBy.trans (by exact grown_draw (grown_refl w0 none)) (grown_of_below b1 none))
  have L1:=qh l1
  clear o1 b1 l1
  go_wp2_with fail
  refine hK.out _ _ (S0.out _ G1.out) (fun hHeld=>?_)
  clear hK K
  try simp only [Act.put,ZA,ZB,ZC,ZD,ZE,ZF]
  refine hA 10 fun K hK=>?_
  go_simp
  refine (HSM.out w1 A1 c1 (G0.out.trans G1.out) L1.out).mono ?_
  rintro e w2 ⟨rfl,b2⟩
  have G2:Hid (w0.grownBy w2 none):=qh (G1.out.trans (grown_of_below b2 none))
  clear b2
  go_wp2_with fail
  refine hK.out _ _ (S0.out _ G2.out) (fun hHeld=>?_)
  clear hK K
  try simp only [Act.put,ZA,ZB,ZC,ZD,ZE,ZF]
  refine' hY 11 ?_
  try simp only [Act.put,ZA,ZB,ZC,ZD,ZE,ZF]
  refine' hY 12 ?_
  try simp only [Act.put,ZA,ZB,ZC,ZD,ZE,ZF]
  refine wpAnyH_done (by kernel_rfl) ?_ _
  go_wp2_with fail
  go_ret
  exact ⟨rfl,G0.out.trans G2.out⟩
theorem node_any (w:World) (k lo hi:Int) (A A':Option Addr) (rs:List (Int×Int)) (ks:List Nd) (c c':Nat) (h:Lies w w.heap.size A (prC rs)) :
 Calls Tryz.prog 43 #[.agg #[.int .i64 k,.slice A rs.length c,.int .i64 lo,.int .i64 hi,.slice A' ks.length c']] w fun e w'=>e=.returned (.bool (nodeI (.mk k lo hi rs ks)))∧w.grownBy w' none:=by
 by_cases hb:(k≠2∧0 < rs.length)∨(k≠5∧(lo≠0∨hi≠0))
 ·have hz:nodeI (.mk k lo hi rs ks)=false:=by
   unfold nodeI
   rcases hb with ⟨h1,h2⟩ | ⟨h1,h2⟩
   ·simp [h1,h2]
   ·have:(lo != 0 || hi != 0)=true:=by simpa using h2
    simp [h1,this]
  rw [hz]
  exact node_bad w k lo hi A A' _ c _ c' hb
 ·have hb1:k≠2→rs.length=0:=fun h1=>by
   have:¬ 0 < rs.length:=fun h2=>hb (.inl ⟨h1,h2⟩)
   omega
  have hb2:k≠5→lo=0∧hi=0:=fun h1=>by
   refine ⟨?_,?_⟩
   ·exact Classical.byContradiction fun h2=>hb (.inr ⟨h1,.inl h2⟩)
   ·exact Classical.byContradiction fun h2=>hb (.inr ⟨h1,.inr h2⟩)
  clear hb
  by_cases h2:k=2
  ·subst h2
   obtain ⟨rfl,rfl⟩:=hb2 (by decide)
   have hz:nodeI (.mk 2 0 0 rs ks)=((ks.length == 0) && decide (setR rs=rs)):=by unfold nodeI;simp
   rw [hz]
   exact node_set w A A' rs c _ c' h
  have h0:=hb1 h2
  have hrs:rs=[]:=List.eq_nil_of_length_eq_zero h0
  by_cases h5:k=5
  ·have hz:nodeI (.mk k lo hi rs ks)=((ks.length == 1) && (decide (0≤lo) && (decide (lo≤20) && (hi == -1 || (decide (lo≤hi) && decide (hi≤20)))))):=by
    subst h5 hrs
    unfold nodeI
    simp [Bool.and_assoc]
   rw [hz]
   exact node_rep w k lo hi A A' _ c _ c' h5 h0
  obtain ⟨hlo,hhi⟩:=hb2 h5
  subst hrs hlo hhi
  by_cases h1':k=1
  ·subst h1'
   rw [show nodeI (.mk 1 0 0 [] ks)=(ks.length == 0) by unfold nodeI;simp]
   exact node_leaf1 w 1 0 0 A A' _ c _ c' rfl rfl rfl rfl
  by_cases h6':k=6
  ·subst h6'
   rw [show nodeI (.mk 6 0 0 [] ks)=(ks.length == 0) by unfold nodeI;simp]
   exact node_leaf6 w 6 0 0 A A' _ c _ c' rfl rfl rfl rfl
  by_cases h7':k=7
  ·subst h7'
   rw [show nodeI (.mk 7 0 0 [] ks)=(ks.length == 0) by unfold nodeI;simp]
   exact node_leaf7 w 7 0 0 A A' _ c _ c' rfl rfl rfl rfl
  by_cases h3':k=3
  ·subst h3'
   rw [show nodeI (.mk 3 0 0 [] ks)=(decide (2≤ks.length)) by unfold nodeI;simp]
   exact node_many3 w 3 0 0 A A' _ c _ c' rfl rfl rfl rfl
  by_cases h4':k=4
  ·subst h4'
   rw [show nodeI (.mk 4 0 0 [] ks)=(decide (2≤ks.length)) by unfold nodeI;simp]
   exact node_many4 w 4 0 0 A A' _ c _ c' rfl rfl rfl rfl
  rw [show nodeI (.mk k 0 0 [] ks)=false by unfold nodeI;simp [h1',h2,h3',h4',h5,h6',h7']]
  exact node_none w k 0 0 A A' _ c _ c' (by omega) rfl rfl rfl
theorem rall_any {w:World} {P:Nat→Prop} {n:Nd} {v:Array Value} (h:Treed w P n v):∀ (u:World),(∀ b,P b→b < w.heap.size→u.heap[b]?=w.heap[b]?)→w.heap.size≤u.heap.size →
 Calls Tryz.prog 23 #[.agg v] u fun e u'=>e=.returned (.bool (allN n))∧u.grownBy u' none:=by
 induction h with
 | @mk k lo hi rs ks A A' c c' vs h1 hc h0 h2 hc' hk ih =>
  intro u hu hs
  have HU:=qh hu
  have HIH:=qh ih
  have H2:=qh h2
  have H5:Hid (∀ v∈vs,v.size=5):=qh fun v hv=>by
   obtain ⟨i,hi,rfl⟩:=List.getElem_of_mem hv
   exact (hk i hi (by omega)).size
  have HFO:=qh (fun (i:Nat) (hi:i < vs.length)=>(hk i hi (by omega)).form)
  have HN0:=qh h0
  have HS:=qh hs
  have hkl:ks.length≤9223372036854775807:=by have h1:=hc'.1;have h2:=hc'.2;unfold maxLen at h2;omega
  have G0:Hid (u.grownBy (u.alloc (.cells #[.int .i64 k,.slice A rs.length c,.int .i64 lo,.int .i64 hi,.slice A' ks.length c'] 25)) none):=qh (grown_new u _ none)
  have X0:Hid (Box (u.alloc (.cells #[.int .i64 k,.slice A rs.length c,.int .i64 lo,.int .i64 hi,.slice A' ks.length c'] 25)) u.heap.size #[.int .i64 k,.slice A rs.length c,.int .i64 lo,.int .i64 hi,.slice A' ks.length c'] 25):=qh (Box.new u _ _)
  have HND:=qh (node_any (u.alloc (.cells #[.int .i64 k,.slice A rs.length c,.int .i64 lo,.int .i64 hi,.slice A' ks.length c'] 25)) k lo hi A A' rs ks c c' ((h1.keep (fun b hb hl=>(G0.out.block b (by omega) (by simp)).trans (hu b hb hl)) (Nat.le_trans hs G0.out.size)).lies))
  obtain ⟨Z,hZ⟩:∃ z,allN (.mk k lo hi rs ks)=z:=⟨_,rfl⟩
  rw [hZ]
  rw [allN] at hZ
  obtain ⟨nb,hnb⟩:∃ z,nodeI (.mk k lo hi rs ks)=z:=⟨_,rfl⟩
  rw [hnb] at hZ HND
  have HZZ:=qh hZ
  obtain ⟨n0,hn0⟩:∃ y,rs.length=y:=⟨_,rfl⟩
  rw [hn0] at X0 G0 HND ⊢
  clear h1 h2 hc hc' hk ih hu hs hZ hn0 hnb
  rcases nb with _ | _
  ·have hz:false=Z:=HZZ.out
   subst hz
   go_enter Tryz.func23,Tryz.ntmps23
   go_wp2_with fail
   refine HND.out.mono ?_
   rintro e w1 ⟨rfl,g1⟩
   have G1:=qh (G0.out.trans g1)
   clear g1
   go_wp2_with fail
   go_ret
   exact ⟨rfl,G1.out⟩
  ·have HZ0:Hid (allL (ks.drop 0)=Z):=qh (by have h:=HZZ.out;rw [Bool.true_and] at h;exact h)
   clear HZZ
   go_enter Tryz.func23,Tryz.ntmps23
   go_wp2_with fail
   refine HND.out.mono ?_
   rintro e w1 ⟨rfl,g1⟩
   have G1:=qh (G0.out.trans g1)
   have X1:=qh (X0.out.kept g1 (by simp))
   clear g1
   go_wp2_with fail
   go_loopw [3] (fun iv wr=>∃ (i:Nat),i≤ks.length∧iv=.int .i64 i∧Hid (allL (ks.drop i)=Z)∧Hid (u.grownBy wr none)∧Hid (Box wr u.heap.size #[.int .i64 k,.slice A n0 c,.int .i64 lo,.int .i64 hi,.slice A' ks.length c'] 25)) (fun iv _=>ks.length - (intOf iv).toNat)
   case atStart=>exact ⟨0,by omega,rfl,HZ0,G1,X1⟩
   case round =>
    obtain ⟨i,hi',rfl,HC,HG,HX⟩:=hrel
    have e4:wr.cell? ⟨u.heap.size,4,none⟩=some (.slice A' ks.length c'):=HX.out.cell rfl
    by_cases hlt:i < ks.length
    ·have hlv:i < vs.length:=by have:=HN0.out;omega
     have hagree:∀ b,P b→b < w.heap.size→wr.heap[b]?=w.heap[b]?:=fun b hb hl=>(HG.out.block b (by have:=HS.out;omega) (by simp)).trans (HU.out b hb hl)
     obtain ⟨g,off,rfl,hg,hcell⟩:=kid_at H2.out H5.out hagree hlv
     obtain ⟨k1,Ar,nr,cr,lo1,hi1,Ak,nk,ck,hv⟩:=HFO.out i hlv
     have q0:wr.cell? ⟨g,off+i * 5,none⟩=vs[i][0]?:=hcell 0 (by decide)
     have q1:=hcell 1 (by decide)
     have q2:=hcell 2 (by decide)
     have q3:=hcell 3 (by decide)
     have q4:=hcell 4 (by decide)
     rw [hv] at q0 q1 q2 q3 q4
     have hrec:=HIH.out i hlv hlt wr hagree (Nat.le_trans HS.out HG.out.size)
     rw [hv] at hrec
     obtain ⟨y,hy⟩:∃ y,allN ks[i]=y:=⟨_,rfl⟩
     have HCN:Hid ((y && allL (ks.drop (i+1)))=Z):=qh (by
      have h:=HC.out
      rw [List.drop_eq_getElem_cons hlt,allL,hy] at h
      exact h)
     rw [hy] at hrec
     have HRC:=qh hrec
     have b0:(0:Int)≤(i:Int):=by omega
     have b1:(i:Int) < (ks.length:Int):=by omega
     clear hcell hv hrec hagree hy
     simp only [List.getElem?_toArray,List.getElem?_cons_zero,List.getElem?_cons_succ] at q0 q1 q2 q3 q4
     rcases y with _ | _
     ·have hz:false=Z:=HCN.out
      subst hz
      go_wp2_with fail
      refine HRC.out.mono ?_
      rintro e w2 ⟨rfl,g2⟩
      have HG2:=qh (HG.out.trans g2)
      clear g2
      go_wp2_with fail
      go_ret
      exact ⟨rfl,HG2.out⟩
     ·have HCM:Hid (allL (ks.drop (i+1))=Z):=qh (by have h:=HCN.out;rw [Bool.true_and] at h;exact h)
      go_wp2_with fail
      refine HRC.out.mono ?_
      rintro e w2 ⟨rfl,g2⟩
      have HG2:=qh (HG.out.trans g2)
      have HX2:=qh (HX.out.kept g2 (by simp))
      clear g2
      go_wp2_with fail
      go_roundw
      case rel=>exact ⟨i+1,by omega,by go_num,HCM,HG2,HX2⟩
      case measure=>simp [intOf];omega
    ·obtain rfl:i=ks.length:=by omega
     have hz:true=Z:=by have h:=HC.out;rw [List.drop_length,allL] at h;exact h
     subst hz
     go_wp2_with fail
     go_ret
     exact ⟨rfl,HG.out⟩
theorem rright_any {w:World} {P:Nat→Prop} {n:Nd} {v:Array Value} (h:Treed w P n v) (u:World) (hu:∀ b,P b→b < w.heap.size→u.heap[b]?=w.heap[b]?) (hs:w.heap.size≤u.heap.size) :
 Calls Tryz.prog 15 #[.agg v] u fun e u'=>e=.returned (.bool (rightC n))∧u.grownBy u' none:=by
 have HU:=qh (fun z (hz:u.grownBy z none)=>And.intro (fun b (hb:P b) (hl:b < w.heap.size)=>(hz.block b (Nat.lt_of_lt_of_le hl hs) (by simp)).trans (hu b hb hl)) (Nat.le_trans hs hz.size))
 have HT:=qh h
 obtain ⟨k,A,m,c,lo,hi,A',m',c',hv⟩:=h.form
 subst hv
 have G0:Hid (u.grownBy (u.alloc (.cells #[.int .i64 k,.slice A m c,.int .i64 lo,.int .i64 hi,.slice A' m' c'] 25)) none):=qh (grown_new u _ none)
 have X0:Hid (Box (u.alloc (.cells #[.int .i64 k,.slice A m c,.int .i64 lo,.int .i64 hi,.slice A' m' c'] 25)) u.heap.size #[.int .i64 k,.slice A m c,.int .i64 lo,.int .i64 hi,.slice A' m' c'] 25):=qh (Box.new u _ _)
 have HC:=rcount_any h _ (HU.out _ G0.out).1 (HU.out _ G0.out).2
 have HA:=fun z (hz:u.grownBy z none)=>rall_any h z (HU.out z hz).1 (HU.out z hz).2
 obtain ⟨Z,hZ⟩:∃ z,rightC n=z:=⟨_,rfl⟩
 rw [hZ]
 unfold rightC at hZ
 obtain ⟨y,hy⟩:∃ y,cI n=y:=⟨_,rfl⟩
 obtain ⟨y1,y2,y3⟩:=y
 obtain ⟨ab,hab⟩:∃ z,allN n=z:=⟨_,rfl⟩
 rw [hy,hab] at hZ
 rw [hy] at HC
 rw [hab] at HA
 obtain ⟨b1,hb1⟩:∃ z,decide (y1≤400)=z:=⟨_,rfl⟩
 obtain ⟨b2,hb2⟩:∃ z,decide (y2≤400)=z:=⟨_,rfl⟩
 obtain ⟨b3,hb3⟩:∃ z,decide (y3≤100)=z:=⟨_,rfl⟩
 simp only at hZ
 rw [hb1,hb2,hb3] at hZ
 have HZZ:=qh hZ
 have HCC:=qh HC
 have HAA:=qh HA
 clear hu hs h HC HA hZ hy hab
 go_enter Tryz.func15,Tryz.ntmps15
 go_wp2_with fail
 refine HCC.out.mono ?_
 rintro e w1 ⟨rfl,g1⟩
 have G1:=qh (G0.out.trans g1)
 have X1:=qh (X0.out.kept g1 (by simp))
 clear g1
 have e0:w1.cell? ⟨u.heap.size,0,none⟩=some (.int .i64 k):=X1.out.cell rfl
 have e1:w1.cell? ⟨u.heap.size,1,none⟩=some (.slice A m c):=X1.out.cell rfl
 have e2:w1.cell? ⟨u.heap.size,2,none⟩=some (.int .i64 lo):=X1.out.cell rfl
 have e3:w1.cell? ⟨u.heap.size,3,none⟩=some (.int .i64 hi):=X1.out.cell rfl
 have e4:w1.cell? ⟨u.heap.size,4,none⟩=some (.slice A' m' c'):=X1.out.cell rfl
 have HAL:=qh (HAA.out w1 G1.out)
 rcases b1 with _ | _
 ·have hz:false=Z:=HZZ.out
  subst hz
  go_wp2_with fail
  go_ret
  exact ⟨rfl,G1.out⟩
 rcases b2 with _ | _
 ·have hz:false=Z:=HZZ.out
  subst hz
  go_wp2_with fail
  go_ret
  exact ⟨rfl,G1.out⟩
 rcases b3 with _ | _
 ·have hz:false=Z:=HZZ.out
  subst hz
  go_wp2_with fail
  go_ret
  exact ⟨rfl,G1.out⟩
 have hz:ab=Z:=HZZ.out
 subst hz
 go_wp2_with fail
 refine HAL.out.mono ?_
 rintro e w2 ⟨rfl,g2⟩
 have G2:=qh (G1.out.trans g2)
 clear g2
 go_wp2_with fail
 go_ret
 exact ⟨rfl,G2.out⟩
end
section
open Go.RowKit Go.Maps
theorem clos_nil (f:Int):ClosR f []:=⟨fun _ _ _ _ _ h=>(by cases h),fun _ _ h=>(by cases h)⟩
theorem has_top {p:Int→Bool} {c:Int} (h:hasR (setP p) c=true):inTop c∧p c=true:=by
 rw [setP_has] at h
 simp only [Bool.and_eq_true,decide_eq_true_eq] at h
 exact ⟨h.1,h.2⟩
theorem has_of {p:Int→Bool} {c:Int} (hc:inTop c) (h:p c=true):hasR (setP p) c=true:=by
 rw [setP_has]
 unfold inTop at hc
 simp [hc.1,hc.2,h]
theorem clos_set {f:Int} {L:List (Int×Int)} (h:ClosR f L):ClosR f (setP (hasR L)):=by
 refine ⟨fun e c k hc hk hh=>?_,fun e c hh=>?_⟩
 ·exact has_of hc (h.1 e c k hc hk (has_top hh).2)
 ·exact has_of (mir_in (has_top hh).1) (h.2 e c (has_top hh).2)
theorem clos_not {f:Int} {L:List (Int×Int)} (h:ClosR f L):ClosR f (setP fun c=>!hasR L c):=by
 refine ⟨fun e c k hc hk hh=>?_,fun e c hh=>?_⟩
 ·have h1:=has_top hh
  refine has_of hc ?_
  rcases hL:hasR L c with _ | _
  ·rfl
  ·have h2:=h.1 e k c h1.1 hk.symm hL
   have h3:=h1.2
   rw [h2] at h3
   cases h3
 ·have h1:=has_top hh
  refine has_of (mir_in h1.1) ?_
  rcases hL:hasR L c with _ | _
  ·rfl
  ·have h2:=h.2 e (mir c) (by rw [mir_twice];exact hL)
   have h3:=h1.2
   rw [h2] at h3
   cases h3
theorem clos_app {f:Int} {L M:List (Int×Int)} (h:ClosR f L) (h':ClosR f M):ClosR f (L++M):=by
 refine ⟨fun e c k hc hk hh=>?_,fun e c hh=>?_⟩
 ·rw [hasR_append,Bool.or_eq_true] at hh ⊢
  exact hh.elim (fun x=>.inl (h.1 e c k hc hk x)) (fun x=>.inr (h'.1 e c k hc hk x))
 ·rw [hasR_append,Bool.or_eq_true] at hh ⊢
  exact hh.elim (fun x=>.inl (h.2 e c x)) (fun x=>.inr (h'.2 e c x))
theorem clos_beh (f:Int) (R:List (Int×Int)):ClosR f (behR (flag1 f) (flag2 f) R):=by
 unfold behR
 refine ⟨fun e c k hc hk hh=>?_,fun e c hh=>?_⟩
 ·obtain ⟨hkt,hh⟩:=has_top hh
  rw [beh_has hkt] at hh
  refine has_of hc ((beh_has hc).2 ?_)
  rcases hh with h | ⟨-,j,hj,hf,h⟩ | ⟨e2,h,hi⟩
  ·exact .inr (.inl ⟨e,k,hkt,hk,h⟩)
  ·exact .inr (.inl ⟨e,j,hj,hf.trans hk,h⟩)
  ·by_cases he:mir k=k
   ·rw [he] at h
    exact .inr (.inl ⟨e,k,hkt,hk,h⟩)
   ·have:=isM_alone (isM_iff.2 he) hk.symm
    subst this
    exact .inr (.inr ⟨e2,h,hi⟩)
 ·obtain ⟨hkt,hh⟩:=has_top hh
  have hc:=mir_in hkt
  rw [beh_has hkt] at hh
  refine has_of hc ((beh_has hc).2 ?_)
  rcases hh with h | ⟨e1,j,hj,hf,h⟩ | ⟨-,h,hi⟩
  ·exact .inr (.inr ⟨e,h,hkt⟩)
  ·by_cases he:mir c=c
   ·rw [he] at hf
    exact .inr (.inl ⟨e1,j,hj,hf,h⟩)
   ·have hm:isM (mir c)=true:=isM_iff.2 (by rw [mir_twice];exact fun x=>he x.symm)
    have:=isM_alone hm hf
    subst this
    exact .inr (.inr ⟨e,h,hkt⟩)
  ·rw [mir_twice] at h
   exact .inl h
theorem froms_ten:froms 10=[]∧fo 10=10∧mir 10=10:=by decide +kernel
theorem clos_ten (f:Int):ClosR f [(10,10)]:=by
 have h10:∀ c,hasR [(10,10)] c=true↔c=10:=fun c=>by
  rw [hasR_iff]
  constructor
  ·rintro ⟨r,hr,h1,h2⟩
   rw [List.mem_singleton] at hr
   subst hr
   dsimp only at h1 h2
   omega
  ·rintro rfl
   exact ⟨(10,10),by simp,by decide,by decide⟩
 refine ⟨fun _ c k _ hk hh=>?_,fun _ c hh=>?_⟩
 ·rw [h10] at hh ⊢
  subst hh
  rw [froms_ten.2.1] at hk
  false_or_by_contra
  rename_i hne
  have:c∈froms 10:=mem_froms.2 ⟨hk.symm,hne⟩
  rw [froms_ten.1] at this
  simp at this
 ·rw [h10] at hh ⊢
  have:=mir_twice c
  rw [hh,froms_ten.2.2] at this
  exact this.symm
theorem clos_dot (f:Int):ClosR f (dotR f):=by
 unfold dotR
 refine clos_not ?_
 split
 ·exact clos_nil f
 ·exact clos_ten f
theorem clos_part (f:Int) (t:Tok):ClosR f (partR f t):=by
 unfold partR
 split
 ·exact clos_beh f _
 ·split
  ·exact clos_beh f _
  ·split
   ·exact clos_not (clos_beh f _)
   ·exact clos_beh f _
theorem clos_classL {f:Int}:∀ {T:List Tok} {rs:List (Int×Int)} {R:List Tok},classL f T=some (rs,R)→ClosR f rs
 | [],_,_,h=>by cases h
 | t :: T,rs,R,h=>by
  rw [classL] at h
  by_cases h8:t.k=8
  ·rw [if_pos h8] at h
   injection h with h
   injection h with h1 h2
   subst h1
   exact clos_nil f
  ·rw [if_neg h8] at h
   rcases hc:classL f T with _ | ⟨rs',R'⟩
   ·rw [hc] at h;cases h
   ·rw [hc] at h
    injection h with h
    injection h with h1 h2
    subst h1
    exact clos_app (clos_part f t) (clos_classL hc)
theorem clos_setT {f:Int} {t:Tok} {R R':List Tok} {rs:List (Int×Int)} (h:setT f t R=some (rs,R')):ClosR f rs:=by
 unfold setT at h
 split at h
 ·injection h with h
  injection h with h1 h2
  subst h1
  exact clos_dot f
 ·split at h
  ·rcases hc:classL f R with _ | ⟨rs',R2⟩
   ·rw [hc] at h;cases h
   ·rw [hc] at h
    injection h with h
    injection h with h1 h2
    subst h1
    have hcl:=clos_classL hc
    unfold classR
    split
    ·exact clos_not (clos_set hcl)
    ·exact clos_set hcl
  ·injection h with h
   injection h with h1 h2
   subst h1
   exact clos_part f t
theorem clos_leaf (f k lo hi:Int) {rs:List (Int×Int)} (h:ClosR f rs):closN f (.mk k lo hi rs []):=by
 rw [closN]
 refine ⟨h,?_⟩
 rw [closL]
 trivial
theorem clos_tog {f k:Int}:∀ {ns:List Nd},closL f ns→closN f (togT k ns)
 | [],_=>clos_leaf f 1 0 0 (clos_nil f)
 | [n],h=>by rw [closL] at h;exact h.1
 | n :: m :: ns,h=>by
  show closN f (.mk k 0 0 [] (n :: m :: ns))
  rw [closN]
  exact ⟨clos_nil f,h⟩
def ClosOk (f:Int) (x:DR):Prop:=∀ n R,x=.ok (n,R)→closN f n
section
variable {inner:Option (List Tok→DR)} {f:Int} {e q:Nat}
theorem clos_atom (hin:∀ g,inner=some g→∀ T,ClosOk f (g T)) (T:List Tok):ClosOk f (dAtom inner f e T):=by
 intro n R h
 rcases T with _ | ⟨t,T⟩
 ·cases h
 unfold dAtom at h
 simp only at h
 by_cases h3:t.k=3
 ·rw [if_pos h3] at h
  rcases hi:inner with _ | g
  ·rw [hi] at h;cases h
  ·rw [hi] at h
   simp only at h
   rcases hg:g T with x | ⟨m,_ | ⟨s,S⟩⟩
   ·rw [hg] at h;cases h
   ·rw [hg] at h;cases h
   ·rw [hg] at h
    simp only at h
    by_cases h4:s.k=4
    ·rw [if_pos h4] at h
     injection h with h
     injection h with h1 h2
     subst h1
     exact hin g hi T _ _ hg
    ·rw [if_neg h4] at h;cases h
 rw [if_neg h3] at h
 by_cases h10:t.k=10
 ·rw [if_pos h10] at h
  injection h with h
  injection h with h1 h2
  subst h1
  exact clos_leaf f 6 0 0 (clos_nil f)
 rw [if_neg h10] at h
 by_cases h11:t.k=11
 ·rw [if_pos h11] at h
  injection h with h
  injection h with h1 h2
  subst h1
  exact clos_leaf f 7 0 0 (clos_nil f)
 rw [if_neg h11] at h
 by_cases h6:t.k=6
 ·rw [if_pos h6] at h;cases h
 rw [if_neg h6] at h
 rcases hs:setT f t T with _ | ⟨rs,R'⟩
 ·rw [hs] at h;cases h
 ·rw [hs] at h
  injection h with h
  injection h with h1 h2
  subst h1
  exact clos_leaf f 2 0 0 (clos_setT hs)
theorem clos_rep (hin:∀ g,inner=some g→∀ T,ClosOk f (g T)) (T:List Tok):ClosOk f (dRep inner f e T):=by
 intro n R h
 unfold dRep at h
 rcases ha:dAtom inner f e T with x | ⟨m,R'⟩
 ·rw [ha] at h;cases h
 have hm:=clos_atom hin T m R' ha
 have hr:∀ lo hi,closN f (.mk 5 lo hi [] [m]):=fun lo hi=>by
  rw [closN,closL,closL]
  exact ⟨clos_nil f,hm,trivial⟩
 rw [ha] at h
 rcases R' with _ | ⟨t,R'⟩
 ·injection h with h
  injection h with h1 h2
  subst h1
  exact hm
 simp only at h
 by_cases h6:t.k=6
 ·rw [if_pos h6] at h
  rcases hd:dropIs R' [13] with _ | ⟨s,S⟩
  ·rw [hd] at h
   injection h with h
   injection h with h1 h2
   subst h1
   exact hr _ _
  ·rw [hd] at h
   simp only at h
   by_cases hs:s.k=6
   ·rw [if_pos hs] at h;cases h
   ·rw [if_neg hs] at h
    injection h with h
    injection h with h1 h2
    subst h1
    exact hr _ _
 ·rw [if_neg h6] at h
  injection h with h
  injection h with h1 h2
  subst h1
  exact hm
theorem clos_joinL (hin:∀ g,inner=some g→∀ T,ClosOk f (g T)):∀ (k:Nat) (T:List Tok) (ns:List Nd) (R:List Tok),dJoinL inner f e k T=.ok (ns,R)→closL f ns
 | 0,T,ns,R,h=>by cases h
 | k+1,T,ns,R,h=>by
  rw [dJoinL] at h
  by_cases hc:T=[]∨kindIs T [5,4]=true
  ·rw [if_pos hc] at h
   injection h with h
   injection h with h1 h2
   subst h1
   rw [closL];trivial
  ·rw [if_neg hc] at h
   rcases hr:dRep inner f e T with x | ⟨n,S⟩
   ·rw [hr] at h;cases h
   ·rw [hr] at h
    simp only at h
    rcases hj:dJoinL inner f e k S with x | ⟨ms,S'⟩
    ·rw [hj] at h;cases h
    ·rw [hj] at h
     injection h with h
     injection h with h1 h2
     subst h1
     rw [closL]
     exact ⟨clos_rep hin T n S hr,clos_joinL hin k S ms S' hj⟩
theorem clos_join (hin:∀ g,inner=some g→∀ T,ClosOk f (g T)) (k:Nat) (T:List Tok):ClosOk f (dJoin inner f e k T):=by
 intro n R h
 unfold dJoin at h
 rcases hj:dJoinL inner f e k T with x | ⟨ms,S'⟩
 ·rw [hj] at h;cases h
 ·rw [hj] at h
  injection h with h
  injection h with h1 h2
  subst h1
  exact clos_tog (clos_joinL hin k T ms S' hj)
theorem clos_orL (hin:∀ g,inner=some g→∀ T,ClosOk f (g T)):∀ (k:Nat) (T:List Tok) (ns:List Nd) (R:List Tok),dOrL inner f e q k T=.ok (ns,R)→closL f ns
 | 0,T,ns,R,h=>by cases h
 | k+1,T,ns,R,h=>by
  rw [dOrL] at h
  by_cases hc:kindIs T [5]=true
  ·rw [if_pos hc] at h
   rcases hr:dJoin inner f e q T.tail with x | ⟨n,S⟩
   ·rw [hr] at h;cases h
   ·rw [hr] at h
    simp only at h
    rcases hj:dOrL inner f e q k S with x | ⟨ms,S'⟩
    ·rw [hj] at h;cases h
    ·rw [hj] at h
     injection h with h
     injection h with h1 h2
     subst h1
     rw [closL]
     exact ⟨clos_join hin q _ n S hr,clos_orL hin k S ms S' hj⟩
  ·rw [if_neg hc] at h
   injection h with h
   injection h with h1 h2
   subst h1
   rw [closL];trivial
theorem clos_or1 (hin:∀ g,inner=some g→∀ T,ClosOk f (g T)) (T:List Tok):ClosOk f (dOr1 inner f e q T):=by
 intro n R h
 unfold dOr1 at h
 rcases hr:dJoin inner f e q T with x | ⟨m,S⟩
 ·rw [hr] at h;cases h
 ·rw [hr] at h
  simp only at h
  rcases hj:dOrL inner f e q q S with x | ⟨ms,S'⟩
  ·rw [hj] at h;cases h
  ·rw [hj] at h
   injection h with h
   injection h with h1 h2
   subst h1
   refine clos_tog ?_
   rw [closL]
   exact ⟨clos_join hin q _ m S hr,clos_orL hin q S ms S' hj⟩
end
theorem clos_or (f:Int) (e q:Nat):∀ (d:Nat) (T:List Tok),ClosOk f (dOr f e q d T)
 | 0,T=>clos_or1 (fun g h=>by cases h) T
 | d+1,T=>clos_or1 (fun g h T=>by injection h with h;subst h;exact clos_or f e q d T) T
theorem parsed_clos {f:Int} {e q:Nat} {T:List Tok} {n:Nd} (h:dP f e q T=.ok n):closN f n:=by
 unfold dP at h
 rcases ho:dOr f e q 20 T with x | ⟨m,_ | ⟨t,R⟩⟩
 ·rw [ho] at h;cases h
 ·rw [ho] at h
  injection h with h
  subst h
  exact clos_or f e q 20 T _ _ ho
 ·rw [ho] at h;cases h
end
end Go.Proofs.YtoeocodfndbebaaGreatDoor
