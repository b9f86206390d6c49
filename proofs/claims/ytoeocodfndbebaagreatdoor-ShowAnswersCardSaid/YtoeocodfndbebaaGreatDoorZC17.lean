/- Shared texts, shaken for one claim. -/
import Derived.Test.YtoeocodfndbebaaGreatDoorZC16
set_option maxRecDepth 20000
set_option maxHeartbeats 16000000
namespace Go.Proofs.YtoeocodfndbebaaGreatDoor
section
open Go.RowKit
theorem RgTo.rowed {w:World} {b:Nat} {T:List Tok} {f:Int} {rs:List (Int×Int)} {e:Ending} {w':World} (hR:IsT w b T f) (h:RowedRg w rs e w'):RgTo w b f rs T e w':=by
 obtain ⟨v,rfl,o,b1⟩:=h
 exact ⟨v,rfl,o,hR.up (grown_of_below b1 none),grown_of_below b1 (some b)⟩
theorem RgTo.behind {w w0:World} {b:Nat} {R:List Tok} {f:Int} {rs:List (Int×Int)} {e:Ending} {w':World} (hg:w.grownBy w0 none) (h:RgTo w0 b f rs R e w'):RgTo w b f rs R e w':=by
 obtain ⟨v,rfl,o,r,g⟩:=h
 exact ⟨v,rfl,o.weaken hg.size,r,(grownBy_none hg (some b)).trans g⟩
theorem trset2_any (w:World) (b:Nat) (T:List Tok) (f:Int) (t:Tok) (rs:List (Int×Int)) (R:List Tok) (hT:FoTabs w) (hgb:3 < b) (hR:IsT w b T f) (h:setT f t T=some (rs,R)) :
 Calls Tryz.prog 112 #[.pointer (some ⟨b,0,none⟩),.agg t.arr] w (RgTo w b f rs R):=by
 obtain ⟨k,ch,lo,hi,pos⟩:=t
 have hw:w.grownBy (w.alloc (.cells #[.int .i64 k,.int .i64 ch,.int .i64 lo,.int .i64 hi,.int .i64 pos] 56)) none:=grown_new w _ none
 have HG:=qh hw
 have HT:=hT.grown0 hw
 have HR:=hR.up hw
 unfold setT at h
 simp only at h ⊢
 by_cases h2:k=2
 ·rw [if_pos h2] at h
  injection h with h
  injection h with e1 e2
  subst e1 e2 h2
  have HC:=qh ((dot_any _ b T f HR).mono fun e u hu=>RgTo.rowed HR hu)
  obtain ⟨Z,hZ⟩:∃ Z,dotR f=Z:=⟨_,rfl⟩
  rw [hZ] at HC ⊢
  clear hZ hT hR HT HR hw
  go_enter Tryz.func112,Tryz.ntmps112
  go_wp2_with fail
  refine HC.out.mono ?_
  intro e w1 h1
  obtain ⟨v,rfl,o1,r1,g1⟩:=RgTo.behind HG.out h1
  have O1:=qh o1
  have R1:=qh r1
  have G1:=qh g1
  clear o1 r1 g1 h1
  go_wp2_with fail
  go_ret
  exact ⟨_,rfl,O1.out,R1.out,G1.out⟩
 rw [if_neg h2] at h
 by_cases h7:k=7
 ·rw [if_pos h7] at h
  subst h7
  rcases hc:classL f T with _ | ⟨rs1,R1⟩
  ·rw [hc] at h;cases h
  ·rw [hc] at h
   injection h with h
   injection h with e1 e2
   subst e1 e2
   have HC:=qh (class_any _ b T f (ch == 1) rs1 R1 HT hgb HR hc)
   obtain ⟨Z,hZ⟩:∃ Z,classR (ch == 1) rs1=Z:=⟨_,rfl⟩
   rw [hZ] at HC ⊢
   clear hZ hT hR HT HR hw hc h2
   go_enter Tryz.func112,Tryz.ntmps112
   go_wp2_with fail
   refine HC.out.mono ?_
   intro e w1 h1
   obtain ⟨v,rfl,o1,r1,g1⟩:=RgTo.behind HG.out h1
   have O1:=qh o1
   have R1:=qh r1
   have G1:=qh g1
   clear o1 r1 g1 h1
   go_wp2_with fail
   go_ret
   exact ⟨_,rfl,O1.out,R1.out,G1.out⟩
 ·rw [if_neg h7] at h
  injection h with h
  injection h with e1 e2
  subst e1 e2
  have HC:=qh ((partg_any _ b T f ⟨k,ch,lo,hi,pos⟩ HT HR).mono fun e u hu=>RgTo.rowed HR hu)
  obtain ⟨Z,hZ⟩:∃ Z,partR f ⟨k,ch,lo,hi,pos⟩=Z:=⟨_,rfl⟩
  (try simp only at HC ⊢)
  rw [hZ] at HC ⊢
  have d1:(k == 2)=false:=by simpa using h2
  have d2:(k == 7)=false:=by simpa using h7
  clear hZ hT hR HT HR hw h2 h7
  go_enter Tryz.func112,Tryz.ntmps112
  go_wp2_with fail
  refine HC.out.mono ?_
  intro e w1 h1
  obtain ⟨v,rfl,o1,r1,g1⟩:=RgTo.behind HG.out h1
  have O1:=qh o1
  have R1:=qh r1
  have G1:=qh g1
  clear o1 r1 g1 h1
  go_wp2_with fail
  go_ret
  exact ⟨_,rfl,O1.out,R1.out,G1.out⟩
def Fresh (w w':World) (x:Nat):Prop:=w.heap.size≤x∧x < w'.heap.size
def NdTo (w:World) (b:Nat) (f:Int) (n:Nd) (R:List Tok) (ed:Ending) (w':World):Prop :=
 ∃ v,ed=.returned (.agg v)∧Treed w' (Fresh w w') n v∧IsT w' b R f∧w.grownBy w' (some b)
theorem treed_set {w:World} {B:Nat} {v:Value} {rs:List (Int×Int)} (h:OwnN w B 66 2 v rs.length (prC rs)):∃ A c,v=.slice A rs.length c∧Treed w (fun x=>B≤x∧x < w.heap.size) (.mk 2 0 0 rs []) #[.int .i64 2,.slice A rs.length c,.int .i64 0,.int .i64 0,.slice none 0 0]:=by
 obtain ⟨A,c,hv,hc,hl⟩:=LiesP.own (P:=fun x=>B≤x∧x < w.heap.size) h (fun x h1 h2 _=>⟨h1,h2⟩)
 exact ⟨A,c,hv,.mk (ks:=[]) [] hl hc rfl LiesP.none (by decide) (fun i h1=>by simp at h1)⟩
def PatOk (b:Nat) (f:Int) (pat:List Tok→PR):Prop :=
 ∀ (u:World) (T:List Tok) (n:Nd) (R:List Tok),FoTabs u→IsT u b T f→pat T=some (n,R)→Calls Tryz.prog 40 #[.pointer (some ⟨b,0,none⟩)] u (NdTo u b f n R)
theorem dropIs_len (T:List Tok) (l:List Int):(dropIs T l).length≤T.length:=by
 unfold dropIs;split
 ·simp
 ·exact Nat.le_refl _
theorem one_set (w:World) (b:Nat) (f:Int) (t:Tok) (T:List Tok) (rs:List (Int×Int)) (R:List Tok) (hT:FoTabs w) (hgb:3 < b) (hR:IsT w b (t :: T) f) (hk:t.k≠3∧t.k≠10∧t.k≠11) (hs:setT f t T=some (rs,R)) :
 Calls Tryz.prog 94 #[.pointer (some ⟨b,0,none⟩)] w (NdTo w b f (.mk 2 0 0 rs []) R):=by
 have HT:=qh hT
 have HLT:=qh hR.lt
 obtain ⟨k,ch,lo,hi,pos⟩:=t
 simp only at hk
 have d1:(k == 3)=false:=by simpa using hk.1
 have d2:(k == 10)=false:=by simpa using hk.2.1
 have d3:(k == 11)=false:=by simpa using hk.2.2
 obtain ⟨w0,hw0⟩:∃ u,w.alloc (.cells #[.int .i64 0,.slice none 0 0,.int .i64 0,.int .i64 0,.slice none 0 0] 25)=u:=⟨_,rfl⟩
 have G0:Hid (w.grownBy w0 none):=qh (hw0▸grown_new w _ none)
 have X0:Hid (Box w0 w.heap.size ndZero 25):=qh (hw0▸Box.new w _ _)
 have HC:=qh (next_any w0 b ⟨k,ch,lo,hi,pos⟩ T f (hR.up G0.out))
 have HW0:=qh hw0
 have HSET:Hid (∀ u,FoTabs u→IsT u b T f→Calls Tryz.prog 112 #[.pointer (some ⟨b,0,none⟩),.agg #[.int .i64 k,.int .i64 ch,.int .i64 lo,.int .i64 hi,.int .i64 pos]] u (RgTo u b f rs R)):=qh fun u h1 h2=>trset2_any u b T f ⟨k,ch,lo,hi,pos⟩ rs R h1 hgb h2 hs
 (try simp only)
 clear hk hs
 clear hw0 hT hR
 go_enter Tryz.func94,Tryz.ntmps94
 go_wp2_with fail
 rw [HW0.out]
 refine HC.out.mono ?_
 rintro e w1 ⟨rfl,r1,g1⟩
 have R1:=qh r1
 have G1:=qh ((grownBy_none G0.out (some b)).trans g1)
 have X1:=qh (X0.out.kept g1 (by have:=HLT.out;simp;omega))
 clear r1 g1
 have HTB:=qh (HT.out.grown G1.out (by omega))
 have HC2:=qh (HSET.out (w1.alloc (.cells #[.int .i64 k,.int .i64 ch,.int .i64 lo,.int .i64 hi,.int .i64 pos] 56)) (HTB.out.grown0 (grown_new _ _ none)) (R1.out.up (grown_new _ _ none)))
 go_wp2_with fail
 refine HC2.out.mono ?_
 rintro e w2 ⟨v2,rfl,o2,r2,g2⟩
 have R2:=qh r2
 have G2:=qh ((G1.out.trans (grownBy_none (grown_new w1 (.cells #[.int .i64 k,.int .i64 ch,.int .i64 lo,.int .i64 hi,.int .i64 pos] 56) none) (some b))).trans g2)
 have X2:=qh ((X1.out.kept (grown_new w1 (.cells #[.int .i64 k,.int .i64 ch,.int .i64 lo,.int .i64 hi,.int .i64 pos] 56) none) (by simp)).kept g2 (by have:=HLT.out;simp;omega))
 obtain ⟨A2,c2,rfl,t2⟩:=treed_set o2
 have T2:Hid (Treed w2 (fun x=>w.heap.size+1≤x∧x < w2.heap.size) (.mk 2 0 0 rs []) #[.int .i64 2,.slice A2 rs.length c2,.int .i64 0,.int .i64 0,.slice none 0 0]):=qh (t2.mono fun x hx=>by have:=X1.out.lt;have:=hx.1;have:=hx.2;rw [World.size_alloc] at *;omega)
 clear o2 r2 g2 t2
 go_wp2_with (first
  | (refine store_nd w2 _ _ w.heap.size ndZero #[.int .i64 2,.slice A2 rs.length c2,.int .i64 0,.int .i64 0,.slice none 0 0] rfl rfl rfl rfl rfl X2.out rfl rfl (by simp [Value.oneCell']) ?_;intro w3 x3 g3;have X3:=qh x3;have R3:=qh (R2.out.grown g3 (fun g e=>by injection e with e;have:=HLT.out;omega));have G3:=qh (grown_two G2.out g3 (Nat.le_refl _));have T3:=qh (T2.out.grown g3 (fun x hx e=>by injection e with e;omega));have HSZ:=qh g3.size;clear x3 g3)
  | fail)
 (try simp only [Exit.inBlock,Exit.then])
 exact bodyPost_ret (v:=.agg _) (ret_nd rfl _ _ w.heap.size _ rfl rfl X3.out) rfl ⟨_,rfl,T3.out.mono fun x hx=>⟨by omega,Nat.lt_of_lt_of_le hx.2 HSZ.out⟩,R3.out,G3.out⟩
theorem treed_none {w:World} {P:Nat→Prop} (k:Int):Treed w P (.mk k 0 0 [] []) #[.int .i64 k,.slice none 0 0,.int .i64 0,.int .i64 0,.slice none 0 0] :=
 .mk (rs:=[]) (ks:=[]) [] LiesP.none (by decide) rfl LiesP.none (by decide) (fun i h1=>by simp at h1)
theorem one_start (w:World) (b:Nat) (f:Int) (t:Tok) (T:List Tok) (_:FoTabs w) (hR:IsT w b (t :: T) f) (hk:t.k=10) :
 Calls Tryz.prog 94 #[.pointer (some ⟨b,0,none⟩)] w (NdTo w b f (.mk 6 0 0 [] []) T):=by
 have HLT:=qh hR.lt
 obtain ⟨k,ch,lo,hi,pos⟩:=t
 simp only at hk
 subst hk
 obtain ⟨w0,hw0⟩:∃ u,w.alloc (.cells #[.int .i64 0,.slice none 0 0,.int .i64 0,.int .i64 0,.slice none 0 0] 25)=u:=⟨_,rfl⟩
 have G0:Hid (w.grownBy w0 none):=qh (hw0▸grown_new w _ none)
 have X0:Hid (Box w0 w.heap.size ndZero 25):=qh (hw0▸Box.new w _ _)
 have HC:=qh (next_any w0 b ⟨10,ch,lo,hi,pos⟩ T f (hR.up G0.out))
 have HW0:=qh hw0
 (try simp only)
 clear hw0 hR
 go_enter Tryz.func94,Tryz.ntmps94
 go_wp2_with fail
 rw [HW0.out]
 refine HC.out.mono ?_
 rintro e w1 ⟨rfl,r1,g1⟩
 have R1:=qh r1
 have G1:=qh ((grownBy_none G0.out (some b)).trans g1)
 have X1:=qh (X0.out.kept g1 (by have:=HLT.out;simp;omega))
 clear r1 g1
 have M:w1.grownBy (w1.alloc (.cells #[.int .i64 10,.int .i64 ch,.int .i64 lo,.int .i64 hi,.int .i64 pos] 56)) none:=grown_new _ _ none
 have R2:=qh (R1.out.up M)
 have G2:=qh (G1.out.trans (grownBy_none M (some b)))
 have X2:=qh (X1.out.kept M (by simp))
 clear M
 go_wp2_with (first
  | (refine store_nd _ _ _ w.heap.size ndZero #[.int .i64 6,.slice none 0 0,.int .i64 0,.int .i64 0,.slice none 0 0] rfl rfl rfl rfl rfl X2.out rfl rfl (by simp [Value.oneCell']) ?_;intro w3 x3 g3;have X3:=qh x3;have R3:=qh (R2.out.grown g3 (fun g e=>by injection e with e;have:=HLT.out;omega));have G3:=qh (grown_two G2.out g3 (Nat.le_refl _));clear x3 g3)
  | fail)
 (try simp only [Exit.inBlock,Exit.then])
 exact bodyPost_ret (v:=.agg _) (ret_nd rfl _ _ w.heap.size _ rfl rfl X3.out) rfl ⟨_,rfl,treed_none 6,R3.out,G3.out⟩
theorem one_stop (w:World) (b:Nat) (f:Int) (t:Tok) (T:List Tok) (_:FoTabs w) (hR:IsT w b (t :: T) f) (hk:t.k=11) :
 Calls Tryz.prog 94 #[.pointer (some ⟨b,0,none⟩)] w (NdTo w b f (.mk 7 0 0 [] []) T):=by
 have HLT:=qh hR.lt
 obtain ⟨k,ch,lo,hi,pos⟩:=t
 simp only at hk
 subst hk
 obtain ⟨w0,hw0⟩:∃ u,w.alloc (.cells #[.int .i64 0,.slice none 0 0,.int .i64 0,.int .i64 0,.slice none 0 0] 25)=u:=⟨_,rfl⟩
 have G0:Hid (w.grownBy w0 none):=qh (hw0▸grown_new w _ none)
 have X0:Hid (Box w0 w.heap.size ndZero 25):=qh (hw0▸Box.new w _ _)
 have HC:=qh (next_any w0 b ⟨11,ch,lo,hi,pos⟩ T f (hR.up G0.out))
 have HW0:=qh hw0
 (try simp only)
 clear hw0 hR
 go_enter Tryz.func94,Tryz.ntmps94
 go_wp2_with fail
 rw [HW0.out]
 refine HC.out.mono ?_
 rintro e w1 ⟨rfl,r1,g1⟩
 have R1:=qh r1
 have G1:=qh ((grownBy_none G0.out (some b)).trans g1)
 have X1:=qh (X0.out.kept g1 (by have:=HLT.out;simp;omega))
 clear r1 g1
 have M:w1.grownBy (w1.alloc (.cells #[.int .i64 11,.int .i64 ch,.int .i64 lo,.int .i64 hi,.int .i64 pos] 56)) none:=grown_new _ _ none
 have R2:=qh (R1.out.up M)
 have G2:=qh (G1.out.trans (grownBy_none M (some b)))
 have X2:=qh (X1.out.kept M (by simp))
 clear M
 go_wp2_with (first
  | (refine store_nd _ _ _ w.heap.size ndZero #[.int .i64 7,.slice none 0 0,.int .i64 0,.int .i64 0,.slice none 0 0] rfl rfl rfl rfl rfl X2.out rfl rfl (by simp [Value.oneCell']) ?_;intro w3 x3 g3;have X3:=qh x3;have R3:=qh (R2.out.grown g3 (fun g e=>by injection e with e;have:=HLT.out;omega));have G3:=qh (grown_two G2.out g3 (Nat.le_refl _));clear x3 g3)
  | fail)
 (try simp only [Exit.inBlock,Exit.then])
 exact bodyPost_ret (v:=.agg _) (ret_nd rfl _ _ w.heap.size _ rfl rfl X3.out) rfl ⟨_,rfl,treed_none 7,R3.out,G3.out⟩
theorem one_open (w:World) (b:Nat) (f:Int) (t:Tok) (T:List Tok) (pat:List Tok→PR) (HP:PatOk b f pat) (n:Nd) (R:List Tok) (hpat:pat T=some (n,R)) (hT:FoTabs w) (hgb:3 < b) (hR:IsT w b (t :: T) f) (hk:t.k=3) :
 Calls Tryz.prog 94 #[.pointer (some ⟨b,0,none⟩)] w (NdTo w b f n (dropIs R [4])):=by
 have HT:=qh hT
 have HLT:=qh hR.lt
 obtain ⟨k,ch,lo,hi,pos⟩:=t
 simp only at hk
 subst hk
 obtain ⟨w0,hw0⟩:∃ u,w.alloc (.cells #[.int .i64 0,.slice none 0 0,.int .i64 0,.int .i64 0,.slice none 0 0] 25)=u:=⟨_,rfl⟩
 have G0:Hid (w.grownBy w0 none):=qh (hw0▸grown_new w _ none)
 have X0:Hid (Box w0 w.heap.size ndZero 25):=qh (hw0▸Box.new w _ _)
 have HC:=qh (next_any w0 b ⟨3,ch,lo,hi,pos⟩ T f (hR.up G0.out))
 have HW0:=qh hw0
 have HPH:Hid (∀ u,FoTabs u→IsT u b T f→Calls Tryz.prog 40 #[.pointer (some ⟨b,0,none⟩)] u (NdTo u b f n R)):=qh fun u h1 h2=>HP u T n R h1 h2 hpat
 clear hw0 hT hR HP hpat
 go_enter Tryz.func94,Tryz.ntmps94
 go_wp2_with fail
 rw [HW0.out]
 refine HC.out.mono ?_
 rintro e w1 ⟨rfl,r1,g1⟩
 have R1:=qh r1
 have G1:=qh ((grownBy_none G0.out (some b)).trans g1)
 have X1:=qh (X0.out.kept g1 (by have:=HLT.out;simp;omega))
 clear r1 g1
 have HTB:=qh (HT.out.grown G1.out (by omega))
 have N1:w1.grownBy (w1.alloc (.cells #[.int .i64 3,.int .i64 ch,.int .i64 lo,.int .i64 hi,.int .i64 pos] 56)) none:=grown_new _ _ none
 have HC2:=qh (HPH.out (w1.alloc (.cells #[.int .i64 3,.int .i64 ch,.int .i64 lo,.int .i64 hi,.int .i64 pos] 56)) (HTB.out.grown0 N1) (R1.out.up N1))
 have G1b:=qh (G1.out.trans (grownBy_none N1 (some b)))
 have X1b:=qh (X1.out.kept N1 (by simp))
 have HS1:Hid (w.heap.size < (w1.alloc (.cells #[.int .i64 3,.int .i64 ch,.int .i64 lo,.int .i64 hi,.int .i64 pos] 56)).heap.size):=qh X1b.out.lt
 clear N1
 go_wp2_with fail
 refine HC2.out.mono ?_
 rintro e w2 ⟨v2,rfl,t2,r2,g2⟩
 have h5:=t2.size
 have h51:=t2.one
 have R2:=qh r2
 have T2:=qh t2
 have G2:=qh (G1b.out.trans g2)
 have X2:=qh (X1b.out.kept g2 (by have:=HLT.out;simp;omega))
 have HG2:=qh g2.size
 clear t2 r2 g2
 have Y2:Hid (Box (w2.alloc (.cells #[.int .i64 0,.slice none 0 0,.int .i64 0,.int .i64 0,.slice none 0 0] 25)) w2.heap.size ndZero 25):=qh (Box.new w2 _ _)
 have HLW:Hid (b < w2.heap.size):=qh R2.out.lt
 have HWW:Hid (w.heap.size < w2.heap.size):=qh X2.out.lt
 go_wp2_with (first
  | (refine store_nd _ _ _ w2.heap.size ndZero v2 rfl rfl rfl rfl rfl Y2.out rfl h5 h51 ?_;intro w3 x3 g3;have Y3:=qh x3;have N3:Hid (w2.grownBy w3 none):=qh (grown_two (grown_new w2 _ none) g3 (Nat.le_refl _));have X3:=qh (X2.out.kept N3.out (by simp));have R3:=qh (R2.out.up N3.out);have T3:=qh (T2.out.grown N3.out (fun x hx e=>by cases e));have G3:=qh (G2.out.trans (grownBy_none N3.out (some b)));clear x3 g3)
  | fail)
 have N3b:w3.grownBy (w3.alloc (.cells #[.int .i64 4] 3)) none:=grown_new _ _ none
 have HTK:=qh (takes_any (w3.alloc (.cells #[.int .i64 4] 3)) b R f _ (some ⟨w3.heap.size,0,none⟩) [4] 1 (R3.out.up N3b) (litI w3 [4]) (by decide) (by simp))
 have X3b:=qh (X3.out.kept N3b (by simp))
 have Y3b:=qh (Y3.out.kept N3b (by simp))
 have T3b:=qh (T3.out.grown N3b (fun x hx e=>by cases e))
 have G3b:=qh (G3.out.trans (grownBy_none N3b (some b)))
 clear N3b
 refine HTK.out.mono ?_
 rintro e w4 ⟨rfl,r4,g4⟩
 have R4:=qh r4
 have X4:=qh (X3b.out.kept g4 (by have:=HLT.out;simp;omega))
 have Y4:=qh (Y3b.out.kept g4 (by have:=HLW.out;simp;omega))
 have T4:=qh (T3b.out.grown g4 (fun x hx e=>by injection e with e;have:=hx.1;have:=HS1.out;have:=HLT.out;omega))
 have G4:=qh (G3b.out.trans g4)
 have HZ4:=qh (Nat.le_trans N3.out.size (Nat.le_trans (show w3.heap.size≤_ by simp) g4.size))
 clear r4 g4
 go_wp2_with (first
  | (refine load_nd _ w2.heap.size v2 rfl rfl rfl Y4.out h5 ?_)
  | (refine store_nd w4 _ _ w.heap.size ndZero v2 rfl rfl rfl rfl rfl X4.out rfl h5 h51 ?_;intro w5 x5 g5;have X5:=qh x5;have R5:=qh (R4.out.grown g5 (fun g e=>by injection e with e;have:=HLT.out;omega));have G5:=qh (grown_two G4.out g5 (Nat.le_refl _));have T5:=qh (T4.out.grown g5 (fun x hx e=>by injection e with e;have:=hx.1;have:=HS1.out;omega));have HZ5:=qh (Nat.le_trans HZ4.out g5.size);clear x5 g5)
  | fail)
 (try simp only [Exit.inBlock,Exit.then])
 exact bodyPost_ret (v:=.agg _) (ret_nd rfl _ _ w.heap.size _ h5 rfl X5.out) rfl ⟨_,rfl,T5.out.mono fun x hx=>⟨by have:=hx.1;have:=HS1.out;omega,Nat.lt_of_lt_of_le hx.2 HZ5.out⟩,R5.out,G5.out⟩
end
section
open Go.RowKit
section
variable {pat:List Tok→PR} {b:Nat} {f:Int}
theorem one_any (HP:PatOk b f pat) (hgb:3 < b) (w:World) (T:List Tok) (n:Nd) (R:List Tok) (hT:FoTabs w) (hR:IsT w b T f) (h:oneT pat f T=some (n,R)) :
 Calls Tryz.prog 94 #[.pointer (some ⟨b,0,none⟩)] w (NdTo w b f n R):=by
 rcases T with _ | ⟨t,T⟩
 ·cases h
 ·unfold oneT at h
  simp only at h
  by_cases h3:t.k=3
  ·rw [if_pos h3] at h
   rcases hp:pat T with _ | ⟨n',R'⟩
   ·rw [hp] at h;cases h
   ·rw [hp] at h
    injection h with h
    injection h with h1 h2
    subst h1 h2
    exact one_open w b f t T pat HP n' R' hp hT hgb hR h3
  ·rw [if_neg h3] at h
   by_cases h10:t.k=10
   ·rw [if_pos h10] at h
    injection h with h
    injection h with e1 e2
    subst e1 e2
    exact one_start w b f t T hT hR h10
   rw [if_neg h10] at h
   by_cases h11:t.k=11
   ·rw [if_pos h11] at h
    injection h with h
    injection h with e1 e2
    subst e1 e2
    exact one_stop w b f t T hT hR h11
   rw [if_neg h11] at h
   rcases hs:setT f t T with _ | ⟨rs,R'⟩
   ·rw [hs] at h;cases h
   ·rw [hs] at h
    injection h with h
    injection h with e1 e2
    subst e1 e2
    exact one_set w b f t T rs R' hT hgb hR ⟨h3,h10,h11⟩ hs
theorem rpT_form {T:List Tok} {m:Nd} {S:List Tok} (h:rpT pat f T=some (m,S)):∃ n R,oneT pat f T=some (n,R)∧((kindIs R [6]=false∧m=n∧S=dropIs R [13])∨(∃ t R',R=t :: R'∧t.k=6∧m=.mk 5 t.lo t.hi [] [n]∧S=dropIs R' [13])):=by
 unfold rpT at h
 rcases ho:oneT pat f T with _ | ⟨n,R⟩
 ·rw [ho] at h;cases h
 ·rw [ho] at h
  refine ⟨n,R,rfl,?_⟩
  rcases R with _ | ⟨t,R'⟩
  ·injection h with h
   injection h with e1 e2
   exact .inl ⟨rfl,e1.symm,e2.symm⟩
  ·simp only at h
   by_cases h6:t.k=6
   ·rw [if_pos h6] at h
    injection h with h
    injection h with e1 e2
    exact .inr ⟨t,R',rfl,h6,e1.symm,e2.symm⟩
   ·rw [if_neg h6] at h
    injection h with h
    injection h with e1 e2
    exact .inl ⟨by simp [kindIs,h6],e1.symm,e2.symm⟩
end
theorem treed_rep {w:World} {P:Nat→Prop} {n:Nd} {v:Array Value} (lo hi:Int) {g:Nat} (h:Treed w P n v) (hl:Box w g v 25) (hg:P g) :
 Treed w P (.mk 5 lo hi [] [n]) #[.int .i64 5,.slice none 0 0,.int .i64 lo,.int .i64 hi,.slice (some ⟨g,0,none⟩) 1 1]:=by
 refine .mk (rs:=[]) (ks:=[n]) [v] LiesP.none (by decide) rfl (fun _=>⟨g,0,rfl,hg,hl.lt,fun i u hu=>?_⟩) (by simp [maxLen]) (fun i h1 h2=>?_)
 ·rw [Nat.zero_add]
  refine hl.cell ?_
  rw [← hu]
  simp
 ·simp only [List.length_cons,List.length_nil] at h1
  obtain rfl:i=0:=by omega
  exact h
theorem rep_any {pat:List Tok→PR} {b:Nat} {f:Int} (HP:PatOk b f pat) (hgb:3 < b) (w:World) (T:List Tok) (m:Nd) (S:List Tok) (hT:FoTabs w) (hR:IsT w b T f) (h:rpT pat f T=some (m,S)) :
 Calls Tryz.prog 77 #[.pointer (some ⟨b,0,none⟩)] w (NdTo w b f m S):=by
 obtain ⟨n,R,ho,hform⟩:=rpT_form h
 have HT:=qh hT
 have HLT:=qh hR.lt
 obtain ⟨w0,hw0⟩:∃ u,w.alloc (.cells #[.int .i64 0,.slice none 0 0,.int .i64 0,.int .i64 0,.slice none 0 0] 25)=u:=⟨_,rfl⟩
 have G0:Hid (w.grownBy w0 none):=qh (hw0▸grown_new w _ none)
 have X0:Hid (Box w0 w.heap.size ndZero 25):=qh (hw0▸Box.new w _ _)
 have HC:=qh (one_any HP hgb w0 T n R (HT.out.grown0 G0.out) (hR.up G0.out) ho)
 have HW0:=qh hw0
 have HZ0:Hid (w0.heap.size=w.heap.size+1):=qh (by rw [← hw0];simp)
 clear hw0 hT hR HP ho h
 go_enter Tryz.func77,Tryz.ntmps77
 go_wp2_with fail
 rw [HW0.out]
 refine HC.out.mono ?_
 rintro e w1 ⟨v1,rfl,t1,r1,g1⟩
 have h5:=t1.size
 have h51:=t1.one
 have R1:=qh r1
 have T1:=qh t1
 have G1:=qh ((grownBy_none G0.out (some b)).trans g1)
 have X1:=qh (X0.out.kept g1 (by have:=HLT.out;simp;omega))
 have HLW:Hid (b < w1.heap.size):=qh r1.lt
 have HWW:Hid (w.heap.size < w1.heap.size):=qh X1.out.lt
 have Y1:Hid (Box (w1.alloc (.cells #[.int .i64 0,.slice none 0 0,.int .i64 0,.int .i64 0,.slice none 0 0] 25)) w1.heap.size ndZero 25):=qh (Box.new w1 _ _)
 clear r1 t1 g1
 go_wp2_with (first
  | (refine store_nd _ _ _ w1.heap.size ndZero v1 rfl rfl rfl rfl rfl Y1.out rfl h5 h51 ?_;intro w2 x2 g2;have Y2:=qh x2;have N2:Hid (w1.grownBy w2 none):=qh (grown_two (grown_new w1 _ none) g2 (Nat.le_refl _));have X2:=qh (X1.out.kept N2.out (by simp));have R2:=qh (R1.out.up N2.out);have T2:=qh (T1.out.grown N2.out (fun x hx e=>by cases e));have G2:=qh (G1.out.trans (grownBy_none N2.out (some b)));clear x2 g2)
  | fail)
 have N2b:w2.grownBy (w2.alloc (.cells #[.int .i64 6] 3)) none:=grown_new _ _ none
 have HSE:=qh (sees_any (w2.alloc (.cells #[.int .i64 6] 3)) b R f _ (some ⟨w2.heap.size,0,none⟩) [6] 1 (R2.out.up N2b) (litI w2 [6]) (by decide) (by simp))
 have N2c:=qh N2b
 clear N2b
 refine HSE.out.mono ?_
 rintro e w3 ⟨rfl,g3⟩
 have N3:=qh (N2c.out.trans g3)
 have X3:=qh (X2.out.kept N3.out (by simp))
 have Y3:=qh (Y2.out.kept N3.out (by simp))
 have T3:=qh (T2.out.grown N3.out (fun x hx e=>by cases e))
 have R3:=qh (R2.out.up N3.out)
 have G3:=qh (G2.out.trans (grownBy_none N3.out (some b)))
 have HZ3:=qh (Nat.le_trans N2.out.size N3.out.size)
 clear g3
 rcases hform with ⟨hk,rfl,rfl⟩ | ⟨t,R',rfl,hk,rfl,rfl⟩
 ·rw [hk]
  clear hk
  go_wp2_with fail
  have N3b:w3.grownBy (w3.alloc (.cells #[.int .i64 13] 3)) none:=grown_new _ _ none
  have HTK:=qh (takes_any (w3.alloc (.cells #[.int .i64 13] 3)) b R f _ (some ⟨w3.heap.size,0,none⟩) [13] 1 (R3.out.up N3b) (litI w3 [13]) (by decide) (by simp))
  have X3b:=qh (X3.out.kept N3b (by simp))
  have Y3b:=qh (Y3.out.kept N3b (by simp))
  have T3b:=qh (T3.out.grown N3b (fun x hx e=>by cases e))
  have G3b:=qh (G3.out.trans (grownBy_none N3b (some b)))
  have HZ3b:=qh (Nat.le_trans HZ3.out N3b.size)
  clear N3b
  refine HTK.out.mono ?_
  rintro e w4 ⟨rfl,r4,g4⟩
  have R4:=qh r4
  have X4:=qh (X3b.out.kept g4 (by have:=HLT.out;simp;omega))
  have Y4:=qh (Y3b.out.kept g4 (by have:=HLW.out;simp;omega))
  have T4:=qh (T3b.out.grown g4 (fun x hx e=>by injection e with e;have:=hx.1;have:=HZ0.out;have:=HLT.out;omega))
  have G4:=qh (G3b.out.trans g4)
  have HZ4:=qh (Nat.le_trans HZ3b.out g4.size)
  clear r4 g4
  go_wp2_with (first
   | (refine load_nd _ w1.heap.size v1 rfl rfl rfl Y4.out h5 ?_)
   | (refine store_nd w4 _ _ w.heap.size ndZero v1 rfl rfl rfl rfl rfl X4.out rfl h5 h51 ?_;intro w5 x5 g5;have X5:=qh x5;have R5:=qh (R4.out.grown g5 (fun g e=>by injection e with e;have:=HLT.out;omega));have G5:=qh (grown_two G4.out g5 (Nat.le_refl _));have T5:=qh (T4.out.grown g5 (fun x hx e=>by injection e with e;have:=hx.1;have:=HZ0.out;omega));have HZ5:=qh (Nat.le_trans HZ4.out g5.size);clear x5 g5)
   | fail)
  (try simp only [Exit.inBlock,Exit.then])
  exact bodyPost_ret (v:=.agg _) (ret_nd rfl _ _ w.heap.size _ h5 rfl X5.out) rfl ⟨_,rfl,T5.out.mono fun x hx=>⟨by have:=hx.1;have:=HZ0.out;omega,Nat.lt_of_lt_of_le hx.2 HZ5.out⟩,R5.out,G5.out⟩
 ·rw [show kindIs (t :: R') [6]=true by simp [kindIs,hk]]
  obtain ⟨k,ch,lo,hi,pos⟩:=t
  simp only at hk
  subst hk
  have HNX:=qh (next_any w3 b ⟨6,ch,lo,hi,pos⟩ R' f R3.out)
  simp only
  go_wp2_with fail
  refine HNX.out.mono ?_
  rintro e w4 ⟨rfl,r4,g4⟩
  have R4:=qh r4
  have X4:=qh (X3.out.kept g4 (by have:=HLT.out;simp;omega))
  have Y4:=qh (Y3.out.kept g4 (by have:=HLW.out;simp;omega))
  have T4:=qh (T3.out.grown g4 (fun x hx e=>by injection e with e;have:=hx.1;have:=HZ0.out;have:=HLT.out;omega))
  have G4:=qh (G3.out.trans g4)
  have HZ4:=qh (Nat.le_trans HZ3.out g4.size)
  clear r4 g4
  obtain ⟨k1,Ar,nr,cr,lo1,hi1,Ak,nk,ck,rfl⟩:=T4.out.form
  have M4:w4.grownBy ((w4.alloc (.cells #[.int .i64 6,.int .i64 ch,.int .i64 lo,.int .i64 hi,.int .i64 pos] 56)).alloc (.cells #[.int .i64 k1,.slice Ar nr cr,.int .i64 lo1,.int .i64 hi1,.slice Ak nk ck] 25)) none:=(grown_new _ _ none).trans (grown_new _ _ none)
  have Y5:=qh (Y4.out.kept M4 (by simp))
  have X5:=qh (X4.out.kept M4 (by simp))
  have R5:=qh (R4.out.up M4)
  have G5:=qh (G4.out.trans (grownBy_none M4 (some b)))
  have T5:=qh (T4.out.grown M4 (fun x hx e=>by cases e))
  have HZ5:=qh (Nat.le_trans HZ4.out M4.size)
  have L5:Hid (Box ((w4.alloc (.cells #[.int .i64 6,.int .i64 ch,.int .i64 lo,.int .i64 hi,.int .i64 pos] 56)).alloc (.cells #[.int .i64 k1,.slice Ar nr cr,.int .i64 lo1,.int .i64 hi1,.slice Ak nk ck] 25)) (w4.heap.size+1) #[.int .i64 k1,.slice Ar nr cr,.int .i64 lo1,.int .i64 hi1,.slice Ak nk ck] 25):=qh (by
   have:=Box.new (w4.alloc (.cells #[.int .i64 6,.int .i64 ch,.int .i64 lo,.int .i64 hi,.int .i64 pos] 56)) #[.int .i64 k1,.slice Ar nr cr,.int .i64 lo1,.int .i64 hi1,.slice Ak nk ck] 25
   rw [World.size_alloc] at this
   exact this)
  clear M4
  go_wp2_with (first
   | (refine load_nd _ w1.heap.size _ rfl rfl rfl (Y4.out.kept (grown_new _ _ none) (by simp)) rfl ?_)
   | (refine store_nd _ _ _ w1.heap.size _ #[.int .i64 5,.slice none 0 0,.int .i64 lo,.int .i64 hi,.slice (some ⟨w4.heap.size+1,0,none⟩) 1 1] rfl rfl rfl rfl rfl Y5.out rfl rfl (by simp [Value.oneCell']) ?_;intro w6 x6 g6;have Y6:=qh x6;have X6:=qh (X5.out.kept g6 (by have:=HWW.out;simp;omega));have R6:=qh (R5.out.grown g6 (fun g e=>by injection e with e;have:=HLW.out;omega));have T6:=qh (T5.out.grown g6 (fun x hx e=>by injection e with e;have:=hx.2;omega));have L6:=qh (L5.out.kept g6 (by have:=HZ4.out;simp;omega));have G6:=qh (grown_two G5.out g6 (by have:=HWW.out;omega));have HZ6:=qh (Nat.le_trans HZ5.out g6.size);clear x6 g6)
   | fail)
  have TR:Hid (Treed w6 (fun x=>w0.heap.size≤x∧x < w6.heap.size∧x≠w1.heap.size) (.mk 5 lo hi [] [n]) #[.int .i64 5,.slice none 0 0,.int .i64 lo,.int .i64 hi,.slice (some ⟨w4.heap.size+1,0,none⟩) 1 1]):=qh (treed_rep lo hi (T6.out.mono fun x hx=>⟨hx.1,Nat.lt_of_lt_of_le hx.2 HZ6.out,by have:=hx.2;omega⟩) L6.out ⟨by have:=HZ4.out;have:=HZ0.out;have:=HWW.out;omega,L6.out.lt,by have:=HZ4.out;omega⟩)
  have N6b:w6.grownBy (w6.alloc (.cells #[.int .i64 13] 3)) none:=grown_new _ _ none
  have HTK:=qh (takes_any (w6.alloc (.cells #[.int .i64 13] 3)) b R' f _ (some ⟨w6.heap.size,0,none⟩) [13] 1 (R6.out.up N6b) (litI w6 [13]) (by decide) (by simp))
  have X6b:=qh (X6.out.kept N6b (by simp))
  have Y6b:=qh (Y6.out.kept N6b (by simp))
  have T6b:=qh (TR.out.grown N6b (fun x hx e=>by cases e))
  have G6b:=qh (G6.out.trans (grownBy_none N6b (some b)))
  have HZ6b:Hid (w6.heap.size≤(w6.alloc (.cells #[.int .i64 13] 3)).heap.size):=qh N6b.size
  clear N6b
  refine HTK.out.mono ?_
  rintro e w7 ⟨rfl,r7,g7⟩
  have R7:=qh r7
  have X7:=qh (X6b.out.kept g7 (by have:=HLT.out;simp;omega))
  have Y7:=qh (Y6b.out.kept g7 (by have:=HLW.out;simp;omega))
  have T7:=qh (T6b.out.grown g7 (fun x hx e=>by injection e with e;have:=hx.1;have:=HZ0.out;have:=HLT.out;omega))
  have G7:=qh (G6b.out.trans g7)
  have HZ7:=qh (Nat.le_trans HZ6b.out g7.size)
  clear r7 g7
  go_wp2_with (first
   | (refine load_nd _ w1.heap.size _ rfl rfl rfl Y7.out rfl ?_)
   | (refine store_nd w7 _ _ w.heap.size ndZero #[.int .i64 5,.slice none 0 0,.int .i64 lo,.int .i64 hi,.slice (some ⟨w4.heap.size+1,0,none⟩) 1 1] rfl rfl rfl rfl rfl X7.out rfl rfl (by simp [Value.oneCell']) ?_;intro w8 x8 g8;have X8:=qh x8;have R8:=qh (R7.out.grown g8 (fun g e=>by injection e with e;have:=HLT.out;omega));have G8:=qh (grown_two G7.out g8 (Nat.le_refl _));have T8:=qh (T7.out.grown g8 (fun x hx e=>by injection e with e;have:=hx.1;have:=HZ0.out;omega));have HZ8:=qh (Nat.le_trans HZ7.out g8.size);clear x8 g8)
   | fail)
  (try simp only [Exit.inBlock,Exit.then])
  exact bodyPost_ret (v:=.agg _) (ret_nd rfl _ _ w.heap.size _ rfl rfl X8.out) rfl ⟨_,rfl,T8.out.mono fun x hx=>⟨by have:=hx.1;have:=HZ0.out;omega,Nat.lt_of_lt_of_le hx.2.1 HZ8.out⟩,R8.out,G8.out⟩
end
section
open Go.RowKit
structure KidsAt (w:World) (lo:Nat) (ov:Value) (ks:List Nd):Prop where
 ex:∃ vs:List (Array Value),vs.length=ks.length∧OwnN w lo 25 5 ov ks.length (vs.flatMap Array.toList)∧∀ (i:Nat) (h1:i < vs.length) (h2:i < ks.length),Treed w (fun x=>lo≤x∧x < w.heap.size∧ov.ownBlock≠some x) ks[i] vs[i]
section
variable {w w1 w':World} {lo b:Nat} {ov v':Value} {ks:List Nd} {n:Nd} {v:Array Value}
theorem KidsAt.empty (w:World) (lo:Nat):KidsAt w lo (.slice none 0 0) []:=⟨[],rfl,OwnN.empty _ _ _ _,fun i h1=>by simp at h1⟩
theorem KidsAt.grown (h:KidsAt w lo ov ks) {row:Option Nat} (hg:w.grownBy w' row) (hr:∀ g,row=some g→g < lo):KidsAt w' lo ov ks:=by
 obtain ⟨vs,h0,ho,hk⟩:=h.ex
 refine ⟨vs,h0,ho.keep hg ?_,fun i h1 h2=>((hk i h1 h2).grown hg ?_).mono ?_⟩
 ·rcases hv:ov.ownBlock with _ | g
  ·exact .inl rfl
  ·refine .inr fun e=>?_
   have:=(ho.inside g hv).1
   have:=hr g e.symm
   omega
 ·intro x hx e
  have:=hr x e
  omega
 ·intro x hx
  exact ⟨hx.1,Nat.lt_of_lt_of_le hx.2.1 hg.size,hx.2.2⟩
theorem KidsAt.push {vs:List (Array Value)} {lit:Obj} (h0:vs.length=ks.length) (ho:OwnN w lo 25 5 ov ks.length (vs.flatMap Array.toList)) (hk:∀ (i:Nat) (h1:i < vs.length) (h2:i < ks.length),Treed w1 (fun x=>lo≤x∧x < w1.heap.size∧ov.ownBlock≠some x) ks[i] vs[i])
 (_:w.heap.size≤w1.heap.size) (hlo:lo≤w.heap.size) (t:Treed w1 (Fresh w w1) n v) (o:OwnN w' lo 25 5 v' (ks.length+1) (vs.flatMap Array.toList++v.toList)) (g:(w1.alloc lit).grownBy w' ov.ownBlock) (e:v'.ownBlock=ov.ownBlock∨∃ q,v'.ownBlock=some q∧(w1.alloc lit).heap.size≤q):KidsAt w' lo v' (ks++[n]):=by
 have hsz:w1.heap.size≤w'.heap.size:=by have:=g.size;simp at this;omega
 have hne:∀ x,x < w1.heap.size→ov.ownBlock≠some x→v'.ownBlock≠some x:=fun x hx hne=>by
  rcases e with e | ⟨q,e,hq⟩
  ·rw [e];exact hne
  ·rw [e];intro e2;injection e2 with e2;simp at hq;omega
 have hnew:∀ x,w.heap.size≤x→ov.ownBlock≠some x:=fun x hx e2=>by
  have:=(ho.inside x e2).2
  omega
 refine ⟨vs++[v],by simp [h0],by simpa using o,fun i h1 h2=>?_⟩
 by_cases hi:i < vs.length
 ·rw [List.getElem_append_left hi,List.getElem_append_left (by omega)]
  refine (((hk i hi (by omega)).grown (grown_new w1 lit none) (fun x _ e=>by cases e)).grown g fun x hx e2=>hx.2.2 e2).mono fun x hx=>⟨hx.1,by omega,hne x hx.2.1 hx.2.2⟩
 ·have:i=vs.length:=by simp at h1;omega
  subst this
  rw [List.getElem_append_right (Nat.le_refl _),List.getElem_append_right (by omega)]
  simp only [Nat.sub_self,List.getElem_cons_zero,h0]
  refine ((t.grown (grown_new w1 lit none) (fun x _ e=>by cases e)).grown g fun x hx e2=>hnew x hx.1 e2).mono fun x hx=>⟨Nat.le_trans hlo hx.1,Nat.lt_of_lt_of_le hx.2 hsz,hne x hx.2 (hnew x hx.1)⟩
theorem KidsAt.tree (h:KidsAt w lo ov ks) (kind:Int):∃ A c,ov=.slice A ks.length c∧Treed w (fun x=>lo≤x∧x < w.heap.size) (.mk kind 0 0 [] ks) #[.int .i64 kind,.slice none 0 0,.int .i64 0,.int .i64 0,.slice A ks.length c]:=by
 obtain ⟨vs,h0,ho,hk⟩:=h.ex
 obtain ⟨A,c,hv,hc,hl⟩:=LiesP.own (P:=fun x=>lo≤x∧x < w.heap.size) ho (fun x h1 h2 _=>⟨h1,h2⟩)
 exact ⟨A,c,hv,.mk (rs:=[]) vs LiesP.none (by decide) h0 hl hc fun i h1 h2=>(hk i h1 h2).mono fun x hx=>⟨hx.1,hx.2.1⟩⟩
end
def TogTo (w:World) (lo:Nat) (n:Nd) (ed:Ending) (w':World):Prop :=
 ∃ v,ed=.returned (.agg v)∧Treed w' (fun x=>lo≤x∧x < w'.heap.size) n v∧w.grownBy w' none
theorem together_any (w:World) (lo:Nat) (kind:Int) (ov:Value) (ks:List Nd) (h:KidsAt w lo ov ks) (_:lo≤w.heap.size) :
 Calls Tryz.prog 57 #[.int .i64 kind,ov] w (TogTo w lo (togT kind ks)):=by
 obtain ⟨A,c,rfl,ht⟩:=h.tree kind
 have HT:=qh ht
 obtain ⟨w0,hw0⟩:∃ u,w.alloc (.cells #[.int .i64 0,.slice none 0 0,.int .i64 0,.int .i64 0,.slice none 0 0] 25)=u:=⟨_,rfl⟩
 have G0:Hid (w.grownBy w0 none):=qh (hw0▸grown_new w _ none)
 have X0:Hid (Box w0 w.heap.size ndZero 25):=qh (hw0▸Box.new w _ _)
 have HFIN:Hid (∀ (w1:World) (n:Nd) (v:Array Value),Treed w (fun x=>lo≤x∧x < w.heap.size) n v→w0.grownBy w1 (some w.heap.size)→Treed w1 (fun x=>lo≤x∧x < w1.heap.size) n v∧w.grownBy w1 none):=qh fun w1 n v t g=>by
  refine ⟨((t.grown G0.out (fun x _ e=>by cases e)).grown g (fun x hx e=>by injection e with e;omega)).mono fun x hx=>⟨hx.1,Nat.lt_of_lt_of_le hx.2 (Nat.le_trans G0.out.size g.size)⟩,grown_two G0.out g (Nat.le_refl _)⟩
 subst hw0
 clear ht
 rcases ks with _ | ⟨n,_ | ⟨m,ns⟩⟩
 ·have HE:Hid (Treed w (fun x=>lo≤x∧x < w.heap.size) (.mk 1 0 0 [] []) #[.int .i64 1,.slice none 0 0,.int .i64 0,.int .i64 0,.slice none 0 0]):=qh (.mk (rs:=[]) (ks:=[]) [] LiesP.none (by decide) rfl LiesP.none (by decide) fun i h1=>by simp at h1)
  clear h
  go_enter Tryz.func57,Tryz.ntmps57
  go_wp2_with (first
   | (refine store_nd _ _ _ w.heap.size ndZero #[.int .i64 1,.slice none 0 0,.int .i64 0,.int .i64 0,.slice none 0 0] rfl rfl rfl rfl rfl X0.out rfl rfl (by simp [Value.oneCell']) ?_;intro w1 x1 g1;have X1:=qh x1;have F1:=qh (HFIN.out w1 _ _ HE.out g1);clear x1 g1)
   | fail)
  (try simp only [Exit.inBlock,Exit.then])
  exact bodyPost_ret (v:=.agg _) (ret_nd rfl _ _ w.heap.size _ rfl rfl X1.out) rfl ⟨_,rfl,F1.out.1,F1.out.2⟩
 ·obtain ⟨vs,h0,ho,hk⟩:=h.ex
  obtain ⟨v,rfl⟩:∃ v,vs=[v]:=by
   rcases vs with _ | ⟨v,_ | ⟨v',vs⟩⟩
   ·simp at h0
   ·exact ⟨v,rfl⟩
   ·simp at h0
  have hn:=hk 0 (by simp) (by simp)
  simp only [List.getElem_cons_zero] at hn
  have HN:Hid (Treed w (fun x=>lo≤x∧x < w.heap.size) n v):=qh (hn.mono fun x hx=>⟨hx.1,hx.2.1⟩)
  obtain ⟨k1,Ar,nr,cr,lo1,hi1,Ak,nk,ck,rfl⟩:=hn.form
  obtain ⟨g,c',hv,-,-,hgl,hcell⟩:=ho.block (by simp)
  injection hv with hA _ _
  subst hA
  have hkc:∀ i,(w.alloc (.cells #[.int .i64 0,.slice none 0 0,.int .i64 0,.int .i64 0,.slice none 0 0] 25)).cell? ⟨g,i,none⟩=w.cell? ⟨g,i,none⟩:=fun i=>World.cell?_of_block (a:=⟨g,i,none⟩) (G0.out.block g hgl (by simp))
  have q0:=(hkc 0).trans (hcell 0 (by simp))
  have q1:=(hkc 1).trans (hcell 1 (by simp))
  have q2:=(hkc 2).trans (hcell 2 (by simp))
  have q3:=(hkc 3).trans (hcell 3 (by simp))
  have q4:=(hkc 4).trans (hcell 4 (by simp))
  simp only [List.flatMap_cons,List.flatMap_nil,List.append_nil,List.getElem?_cons_zero,List.getElem?_cons_succ] at q0 q1 q2 q3 q4
  clear h ho hk hn hcell hkc h0
  show Calls Tryz.prog 57 #[.int .i64 kind,.slice (some ⟨g,0,none⟩) 1 c] w (TogTo w lo n)
  go_enter Tryz.func57,Tryz.ntmps57
  go_wp2_with (first
   | (refine store_nd _ _ _ w.heap.size ndZero #[.int .i64 k1,.slice Ar nr cr,.int .i64 lo1,.int .i64 hi1,.slice Ak nk ck] rfl rfl rfl rfl rfl X0.out rfl rfl (by simp [Value.oneCell']) ?_;intro w1 x1 g1;have X1:=qh x1;have F1:=qh (HFIN.out w1 _ _ HN.out g1);clear x1 g1)
   | fail)
  (try simp only [Exit.inBlock,Exit.then])
  exact bodyPost_ret (v:=.agg _) (ret_nd rfl _ _ w.heap.size _ rfl rfl X1.out) rfl ⟨_,rfl,F1.out.1,F1.out.2⟩
 ·have hl:(n :: m :: ns).length=ns.length+2:=rfl
  rw [hl] at HT ⊢
  obtain ⟨z,hz⟩:∃ z,ns.length+2=z:=⟨_,rfl⟩
  rw [hz] at HT ⊢
  have d0:((z:Int) == 0)=false:=by simp;omega
  have d1:((z:Int) == 1)=false:=by simp;omega
  have d2:(z == 0)=false:=by simp;omega
  have d3:(z == 1)=false:=by simp;omega
  clear h hz hl
  show Calls Tryz.prog 57 #[.int .i64 kind,.slice A z c] w (TogTo w lo (.mk kind 0 0 [] (n :: m :: ns)))
  go_enter Tryz.func57,Tryz.ntmps57
  go_wp2_with (first
   | (refine store_nd _ _ _ w.heap.size ndZero #[.int .i64 kind,.slice none 0 0,.int .i64 0,.int .i64 0,.slice A z c] rfl rfl rfl rfl rfl X0.out rfl rfl (by simp [Value.oneCell']) ?_;intro w1 x1 g1;have X1:=qh x1;have F1:=qh (HFIN.out w1 _ _ HT.out g1);clear x1 g1)
   | fail)
  (try simp only [Exit.inBlock,Exit.then])
  exact bodyPost_ret (v:=.agg _) (ret_nd rfl _ _ w.heap.size _ rfl rfl X1.out) rfl ⟨_,rfl,F1.out.1,F1.out.2⟩
end
end Go.Proofs.YtoeocodfndbebaaGreatDoor
