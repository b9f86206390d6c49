/- Shared texts, shaken for one claim. -/
import Derived.Test.YtoeocodfndbebaaGreatDoorZC34
set_option maxRecDepth 20000
set_option maxHeartbeats 16000000
namespace Go.Proofs.YtoeocodfndbebaaGreatDoor
section
open Go.RowKit
theorem dput_any (w:World) (b c k:Nat) (A:Option Addr) (l:List Int) (tv:Value) (T:List Tok) (p x:Int) (h:IsD w b A l c k tv T p x) (hT:T.length≤1000) (t:Tok) :
 Calls Tryz.prog 64 #[.pointer (some ⟨b,0,none⟩),.agg t.arr] w
  fun e w'=>e=.returned (.tuple #[])∧(∃ tv',IsD w' b A l c k tv' (T++[t]) p x)∧Below b w w':=by
 obtain ⟨w0,hw0⟩:∃ u,w.alloc (.cells t.arr 56)=u:=⟨_,rfl⟩
 have X0:Hid (Box w0 w.heap.size t.arr 56):=qh (hw0▸Box.new w _ _)
 have G0:Hid (w.grownBy w0 none):=qh (hw0▸grown_new w _ _)
 have H0:=qh (h.grown G0.out)
 have Z0:Hid (w0.heap.size=w.heap.size+1):=qh (by rw [← hw0];simp)
 have hbw:=h.lt
 obtain ⟨At,ct,rfl,-,-,-⟩:=h.toks.form
 have HF:Hid ((Value.slice At T.length ct).ownBlock≠some b):=qh h.far
 have HO:Hid ((Value.slice At T.length ct).ownBlock≠some w.heap.size):=qh (h.old (Nat.le_refl _))
 have HC:Hid (∀ u:World,Box u b #[.slice A l.length c,.int .i64 k,.slice At T.length ct,.int .i64 p,.int .i64 x] 77→Box u w.heap.size t.arr 56→u.cell? ⟨b,2,none⟩=some (.slice At T.length ct)∧u.cell? ⟨w.heap.size,0,none⟩=some (.int .i64 t.k)∧u.cell? ⟨w.heap.size,1,none⟩=some (.int .i64 t.c)∧u.cell? ⟨w.heap.size,2,none⟩=some (.int .i64 t.lo)∧u.cell? ⟨w.heap.size,3,none⟩=some (.int .i64 t.hi)∧u.cell? ⟨w.heap.size,4,none⟩=some (.int .i64 t.pos)):=qh fun u hb hx=>⟨hb.cell rfl,hx.cell rfl,hx.cell rfl,hx.cell rfl,hx.cell rfl,hx.cell rfl⟩
 have HW0:Hid ((w.alloc (.cells #[.int .i64 t.k,.int .i64 t.c,.int .i64 t.lo,.int .i64 t.hi,.int .i64 t.pos] 56))=w0):=qh hw0
 clear h hw0
 go_enter Tryz.func64,Tryz.ntmps64
 go_wp2_with fail
 rw [HW0.out]
 have hk:=HC.out w0.drew (H0.out.box.same rfl) (X0.out.same rfl)
 refine wp_region_E (S:=fun u=>u.cell? ⟨b,2,none⟩=some (.slice At T.length ct)∧u.cell? ⟨w.heap.size,0,none⟩=some (.int .i64 t.k)∧u.cell? ⟨w.heap.size,1,none⟩=some (.int .i64 t.c)∧u.cell? ⟨w.heap.size,2,none⟩=some (.int .i64 t.lo)∧u.cell? ⟨w.heap.size,3,none⟩=some (.int .i64 t.hi)∧u.cell? ⟨w.heap.size,4,none⟩=some (.int .i64 t.pos)) [10] (by kernel_rfl) (hk) (fun hHeld hZ=>?_)
 refine' eY 0 hHeld hZ fun hZ=>?_
 try simp only [Act.put,ZA,ZB,ZD,ZE,ZF]
 refine' eY 1 hHeld hZ fun hZ=>?_
 try simp only [Act.put,ZA,ZB,ZC,ZD,ZE,ZF]
 refine' eY 2 hHeld hZ fun hZ=>?_
 try simp only [Act.put,ZA,ZB,ZC,ZD,ZE,ZF]
 refine' eY 3 hHeld hZ fun hZ=>?_
 try simp only [Act.put,ZA,ZB,ZC,ZD,ZE,ZF]
 refine' eY 4 hHeld hZ fun hZ=>?_
 try simp only [Act.put,ZA,ZB,ZC,ZD,ZE,ZF]
 refine' eY 5 hHeld hZ fun hZ=>?_
 try simp only [Act.put,ZA,ZB,ZC,ZD,ZE,ZF]
 refine eA 6 fun K hK=>?_
 go_simp
 refine eB hK hZ (HC.out _ (by exact (H0.out.box.kept (grown_new w0 _ none) (by simp)).same rfl) (by exact (X0.out.kept (grown_new w0 _ none) (by simp)).same rfl)) fun hHeld hZ=>?_
 clear hK K
 try simp only [Act.put,ZA,ZB,ZC,ZD,ZE,ZF]
 refine eA 7 fun K hK=>?_
 refine step_appN toksT w0 _ (b+1) _ (.tmp 8) (.tmp 10) (.slice At T.length ct) T.length 1 (tokCells T) t.arr.toList _ _ rfl rfl rfl rfl (OwnN.same (H0.out.toks.alloc _) rfl) (Lies.sameHeap (Lies.lit (w:=w0) (e:=56) t.arr) rfl) rfl (arr_one _) (by exact below_same ((below_alloc w0 _).mono (by have:=Z0.out;omega)) rfl rfl rfl rfl) (by have:=Z0.out;simp;omega) (by unfold maxLen;omega) (by omega) ?_
 intro v2 w2 o2 b2 g2 e2
 obtain ⟨A2,c2,rfl,-,-,-⟩:=o2.form
 have X2:=qh (((X0.out.kept (grown_new w0 _ none) (by simp)).same (w':=(w0.alloc (.cells t.arr 56)).drew) rfl).kept g2 HO.out)
 have R2:=qh (((H0.out.box.kept (grown_new w0 _ none) (by simp)).same (w':=(w0.alloc (.cells t.arr 56)).drew) rfl).kept g2 HF.out)
 have O2:=qh o2
 have E2:=qh e2
 have B2:=qh b2
 have L2:=qh (H0.out.lies.below (b2.mono (Nat.le_succ _)))
 clear o2 e2 b2 g2
 refine eB hK hZ (HC.out _ R2.out X2.out) fun hHeld hZ=>?_
 clear hK K
 try simp only [Act.put,ZA,ZB,ZC,ZD,ZE,ZF]
 refine' eY 8 hHeld hZ fun hZ=>?_
 try simp only [Act.put,ZA,ZB,ZC,ZD,ZE,ZF]
 refine' eY 9 hHeld hZ fun hZ=>?_
 try simp only [Act.put,ZA,ZB,ZC,ZD,ZE,ZF]
 refine eA 10 fun K hK=>?_
 refine step_in w2 (.tmp 13) (.tmp 11) b 2 (.slice A2 (T.length+1) c2) _ rfl rfl rfl tokSlInfo rfl rfl rfl R2.out (by simp) (by simp [maxLen]) ?_
 intro w3 r3 g3
 have H3:Hid (IsD w3 b A l c k (.slice A2 (T.length+1) c2) (T++[t]) p x):=qh ⟨r3,by
  rw [List.length_append,tokCells_append,tokCells_one]
  exact O2.out.keep g3 (.inr fun e=>by have:=(O2.out.inside b e).1;omega),L2.out.same (fun q hq=>World.cell?_of_block (g3.block q.block (by have:=B2.out.size;have:=Z0.out;omega) (fun e=>by injection e with e;omega))),H0.out.le,H0.out.few⟩
 have B3:Hid (Below b w w3):=qh ((below_row_none G0.out (by omega)).trans ((B2.out.mono (Nat.le_succ _)).trans (below_row g3 (Nat.le_refl _) (by have:=B2.out.size;have:=Z0.out;omega))))
 clear r3 g3
 refine eE hK hZ fun hZ=>?_
 clear hK K
 try simp only [Act.put,ZA,ZB,ZC,ZD,ZE,ZF]
 refine wpAnyE_done (by kernel_rfl) ?_ _
 clear hZ
 exact bodyPost_end (results_none rfl _ _ _) rfl ⟨rfl,⟨_,H3.out⟩,B3.out⟩
def OneTo (w:World) (b c k:Nat) (A:Option Addr) (l:List Int) (tv:Value) (T:List Tok) (r:Wr (Tok×Nat)) (ed:Ending) (w':World):Prop:=w.grownBy w' (some b)∧match r with
 | .ok (t,k')=>ed=.returned (.tuple #[.int .i64 k,.int .i64 t.c,.bool (t.k == 12)])∧IsD w' b A l c k' tv T 0 0
 | .error (q,y)=>(∃ z g,ed=.returned (.tuple #[.int .i64 k,.int .i64 z,.bool g]))∧∃ k',IsD w' b A l c k' tv T q y
theorem bw (n:Nat) (h:n≤1000):IntKind.i64.wrap ((n:Int)+1)=((n+1:Nat):Int):=by rw [IntWalk.i64_in _ (by omega)];omega
theorem done_any (w:World) (b c k:Nat) (A:Option Addr) (l:List Int) (tv:Value) (T:List Tok) (h:IsD w b A l c k tv T 0 0) (hk:k < l.length) :
 Calls Tryz.prog 68 #[.pointer (some ⟨b,0,none⟩)] w (OneTo w b c k A l tv T (itemT l k)):=by
 have hfew:=h.few
 have c0:=h.c0
 have c1:=h.c1
 obtain ⟨g,off,rfl,hg,cc⟩:=h.char hk
 have k0:(0:Int)≤(k:Int):=by omega
 have k1:(k:Int) < (l.length:Int):=by omega
 have hw:=bw k (by omega)
 have H:=qh h
 have hit:itemT l k=if l[k]=92 then escT l k (k+1) else .ok (chT l[k],k+1):=by unfold itemT;rw [nxT_at hk]
 obtain ⟨y,hy⟩:∃ y,l[k]=y:=⟨_,rfl⟩
 rw [hy] at cc hit
 have HD:Hid (∀ n,IsD (w.drewN n) b (some ⟨g,off,none⟩) l c k tv T 0 0):=qh fun n=>h.grown (grown_draws (grown_refl w none) n)
 clear h hy
 by_cases h92:y=92
 ·rw [if_pos h92] at hit
  have d0:(y != 92)=false:=by simpa using h92
  by_cases hk2:k+1 < l.length
  ·have hes:escT l k (k+1)=match escI l[k+1] with
    | none=>.error (k,6)
    | some (x,true)=>.ok (⟨12,x,0,0,0⟩,k+2)
    | some (x,false)=>.ok (chT x,k+2):=by
    unfold escT
    rw [nxT_at hk2]
    simp only
    rcases escI l[k+1] with _ | ⟨x,_ | _⟩ <;> rfl
   obtain ⟨y2,hy2⟩:∃ y,l[k+1]=y:=⟨_,rfl⟩
   have HX:=qh (fun u=>rescape15_any y2 u)
   have HCH:Hid (∀ u,IsD u b (some ⟨g,off,none⟩) l c (k+1) tv T 0 0→u.cell? ⟨g,off+(k+1),none⟩=some (.int .i64 y2)):=qh fun u hu=>by
    obtain ⟨g',off',hA,-,hc⟩:=hu.char hk2
    injection hA with hA
    injection hA with e1 e2
    subst e1 e2
    rw [hc,hy2]
   rw [hy2] at hes
   rw [hes] at hit
   have j0:(0:Int)≤((k+1:Nat):Int):=by omega
   have j1:((k+1:Nat):Int) < (l.length:Int):=by omega
   obtain ⟨n,hn⟩:∃ n:Nat,k+1=n:=⟨_,rfl⟩
   have HN:=qh hn
   rw [hn] at HCH j0 j1 hw hk2
   have hw2:=bw n (by omega)
   have HK2:=qh hk2
   have HIT:=qh hit
   clear h92 hy2 hes hit hn hk2
   go_enter Tryz.func68,Tryz.ntmps68
   go_wp2_with fail
   go_quiet (fail)
   go_wp2_with (first
    | (refine storeD_at _ _ _ n rfl rfl rfl rfl rfl (HD.out _) (by have:=HK2.out;omega) ?_;intro w1 h1 g1;have H1:=qh h1;have G1:Hid (w.grownBy w1 (some b)):=qh ((grown_draws (grown_refl w (some b)) _).trans g1);clear h1 g1)
    | fail)
   refine (dends_not w1 b c n _ l tv T 0 0 H1.out HK2.out).mono ?_
   rintro e w2 ⟨rfl,g2⟩
   have H2:=qh (H1.out.grown g2)
   have G2:=qh (G1.out.trans (grown_any g2 (some b)))
   clear g2 c0 c1 cc
   go_wp2_with fail
   refine wp_region_held_drew (S:=fun u=>u.cell? ⟨b,0,none⟩=some (.slice (some ⟨g,off,none⟩) l.length c)∧u.cell? ⟨b,1,none⟩=some (.int .i64 n)∧u.cell? ⟨g,off+n,none⟩=some (.int .i64 y2)) (by kernel_rfl) (by exact ⟨H2.out.drew.c0,H2.out.drew.c1,HCH.out _ H2.out.drew⟩) (fun hHeld=>?_)
   refine' hY 0 ?_
   try simp only [Act.put,ZA,ZB,ZD,ZE,ZF]
   refine' hY 1 ?_
   try simp only [Act.put,ZA,ZB,ZC,ZD,ZE,ZF]
   refine' hY 2 ?_
   try simp only [Act.put,ZA,ZB,ZC,ZD,ZE,ZF]
   refine' hY 3 ?_
   try simp only [Act.put,ZA,ZB,ZC,ZD,ZE,ZF]
   refine' hY 4 ?_
   try simp only [Act.put,ZA,ZB,ZC,ZD,ZE,ZF]
   refine' hY 5 ?_
   try simp only [Act.put,ZA,ZB,ZC,ZD,ZE,ZF]
   refine' hY 6 ?_
   try simp only [Act.put,ZA,ZB,ZC,ZD,ZE,ZF]
   refine' hY 7 ?_
   try simp only [Act.put,ZA,ZB,ZC,ZD,ZE,ZF]
   refine' hY 8 ?_
   try simp only [Act.put,ZA,ZB,ZC,ZD,ZE,ZF]
   refine' hY 9 ?_
   try simp only [Act.put,ZA,ZB,ZC,ZD,ZE,ZF]
   refine hA 10 fun K hK=>?_
   go_simp
   refine (HX.out _).mono ?_
   rintro e wq ⟨rfl,rfl⟩
   unfold escV
   rcases hE:escI y2 with _ | ⟨x2,_ | _⟩
   ·simp only
    go_wp2_with fail
    refine hK.out _ _ (by exact ⟨H2.out.drew.c0,H2.out.drew.c1,HCH.out _ H2.out.drew⟩) (fun hHeld=>?_)
    clear hK K
    try simp only [Act.put,ZA,ZB,ZC,ZD,ZE,ZF]
    refine' hY 11 ?_
    try simp only [Act.put,ZA,ZB,ZC,ZD,ZE,ZF]
    refine' hY 12 ?_
    try simp only [Act.put,ZA,ZB,ZC,ZD,ZE,ZF]
    refine' hY 13 ?_
    try simp only [Act.put,ZA,ZB,ZC,ZD,ZE,ZF]
    refine' hY 14 ?_
    try simp only [Act.put,ZA,ZB,ZC,ZD,ZE,ZF]
    refine' hY 15 ?_
    try simp only [Act.put,ZA,ZB,ZC,ZD,ZE,ZF]
    refine' hY 16 ?_
    try simp only [Act.put,ZA,ZB,ZC,ZD,ZE,ZF]
    refine' hY 17 ?_
    try simp only [Act.put,ZA,ZB,ZC,ZD,ZE,ZF]
    refine wpAnyH_done (by kernel_rfl) ?_ _
    go_wp2_with fail
    refine (dfail_new _ b c n _ l tv T 0 (by exact H2.out.drew) (k:Int) 6).mono ?_
    rintro e w3 ⟨rfl,h3,g3⟩
    have H3:=qh h3
    have G3:Hid (w.grownBy w3 (some b)):=qh ((by exact grown_draw G2.out:w.grownBy _ (some b)).trans g3)
    have c1:=h3.c1
    clear h3 g3
    go_wp2_with (first
     | (refine storeD_at _ _ _ (n+1) rfl rfl rfl rfl rfl H3.out (by have:=HK2.out;omega) ?_;intro w4 h4 g4;have H4:=qh h4;have G4:=qh (G3.out.trans g4);clear h4 g4)
     | fail)
    go_ret3
    rw [HIT.out,hE]
    exact ⟨G4.out,⟨_,_,rfl⟩,_,H4.out⟩
   ·simp only
    go_wp2_with fail
    refine hK.out _ _ (by exact ⟨H2.out.drew.c0,H2.out.drew.c1,HCH.out _ H2.out.drew⟩) (fun hHeld=>?_)
    clear hK K
    try simp only [Act.put,ZA,ZB,ZC,ZD,ZE,ZF]
    refine' hY 11 ?_
    try simp only [Act.put,ZA,ZB,ZC,ZD,ZE,ZF]
    refine' hY 12 ?_
    try simp only [Act.put,ZA,ZB,ZC,ZD,ZE,ZF]
    refine' hY 13 ?_
    try simp only [Act.put,ZA,ZB,ZC,ZD,ZE,ZF]
    refine' hY 14 ?_
    try simp only [Act.put,ZA,ZB,ZC,ZD,ZE,ZF]
    refine' hY 15 ?_
    try simp only [Act.put,ZA,ZB,ZC,ZD,ZE,ZF]
    refine' hY 16 ?_
    try simp only [Act.put,ZA,ZB,ZC,ZD,ZE,ZF]
    refine' hY 17 ?_
    try simp only [Act.put,ZA,ZB,ZC,ZD,ZE,ZF]
    refine wpAnyH_done (by kernel_rfl) ?_ _
    have c1:=H2.out.drew.c1
    go_wp2_with (first
     | (refine storeD_at _ _ _ (n+1) rfl rfl rfl rfl rfl (by exact H2.out.drew) (by have:=HK2.out;omega) ?_;intro w4 h4 g4;have H4:=qh h4;have G4:Hid (w.grownBy w4 (some b)):=qh ((by exact grown_draw G2.out:w.grownBy _ (some b)).trans g4);clear h4 g4)
     | fail)
    go_ret3
    rw [HIT.out,hE]
    have hn2:n+1=k+2:=by have:=HN.out;omega
    exact ⟨G4.out,rfl,hn2▸H4.out⟩
   ·simp only
    go_wp2_with fail
    refine hK.out _ _ (by exact ⟨H2.out.drew.c0,H2.out.drew.c1,HCH.out _ H2.out.drew⟩) (fun hHeld=>?_)
    clear hK K
    try simp only [Act.put,ZA,ZB,ZC,ZD,ZE,ZF]
    refine' hY 11 ?_
    try simp only [Act.put,ZA,ZB,ZC,ZD,ZE,ZF]
    refine' hY 12 ?_
    try simp only [Act.put,ZA,ZB,ZC,ZD,ZE,ZF]
    refine' hY 13 ?_
    try simp only [Act.put,ZA,ZB,ZC,ZD,ZE,ZF]
    refine' hY 14 ?_
    try simp only [Act.put,ZA,ZB,ZC,ZD,ZE,ZF]
    refine' hY 15 ?_
    try simp only [Act.put,ZA,ZB,ZC,ZD,ZE,ZF]
    refine' hY 16 ?_
    try simp only [Act.put,ZA,ZB,ZC,ZD,ZE,ZF]
    refine' hY 17 ?_
    try simp only [Act.put,ZA,ZB,ZC,ZD,ZE,ZF]
    refine wpAnyH_done (by kernel_rfl) ?_ _
    have c1:=H2.out.drew.c1
    go_wp2_with (first
     | (refine storeD_at _ _ _ (n+1) rfl rfl rfl rfl rfl (by exact H2.out.drew) (by have:=HK2.out;omega) ?_;intro w4 h4 g4;have H4:=qh h4;have G4:Hid (w.grownBy w4 (some b)):=qh ((by exact grown_draw G2.out:w.grownBy _ (some b)).trans g4);clear h4 g4)
     | fail)
    go_ret3
    rw [HIT.out,hE]
    have hn2:n+1=k+2:=by have:=HN.out;omega
    exact ⟨G4.out,rfl,hn2▸H4.out⟩
  ·have hkl:l.length=k+1:=by omega
   have hes:escT l k (k+1)=.error (k+1,4):=by unfold escT;rw [nxT_end (by omega)]
   rw [hes] at hit
   have HIT:=qh hit
   have HKL:=qh hkl
   clear h92 hes hit hk2 hkl
   go_enter Tryz.func68,Tryz.ntmps68
   go_wp2_with fail
   go_quiet (fail)
   go_wp2_with (first
    | (refine storeD_at _ _ _ (k+1) rfl rfl rfl rfl rfl (HD.out _) (by have:=HKL.out;omega) ?_;intro w1 h1 g1;have H1:Hid (IsD w1 b (some ⟨g,off,none⟩) l c l.length tv T 0 0):=qh (by rw [HKL.out];exact h1);have G1:Hid (w.grownBy w1 (some b)):=qh ((grown_draws (grown_refl w (some b)) _).trans g1);clear h1 g1)
    | fail)
   refine (dends_end w1 b c _ l tv T 0 H1.out).mono ?_
   rintro e w2 ⟨rfl,h2,g2⟩
   have H2:=qh h2
   have G2:=qh (G1.out.trans g2)
   clear h2 g2 c0 c1 cc
   go_wp2_with fail
   go_ret3
   rw [HIT.out]
   have h2:=H2.out
   have e:((l.length:Nat):Int)=((k+1:Nat):Int):=by rw [HKL.out]
   rw [e] at h2
   exact ⟨G2.out,⟨_,_,rfl⟩,l.length,h2⟩
 ·rw [if_neg h92] at hit
  have d0:(y != 92)=true:=by simpa using h92
  have HIT:=qh hit
  have HK:=qh hk
  clear h92 hit hk
  go_enter Tryz.func68,Tryz.ntmps68
  go_wp2_with fail
  go_quiet (fail)
  go_wp2_with (first
   | (refine storeD_at _ _ _ (k+1) rfl rfl rfl rfl rfl (HD.out _) (by have:=HK.out;omega) ?_;intro w1 h1 g1;have H1:=qh h1;have G1:Hid (w.grownBy w1 (some b)):=qh ((grown_draws (grown_refl w (some b)) _).trans g1);clear h1 g1)
   | fail)
  go_ret3
  rw [HIT.out]
  exact ⟨G1.out,rfl,H1.out⟩
end
section
open Go.RowKit
def numG (n d:Int):Int:=min 1000 (n * 10+d - 48)
def numD (D:List Int):Int:=if D=[]∨(D[0]?=some 48∧1 < D.length)∨20 < D.foldl numG 0 then -1 else D.foldl numG 0
theorem numG_bound {n x:Int} (h0:0≤n) (hx:isDig x=true):0≤numG n x∧numG n x≤1000:=by
 simp only [isDig,Bool.and_eq_true,decide_eq_true_eq] at hx
 unfold numG;omega
theorem numG_fold:∀ (D:List Int) (n a:Int),0≤n→0≤a→n≤1000→a≤21→(n=a∨(20 < n∧a=21))→(∀ d∈D,isDig d=true)→(D.foldl numG n=D.foldl numF a∨(20 < D.foldl numG n∧D.foldl numF a=21))∧0≤D.foldl numG n
 | [],n,a,h0,_,_,_,h,_=>⟨h,h0⟩
 | d :: D,n,a,h0,ha,hn,ha2,h,hD=>by
  have hx:=hD d (by simp)
  have hg:=numG_bound h0 hx
  have hf:=numF_bound ha hx
  simp only [List.foldl_cons]
  refine numG_fold D _ _ hg.1 hf.1 hg.2 hf.2 ?_ (fun y hy=>hD y (by simp [hy]))
  simp only [isDig,Bool.and_eq_true,decide_eq_true_eq] at hx
  unfold numG numF
  omega
theorem numD_is (D:List Int) (hD:∀ d∈D,isDig d=true):numD D=if D=[]∨numT D=21 then -1 else numT D:=by
 have h:=numG_fold D 0 0 (by omega) (by omega) (by omega) (by omega) (.inl rfl) hD
 have hb:=numFold_bound D 0 (by omega) (by omega) hD
 unfold numD numT
 by_cases h0:D=[]
 ·rw [if_pos (.inl h0),if_pos (.inl h0)]
 ·simp only [h0,false_or]
  by_cases h1:D[0]?=some 48∧1 < D.length
  ·simp [h1]
  ·simp only [h1,false_or,if_false]
   split <;> split <;> omega
theorem readAt_d {w:World} {b c k:Nat} {A:Option Addr} {l:List Int} {tv:Value} {T:List Tok} {p x:Int} (h:IsD w b A l c k tv T p x):readAt b w=k:=by
 unfold readAt;rw [h.c1];simp
def NumTo (w:World) (b c k':Nat) (A:Option Addr) (l:List Int) (tv:Value) (T:List Tok) (n:Int) (ed:Ending) (w':World):Prop :=
 ed=.returned (.int .i64 n)∧IsD w' b A l c k' tv T 0 0∧w.grownBy w' (some b)
theorem dnumber_any (w:World) (b c k:Nat) (A:Option Addr) (l:List Int) (tv:Value) (T:List Tok) (h:IsD w b A l c k tv T 0 0) :
 Calls Tryz.prog 80 #[.pointer (some ⟨b,0,none⟩)] w (NumTo w b c (k+(digT l k).length) A l tv T (numD (digT l k))):=by
 have c0:=h.c0
 have c1:=h.c1
 have H:=qh h
 have hkl:=h.le
 have hfew:=h.few
 obtain ⟨D,hD⟩:∃ D,digT l k=D:=⟨_,rfl⟩
 have hall:=digT_all l k
 rw [hD] at hall ⊢
 obtain ⟨m,hm⟩:∃ m,D.length=m:=⟨_,rfl⟩
 have hml:k+m≤l.length:=by have:=digT_length l k;rw [hD,hm] at this;omega
 have HD:=qh hD
 have HM:=qh hm
 have HA:=qh hall
 have HMR:Hid (∀ j,j≤m→(j < m↔∃ x,l[k+j]?=some x∧isDig x=true)):=qh (fun j hj=>by rw [← hm,← hD];exact digT_more (by rw [hD,hm];exact hj))
 have HX:Hid (∀ j (hj:j < m),l[k+j]?=D[j]?):=qh (fun j hj=>by
  have:=digT_take l k
  rw [hD] at this
  rw [this,List.getElem?_take,if_pos (by omega),List.getElem?_drop])
 obtain ⟨z,hz⟩:∃ z,numD D=z:=⟨_,rfl⟩
 have HZ:=qh hz
 rw [hm,hz]
 clear h hD hm hall hz
 go_enter Tryz.func80,Tryz.ntmps80
 go_wp2
 clear c0 c1
 go_loopw [4] (fun nv wr=>∃ (j:Nat) (n:Int),j≤m∧nv=.int .i64 n∧Hid ((D.take j).foldl numG 0=n)∧0≤n∧n≤1000∧Hid (IsD wr b A l c (k+j) tv T 0 0)∧Hid (w.grownBy wr (some b))) (fun _ wr=>l.length - readAt b wr)
 case atStart=>exact ⟨0,0,by omega,rfl,qh rfl,by omega,by omega,H,qh (grown_refl _ _)⟩
 case round =>
  obtain ⟨j,n,hj,rfl,HN,hn0,hn1,HR,HG⟩:=hrel
  obtain ⟨i,hi⟩:∃ i,k+j=i:=⟨_,rfl⟩
  have hmr:=HMR.out j hj
  have hxr:=HX.out j
  rw [hi] at HR hmr hxr
  have HRN:Hid (∀ q,IsD (wr.drewN q) b A l c i tv T 0 0):=qh fun q=>HR.out.grown (grown_draws (grown_refl wr none) q)
  have c0:=HR.out.c0
  have c1:=HR.out.c1
  have hil:=HR.out.le
  have HI:=qh hi
  by_cases hjm:j < m
  ·obtain ⟨x,hx,hdig⟩:=hmr.1 hjm
   obtain ⟨hlt,hx'⟩:=List.getElem?_eq_some_iff.1 hx
   obtain ⟨g,off,hA,-,hc⟩:=HR.out.char hlt
   have HC:Hid (∀ q,IsD (wr.drewN q) b A l c i tv T 0 0→(wr.drewN q).cell? ⟨g,off+i,none⟩=some (.int .i64 x)):=qh fun q hu=>by
    obtain ⟨g',off',hA',-,hc'⟩:=hu.char hlt
    rw [hA] at hA'
    injection hA' with hA'
    injection hA' with e1 e2
    subst e1 e2
    rw [hc',hx']
   rw [hx'] at hc
   have hDj:D[j]?=some x:=by rw [← hxr hjm];exact hx
   obtain ⟨hjD,hDx⟩:=List.getElem?_eq_some_iff.1 hDj
   have HS:Hid ((D.take (j+1)).foldl numG 0=numG n x):=qh (by rw [List.take_succ_eq_append_getElem hjD,List.foldl_append,HN.out,hDx];rfl)
   have HB:=qh (numG_bound hn0 hdig)
   have k0:(0:Int)≤(i:Int):=by omega
   have k1:(i:Int) < (l.length:Int):=by omega
   have d0:decide ((i:Int) < (l.length:Int))=true:=decide_eq_true k1
   simp only [isDig,Bool.and_eq_true] at hdig
   obtain ⟨h48,h57⟩:=hdig
   have g48:decide (x ≥ 48)=true:=h48
   have r48:=of_decide_eq_true h48
   have r57:=of_decide_eq_true h57
   obtain ⟨v,hv⟩:∃ v,n * 10+x - 48=v:=⟨_,rfl⟩
   have hw1:IntKind.i64.wrap (n * 10)=n * 10:=IntWalk.i64_in _ (by omega)
   have hw2:IntKind.i64.wrap (n * 10+x)=n * 10+x:=IntWalk.i64_in _ (by omega)
   have hw3:IntKind.i64.wrap (n * 10+x - 48)=v:=by rw [IntWalk.i64_in _ (by omega)];exact hv
   have HF:Hid (numG n x=min 1000 v):=qh (by unfold numG;rw [hv])
   have hw:=bw i (by omega)
   have HLT:=qh hlt
   have HJM:=qh hjm
   clear hv hmr hxr hx hx' hDj hDx hi hlt hjm r48 r57
   subst hA
   go_wp2_with fail
   go_quiet (fail)
   go_wp2_with fail
   go_region
   have c1:=(HRN.out (nq+1)).c1
   go_wp2_with (first
    | (refine storeD_at _ _ _ (i+1) rfl rfl rfl rfl rfl (HRN.out _) (by have:=HLT.out;omega) ?_;intro w2 h2 g2;have H2:=qh h2;have G2:=qh ((grown_draws HG.out _).trans g2);clear h2 g2)
    | fail)
   refine ⟨⟨j+1,min 1000 v,by have:=HJM.out;omega,rfl,qh (by rw [HS.out,HF.out]),by have:=HB.out;rw [HF.out] at this;exact this.1,by have:=HB.out;rw [HF.out] at this;exact this.2,by rw [show k+(j+1)=i+1 by have:=HI.out;omega];exact H2,G2⟩,?_⟩
   have e0:readAt b wr=i:=by have:=(HRN.out 0).c1;unfold readAt;rw [show wr.cell? ⟨b,1,none⟩=some (.int .i64 (i:Int)) from this];simp
   rw [readAt_d H2.out,e0]
   have:=HLT.out
   omega
  ·have hjm2:j=m:=by omega
   subst hjm2
   have HN2:D.foldl numG 0=n:=by have:=HN.out;rw [← HM.out,List.take_length] at this;exact this
   have hkw:=bw k (by omega)
   have HR2:=HRN
   rw [← hi] at HR2
   have hno:∀ hlt:i < l.length,¬ (48≤l[i]∧l[i]≤57):=by
    intro hlt hx
    refine hjm (hmr.2 ⟨l[i],List.getElem?_eq_getElem hlt,?_⟩)
    simp [isDig,hx.1,hx.2]
   have hT:((((i:Int) == (k:Int))=true)∧numD D=-1)∨(∃ (hkl:k < l.length) (x0:Int),l[k]=x0∧(((i:Int) == (k:Int))=false)∧((((x0 == 48)=true∧decide ((i:Int) > ((k+1:Nat):Int))=true)∧numD D=-1)∨(((x0 == 48)=false∨((x0 == 48)=true∧decide ((i:Int) > ((k+1:Nat):Int))=false))∧((decide (n > 20)=true∧numD D=-1)∨(decide (n > 20)=false∧numD D=n))))):=by
    have hm:=HM.out
    by_cases hj0:j=0
    ·refine .inl ⟨by simp;omega,?_⟩
     unfold numD
     rw [if_pos (.inl (List.eq_nil_of_length_eq_zero (by omega)))]
    ·have h0:=HX.out 0 (by omega)
     have hne:D≠[]:=fun e=>by rw [e] at hm;simp at hm;omega
     rw [Nat.add_zero,List.getElem?_eq_getElem (by omega)] at h0
     refine .inr ⟨by omega,l[k]'(by omega),rfl,by simp;omega,?_⟩
     have e48:D[0]?=some 48↔l[k]'(by omega)=48:=by rw [← h0];simp
     unfold numD
     rw [HN2]
     by_cases hz:D[0]?=some 48∧1 < D.length
     ·exact .inl ⟨⟨by simpa using e48.1 hz.1,decide_eq_true (by omega)⟩,by rw [if_pos (.inr (.inl hz))]⟩
     ·refine .inr ⟨?_,?_⟩
      ·rcases hx:(l[k]'(by omega) == 48) with _ | _
       ·exact .inl rfl
       ·refine .inr ⟨rfl,decide_eq_false fun hgt=>hz ⟨e48.2 (by simpa using hx),by omega⟩⟩
      ·by_cases h20:n > 20
       ·exact .inl ⟨decide_eq_true h20,by rw [if_pos (.inr (.inr h20))]⟩
       ·exact .inr ⟨decide_eq_false h20,by rw [if_neg (by rintro (h | h | h) <;> first | exact hne h | exact hz h | exact h20 h)]⟩
   rw [HZ.out] at hT
   clear HZ
   have HE:(decide ((i:Int) < (l.length:Int))=false∧decide (i < l.length)=false)∨(decide ((i:Int) < (l.length:Int))=true∧(i:Int) < (l.length:Int)∧∃ x g off,A=some ⟨g,off,none⟩∧wr.cell? ⟨g,off+i,none⟩=some (.int .i64 x)∧(decide (x ≥ 48)=false∨(decide (x ≥ 48)=true∧decide (x≤57)=false))):=by
    by_cases hlt:i < l.length
    ·obtain ⟨g,off,hA,-,hc⟩:=HR.out.char hlt
     refine .inr ⟨decide_eq_true (by omega),by omega,l[i],g,off,hA,hc,?_⟩
     by_cases h48:48≤l[i]
     ·exact .inr ⟨decide_eq_true h48,decide_eq_false fun h57=>hno hlt ⟨h48,h57⟩⟩
     ·exact .inl (decide_eq_false h48)
    ·exact .inl ⟨decide_eq_false (by omega),decide_eq_false (by omega)⟩
   have HGD:Hid (∀ q,w.grownBy (wr.drewN q) (some b)):=qh fun q=>grown_draws HG.out q
   have HCK:Hid (∀ (hkl:k < l.length) g off,A=some ⟨g,off,none⟩→wr.cell? ⟨g,off+k,none⟩=some (.int .i64 l[k])):=qh fun hkl g off hA=>by
    obtain ⟨g',off',hA',-,hc'⟩:=HR.out.char hkl
    rw [hA] at hA'
    injection hA' with hA'
    injection hA' with e1 e2
    subst e1 e2
    exact hc'
   have k0:(0:Int)≤(i:Int):=by omega
   have b0:(0:Int)≤(k:Int):=by omega
   have HRC:Hid (∀ (hkl:k < l.length),∃ g off,A=some ⟨g,off,none⟩):=qh fun hkl=>by
    obtain ⟨g',off',hA',-,-⟩:=HR.out.char hkl
    exact ⟨_,_,hA'⟩
   clear hno hmr hxr hjm HN2 hi HN HMR HX HA hj
   rcases hT with ⟨t0,rfl⟩ | ⟨hkl,x0,hx0,t0,hT⟩
   ·rcases HE with ⟨d0,d00⟩ | ⟨d0,k1,x,g,off,rfl,hc,d1 | ⟨d1,d2⟩⟩
    all_goals
     try go_wp2_with fail
     try go_quiet (fail)
     try go_wp2_with fail
     try go_quiet (fail)
     try go_wp2_with fail
     go_ret
     exact ⟨rfl,HR2.out _,HGD.out _⟩
   ·have k2:(k:Int) < (l.length:Int):=by omega
    have hckk:=HCK.out hkl
    rw [hx0] at hckk
    obtain ⟨g0,off0,hA0⟩:=HRC.out hkl
    have hck:=hckk _ _ hA0
    clear hckk hx0 HCK HRC
    subst hA0
    have HE2:(decide ((i:Int) < (l.length:Int))=false∧decide (i < l.length)=false)∨(decide ((i:Int) < (l.length:Int))=true∧(i:Int) < (l.length:Int)∧∃ x,wr.cell? ⟨g0,off0+i,none⟩=some (.int .i64 x)∧(decide (x ≥ 48)=false∨(decide (x ≥ 48)=true∧decide (x≤57)=false))):=by
     rcases HE with h | ⟨h1,h2,x,g,off,hA,h3,h4⟩
     ·exact .inl h
     ·injection hA with hA
      injection hA with e1 e2
      subst e1 e2
      exact .inr ⟨h1,h2,x,h3,h4⟩
    clear HE
    have more:∀ {q:Bool},decide ((i:Int) > ((k+1:Nat):Int))=q→decide (k+1 < i)=q:=fun {q} h=>by
     rw [← h];rcases hx:decide ((i:Int) > ((k+1:Nat):Int)) with _ | _
     ·have:=of_decide_eq_false hx;exact decide_eq_false (by omega)
     ·have:=of_decide_eq_true hx;exact decide_eq_true (by omega)
    have more2:∀ {q:Bool},decide ((i:Int) > ((k+1:Nat):Int))=q→decide ((k:Int)+1 < (i:Int))=q:=fun {q} h=>by
     rw [← h];rcases hx:decide ((i:Int) > ((k+1:Nat):Int)) with _ | _
     ·have:=of_decide_eq_false hx;exact decide_eq_false (by omega)
     ·have:=of_decide_eq_true hx;exact decide_eq_true (by omega)
    rcases hT with ⟨⟨t1,t2⟩,rfl⟩ | ⟨t1 | ⟨t1,t2⟩,⟨t3,rfl⟩ | ⟨t3,rfl⟩⟩
    all_goals try (have t22:=more t2)
    all_goals try (have t24:=more2 t2)
    all_goals try (have t33:decide (20 < n)=_:=t3)
    all_goals clear more more2
    all_goals try (have t23:decide (((k+1:Nat):Int) < (i:Int))=_:=t2)
    all_goals
     rcases HE2 with ⟨d0,d00⟩ | ⟨d0,k1,x,hc,d1 | ⟨d1,d2⟩⟩
     all_goals
      try go_wp2_with fail
      try go_quiet (fail)
      try go_wp2_with fail
      try go_quiet (fail)
      try go_wp2_with fail
      all_goals
       go_ret
       exact ⟨rfl,HR2.out _,HGD.out _⟩
end
end Go.Proofs.YtoeocodfndbebaaGreatDoor
