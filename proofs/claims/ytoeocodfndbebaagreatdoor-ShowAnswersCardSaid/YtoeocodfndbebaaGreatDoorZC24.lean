/- Shared texts, shaken for one claim. -/
import Derived.Test.YtoeocodfndbebaaGreatDoorZC23
set_option maxRecDepth 20000
set_option maxHeartbeats 16000000
namespace Go.Proofs.YtoeocodfndbebaaGreatDoor
section
open Go.RowKit
theorem strI_append (a b:ByteArray):strI (a++b)=strI a++strI b:=by simp [strI]
theorem digits_is:∀ n:Nat,strI ⟨(Lib.decDigits n).toArray⟩=digI n:=by
 intro n
 induction n using Nat.strongRecOn with
 | _ n ih =>
  unfold strI
  rw [Lib.decDigits,digI]
  by_cases h:n < 10
  ·rw [dif_pos h,if_pos h]
   simp
   omega
  ·rw [dif_neg h,if_neg h]
   have h1:=ih (n / 10) (by omega)
   unfold strI at h1
   simp only [List.map_append] at h1 ⊢
   rw [h1]
   simp
   omega
theorem itoa_is {n:Int} (h:0≤n):strI ⟨(Lib.itoa n).toArray⟩=digI n.toNat:=by
 unfold Lib.itoa
 rw [if_neg (by omega),digits_is]
theorem decDigits_dig:∀ n:Nat,∀ b∈Lib.decDigits n,b.toNat < 128:=by
 intro n
 induction n using Nat.strongRecOn with
 | _ n ih =>
  intro b hb
  rw [Lib.decDigits] at hb
  by_cases h:n < 10
  ·rw [dif_pos h] at hb
   simp at hb
   subst hb
   simp;omega
  ·rw [dif_neg h,List.mem_append] at hb
   rcases hb with hb | hb
   ·exact ih _ (by omega) b hb
   ·simp at hb
    subst hb
    simp;omega
structure Asc (s:ByteArray):Prop where
 len:s.size≤100
 low:∀ i (h:i < s.size),(s[i]'h).toNat < 128
theorem asc_of {s:ByteArray} {n:Nat} (h:∀ b∈s.data.toList,b.toNat < 128) (hn:s.data.toList.length≤n) (h100:n≤100):Asc s :=
 ⟨by have:s.size=s.data.toList.length:=by simp
     omega,fun i hi=>h _ (by simp;exact Array.getElem_mem _)⟩
/-! often -/
def OftenTo (w:World) (lo hi:Int) (ed:Ending) (w':World):Prop:=∃ s,ed=.returned (.string s)∧strI s=timesT lo hi∧Asc s∧w.grownBy w' none
theorem asc_app {a b:ByteArray} (ha:Asc a) (hb:Asc b) (h:a.size+b.size≤100):Asc (a++b):=by
 have h1:∀ (x:ByteArray),(∀ i (h:i < x.size),(x[i]'h).toNat < 128)→∀ y∈x.data.toList,y.toNat < 128:=fun x hx y hy=>by
  obtain ⟨i,hi,rfl⟩:=List.mem_iff_getElem.1 hy
  exact hx i (by simpa using hi)
 refine asc_of (n:=a.size+b.size) (fun y hy=>?_) ?_ h
 ·simp at hy
  rcases hy with hy | hy
  ·exact h1 a ha.low y (by simpa using hy)
  ·exact h1 b hb.low y (by simpa using hy)
 ·simp
theorem itoa_asc {n:Int} (h0:0≤n) (h1:n≤20):Asc ⟨(Lib.itoa n).toArray⟩∧(⟨(Lib.itoa n).toArray⟩:ByteArray).size≤2:=by
 have hl:(digI n.toNat).length≤2:=digI_len n.toNat (by omega)
 have h2:(⟨(Lib.itoa n).toArray⟩:ByteArray).size≤2:=by rw [← strI_length,itoa_is h0];exact hl
 refine ⟨asc_of (n:=2) (fun b hb=>?_) ?_ (by decide),h2⟩
 ·unfold Lib.itoa at hb
  rw [if_neg (by omega)] at hb
  exact decDigits_dig _ b (by simpa using hb)
 ·exact h2
theorem often_a (w:World) (hP:PowT w) (k lo hi:Int) (A A':Option Addr) (n c m c':Nat) (h:lo=0∧hi=1) :
 Calls Tryz.prog 34 #[.agg #[.int .i64 k,.slice A n c,.int .i64 lo,.int .i64 hi,.slice A' m c']] w (OftenTo w lo hi):=by
 have X0:Hid (Box (w.alloc (.cells #[.int .i64 k,.slice A n c,.int .i64 lo,.int .i64 hi,.slice A' m c'] 25)) w.heap.size #[.int .i64 k,.slice A n c,.int .i64 lo,.int .i64 hi,.slice A' m c'] 25):=qh (Box.new w _ _)
 have G0:Hid (w.grownBy (w.alloc (.cells #[.int .i64 k,.slice A n c,.int .i64 lo,.int .i64 hi,.slice A' m c'] 25)) none):=qh (grown_new w _ none)
 have HS:Hid (∀ u,Box u w.heap.size #[.int .i64 k,.slice A n c,.int .i64 lo,.int .i64 hi,.slice A' m c'] 25→(fun w'=>w'.cell? ⟨w.heap.size,0,none⟩=some (.int .i64 k)∧w'.cell? ⟨w.heap.size,1,none⟩=some (.slice A n c)∧w'.cell? ⟨w.heap.size,2,none⟩=some (.int .i64 lo)∧w'.cell? ⟨w.heap.size,3,none⟩=some (.int .i64 hi)∧w'.cell? ⟨w.heap.size,4,none⟩=some (.slice A' m c')) u):=qh fun u x=>⟨x.cell rfl,x.cell rfl,x.cell rfl,x.cell rfl,x.cell rfl⟩
 have HI:Hid (∀ u x,w.grownBy u none→-1≤x→x≤20→Calls Tryz.prog 50 #[.int .i64 x] u fun e w'=>e=.returned (.string ⟨(Lib.itoa x).toArray⟩)∧u.grownBy w' none):=qh fun u x g a b=>itoa_any x (by omega) (by omega) u (hP.grown g).tab
 have z0:(lo == 0 && hi == 1)=true:=by simp;try omega
 have y0:=fun u=>eq_two lo hi 0 1 u
 rw [z0] at y0
 have HB:Hid (-1≤lo∧lo≤20∧-1≤hi∧hi≤20):=qh (by omega)
 have HH:=qh h
 obtain ⟨sl,hsl⟩:∃ x:ByteArray,⟨(Lib.itoa lo).toArray⟩=x:=⟨_,rfl⟩
 obtain ⟨sh,hsh⟩:∃ x:ByteArray,⟨(Lib.itoa hi).toArray⟩=x:=⟨_,rfl⟩
 have HSL:=qh hsl
 have HSH:=qh hsh
 clear hP h hsl hsh z0
 go_enter Tryz.func34,Tryz.ntmps34
 go_wp2_with fail
 refine wp_region_held_drew (S:=fun w'=>w'.cell? ⟨w.heap.size,0,none⟩=some (.int .i64 k)∧w'.cell? ⟨w.heap.size,1,none⟩=some (.slice A n c)∧w'.cell? ⟨w.heap.size,2,none⟩=some (.int .i64 lo)∧w'.cell? ⟨w.heap.size,3,none⟩=some (.int .i64 hi)∧w'.cell? ⟨w.heap.size,4,none⟩=some (.slice A' m c')) (by kernel_rfl) (HS.out _ (by exact X0.out.same rfl)) (fun hHeld=>?_)
 refine' hY 0 ?_
 try simp only [Act.put,ZA,ZB,ZD,ZE,ZF]
 refine' hY 1 ?_
 try simp only [Act.put,ZA,ZB,ZC,ZD,ZE,ZF]
 refine' hY 3 ?_
 try simp only [Act.put,ZA,ZB,ZC,ZD,ZE,ZF]
 refine' hY 4 ?_
 try simp only [Act.put,ZA,ZB,ZC,ZD,ZE,ZF]
 refine hA 2 fun K hK=>?_
 go_simp
 refine (HI.out _ lo (by exact grown_draw G0.out) HB.out.1 HB.out.2.1).mono ?_
 rintro e w1 ⟨rfl,g1⟩
 rw [HSL.out]
 have G1:Hid (w.grownBy w1 none):=qh (World.grownBy.trans (by exact grown_draw G0.out) g1)
 have X1:Hid (Box w1 w.heap.size #[.int .i64 k,.slice A n c,.int .i64 lo,.int .i64 hi,.slice A' m c'] 25):=qh (Box.kept (by exact X0.out.same rfl) g1 (by simp))
 clear g1
 go_wp2_with fail
 refine hK.out _ _ (by exact HS.out _ (by exact X1.out.same rfl)) (fun hHeld=>?_)
 clear hK K
 try simp only [Act.put,ZA,ZB,ZC,ZD,ZE,ZF]
 refine hA 5 fun K hK=>?_
 go_simp
 refine (HI.out _ hi (by exact G1.out) HB.out.2.2.1 HB.out.2.2.2).mono ?_
 rintro e w2 ⟨rfl,g2⟩
 rw [HSH.out]
 have G2:Hid (w.grownBy w2 none):=qh (World.grownBy.trans (by exact G1.out) g2)
 have X2:Hid (Box w2 w.heap.size #[.int .i64 k,.slice A n c,.int .i64 lo,.int .i64 hi,.slice A' m c'] 25):=qh (Box.kept (by exact X1.out.same rfl) g2 (by simp))
 clear g2
 go_wp2_with fail
 refine hK.out _ _ (by exact HS.out _ (by exact X2.out.same rfl)) (fun hHeld=>?_)
 clear hK K
 try simp only [Act.put,ZA,ZB,ZC,ZD,ZE,ZF]
 refine' hY 6 ?_
 try simp only [Act.put,ZA,ZB,ZC,ZD,ZE,ZF]
 refine' hY 7 ?_
 try simp only [Act.put,ZA,ZB,ZC,ZD,ZE,ZF]
 refine wpAnyH_done (by kernel_rfl) ?_ _
 obtain ⟨e0,e1,e2,e3,e4⟩:=HS.out _ X2.out
 go_wp2_with fail
 refine (shtimes_any w2 k lo hi A A' n c m c').mono ?_
 rintro e w3 ⟨rfl,g3⟩
 have G3:=qh (G2.out.trans g3)
 have X3:=qh (X2.out.kept g3 (by simp))
 have T3:Hid (Box (w3.alloc (.cells #[.int .i64 0,.int .i64 0] 82)) w3.heap.size #[.int .i64 0,.int .i64 0] 82):=qh (Box.new w3 _ _)
 clear g3 e0 e1 e2 e3 e4
 go_wp2_with (first
  | (refine store_box _ _ _ w3.heap.size #[.int .i64 0,.int .i64 0] #[.int .i64 lo,.int .i64 hi] rfl rfl rfl rfl rfl T3.out rfl (by kernel_rfl) (by simp [Value.oneCell']) ?_
     intro w4 x4 g4
     have t0:w4.cell? ⟨w3.heap.size,0,none⟩=some (.int .i64 lo):=x4.cell rfl
     have t1:w4.cell? ⟨w3.heap.size,1,none⟩=some (.int .i64 hi):=x4.cell rfl
     have G4:=qh (G3.out.trans (grown_two (grown_new w3 _ none) g4 (Nat.le_refl _)))
     have X4:=qh ((X3.out.kept (grown_new w3 (.cells #[.int .i64 0,.int .i64 0] 82) none) (by simp)).kept g4 (by have:=X3.out.lt;simp;omega))
     obtain ⟨e0,e1,e2,e3,e4⟩:=HS.out _ X4.out
     clear x4 g4)
  | fail)
 go_ret
 refine ⟨⟨#[63]⟩,rfl,?_,⟨by decide,by decide⟩,G4.out⟩
 obtain ⟨rfl,rfl⟩:=HH.out
 rfl
theorem often_b (w:World) (hP:PowT w) (k lo hi:Int) (A A':Option Addr) (n c m c':Nat) (h:lo=0∧hi=-1) :
 Calls Tryz.prog 34 #[.agg #[.int .i64 k,.slice A n c,.int .i64 lo,.int .i64 hi,.slice A' m c']] w (OftenTo w lo hi):=by
 have X0:Hid (Box (w.alloc (.cells #[.int .i64 k,.slice A n c,.int .i64 lo,.int .i64 hi,.slice A' m c'] 25)) w.heap.size #[.int .i64 k,.slice A n c,.int .i64 lo,.int .i64 hi,.slice A' m c'] 25):=qh (Box.new w _ _)
 have G0:Hid (w.grownBy (w.alloc (.cells #[.int .i64 k,.slice A n c,.int .i64 lo,.int .i64 hi,.slice A' m c'] 25)) none):=qh (grown_new w _ none)
 have HS:Hid (∀ u,Box u w.heap.size #[.int .i64 k,.slice A n c,.int .i64 lo,.int .i64 hi,.slice A' m c'] 25→(fun w'=>w'.cell? ⟨w.heap.size,0,none⟩=some (.int .i64 k)∧w'.cell? ⟨w.heap.size,1,none⟩=some (.slice A n c)∧w'.cell? ⟨w.heap.size,2,none⟩=some (.int .i64 lo)∧w'.cell? ⟨w.heap.size,3,none⟩=some (.int .i64 hi)∧w'.cell? ⟨w.heap.size,4,none⟩=some (.slice A' m c')) u):=qh fun u x=>⟨x.cell rfl,x.cell rfl,x.cell rfl,x.cell rfl,x.cell rfl⟩
 have HI:Hid (∀ u x,w.grownBy u none→-1≤x→x≤20→Calls Tryz.prog 50 #[.int .i64 x] u fun e w'=>e=.returned (.string ⟨(Lib.itoa x).toArray⟩)∧u.grownBy w' none):=qh fun u x g a b=>itoa_any x (by omega) (by omega) u (hP.grown g).tab
 have z0:(lo == 0 && hi == 1)=false:=by simp;try omega
 have y0:=fun u=>eq_two lo hi 0 1 u
 rw [z0] at y0
 have z1:(lo == 0 && hi == (-1))=true:=by simp;try omega
 have y1:=fun u=>eq_two lo hi 0 (-1) u
 rw [z1] at y1
 have HB:Hid (-1≤lo∧lo≤20∧-1≤hi∧hi≤20):=qh (by omega)
 have HH:=qh h
 obtain ⟨sl,hsl⟩:∃ x:ByteArray,⟨(Lib.itoa lo).toArray⟩=x:=⟨_,rfl⟩
 obtain ⟨sh,hsh⟩:∃ x:ByteArray,⟨(Lib.itoa hi).toArray⟩=x:=⟨_,rfl⟩
 have HSL:=qh hsl
 have HSH:=qh hsh
 clear hP h hsl hsh z0 z1
 go_enter Tryz.func34,Tryz.ntmps34
 go_wp2_with fail
 refine wp_region_held_drew (S:=fun w'=>w'.cell? ⟨w.heap.size,0,none⟩=some (.int .i64 k)∧w'.cell? ⟨w.heap.size,1,none⟩=some (.slice A n c)∧w'.cell? ⟨w.heap.size,2,none⟩=some (.int .i64 lo)∧w'.cell? ⟨w.heap.size,3,none⟩=some (.int .i64 hi)∧w'.cell? ⟨w.heap.size,4,none⟩=some (.slice A' m c')) (by kernel_rfl) (HS.out _ (by exact X0.out.same rfl)) (fun hHeld=>?_)
 refine' hY 0 ?_
 try simp only [Act.put,ZA,ZB,ZD,ZE,ZF]
 refine' hY 1 ?_
 try simp only [Act.put,ZA,ZB,ZC,ZD,ZE,ZF]
 refine' hY 3 ?_
 try simp only [Act.put,ZA,ZB,ZC,ZD,ZE,ZF]
 refine' hY 4 ?_
 try simp only [Act.put,ZA,ZB,ZC,ZD,ZE,ZF]
 refine hA 2 fun K hK=>?_
 go_simp
 refine (HI.out _ lo (by exact grown_draw G0.out) HB.out.1 HB.out.2.1).mono ?_
 rintro e w1 ⟨rfl,g1⟩
 rw [HSL.out]
 have G1:Hid (w.grownBy w1 none):=qh (World.grownBy.trans (by exact grown_draw G0.out) g1)
 have X1:Hid (Box w1 w.heap.size #[.int .i64 k,.slice A n c,.int .i64 lo,.int .i64 hi,.slice A' m c'] 25):=qh (Box.kept (by exact X0.out.same rfl) g1 (by simp))
 clear g1
 go_wp2_with fail
 refine hK.out _ _ (by exact HS.out _ (by exact X1.out.same rfl)) (fun hHeld=>?_)
 clear hK K
 try simp only [Act.put,ZA,ZB,ZC,ZD,ZE,ZF]
 refine hA 5 fun K hK=>?_
 go_simp
 refine (HI.out _ hi (by exact G1.out) HB.out.2.2.1 HB.out.2.2.2).mono ?_
 rintro e w2 ⟨rfl,g2⟩
 rw [HSH.out]
 have G2:Hid (w.grownBy w2 none):=qh (World.grownBy.trans (by exact G1.out) g2)
 have X2:Hid (Box w2 w.heap.size #[.int .i64 k,.slice A n c,.int .i64 lo,.int .i64 hi,.slice A' m c'] 25):=qh (Box.kept (by exact X1.out.same rfl) g2 (by simp))
 clear g2
 go_wp2_with fail
 refine hK.out _ _ (by exact HS.out _ (by exact X2.out.same rfl)) (fun hHeld=>?_)
 clear hK K
 try simp only [Act.put,ZA,ZB,ZC,ZD,ZE,ZF]
 refine' hY 6 ?_
 try simp only [Act.put,ZA,ZB,ZC,ZD,ZE,ZF]
 refine' hY 7 ?_
 try simp only [Act.put,ZA,ZB,ZC,ZD,ZE,ZF]
 refine wpAnyH_done (by kernel_rfl) ?_ _
 obtain ⟨e0,e1,e2,e3,e4⟩:=HS.out _ X2.out
 go_wp2_with fail
 refine (shtimes_any w2 k lo hi A A' n c m c').mono ?_
 rintro e w3 ⟨rfl,g3⟩
 have G3:=qh (G2.out.trans g3)
 have X3:=qh (X2.out.kept g3 (by simp))
 have T3:Hid (Box (w3.alloc (.cells #[.int .i64 0,.int .i64 0] 82)) w3.heap.size #[.int .i64 0,.int .i64 0] 82):=qh (Box.new w3 _ _)
 clear g3 e0 e1 e2 e3 e4
 go_wp2_with (first
  | (refine store_box _ _ _ w3.heap.size #[.int .i64 0,.int .i64 0] #[.int .i64 lo,.int .i64 hi] rfl rfl rfl rfl rfl T3.out rfl (by kernel_rfl) (by simp [Value.oneCell']) ?_
     intro w4 x4 g4
     have t0:w4.cell? ⟨w3.heap.size,0,none⟩=some (.int .i64 lo):=x4.cell rfl
     have t1:w4.cell? ⟨w3.heap.size,1,none⟩=some (.int .i64 hi):=x4.cell rfl
     have G4:=qh (G3.out.trans (grown_two (grown_new w3 _ none) g4 (Nat.le_refl _)))
     have X4:=qh ((X3.out.kept (grown_new w3 (.cells #[.int .i64 0,.int .i64 0] 82) none) (by simp)).kept g4 (by have:=X3.out.lt;simp;omega))
     obtain ⟨e0,e1,e2,e3,e4⟩:=HS.out _ X4.out
     clear x4 g4)
  | fail)
 go_ret
 refine ⟨⟨#[42]⟩,rfl,?_,⟨by decide,by decide⟩,G4.out⟩
 obtain ⟨rfl,rfl⟩:=HH.out
 rfl
theorem often_c (w:World) (hP:PowT w) (k lo hi:Int) (A A':Option Addr) (n c m c':Nat) (h:lo=1∧hi=-1) :
 Calls Tryz.prog 34 #[.agg #[.int .i64 k,.slice A n c,.int .i64 lo,.int .i64 hi,.slice A' m c']] w (OftenTo w lo hi):=by
 have X0:Hid (Box (w.alloc (.cells #[.int .i64 k,.slice A n c,.int .i64 lo,.int .i64 hi,.slice A' m c'] 25)) w.heap.size #[.int .i64 k,.slice A n c,.int .i64 lo,.int .i64 hi,.slice A' m c'] 25):=qh (Box.new w _ _)
 have G0:Hid (w.grownBy (w.alloc (.cells #[.int .i64 k,.slice A n c,.int .i64 lo,.int .i64 hi,.slice A' m c'] 25)) none):=qh (grown_new w _ none)
 have HS:Hid (∀ u,Box u w.heap.size #[.int .i64 k,.slice A n c,.int .i64 lo,.int .i64 hi,.slice A' m c'] 25→(fun w'=>w'.cell? ⟨w.heap.size,0,none⟩=some (.int .i64 k)∧w'.cell? ⟨w.heap.size,1,none⟩=some (.slice A n c)∧w'.cell? ⟨w.heap.size,2,none⟩=some (.int .i64 lo)∧w'.cell? ⟨w.heap.size,3,none⟩=some (.int .i64 hi)∧w'.cell? ⟨w.heap.size,4,none⟩=some (.slice A' m c')) u):=qh fun u x=>⟨x.cell rfl,x.cell rfl,x.cell rfl,x.cell rfl,x.cell rfl⟩
 have HI:Hid (∀ u x,w.grownBy u none→-1≤x→x≤20→Calls Tryz.prog 50 #[.int .i64 x] u fun e w'=>e=.returned (.string ⟨(Lib.itoa x).toArray⟩)∧u.grownBy w' none):=qh fun u x g a b=>itoa_any x (by omega) (by omega) u (hP.grown g).tab
 have z0:(lo == 0 && hi == 1)=false:=by simp;try omega
 have y0:=fun u=>eq_two lo hi 0 1 u
 rw [z0] at y0
 have z1:(lo == 0 && hi == (-1))=false:=by simp;try omega
 have y1:=fun u=>eq_two lo hi 0 (-1) u
 rw [z1] at y1
 have z2:(lo == 1 && hi == (-1))=true:=by simp;try omega
 have y2:=fun u=>eq_two lo hi 1 (-1) u
 rw [z2] at y2
 have HB:Hid (-1≤lo∧lo≤20∧-1≤hi∧hi≤20):=qh (by omega)
 have HH:=qh h
 obtain ⟨sl,hsl⟩:∃ x:ByteArray,⟨(Lib.itoa lo).toArray⟩=x:=⟨_,rfl⟩
 obtain ⟨sh,hsh⟩:∃ x:ByteArray,⟨(Lib.itoa hi).toArray⟩=x:=⟨_,rfl⟩
 have HSL:=qh hsl
 have HSH:=qh hsh
 clear hP h hsl hsh z0 z1 z2
 go_enter Tryz.func34,Tryz.ntmps34
 go_wp2_with fail
 refine wp_region_held_drew (S:=fun w'=>w'.cell? ⟨w.heap.size,0,none⟩=some (.int .i64 k)∧w'.cell? ⟨w.heap.size,1,none⟩=some (.slice A n c)∧w'.cell? ⟨w.heap.size,2,none⟩=some (.int .i64 lo)∧w'.cell? ⟨w.heap.size,3,none⟩=some (.int .i64 hi)∧w'.cell? ⟨w.heap.size,4,none⟩=some (.slice A' m c')) (by kernel_rfl) (HS.out _ (by exact X0.out.same rfl)) (fun hHeld=>?_)
 refine' hY 0 ?_
 try simp only [Act.put,ZA,ZB,ZD,ZE,ZF]
 refine' hY 1 ?_
 try simp only [Act.put,ZA,ZB,ZC,ZD,ZE,ZF]
 refine' hY 3 ?_
 try simp only [Act.put,ZA,ZB,ZC,ZD,ZE,ZF]
 refine' hY 4 ?_
 try simp only [Act.put,ZA,ZB,ZC,ZD,ZE,ZF]
 refine hA 2 fun K hK=>?_
 go_simp
 refine (HI.out _ lo (by exact grown_draw G0.out) HB.out.1 HB.out.2.1).mono ?_
 rintro e w1 ⟨rfl,g1⟩
 rw [HSL.out]
 have G1:Hid (w.grownBy w1 none):=qh (World.grownBy.trans (by exact grown_draw G0.out) g1)
 have X1:Hid (Box w1 w.heap.size #[.int .i64 k,.slice A n c,.int .i64 lo,.int .i64 hi,.slice A' m c'] 25):=qh (Box.kept (by exact X0.out.same rfl) g1 (by simp))
 clear g1
 go_wp2_with fail
 refine hK.out _ _ (by exact HS.out _ (by exact X1.out.same rfl)) (fun hHeld=>?_)
 clear hK K
 try simp only [Act.put,ZA,ZB,ZC,ZD,ZE,ZF]
 refine hA 5 fun K hK=>?_
 go_simp
 refine (HI.out _ hi (by exact G1.out) HB.out.2.2.1 HB.out.2.2.2).mono ?_
 rintro e w2 ⟨rfl,g2⟩
 rw [HSH.out]
 have G2:Hid (w.grownBy w2 none):=qh (World.grownBy.trans (by exact G1.out) g2)
 have X2:Hid (Box w2 w.heap.size #[.int .i64 k,.slice A n c,.int .i64 lo,.int .i64 hi,.slice A' m c'] 25):=qh (Box.kept (by exact X1.out.same rfl) g2 (by simp))
 clear g2
 go_wp2_with fail
 refine hK.out _ _ (by exact HS.out _ (by exact X2.out.same rfl)) (fun hHeld=>?_)
 clear hK K
 try simp only [Act.put,ZA,ZB,ZC,ZD,ZE,ZF]
 refine' hY 6 ?_
 try simp only [Act.put,ZA,ZB,ZC,ZD,ZE,ZF]
 refine' hY 7 ?_
 try simp only [Act.put,ZA,ZB,ZC,ZD,ZE,ZF]
 refine wpAnyH_done (by kernel_rfl) ?_ _
 obtain ⟨e0,e1,e2,e3,e4⟩:=HS.out _ X2.out
 go_wp2_with fail
 refine (shtimes_any w2 k lo hi A A' n c m c').mono ?_
 rintro e w3 ⟨rfl,g3⟩
 have G3:=qh (G2.out.trans g3)
 have X3:=qh (X2.out.kept g3 (by simp))
 have T3:Hid (Box (w3.alloc (.cells #[.int .i64 0,.int .i64 0] 82)) w3.heap.size #[.int .i64 0,.int .i64 0] 82):=qh (Box.new w3 _ _)
 clear g3 e0 e1 e2 e3 e4
 go_wp2_with (first
  | (refine store_box _ _ _ w3.heap.size #[.int .i64 0,.int .i64 0] #[.int .i64 lo,.int .i64 hi] rfl rfl rfl rfl rfl T3.out rfl (by kernel_rfl) (by simp [Value.oneCell']) ?_
     intro w4 x4 g4
     have t0:w4.cell? ⟨w3.heap.size,0,none⟩=some (.int .i64 lo):=x4.cell rfl
     have t1:w4.cell? ⟨w3.heap.size,1,none⟩=some (.int .i64 hi):=x4.cell rfl
     have G4:=qh (G3.out.trans (grown_two (grown_new w3 _ none) g4 (Nat.le_refl _)))
     have X4:=qh ((X3.out.kept (grown_new w3 (.cells #[.int .i64 0,.int .i64 0] 82) none) (by simp)).kept g4 (by have:=X3.out.lt;simp;omega))
     obtain ⟨e0,e1,e2,e3,e4⟩:=HS.out _ X4.out
     clear x4 g4)
  | fail)
 go_ret
 refine ⟨⟨#[43]⟩,rfl,?_,⟨by decide,by decide⟩,G4.out⟩
 obtain ⟨rfl,rfl⟩:=HH.out
 rfl
theorem often_d (w:World) (hP:PowT w) (k lo hi:Int) (A A':Option Addr) (n c m c':Nat) (h0:0≤lo) (h1:lo≤20) (h:hi=lo) :
 Calls Tryz.prog 34 #[.agg #[.int .i64 k,.slice A n c,.int .i64 lo,.int .i64 hi,.slice A' m c']] w (OftenTo w lo hi):=by
 have X0:Hid (Box (w.alloc (.cells #[.int .i64 k,.slice A n c,.int .i64 lo,.int .i64 hi,.slice A' m c'] 25)) w.heap.size #[.int .i64 k,.slice A n c,.int .i64 lo,.int .i64 hi,.slice A' m c'] 25):=qh (Box.new w _ _)
 have G0:Hid (w.grownBy (w.alloc (.cells #[.int .i64 k,.slice A n c,.int .i64 lo,.int .i64 hi,.slice A' m c'] 25)) none):=qh (grown_new w _ none)
 have HS:Hid (∀ u,Box u w.heap.size #[.int .i64 k,.slice A n c,.int .i64 lo,.int .i64 hi,.slice A' m c'] 25→(fun w'=>w'.cell? ⟨w.heap.size,0,none⟩=some (.int .i64 k)∧w'.cell? ⟨w.heap.size,1,none⟩=some (.slice A n c)∧w'.cell? ⟨w.heap.size,2,none⟩=some (.int .i64 lo)∧w'.cell? ⟨w.heap.size,3,none⟩=some (.int .i64 hi)∧w'.cell? ⟨w.heap.size,4,none⟩=some (.slice A' m c')) u):=qh fun u x=>⟨x.cell rfl,x.cell rfl,x.cell rfl,x.cell rfl,x.cell rfl⟩
 have HI:Hid (∀ u x,w.grownBy u none→-1≤x→x≤20→Calls Tryz.prog 50 #[.int .i64 x] u fun e w'=>e=.returned (.string ⟨(Lib.itoa x).toArray⟩)∧u.grownBy w' none):=qh fun u x g a b=>itoa_any x (by omega) (by omega) u (hP.grown g).tab
 have z0:(lo == 0 && hi == 1)=false:=by simp;try omega
 have y0:=fun u=>eq_two lo hi 0 1 u
 rw [z0] at y0
 have z1:(lo == 0 && hi == (-1))=false:=by simp;try omega
 have y1:=fun u=>eq_two lo hi 0 (-1) u
 rw [z1] at y1
 have z2:(lo == 1 && hi == (-1))=false:=by simp;try omega
 have y2:=fun u=>eq_two lo hi 1 (-1) u
 rw [z2] at y2
 have z3:(lo == lo && hi == lo)=true:=by simp;try omega
 have y3:=fun u=>eq_two lo hi lo lo u
 rw [z3] at y3
 have HB:Hid (-1≤lo∧lo≤20∧-1≤hi∧hi≤20):=qh (by omega)
 have HH:=qh h
 have HH0:=qh (And.intro h0 h1)
 obtain ⟨sl,hsl⟩:∃ x:ByteArray,⟨(Lib.itoa lo).toArray⟩=x:=⟨_,rfl⟩
 obtain ⟨sh,hsh⟩:∃ x:ByteArray,⟨(Lib.itoa hi).toArray⟩=x:=⟨_,rfl⟩
 have HSL:=qh hsl
 have HSH:=qh hsh
 have hz1:sl.size≤2:=by rw [← hsl];exact (itoa_asc h0 h1).2
 clear hP h h0 h1 hsl hsh z0 z1 z2 z3
 go_enter Tryz.func34,Tryz.ntmps34
 go_wp2_with fail
 refine wp_region_held_drew (S:=fun w'=>w'.cell? ⟨w.heap.size,0,none⟩=some (.int .i64 k)∧w'.cell? ⟨w.heap.size,1,none⟩=some (.slice A n c)∧w'.cell? ⟨w.heap.size,2,none⟩=some (.int .i64 lo)∧w'.cell? ⟨w.heap.size,3,none⟩=some (.int .i64 hi)∧w'.cell? ⟨w.heap.size,4,none⟩=some (.slice A' m c')) (by kernel_rfl) (HS.out _ (by exact X0.out.same rfl)) (fun hHeld=>?_)
 refine' hY 0 ?_
 try simp only [Act.put,ZA,ZB,ZD,ZE,ZF]
 refine' hY 1 ?_
 try simp only [Act.put,ZA,ZB,ZC,ZD,ZE,ZF]
 refine' hY 3 ?_
 try simp only [Act.put,ZA,ZB,ZC,ZD,ZE,ZF]
 refine' hY 4 ?_
 try simp only [Act.put,ZA,ZB,ZC,ZD,ZE,ZF]
 refine hA 2 fun K hK=>?_
 go_simp
 refine (HI.out _ lo (by exact grown_draw G0.out) HB.out.1 HB.out.2.1).mono ?_
 rintro e w1 ⟨rfl,g1⟩
 rw [HSL.out]
 have G1:Hid (w.grownBy w1 none):=qh (World.grownBy.trans (by exact grown_draw G0.out) g1)
 have X1:Hid (Box w1 w.heap.size #[.int .i64 k,.slice A n c,.int .i64 lo,.int .i64 hi,.slice A' m c'] 25):=qh (Box.kept (by exact X0.out.same rfl) g1 (by simp))
 clear g1
 go_wp2_with fail
 refine hK.out _ _ (by exact HS.out _ (by exact X1.out.same rfl)) (fun hHeld=>?_)
 clear hK K
 try simp only [Act.put,ZA,ZB,ZC,ZD,ZE,ZF]
 refine hA 5 fun K hK=>?_
 go_simp
 refine (HI.out _ hi (by exact G1.out) HB.out.2.2.1 HB.out.2.2.2).mono ?_
 rintro e w2 ⟨rfl,g2⟩
 rw [HSH.out]
 have G2:Hid (w.grownBy w2 none):=qh (World.grownBy.trans (by exact G1.out) g2)
 have X2:Hid (Box w2 w.heap.size #[.int .i64 k,.slice A n c,.int .i64 lo,.int .i64 hi,.slice A' m c'] 25):=qh (Box.kept (by exact X1.out.same rfl) g2 (by simp))
 clear g2
 go_wp2_with fail
 refine hK.out _ _ (by exact HS.out _ (by exact X2.out.same rfl)) (fun hHeld=>?_)
 clear hK K
 try simp only [Act.put,ZA,ZB,ZC,ZD,ZE,ZF]
 refine' hY 6 ?_
 try simp only [Act.put,ZA,ZB,ZC,ZD,ZE,ZF]
 refine' hY 7 ?_
 try simp only [Act.put,ZA,ZB,ZC,ZD,ZE,ZF]
 refine wpAnyH_done (by kernel_rfl) ?_ _
 obtain ⟨e0,e1,e2,e3,e4⟩:=HS.out _ X2.out
 go_wp2_with fail
 refine (shtimes_any w2 k lo hi A A' n c m c').mono ?_
 rintro e w3 ⟨rfl,g3⟩
 have G3:=qh (G2.out.trans g3)
 have X3:=qh (X2.out.kept g3 (by simp))
 have T3:Hid (Box (w3.alloc (.cells #[.int .i64 0,.int .i64 0] 82)) w3.heap.size #[.int .i64 0,.int .i64 0] 82):=qh (Box.new w3 _ _)
 clear g3 e0 e1 e2 e3 e4
 go_wp2_with (first
  | (refine store_box _ _ _ w3.heap.size #[.int .i64 0,.int .i64 0] #[.int .i64 lo,.int .i64 hi] rfl rfl rfl rfl rfl T3.out rfl (by kernel_rfl) (by simp [Value.oneCell']) ?_
     intro w4 x4 g4
     have t0:w4.cell? ⟨w3.heap.size,0,none⟩=some (.int .i64 lo):=x4.cell rfl
     have t1:w4.cell? ⟨w3.heap.size,1,none⟩=some (.int .i64 hi):=x4.cell rfl
     have G4:=qh (G3.out.trans (grown_two (grown_new w3 _ none) g4 (Nat.le_refl _)))
     have X4:=qh ((X3.out.kept (grown_new w3 (.cells #[.int .i64 0,.int .i64 0] 82) none) (by simp)).kept g4 (by have:=X3.out.lt;simp;omega))
     obtain ⟨e0,e1,e2,e3,e4⟩:=HS.out _ X4.out
     clear x4 g4)
  | fail)
 go_ret
 have q1:(⟨#[123]⟩:ByteArray).size=1:=rfl
 have q2:(⟨#[125]⟩:ByteArray).size=1:=rfl
 have q3:(⟨#[44,125]⟩:ByteArray).size=2:=rfl
 have q4:(⟨#[44]⟩:ByteArray).size=1:=rfl
 obtain ⟨a0,a1⟩:=itoa_asc HH0.out.1 HH0.out.2
 have hd:=itoa_is HH0.out.1
 rw [HSL.out] at a0 a1 hd
 refine ⟨_,rfl,?_,asc_app (asc_app ⟨by decide,by decide⟩ a0 (by (try simp only [ByteArray.size_append]);omega)) ⟨by decide,by decide⟩ (by (try simp only [ByteArray.size_append]);omega),G4.out⟩
 rw [strI_append,strI_append,hd]
 have e1:=HH.out
 have e2:=HH0.out
 subst e1
 unfold timesT
 rw [if_neg (by omega),if_neg (by omega),if_neg (by omega),if_neg (by simp)]
 simp [strI]
theorem often_e (w:World) (hP:PowT w) (k lo hi:Int) (A A':Option Addr) (n c m c':Nat) (h0:0≤lo) (h1:lo≤20) (h:hi=-1) (hx:¬ lo=0∧¬ lo=1) :
 Calls Tryz.prog 34 #[.agg #[.int .i64 k,.slice A n c,.int .i64 lo,.int .i64 hi,.slice A' m c']] w (OftenTo w lo hi):=by
 have X0:Hid (Box (w.alloc (.cells #[.int .i64 k,.slice A n c,.int .i64 lo,.int .i64 hi,.slice A' m c'] 25)) w.heap.size #[.int .i64 k,.slice A n c,.int .i64 lo,.int .i64 hi,.slice A' m c'] 25):=qh (Box.new w _ _)
 have G0:Hid (w.grownBy (w.alloc (.cells #[.int .i64 k,.slice A n c,.int .i64 lo,.int .i64 hi,.slice A' m c'] 25)) none):=qh (grown_new w _ none)
 have HS:Hid (∀ u,Box u w.heap.size #[.int .i64 k,.slice A n c,.int .i64 lo,.int .i64 hi,.slice A' m c'] 25→(fun w'=>w'.cell? ⟨w.heap.size,0,none⟩=some (.int .i64 k)∧w'.cell? ⟨w.heap.size,1,none⟩=some (.slice A n c)∧w'.cell? ⟨w.heap.size,2,none⟩=some (.int .i64 lo)∧w'.cell? ⟨w.heap.size,3,none⟩=some (.int .i64 hi)∧w'.cell? ⟨w.heap.size,4,none⟩=some (.slice A' m c')) u):=qh fun u x=>⟨x.cell rfl,x.cell rfl,x.cell rfl,x.cell rfl,x.cell rfl⟩
 have HI:Hid (∀ u x,w.grownBy u none→-1≤x→x≤20→Calls Tryz.prog 50 #[.int .i64 x] u fun e w'=>e=.returned (.string ⟨(Lib.itoa x).toArray⟩)∧u.grownBy w' none):=qh fun u x g a b=>itoa_any x (by omega) (by omega) u (hP.grown g).tab
 have z0:(lo == 0 && hi == 1)=false:=by simp;try omega
 have y0:=fun u=>eq_two lo hi 0 1 u
 rw [z0] at y0
 have z1:(lo == 0 && hi == (-1))=false:=by simp;try omega
 have y1:=fun u=>eq_two lo hi 0 (-1) u
 rw [z1] at y1
 have z2:(lo == 1 && hi == (-1))=false:=by simp;try omega
 have y2:=fun u=>eq_two lo hi 1 (-1) u
 rw [z2] at y2
 have z3:(lo == lo && hi == lo)=false:=by simp;try omega
 have y3:=fun u=>eq_two lo hi lo lo u
 rw [z3] at y3
 have z4:(lo == lo && hi == (-1))=true:=by simp;try omega
 have y4:=fun u=>eq_two lo hi lo (-1) u
 rw [z4] at y4
 have HB:Hid (-1≤lo∧lo≤20∧-1≤hi∧hi≤20):=qh (by omega)
 have HH:=qh h
 have HH0:=qh (And.intro h0 h1)
 have HHX:=qh hx
 obtain ⟨sl,hsl⟩:∃ x:ByteArray,⟨(Lib.itoa lo).toArray⟩=x:=⟨_,rfl⟩
 obtain ⟨sh,hsh⟩:∃ x:ByteArray,⟨(Lib.itoa hi).toArray⟩=x:=⟨_,rfl⟩
 have HSL:=qh hsl
 have HSH:=qh hsh
 have hz1:sl.size≤2:=by rw [← hsl];exact (itoa_asc h0 h1).2
 clear hP h h0 h1 hx hsl hsh z0 z1 z2 z3 z4
 go_enter Tryz.func34,Tryz.ntmps34
 go_wp2_with fail
 refine wp_region_held_drew (S:=fun w'=>w'.cell? ⟨w.heap.size,0,none⟩=some (.int .i64 k)∧w'.cell? ⟨w.heap.size,1,none⟩=some (.slice A n c)∧w'.cell? ⟨w.heap.size,2,none⟩=some (.int .i64 lo)∧w'.cell? ⟨w.heap.size,3,none⟩=some (.int .i64 hi)∧w'.cell? ⟨w.heap.size,4,none⟩=some (.slice A' m c')) (by kernel_rfl) (HS.out _ (by exact X0.out.same rfl)) (fun hHeld=>?_)
 refine' hY 0 ?_
 try simp only [Act.put,ZA,ZB,ZD,ZE,ZF]
 refine' hY 1 ?_
 try simp only [Act.put,ZA,ZB,ZC,ZD,ZE,ZF]
 refine' hY 3 ?_
 try simp only [Act.put,ZA,ZB,ZC,ZD,ZE,ZF]
 refine' hY 4 ?_
 try simp only [Act.put,ZA,ZB,ZC,ZD,ZE,ZF]
 refine hA 2 fun K hK=>?_
 go_simp
 refine (HI.out _ lo (by exact grown_draw G0.out) HB.out.1 HB.out.2.1).mono ?_
 rintro e w1 ⟨rfl,g1⟩
 rw [HSL.out]
 have G1:Hid (w.grownBy w1 none):=qh (World.grownBy.trans (by exact grown_draw G0.out) g1)
 have X1:Hid (Box w1 w.heap.size #[.int .i64 k,.slice A n c,.int .i64 lo,.int .i64 hi,.slice A' m c'] 25):=qh (Box.kept (by exact X0.out.same rfl) g1 (by simp))
 clear g1
 go_wp2_with fail
 refine hK.out _ _ (by exact HS.out _ (by exact X1.out.same rfl)) (fun hHeld=>?_)
 clear hK K
 try simp only [Act.put,ZA,ZB,ZC,ZD,ZE,ZF]
 refine hA 5 fun K hK=>?_
 go_simp
 refine (HI.out _ hi (by exact G1.out) HB.out.2.2.1 HB.out.2.2.2).mono ?_
 rintro e w2 ⟨rfl,g2⟩
 rw [HSH.out]
 have G2:Hid (w.grownBy w2 none):=qh (World.grownBy.trans (by exact G1.out) g2)
 have X2:Hid (Box w2 w.heap.size #[.int .i64 k,.slice A n c,.int .i64 lo,.int .i64 hi,.slice A' m c'] 25):=qh (Box.kept (by exact X1.out.same rfl) g2 (by simp))
 clear g2
 go_wp2_with fail
 refine hK.out _ _ (by exact HS.out _ (by exact X2.out.same rfl)) (fun hHeld=>?_)
 clear hK K
 try simp only [Act.put,ZA,ZB,ZC,ZD,ZE,ZF]
 refine' hY 6 ?_
 try simp only [Act.put,ZA,ZB,ZC,ZD,ZE,ZF]
 refine' hY 7 ?_
 try simp only [Act.put,ZA,ZB,ZC,ZD,ZE,ZF]
 refine wpAnyH_done (by kernel_rfl) ?_ _
 obtain ⟨e0,e1,e2,e3,e4⟩:=HS.out _ X2.out
 go_wp2_with fail
 refine (shtimes_any w2 k lo hi A A' n c m c').mono ?_
 rintro e w3 ⟨rfl,g3⟩
 have G3:=qh (G2.out.trans g3)
 have X3:=qh (X2.out.kept g3 (by simp))
 have T3:Hid (Box (w3.alloc (.cells #[.int .i64 0,.int .i64 0] 82)) w3.heap.size #[.int .i64 0,.int .i64 0] 82):=qh (Box.new w3 _ _)
 clear g3 e0 e1 e2 e3 e4
 go_wp2_with (first
  | (refine store_box _ _ _ w3.heap.size #[.int .i64 0,.int .i64 0] #[.int .i64 lo,.int .i64 hi] rfl rfl rfl rfl rfl T3.out rfl (by kernel_rfl) (by simp [Value.oneCell']) ?_
     intro w4 x4 g4
     have t0:w4.cell? ⟨w3.heap.size,0,none⟩=some (.int .i64 lo):=x4.cell rfl
     have t1:w4.cell? ⟨w3.heap.size,1,none⟩=some (.int .i64 hi):=x4.cell rfl
     have G4:=qh (G3.out.trans (grown_two (grown_new w3 _ none) g4 (Nat.le_refl _)))
     have X4:=qh ((X3.out.kept (grown_new w3 (.cells #[.int .i64 0,.int .i64 0] 82) none) (by simp)).kept g4 (by have:=X3.out.lt;simp;omega))
     obtain ⟨e0,e1,e2,e3,e4⟩:=HS.out _ X4.out
     clear x4 g4)
  | fail)
 go_ret
 have q1:(⟨#[123]⟩:ByteArray).size=1:=rfl
 have q2:(⟨#[125]⟩:ByteArray).size=1:=rfl
 have q3:(⟨#[44,125]⟩:ByteArray).size=2:=rfl
 have q4:(⟨#[44]⟩:ByteArray).size=1:=rfl
 obtain ⟨a0,a1⟩:=itoa_asc HH0.out.1 HH0.out.2
 have hd:=itoa_is HH0.out.1
 rw [HSL.out] at a0 a1 hd
 refine ⟨_,rfl,?_,asc_app (asc_app ⟨by decide,by decide⟩ a0 (by (try simp only [ByteArray.size_append]);omega)) ⟨by decide,by decide⟩ (by (try simp only [ByteArray.size_append]);omega),G4.out⟩
 rw [strI_append,strI_append,hd]
 have e1:=HH.out
 have e2:=HH0.out
 have e3:=HHX.out
 subst e1
 unfold timesT
 rw [if_neg (by omega),if_neg (by omega),if_neg (by omega),if_pos (by omega),if_neg (by omega)]
 simp [strI]
theorem often_f (w:World) (hP:PowT w) (k lo hi:Int) (A A':Option Addr) (n c m c':Nat) (h0:0≤lo) (h1:lo≤20) (h:lo < hi) (h2:hi≤20) (hx:¬ (lo=0∧hi=1)) :
 Calls Tryz.prog 34 #[.agg #[.int .i64 k,.slice A n c,.int .i64 lo,.int .i64 hi,.slice A' m c']] w (OftenTo w lo hi):=by
 have X0:Hid (Box (w.alloc (.cells #[.int .i64 k,.slice A n c,.int .i64 lo,.int .i64 hi,.slice A' m c'] 25)) w.heap.size #[.int .i64 k,.slice A n c,.int .i64 lo,.int .i64 hi,.slice A' m c'] 25):=qh (Box.new w _ _)
 have G0:Hid (w.grownBy (w.alloc (.cells #[.int .i64 k,.slice A n c,.int .i64 lo,.int .i64 hi,.slice A' m c'] 25)) none):=qh (grown_new w _ none)
 have HS:Hid (∀ u,Box u w.heap.size #[.int .i64 k,.slice A n c,.int .i64 lo,.int .i64 hi,.slice A' m c'] 25→(fun w'=>w'.cell? ⟨w.heap.size,0,none⟩=some (.int .i64 k)∧w'.cell? ⟨w.heap.size,1,none⟩=some (.slice A n c)∧w'.cell? ⟨w.heap.size,2,none⟩=some (.int .i64 lo)∧w'.cell? ⟨w.heap.size,3,none⟩=some (.int .i64 hi)∧w'.cell? ⟨w.heap.size,4,none⟩=some (.slice A' m c')) u):=qh fun u x=>⟨x.cell rfl,x.cell rfl,x.cell rfl,x.cell rfl,x.cell rfl⟩
 have HI:Hid (∀ u x,w.grownBy u none→-1≤x→x≤20→Calls Tryz.prog 50 #[.int .i64 x] u fun e w'=>e=.returned (.string ⟨(Lib.itoa x).toArray⟩)∧u.grownBy w' none):=qh fun u x g a b=>itoa_any x (by omega) (by omega) u (hP.grown g).tab
 have z0:(lo == 0 && hi == 1)=false:=by simp;try omega
 have y0:=fun u=>eq_two lo hi 0 1 u
 rw [z0] at y0
 have z1:(lo == 0 && hi == (-1))=false:=by simp;try omega
 have y1:=fun u=>eq_two lo hi 0 (-1) u
 rw [z1] at y1
 have z2:(lo == 1 && hi == (-1))=false:=by simp;try omega
 have y2:=fun u=>eq_two lo hi 1 (-1) u
 rw [z2] at y2
 have z3:(lo == lo && hi == lo)=false:=by simp;try omega
 have y3:=fun u=>eq_two lo hi lo lo u
 rw [z3] at y3
 have z4:(lo == lo && hi == (-1))=false:=by simp;try omega
 have y4:=fun u=>eq_two lo hi lo (-1) u
 rw [z4] at y4
 have HB:Hid (-1≤lo∧lo≤20∧-1≤hi∧hi≤20):=qh (by omega)
 have HH:=qh h
 have HH0:=qh (And.intro h0 h1)
 have HH2:=qh h2
 have HHX:=qh hx
 obtain ⟨sl,hsl⟩:∃ x:ByteArray,⟨(Lib.itoa lo).toArray⟩=x:=⟨_,rfl⟩
 obtain ⟨sh,hsh⟩:∃ x:ByteArray,⟨(Lib.itoa hi).toArray⟩=x:=⟨_,rfl⟩
 have HSL:=qh hsl
 have HSH:=qh hsh
 have hz1:sl.size≤2:=by rw [← hsl];exact (itoa_asc h0 h1).2
 have hz2:sh.size≤2:=by rw [← hsh];exact (itoa_asc (n:=hi) (by omega) h2).2
 clear hP h h0 h1 h2 hx hsl hsh z0 z1 z2 z3 z4
 go_enter Tryz.func34,Tryz.ntmps34
 go_wp2_with fail
 refine wp_region_held_drew (S:=fun w'=>w'.cell? ⟨w.heap.size,0,none⟩=some (.int .i64 k)∧w'.cell? ⟨w.heap.size,1,none⟩=some (.slice A n c)∧w'.cell? ⟨w.heap.size,2,none⟩=some (.int .i64 lo)∧w'.cell? ⟨w.heap.size,3,none⟩=some (.int .i64 hi)∧w'.cell? ⟨w.heap.size,4,none⟩=some (.slice A' m c')) (by kernel_rfl) (HS.out _ (by exact X0.out.same rfl)) (fun hHeld=>?_)
 refine' hY 0 ?_
 try simp only [Act.put,ZA,ZB,ZD,ZE,ZF]
 refine' hY 1 ?_
 try simp only [Act.put,ZA,ZB,ZC,ZD,ZE,ZF]
 refine' hY 3 ?_
 try simp only [Act.put,ZA,ZB,ZC,ZD,ZE,ZF]
 refine' hY 4 ?_
 try simp only [Act.put,ZA,ZB,ZC,ZD,ZE,ZF]
 refine hA 2 fun K hK=>?_
 go_simp
 refine (HI.out _ lo (by exact grown_draw G0.out) HB.out.1 HB.out.2.1).mono ?_
 rintro e w1 ⟨rfl,g1⟩
 rw [HSL.out]
 have G1:Hid (w.grownBy w1 none):=qh (World.grownBy.trans (by exact grown_draw G0.out) g1)
 have X1:Hid (Box w1 w.heap.size #[.int .i64 k,.slice A n c,.int .i64 lo,.int .i64 hi,.slice A' m c'] 25):=qh (Box.kept (by exact X0.out.same rfl) g1 (by simp))
 clear g1
 go_wp2_with fail
 refine hK.out _ _ (by exact HS.out _ (by exact X1.out.same rfl)) (fun hHeld=>?_)
 clear hK K
 try simp only [Act.put,ZA,ZB,ZC,ZD,ZE,ZF]
 refine hA 5 fun K hK=>?_
 go_simp
 refine (HI.out _ hi (by exact G1.out) HB.out.2.2.1 HB.out.2.2.2).mono ?_
 rintro e w2 ⟨rfl,g2⟩
 rw [HSH.out]
 have G2:Hid (w.grownBy w2 none):=qh (World.grownBy.trans (by exact G1.out) g2)
 have X2:Hid (Box w2 w.heap.size #[.int .i64 k,.slice A n c,.int .i64 lo,.int .i64 hi,.slice A' m c'] 25):=qh (Box.kept (by exact X1.out.same rfl) g2 (by simp))
 clear g2
 go_wp2_with fail
 refine hK.out _ _ (by exact HS.out _ (by exact X2.out.same rfl)) (fun hHeld=>?_)
 clear hK K
 try simp only [Act.put,ZA,ZB,ZC,ZD,ZE,ZF]
 refine' hY 6 ?_
 try simp only [Act.put,ZA,ZB,ZC,ZD,ZE,ZF]
 refine' hY 7 ?_
 try simp only [Act.put,ZA,ZB,ZC,ZD,ZE,ZF]
 refine wpAnyH_done (by kernel_rfl) ?_ _
 obtain ⟨e0,e1,e2,e3,e4⟩:=HS.out _ X2.out
 go_wp2_with fail
 refine (shtimes_any w2 k lo hi A A' n c m c').mono ?_
 rintro e w3 ⟨rfl,g3⟩
 have G3:=qh (G2.out.trans g3)
 have X3:=qh (X2.out.kept g3 (by simp))
 have T3:Hid (Box (w3.alloc (.cells #[.int .i64 0,.int .i64 0] 82)) w3.heap.size #[.int .i64 0,.int .i64 0] 82):=qh (Box.new w3 _ _)
 clear g3 e0 e1 e2 e3 e4
 go_wp2_with (first
  | (refine store_box _ _ _ w3.heap.size #[.int .i64 0,.int .i64 0] #[.int .i64 lo,.int .i64 hi] rfl rfl rfl rfl rfl T3.out rfl (by kernel_rfl) (by simp [Value.oneCell']) ?_
     intro w4 x4 g4
     have t0:w4.cell? ⟨w3.heap.size,0,none⟩=some (.int .i64 lo):=x4.cell rfl
     have t1:w4.cell? ⟨w3.heap.size,1,none⟩=some (.int .i64 hi):=x4.cell rfl
     have G4:=qh (G3.out.trans (grown_two (grown_new w3 _ none) g4 (Nat.le_refl _)))
     have X4:=qh ((X3.out.kept (grown_new w3 (.cells #[.int .i64 0,.int .i64 0] 82) none) (by simp)).kept g4 (by have:=X3.out.lt;simp;omega))
     obtain ⟨e0,e1,e2,e3,e4⟩:=HS.out _ X4.out
     clear x4 g4)
  | fail)
 go_ret
 have q1:(⟨#[123]⟩:ByteArray).size=1:=rfl
 have q2:(⟨#[125]⟩:ByteArray).size=1:=rfl
 have q3:(⟨#[44,125]⟩:ByteArray).size=2:=rfl
 have q4:(⟨#[44]⟩:ByteArray).size=1:=rfl
 have e1:=HH.out
 have e2:=HH0.out
 have e3:=HH2.out
 have e4:=HHX.out
 obtain ⟨a0,a1⟩:=itoa_asc e2.1 e2.2
 have hd:=itoa_is e2.1
 rw [HSL.out] at a0 a1 hd
 obtain ⟨b0,b1⟩:=itoa_asc (n:=hi) (by omega) e3
 have hd':=itoa_is (n:=hi) (by omega)
 rw [HSH.out] at b0 b1 hd'
 refine ⟨_,rfl,?_,asc_app (asc_app (asc_app (asc_app ⟨by decide,by decide⟩ a0 (by (try simp only [ByteArray.size_append]);omega)) ⟨by decide,by decide⟩ (by (try simp only [ByteArray.size_append]);omega)) b0 (by (try simp only [ByteArray.size_append]);omega)) ⟨by decide,by decide⟩ (by (try simp only [ByteArray.size_append]);omega),G4.out⟩
 rw [strI_append,strI_append,strI_append,strI_append,hd,hd']
 unfold timesT
 rw [if_neg (by omega),if_neg (by omega),if_neg (by omega),if_pos (by omega),if_pos (by omega)]
 simp [strI]
theorem often_any (w:World) (hP:PowT w) (k lo hi:Int) (A A':Option Addr) (n c m c':Nat) (h0:0≤lo) (h1:lo≤20) (h2:hi=-1∨lo≤hi∧hi≤20) :
 Calls Tryz.prog 34 #[.agg #[.int .i64 k,.slice A n c,.int .i64 lo,.int .i64 hi,.slice A' m c']] w (OftenTo w lo hi):=by
 by_cases ha:lo=0∧hi=1
 ·exact often_a w hP k lo hi A A' n c m c' ha
 by_cases hb:lo=0∧hi=-1
 ·exact often_b w hP k lo hi A A' n c m c' hb
 by_cases hc:lo=1∧hi=-1
 ·exact often_c w hP k lo hi A A' n c m c' hc
 by_cases hd:hi=lo
 ·exact often_d w hP k lo hi A A' n c m c' h0 h1 hd
 by_cases he:hi=-1
 ·exact often_e w hP k lo hi A A' n c m c' h0 h1 he (by omega)
 ·exact often_f w hP k lo hi A A' n c m c' h0 h1 (by omega) (by omega) ha
end
end Go.Proofs.YtoeocodfndbebaaGreatDoor
