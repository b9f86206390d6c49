/- Shared texts, shaken for one claim. -/
import Derived.BigQuiet
import Derived.Test.YtoeocodfndbebaaGreatDoorChecked
import Derived.WalkKit
import Derived.OrdersHeld
import Derived.Deep.RegionHeld
import Derived.Test.YtoeocodfndbebaaGreatDoorZC3
set_option maxRecDepth 20000
set_option maxHeartbeats 16000000
namespace Go.Proofs.YtoeocodfndbebaaGreatDoor
section
open Go.RowKit
theorem rgT:SliceOfN Tryz.prog 22 66 (.agg #[.int .i64 0,.int .i64 0]) 2 16:=⟨by kernel_rfl,by kernel_rfl,rfl,by decide⟩
theorem rhas16_any (w:World) (B:Nat) (A:Option Addr) (R:List (Int×Int)) (c:Nat) (x:Int) (h:Lies w B A (prC R)) (hl:R.length≤1000000) :
 Calls Tryz.prog 117 #[.slice A R.length c,.int .i64 x] w fun e w'=>e=.returned (.bool (hasR R x))∧w=w':=by
 have HL:=qh h
 obtain ⟨z,hz⟩:∃ z,hasR R x=z:=⟨_,rfl⟩
 have HZ:=qh hz
 rw [hz]
 clear h hz
 go_enter Tryz.func117,Tryz.ntmps117
 go_wp2_with fail
 go_loopw [5] (fun iv wr=>∃ k:Nat,k≤R.length∧iv=.int .i64 k∧Hid (hasR (R.take k) x=false)∧wr=w) (fun iv _=>R.length - (intOf iv).toNat)
 case atStart=>exact ⟨0,by omega,rfl,qh rfl,rfl⟩
 case round =>
  obtain ⟨k,hk,rfl,HN,rfl⟩:=hrel
  by_cases hlt:k < R.length
  ·obtain ⟨g,off,rfl,-,c0,c1⟩:=prC_at HL.out hlt
   have HS:Hid (hasR (R.take (k+1)) x=(decide (R[k].1≤x) && decide (x≤R[k].2))):=qh (by rw [List.take_succ_eq_append_getElem hlt,hasR_append,HN.out];simp [hasR,inR])
   have HM:Hid (R[k]∈R):=qh (List.getElem_mem hlt)
   have HY:Hid (decide (R[k].1≤x)=true→decide (x≤R[k].2)=true→z=true):=qh (fun h1 h2=>by rw [← HZ.out];exact hasR_iff.2 ⟨_,HM.out,of_decide_eq_true h1,of_decide_eq_true h2⟩)
   obtain ⟨lo,hlo⟩:∃ y,R[k].1=y:=⟨_,rfl⟩
   obtain ⟨hi,hhi⟩:∃ y,R[k].2=y:=⟨_,rfl⟩
   rw [hlo] at c0 HS HY
   rw [hhi] at c1 HS HY
   have k0:(0:Int)≤(k:Int):=by omega
   have k1:(k:Int) < (R.length:Int):=by omega
   clear hlo hhi HM
   rcases d1:decide (lo≤x) with _ | _
   ·rw [d1] at HS
    go_wp2_with fail
    go_roundw
    case rel=>exact ⟨k+1,by omega,by go_num,qh (by rw [HS.out];rfl),trivial⟩
    case measure=>simp [intOf];omega
   ·rcases d2:decide (x≤hi) with _ | _
    ·rw [d1,d2] at HS
     go_wp2_with fail
     go_roundw
     case rel=>exact ⟨k+1,by omega,by go_num,qh (by rw [HS.out];rfl),trivial⟩
     case measure=>simp [intOf];omega
    ·have hzt:=HY.out d1 d2
     subst hzt
     go_wp2_with fail
     go_ret
     exact ⟨rfl,rfl⟩
  ·obtain rfl:k=R.length:=by omega
   have hzf:z=false:=by rw [← HZ.out];have:=HN.out;rwa [List.take_length] at this
   subst hzf
   go_wp2_with fail
   go_ret
   exact ⟨rfl,rfl⟩
theorem rone16_any (x:Int) (w:World):Calls Tryz.prog 87 #[.int .i64 x] w fun e w'=>e=.returned (.agg #[.int .i64 x,.int .i64 x])∧Below w.heap.size w w':=by
 go_enter Tryz.func87,Tryz.ntmps87
 go_wp2
 (try simp only [Exit.inBlock,Exit.then])
 refine bodyPost_ret (v:=.agg #[.int .i64 x,.int .i64 x]) ?_ rfl ⟨rfl,below_alloc w _⟩
 exact results_cell_row rfl _ _ w.heap.size 66 _ (0,0) _ rfl (Go.heap_alloc_new w _) Tryz.underlying66 rfl (by kernel_rfl)
theorem eq_rg (a b c d:Int) (w:World):(Op.equalIn 10000 66 (.agg #[.int .i64 a,.int .i64 b]) (.agg #[.int .i64 c,.int .i64 d])).run Tryz.prog w=.ok (a == c && b == d) w:=by
 have u3:=Tryz.underlying3
 have a3:=Tryz.isAgg3
 have z3:=Tryz.sizeOf3
 have hS:Tryz.prog.underlying 66=some (.struct (Tryz.prog.fieldsOf 66)):=by kernel_rfl
 have hp:Tryz.prog.stoodInHeld 66=false:=by kernel_rfl
 rw [show (10000:Nat)=9999+1 from rfl,run_equalIn_agg w 9999 66 _ _ hS hp]
 simp only [Program.fieldsOf,Tryz.underlying66]
 go_simp
 by_cases h1:a=c <;> by_cases h2:b=d <;> simp [h1,h2]
theorem rsamesets_any (w:World) (B B':Nat) (A A':Option Addr) (R R':List (Int×Int)) (c c':Nat) (h:Lies w B A (prC R)) (h':Lies w B' A' (prC R')) (hl:R.length≤1000000) (_:R'.length≤1000000) :
 Calls Tryz.prog 28 #[.slice A R.length c,.slice A' R'.length c'] w fun e w'=>e=.returned (.bool (decide (R=R')))∧Below w.heap.size w w':=by
 have H:=qh h
 have H':=qh h'
 clear h h'
 by_cases hn:R.length=R'.length
 ·have hd:((R.length:Int) != (R'.length:Int))=false:=by simp [hn]
  have HN:=qh hn
  obtain ⟨z,hz⟩:∃ z,decide (R=R')=z:=⟨_,rfl⟩
  have HZ:=qh hz
  rw [hz]
  clear hn hz
  go_enter Tryz.func28,Tryz.ntmps28
  go_wp2_with fail
  go_loopw [5] (fun i wr=>∃ k n:Nat,k≤R.length∧i=.int .i64 k∧Hid (R.take k=R'.take k)∧wr=w.drewN n) (fun i _=>R.length - (intOf i).toNat)
  case atStart=>exact ⟨0,0,by omega,rfl,qh rfl,rfl⟩
  case round =>
   obtain ⟨k,n,hk,rfl,HE,rfl⟩:=hrel
   by_cases hlt:k < R.length
   ·have hlt':k < R'.length:=by have:=HN.out;omega
    obtain ⟨g,off,rfl,-,c0,c1⟩:=prC_at H.out hlt
    obtain ⟨g',off',rfl,-,c0',c1'⟩:=prC_at H'.out hlt'
    have b0:(0:Int)≤(k:Int):=by omega
    have b1:(k:Int) < (R.length:Int):=by omega
    have b2:(k:Int) < (R'.length:Int):=by omega
    have HNX:Hid (R[k]=R'[k]→R.take (k+1)=R'.take (k+1)):=qh fun e=>by rw [List.take_succ_eq_append_getElem hlt,List.take_succ_eq_append_getElem hlt',HE.out,e]
    have HNO:Hid (R[k]≠R'[k]→z=false):=qh fun e=>by
     rw [← HZ.out]
     refine decide_eq_false fun e2=>e ?_
     subst e2;rfl
    obtain ⟨p,hp⟩:∃ x,R[k]=x:=⟨_,rfl⟩
    obtain ⟨q,hq⟩:∃ x,R'[k]=x:=⟨_,rfl⟩
    rw [hp] at c0 c1 HNX HNO
    rw [hq] at c0' c1' HNX HNO
    obtain ⟨p1,p2⟩:=p
    obtain ⟨q1,q2⟩:=q
    simp only at c0 c1 c0' c1'
    have heq:=fun u=>eq_rg p1 p2 q1 q2 u
    clear hp hq
    rcases hx:(p1 == q1) with _ | _
    ·have hzf:=HNO.out (fun e=>by injection e with e1 e2;subst e1;simp at hx)
     subst hzf
     go_wp2_with fail
     go_quiet (fail)
     go_wp2_with fail
     go_ret
     exact ⟨rfl,below_drawn (below_drawn (Below.refl _ _) _) _⟩
    ·rcases hy:(p2 == q2) with _ | _
     ·have hzf:=HNO.out (fun e=>by injection e with e1 e2;subst e2;simp at hy)
      subst hzf
      go_wp2_with fail
      go_quiet (fail)
      go_wp2_with fail
      go_ret
      exact ⟨rfl,below_drawn (below_drawn (Below.refl _ _) _) _⟩
     ·have HX:=HNX.out (by rw [show p1=q1 by simpa using hx,show p2=q2 by simpa using hy])
      have HXH:=qh HX
      clear HX
      go_wp2_with fail
      go_quiet (fail)
      go_wp2_with fail
      go_roundw
      case rel=>exact ⟨k+1,n+nq,by omega,by go_num,HXH,rfl⟩
      case measure=>simp [intOf];omega
   ·obtain rfl:k=R.length:=by omega
    have hzt:z=true:=by
     rw [← HZ.out]
     refine decide_eq_true ?_
     have:=HE.out
     rw [List.take_length,List.take_of_length_le (by rw [HN.out];exact Nat.le_refl _)] at this
     exact this
    subst hzt
    go_wp2_with fail
    go_ret
    exact ⟨rfl,below_drawn (Below.refl _ _) _⟩
 ·have hd:((R.length:Int) != (R'.length:Int))=true:=bne_iff_ne.2 (by omega)
  have e:decide (R=R')=false:=decide_eq_false (fun e=>hn (by rw [e]))
  rw [e]
  clear hn e
  go_enter Tryz.func28,Tryz.ntmps28
  go_wp2_with fail
  go_ret
  exact ⟨rfl,Below.refl _ _⟩
end
section
open Go.RowKit
theorem eq_two (a b c d:Int) (w:World):(Op.equalIn 10000 82 (.agg #[.int .i64 a,.int .i64 b]) (.agg #[.int .i64 c,.int .i64 d])).run Tryz.prog w=.ok (a == c && b == d) w:=by
 have u3:=Tryz.underlying3
 have a3:=Tryz.isAgg3
 have z3:=Tryz.sizeOf3
 rw [show (10000:Nat)=9999+1 from rfl,Op.equalIn]
 simp only [Sem.run_bind,run_underlying Tryz.underlying82,Result.andThen_ok]
 simp only [Std.Legacy.Range.forIn_eq_forIn_range',Std.Legacy.Range.size,Nat.sub_zero,Nat.add_sub_cancel,Nat.div_one,List.range'_succ,List.range'_zero,List.forIn_cons,List.forIn_nil]
 go_simp
 by_cases h1:a=c <;> by_cases h2:b=d <;> simp [h1,h2] <;> go_simp <;> simp [h1,h2]
theorem shtimes_any (w:World) (k lo hi:Int) (A A':Option Addr) (n c m c':Nat) :
 Calls Tryz.prog 51 #[.agg #[.int .i64 k,.slice A n c,.int .i64 lo,.int .i64 hi,.slice A' m c']] w fun e w'=>e=.returned (.agg #[.int .i64 lo,.int .i64 hi])∧w.grownBy w' none:=by
 have X0:Hid (Box ((w.alloc (.cells #[.int .i64 k,.slice A n c,.int .i64 lo,.int .i64 hi,.slice A' m c'] 25)).alloc (.cells #[.int .i64 0,.int .i64 0] 82)) (w.heap.size+1) #[.int .i64 0,.int .i64 0] 82):=qh (by
  have:=Box.new (w.alloc (.cells #[.int .i64 k,.slice A n c,.int .i64 lo,.int .i64 hi,.slice A' m c'] 25)) #[.int .i64 0,.int .i64 0] 82
  rw [World.size_alloc] at this
  exact this)
 have G0:Hid (w.grownBy ((w.alloc (.cells #[.int .i64 k,.slice A n c,.int .i64 lo,.int .i64 hi,.slice A' m c'] 25)).alloc (.cells #[.int .i64 0,.int .i64 0] 82)) none):=qh ((grown_new w _ none).trans (grown_new _ _ none))
 go_enter Tryz.func51,Tryz.ntmps51
 go_wp2_with (first
  | (refine store_box _ _ _ (w.heap.size+1) #[.int .i64 0,.int .i64 0] #[.int .i64 lo,.int .i64 hi] rfl rfl rfl rfl rfl X0.out rfl (by kernel_rfl) (by simp [Value.oneCell']) ?_;intro w1 x1 g1;have X1:=qh x1;have G1:=qh (grown_two G0.out g1 (Nat.le_succ _));clear x1 g1)
  | fail)
 (try simp only [Exit.inBlock,Exit.then])
 exact bodyPost_ret (v:=.agg #[.int .i64 lo,.int .i64 hi]) (results_cell_row rfl _ _ (w.heap.size+1) 82 _ (0,0) _ rfl X1.out Tryz.underlying82 rfl (by kernel_rfl)) rfl ⟨rfl,G1.out⟩
theorem shonce_any (w:World) (k lo hi:Int) (A A':Option Addr) (n c m c':Nat) :
 Calls Tryz.prog 59 #[.agg #[.int .i64 k,.slice A n c,.int .i64 lo,.int .i64 hi,.slice A' m c']] w fun e w'=>e=.returned (.bool (lo == 0 && hi == 0))∧w.grownBy w' none:=by
 have heq:=fun u=>eq_two lo hi 0 0 u
 go_enter Tryz.func59,Tryz.ntmps59
 go_wp2_with fail
 refine (shtimes_any _ k lo hi A A' n c m c').mono ?_
 rintro e w1 ⟨rfl,g1⟩
 have G1:=qh ((grown_new w _ none).trans g1)
 clear g1
 go_wp2_with fail
 go_ret
 exact ⟨rfl,G1.out⟩
theorem shcounted_any (w:World) (k lo hi:Int) (A A':Option Addr) (n c m c':Nat) :
 Calls Tryz.prog 62 #[.agg #[.int .i64 k,.slice A n c,.int .i64 lo,.int .i64 hi,.slice A' m c']] w fun e w'=>e=.returned (.bool (decide (0≤lo) && decide (lo≤20) && (hi == -1 || (decide (lo≤hi) && decide (hi≤20)))))∧w.grownBy w' none:=by
 have G0:Hid (w.grownBy (w.alloc (.cells #[.int .i64 k,.slice A n c,.int .i64 lo,.int .i64 hi,.slice A' m c'] 25)) none):=qh (grown_new w _ none)
 rcases h0:decide (0≤lo) with _ | _
 ·go_enter Tryz.func62,Tryz.ntmps62
  go_wp2
  go_ret
  exact ⟨rfl,G0.out⟩
 rcases h1:decide (lo≤20) with _ | _
 ·go_enter Tryz.func62,Tryz.ntmps62
  go_wp2
  go_ret
  exact ⟨rfl,G0.out⟩
 rcases h2:(hi == -1) with _ | _
 ·rcases h3:decide (lo≤hi) with _ | _
  ·go_enter Tryz.func62,Tryz.ntmps62
   go_wp2
   go_ret
   exact ⟨rfl,G0.out⟩
  ·rcases h4:decide (hi≤20) with _ | _
   ·go_enter Tryz.func62,Tryz.ntmps62
    go_wp2
    go_ret
    exact ⟨rfl,G0.out⟩
   ·go_enter Tryz.func62,Tryz.ntmps62
    go_wp2
    go_ret
    exact ⟨rfl,G0.out⟩
 ·go_enter Tryz.func62,Tryz.ntmps62
  go_wp2
  go_ret
  exact ⟨rfl,G0.out⟩
theorem equalrg_any (w:World) (B B':Nat) (A A':Option Addr) (R R':List (Int×Int)) (c c':Nat) (h:Lies w B A (prC R)) (h':Lies w B' A' (prC R')) (hl:R.length≤9223372036854775807) :
 Calls Tryz.prog 60 #[.slice A R.length c,.slice A' R'.length c'] w fun e w'=>e=.returned (.bool (decide (R=R')))∧w.grownBy w' none:=by
 have H:=qh h
 have H':=qh h'
 clear h h'
 by_cases hn:R.length=R'.length
 ·have d0:((R.length:Int) != (R'.length:Int))=false:=by simp [hn]
  have d1:(R.length != R'.length)=false:=by simp [hn]
  have HN:=qh hn
  obtain ⟨z,hz⟩:∃ z,decide (R=R')=z:=⟨_,rfl⟩
  have HZ:=qh hz
  rw [hz]
  clear hn hz
  go_enter Tryz.func60,Tryz.ntmps60
  go_wp2_with fail
  go_loopw [13] (fun i wr=>∃ k n:Nat,k≤R.length∧i=.int .i64 k∧wr=w.drewN n∧Hid (R.take k=R'.take k)) (fun i _=>R.length - (intOf i).toNat)
  case atStart=>exact ⟨0,0,by omega,rfl,rfl,qh rfl⟩
  case round =>
   obtain ⟨k,n,hk,rfl,rfl,HT⟩:=hrel
   by_cases hlt:k < R.length
   ·have hlt':k < R'.length:=by have:=HN.out;omega
    obtain ⟨g,off,rfl,-,c0,c1⟩:=prC_at H.out hlt
    obtain ⟨g',off',rfl,-,c0',c1'⟩:=prC_at H'.out hlt'
    have b0:(0:Int)≤(k:Int):=by omega
    have b1:(k:Int) < (R.length:Int):=by omega
    have b2:(k:Int) < (R'.length:Int):=by omega
    obtain ⟨p,hp⟩:∃ x,R[k]=x:=⟨_,rfl⟩
    obtain ⟨p',hp'⟩:∃ x,R'[k]=x:=⟨_,rfl⟩
    rw [hp] at c0 c1
    rw [hp'] at c0' c1'
    obtain ⟨p1,p2⟩:=p
    obtain ⟨q1,q2⟩:=p'
    simp only at c0 c1 c0' c1'
    have heq:=fun u=>eq_rg p1 p2 q1 q2 u
    have HP:=qh hp
    have HP':=qh hp'
    clear hp hp'
    by_cases he:p1=q1∧p2=q2
    ·obtain ⟨rfl,rfl⟩:=he
     have hx:(p1 == p1)=true:=by simp
     have hy:(p2 == p2)=true:=by simp
     go_wp2_with fail
     go_quiet (fail)
     go_wp2_with fail
     go_roundw
     case rel=>exact ⟨k+1,n+nq,by omega,by go_num,rfl,qh (by rw [List.take_succ_eq_append_getElem hlt,List.take_succ_eq_append_getElem hlt',HT.out,HP.out,HP'.out])⟩
     case measure=>simp [intOf];omega
    ·have hx:(p1 == q1 && p2 == q2)=false:=by simpa using he
     have HF:Hid (z=false):=qh (by
      rw [← HZ.out]
      refine decide_eq_false fun e=>he ?_
      subst e
      have:=HP.out.symm.trans HP'.out
      injection this with h1 h2
      exact ⟨h1,h2⟩)
     clear he
     go_wp2_with fail
     go_quiet (fail)
     go_wp2_with fail
     go_ret
     exact ⟨by rw [HF.out];rfl,grown_draws (grown_draws (grown_refl w none) n) nq⟩
   ·obtain rfl:k=R.length:=by omega
    have HF:Hid (z=true):=qh (by
     rw [← HZ.out]
     refine decide_eq_true ?_
     have:=HT.out
     rw [List.take_length,HN.out,List.take_length] at this
     exact this)
    go_wp2_with fail
    go_ret
    exact ⟨by rw [HF.out];rfl,grown_draws (grown_refl _ _) _⟩
 ·have d0:((R.length:Int) != (R'.length:Int))=true:=by simp;omega
  have d1:(R.length != R'.length)=true:=by simpa using hn
  have HF:Hid (decide (R=R')=false):=qh (decide_eq_false fun e=>hn (by rw [e]))
  rw [HF.out]
  clear hn
  go_enter Tryz.func60,Tryz.ntmps60
  go_wp2_with fail
  go_ret
  exact ⟨rfl,grown_refl _ _⟩
end
section
def insB (c:Int):Bool:=decide (0≤c) && decide (c≤topR)
theorem turnR_has {R:List (Int×Int)} (hl:R.length≤500) (c:Int):hasR (turnR R) c=(insB c && !hasR R c):=by
 unfold turnR
 rw [setP_has,setR_has hl]
 show (insB c && !(insB c && hasR R c))=_
 cases insB c <;> simp
theorem turnR_canon (R:List (Int×Int)):Canon 0 (turnR R):=setP_canon _
theorem turnR_len {R:List (Int×Int)} (hl:R.length≤500):(turnR R).length≤R.length+1:=by
 obtain ⟨h1,h2⟩:=(turnR_canon R).lows
 have h3:=sub_length _ (0 :: R.map fun r=>r.2+1) h1 fun x hx=>by
  obtain ⟨g0,g1,g2⟩:=h2 x hx
  have g2:=g2 (x - 1) rfl
  rw [turnR_has hl] at g1 g2
  simp [insB] at g1 g2
  rw [List.mem_cons]
  by_cases h0:x=0
  ·exact .inl h0
  ·refine .inr ?_
   have hy:=g2 (by omega) (by omega)
   obtain ⟨r,hr,k1,k2⟩:=hasR_iff.1 hy
   refine List.mem_map.2 ⟨r,hr,?_⟩
   false_or_by_contra
   rename_i hne
   have:hasR R x=true:=hasR_iff.2 ⟨r,hr,by omega,by omega⟩
   rw [this] at g1
   simp at g1
 simpa using h3
end
section
def lowF (a:Int) (m:Int) (r:Int×Int):Int:=if a≤r.2∧r.1≤r.2∧max r.1 a < m then max r.1 a else m
def lowR (R:List (Int×Int)) (a:Int):Int:=R.foldl (lowF a) 1114112
theorem lowF_le (a m:Int) (r:Int×Int):lowF a m r≤m:=by unfold lowF;split <;> omega
theorem lowFold_le (a:Int):∀ (R:List (Int×Int)) (m:Int),R.foldl (lowF a) m≤m
 | [],_=>Int.le_refl _
 | r :: R,m=>by
  have h1:=lowFold_le a R (lowF a m r)
  have h2:=lowF_le a m r
  simp only [List.foldl_cons];omega
theorem lowFold_ge (a:Int):∀ (R:List (Int×Int)) (m:Int),a≤m→a≤R.foldl (lowF a) m
 | [],_,h=>h
 | r :: R,m,h=>lowFold_ge a R _ (by unfold lowF;split <;> omega)
theorem lowFold_is (a:Int):∀ (R:List (Int×Int)) (m:Int),R.foldl (lowF a) m=m∨hasR R (R.foldl (lowF a) m)=true
 | [],_=>.inl rfl
 | r :: R,m=>by
  simp only [List.foldl_cons]
  rcases lowFold_is a R (lowF a m r) with h | h
  ·by_cases hc:a≤r.2∧r.1≤r.2∧max r.1 a < m
   ·right
    rw [h,hasR_cons]
    have e:lowF a m r=max r.1 a:=by unfold lowF;rw [if_pos hc]
    rw [e,show inR r (max r.1 a)=true by simp [inR];omega];rfl
   ·left;rw [h];unfold lowF;rw [if_neg hc]
  ·right;rw [hasR_cons,h];simp
theorem lowFold_none (a:Int):∀ (R:List (Int×Int)) (m c:Int),a≤c→c < R.foldl (lowF a) m→hasR R c=false
 | [],_,_,_,_=>rfl
 | r :: R,m,c,ha,hc=>by
  simp only [List.foldl_cons] at hc
  rw [hasR_cons,lowFold_none a R _ c ha hc,Bool.or_false]
  have h1:=lowFold_le a R (lowF a m r)
  have h2:c < lowF a m r:=by omega
  have h3:=lowF_le a m r
  unfold lowF at h2
  split at h2
  ·simp [inR];omega
  ·rename_i hn
   simp only [inR,Bool.and_eq_false_iff,decide_eq_false_iff_not]
   omega
theorem lowR_spec {R:List (Int×Int)} {a:Int} (h:a≤1114112):a≤lowR R a∧lowR R a≤1114112∧(lowR R a < 1114112→hasR R (lowR R a)=true)∧∀ c,a≤c→c < lowR R a→hasR R c=false :=
 ⟨lowFold_ge a R _ h,lowFold_le a R _,fun hlt=>by
  rcases lowFold_is a R 1114112 with h1 | h1
  ·unfold lowR at hlt;omega
  ·exact h1,fun c h1 h2=>lowFold_none a R _ c h1 h2⟩
def hiF (h:Int) (r:Int×Int):Int:=if r.1≤h+1∧h < r.2 then min 1114111 r.2 else h
def passR (R:List (Int×Int)) (h:Int):Int:=R.foldl hiF h
def itR (R:List (Int×Int)) (h:Int):Nat→Int
 | 0=>h
 | n+1=>passR R (itR R h n)
theorem hiF_ge {h:Int} (r:Int×Int) (hh:h≤1114111):h≤hiF h r∧hiF h r≤1114111:=by unfold hiF;split <;> omega
theorem passR_ge:∀ (R:List (Int×Int)) (h:Int),h≤1114111→h≤passR R h∧passR R h≤1114111
 | [],_,hh=>⟨Int.le_refl _,hh⟩
 | r :: R,h,hh=>by
  have h1:=hiF_ge r hh
  have h2:=passR_ge R (hiF h r) h1.2
  show h≤passR R (hiF h r)∧passR R (hiF h r)≤1114111
  omega
theorem passR_all (Q:List (Int×Int)) (lo:Int):∀ (R:List (Int×Int)) (h:Int),(∀ r∈R,r∈Q)→(∀ c,lo≤c→c≤h→hasR Q c=true)→∀ c,lo≤c→c≤passR R h→hasR Q c=true
 | [],_,_,hh=>hh
 | r :: R,h,hs,hh=>passR_all Q lo R (hiF h r) (fun q hq=>hs q (by simp [hq])) fun c h0 h1=>by
  unfold hiF at h1
  split at h1
  ·rename_i hc
   by_cases hle:c≤h
   ·exact hh c h0 hle
   ·exact hasR_iff.2 ⟨r,hs r (by simp),by omega,by omega⟩
  ·exact hh c h0 h1
theorem passR_reach:∀ (R:List (Int×Int)) (h:Int) (r:Int×Int),h≤1114111→r∈R→r.1≤h+1→h < r.2→h=1114111∨h < passR R h
 | [],_,_,_,hr,_,_=>by cases hr
 | q :: R,h,r,hh,hr,h1,h2=>by
  have g1:=hiF_ge q hh
  have g2:=passR_ge R (hiF h q) g1.2
  show h=1114111∨h < passR R (hiF h q)
  by_cases hq:hiF h q=h
  ·rcases List.mem_cons.1 hr with rfl | hr
   ·unfold hiF at hq
    rw [if_pos ⟨h1,h2⟩] at hq
    left;omega
   ·rw [hq];exact passR_reach R h r hh hr h1 h2
  ·right;omega
theorem passR_is:∀ (R:List (Int×Int)) (h:Int),h≤1114111→passR R h=h∨passR R h=1114111∨∃ r∈R,h < r.2∧passR R h=r.2
 | [],_,_=>.inl rfl
 | q :: R,h,hh=>by
  have g1:=hiF_ge q hh
  show passR R (hiF h q)=h∨passR R (hiF h q)=1114111∨∃ r∈q :: R,h < r.2∧passR R (hiF h q)=r.2
  rcases passR_is R (hiF h q) g1.2 with h1 | h1 | ⟨r,hr,h2,h3⟩
  ·rw [h1]
   unfold hiF
   split
   ·rename_i hc
    by_cases hle:q.2≤1114111
    ·exact .inr (.inr ⟨q,by simp,hc.2,by omega⟩)
    ·exact .inr (.inl (by omega))
   ·exact .inl rfl
  ·exact .inr (.inl h1)
  ·exact .inr (.inr ⟨r,by simp [hr],by omega,h3⟩)
def cntR (R:List (Int×Int)) (h:Int):Nat:=(R.filter fun r=>decide (h < r.2)).length
theorem cntR_le (R:List (Int×Int)) (h:Int):cntR R h≤R.length:=List.length_filter_le _ _
theorem cntR_mono:∀ (R:List (Int×Int)) (h v:Int),h≤v→cntR R v≤cntR R h
 | [],_,_,_=>Nat.le_refl _
 | r :: R,h,v,hh=>by
  have:=cntR_mono R h v hh
  unfold cntR at this ⊢
  by_cases h1:v < r.2
  ·rw [List.filter_cons_of_pos (by simpa using h1),List.filter_cons_of_pos (by simp;omega)];simpa using this
  ·rw [List.filter_cons_of_neg (by simpa using h1)]
   by_cases h2:h < r.2
   ·rw [List.filter_cons_of_pos (by simpa using h2)];simp;omega
   ·rw [List.filter_cons_of_neg (by simpa using h2)];exact this
theorem cntR_less:∀ (R:List (Int×Int)) (h v:Int),h≤v→(∃ r∈R,h < r.2∧r.2≤v)→cntR R v < cntR R h
 | [],_,_,_,he=>by obtain ⟨r,hr,_⟩:=he;cases hr
 | r :: R,h,v,hh,⟨q,hq,h1,h2⟩=>by
  have hm:=cntR_mono R h v hh
  rcases List.mem_cons.1 hq with rfl | hq
  ·unfold cntR at hm ⊢
   rw [List.filter_cons_of_neg (by simp;omega),List.filter_cons_of_pos (by simpa using h1)];simp;omega
  ·have:=cntR_less R h v hh ⟨q,hq,h1,h2⟩
   unfold cntR at this ⊢
   by_cases h3:v < r.2
   ·rw [List.filter_cons_of_pos (by simpa using h3),List.filter_cons_of_pos (by simp;omega)];simpa using this
   ·rw [List.filter_cons_of_neg (by simpa using h3)]
    by_cases h4:h < r.2
    ·rw [List.filter_cons_of_pos (by simpa using h4)];simp;omega
    ·rw [List.filter_cons_of_neg (by simpa using h4)];exact this
theorem itR_ge (R:List (Int×Int)) {h:Int} (hh:h≤1114111):∀ n,h≤itR R h n∧itR R h n≤1114111
 | 0=>⟨Int.le_refl _,hh⟩
 | n+1=>by
  have h1:=itR_ge R hh n
  have h2:=passR_ge R _ h1.2
  show h≤passR R (itR R h n)∧_
  exact ⟨by omega,h2.2⟩
theorem itR_stays (R:List (Int×Int)) {h:Int} (hh:h≤1114111):∀ n,passR R (itR R h n)=itR R h n∨itR R h n=1114111∨cntR R (itR R h n)+n≤R.length
 | 0=>.inr (.inr (by have:=cntR_le R h;simpa [itR] using this))
 | n+1=>by
  have hg:=itR_ge R hh n
  have hp:=passR_ge R (itR R h n) hg.2
  show passR R (passR R (itR R h n))=passR R (itR R h n)∨passR R (itR R h n)=1114111∨_
  rcases itR_stays R hh n with h1 | h1 | h1
  ·left;rw [h1,h1]
  ·right;left;omega
  ·rcases passR_is R (itR R h n) hg.2 with h2 | h2 | ⟨r,hr,h2,h3⟩
   ·left;rw [h2,h2]
   ·exact .inr (.inl h2)
   ·right;right
    have:=cntR_less R (itR R h n) (passR R (itR R h n)) hp.1 ⟨r,hr,h2,by omega⟩
    show cntR R (passR R (itR R h n))+(n+1)≤R.length
    omega
theorem itR_all (R:List (Int×Int)) {lo:Int} (h:hasR R lo=true):∀ n,∀ c,lo≤c→c≤itR R lo n→hasR R c=true
 | 0,c,h0,h1=>by
  have:c=lo:=by simp only [itR] at h1;omega
  rw [this];exact h
 | n+1,c,h0,h1=>passR_all R lo R (itR R lo n) (fun r hr=>hr) (itR_all R h n) c h0 h1
theorem itR_spec {R:List (Int×Int)} {lo:Int} (h:hasR R lo=true) (hl:lo≤1114111):lo≤itR R lo (R.length+1)∧itR R lo (R.length+1)≤1114111∧(∀ c,lo≤c→c≤itR R lo (R.length+1)→hasR R c=true)∧(itR R lo (R.length+1)=1114111∨hasR R (itR R lo (R.length+1)+1)=false):=by
 have hg:=itR_ge R hl (R.length+1)
 refine ⟨hg.1,hg.2,itR_all R h _,?_⟩
 rcases itR_stays R hl (R.length+1) with h1 | h1 | h1
 ·rcases hh:hasR R (itR R lo (R.length+1)+1) with _ | _
  ·exact .inr rfl
  ·obtain ⟨r,hr,h2,h3⟩:=hasR_iff.1 hh
   rcases passR_reach R _ r hg.2 hr h2 (by omega) with h4 | h4
   ·exact .inl h4
   ·omega
 ·exact .inl h1
 ·omega
end
section
open Go
section
variable {P:Program} {ops:Array Oper} {Q:Exit→Act→World→Prop} {md:Region.Mode} {S:World→Prop} {ex:Nat→Bool}
def waits (md:Region.Mode) (ops:Array Oper):Nat→Nat→Nat→Bool
 | 0,_,_=>false
 | fuel+1,j,i=>match ops[j]? with
  | some o=>o.after.any fun e=>Region.binds md e && (e.on == i || waits md ops fuel e.on i)
  | none=>false
def Closed (md:Region.Mode) (ops:Array Oper) (listed:Array Bool):Prop :=
 ∀ k o,ops[k]?=some o→listed.getD k false=true→∀ e∈o.after,Region.binds md e=true→listed.getD e.on false=true
theorem closed_none (md:Region.Mode) (ops:Array Oper) (n:Nat):Closed md ops (Array.replicate n false):=by
 intro k o _ h
 simp only [Array.getD_eq_getD_getElem?,Array.getElem?_replicate] at h
 split at h <;> simp at h
theorem Closed.next {listed:Array Bool} {i:Nat} (h:Closed md ops listed) (hi:i∈Region.ready md ops listed):Closed md ops (listed.setIfInBounds i true):=by
 intro k o hk hl e he hb
 by_cases hki:k=i
 ·subst hki
  obtain ⟨_,o',ho',hall⟩:=mem_ready.1 hi
  obtain rfl:o=o':=Option.some.inj (hk.symm.trans ho')
  exact getD_set_true (hall e he hb)
 ·rw [getD_set_ne false (Ne.symm hki)] at hl
  exact getD_set_true (h k o hk hl e he hb)
theorem Closed.step {listed:Array Bool} (i:Nat) (h:Closed md ops listed) (hi:(Region.ready md ops listed).contains i=true):Closed md ops (listed.setIfInBounds i true):=h.next (by simpa using hi)
theorem waits_listed {listed:Array Bool} (hc:Closed md ops listed):∀ (fuel j i:Nat),(∀ o,ops[j]?=some o→∀ e∈o.after,Region.binds md e=true→listed.getD e.on false=true)→waits md ops fuel j i=true→listed.getD i false=true:=by
 intro fuel
 induction fuel with
 | zero=>intro j i _ h;cases h
 | succ fuel ih =>
  intro j i hj h
  unfold waits at h
  split at h
  ·rename_i o ho
   obtain ⟨e,he,hb⟩:=Array.any_eq_true'.1 h
   simp only [Bool.and_eq_true,Bool.or_eq_true,beq_iff_eq] at hb
   have hl:=hj o ho e he hb.1
   rcases hb.2 with h2 | h2
   ·rw [← h2];exact hl
   ·exact ih e.on i (fun o' ho'=>hc e.on o' ho' hl) h2
  ·cases h
def wpAnyE (P:Program) (md:Region.Mode) (ops:Array Oper) (Q:Exit→Act→World→Prop) (S:World→Prop) (ex:Nat→Bool):Nat→Array Bool→Act→World→Prop
 | 0,listed,a,w=>Region.ready md ops listed=[]∧Q .normal a w
 | fuel+1,listed,a,w =>
  (Region.ready md ops listed=[]→Q .normal a w) ∧
  ∀ i∈Region.ready md ops listed,wpOp P ops Q i (fun a' w'=>(ex i=false→S w→S w')∧wpAnyE P md ops Q S ex fuel (listed.setIfInBounds i true) a' w') a w
theorem wpAny_of_E:∀ (fuel:Nat) (listed:Array Bool) (a:Act) (w:World),wpAnyE P md ops Q S ex fuel listed a w→wpAny P md ops Q fuel listed a w
 | 0,_,_,_,h=>h
 | fuel+1,_,_,_,h=>⟨h.1,fun i hi=>wpOp_mono (fun a' w' h'=>wpAny_of_E fuel _ a' w' h'.2) (h.2 i hi)⟩
theorem wpAnyE_first {i:Nat} {oi:Oper} {v:Value} (hi:ops[i]?=some oi) (hsel:∀ (j:Nat) (o:Oper) cs b,ops[j]?=some o→o.op≠.select cs b)
 (hQ:∀ c a w,Q (.panic c) (a.put oi.dst v) w→Q (.panic c) a w) (hex:∀ j,ex j=true→waits md ops ops.size j i=true) :
 ∀ (fuel:Nat) (listed:Array Bool) (a:Act) (w:World),Closed md ops listed →
  (∀ j oj,ops[j]?=some oj→j≠i→listed.getD j true=false→(∀ e∈oj.after,Region.binds md e=true→e.on≠i)→oi.apart ops oj=true) →
  i∈Region.ready md ops listed→YieldsIf P ops S oi v a→S w →
  wpAnyE P md ops Q S ex fuel (listed.setIfInBounds i true) (a.put oi.dst v) w→wpAnyE P md ops Q S ex (fuel+1) listed a w:=by
 intro fuel
 induction fuel with
 | zero =>
  intro listed a w _ _ hr hy hS H
  refine ⟨fun h=>(by rw [h] at hr;cases hr),fun j hj=>?_⟩
  rcases Nat.decEq j i with hji | hji
  ·have:=ready_mono hj hji
   rw [H.1] at this
   cases this
  ·subst hji
   exact hy.wpOp hi hS ⟨fun _ h=>h,H⟩
 | succ fuel ih =>
  intro listed a w hc hfree hr hy hS H
  refine ⟨fun h=>(by rw [h] at hr;cases hr),fun j hj=>?_⟩
  rcases Nat.decEq j i with hji | hji
  ·have hrest:=H.2 j (ready_mono hj hji)
   obtain ⟨hjun,oj,hoj,hall⟩:=mem_ready.1 hj
   have hiun:=(mem_ready.1 hr).1
   have clash:∀ {m:Nat},m=i→listed.getD m false=true→False:=fun hm hl=>by
    rw [hm] at hl
    simp only [Array.getD_eq_getD_getElem?] at hl hiun
    cases hh:listed[i]? with
    | none=>rw [hh] at hl;cases hl
    | some b=>rw [hh] at hl hiun;simp only [Option.getD_some] at hl hiun;rw [hl] at hiun;cases hiun
   have hnot:∀ e∈oj.after,Region.binds md e=true→e.on≠i:=fun e he hb heq=>clash heq (hall e he hb)
   have hnex:ex j=false:=by
    cases he:ex j with
    | false=>rfl
    | true =>
     refine (clash rfl (waits_listed hc _ j i (fun o ho e hee hb=>?_) (hex j he))).elim
     obtain rfl:oj=o:=Option.some.inj (hoj.symm.trans ho)
     exact hall e hee hb
   have hput:=wpOp_putIf hoj (hfree j oj hoj hji hjun hnot) (fun cs b=>hsel i oi cs b hi) (fun cs b=>hsel j oj cs b hoj) hQ hy hrest
   refine wpOp_mono (fun a' w' h3=>⟨h3.2.1,?_⟩) hput
   refine ih (listed.setIfInBounds j true) a' w' (hc.next hj) ?_ (ready_mono hr (Ne.symm hji)) h3.1 (h3.2.1 hnex hS) ?_
   ·intro k ok hk hki hun hno
    refine hfree k ok hk hki ?_ hno
    rcases Nat.decEq j k with hjk | hjk
    ·rw [getD_set_ne true hjk] at hun;exact hun
    ·subst hjk;exact hjun
   ·rw [Array.setIfInBounds_comm _ _ hji]
    exact h3.2.2
  ·subst hji
   exact hy.wpOp hi hS ⟨fun _ h=>h,H⟩
theorem wpAnyE_first_free {i:Nat} {oi:Oper} {v:Value} (hi:ops[i]?=some oi) (hsel:∀ (j:Nat) (o:Oper) cs b,ops[j]?=some o→o.op≠.select cs b)
 (hQ:∀ c a w,Q (.panic c) (a.put oi.dst v) w→Q (.panic c) a w) :
 ∀ (fuel:Nat) (listed:Array Bool) (a:Act) (w:World),
  (∀ j oj,ops[j]?=some oj→j≠i→listed.getD j true=false→(∀ e∈oj.after,Region.binds md e=true→e.on≠i)→oi.apart ops oj=true) →
  i∈Region.ready md ops listed→YieldsIf P ops (fun _=>True) oi v a →
  wpAnyE P md ops Q S ex fuel (listed.setIfInBounds i true) (a.put oi.dst v) w→wpAnyE P md ops Q S ex (fuel+1) listed a w:=by
 intro fuel
 induction fuel with
 | zero =>
  intro listed a w _ hr hy H
  refine ⟨fun h=>(by rw [h] at hr;cases hr),fun j hj=>?_⟩
  rcases Nat.decEq j i with hji | hji
  ·have:=ready_mono hj hji
   rw [H.1] at this
   cases this
  ·subst hji
   exact hy.wpOp hi trivial ⟨fun _ h=>h,H⟩
 | succ fuel ih =>
  intro listed a w hfree hr hy H
  refine ⟨fun h=>(by rw [h] at hr;cases hr),fun j hj=>?_⟩
  rcases Nat.decEq j i with hji | hji
  ·have hrest:=H.2 j (ready_mono hj hji)
   obtain ⟨hjun,oj,hoj,hall⟩:=mem_ready.1 hj
   have hiun:=(mem_ready.1 hr).1
   have hnot:∀ e∈oj.after,Region.binds md e=true→e.on≠i:=fun e he hb heq=>by
    have hl:=hall e he hb
    rw [heq] at hl
    simp only [Array.getD_eq_getD_getElem?] at hl hiun
    cases hh:listed[i]? with
    | none=>rw [hh] at hl;cases hl
    | some b=>rw [hh] at hl hiun;simp only [Option.getD_some] at hl hiun;rw [hl] at hiun;cases hiun
   have hput:=wpOp_putIf hoj (hfree j oj hoj hji hjun hnot) (fun cs b=>hsel i oi cs b hi) (fun cs b=>hsel j oj cs b hoj) hQ hy hrest
   refine wpOp_mono (fun a' w' h3=>⟨h3.2.1,?_⟩) hput
   refine ih (listed.setIfInBounds j true) a' w' ?_ (ready_mono hr (Ne.symm hji)) h3.1 ?_
   ·intro k ok hk hki hun hno
    refine hfree k ok hk hki ?_ hno
    rcases Nat.decEq j k with hjk | hjk
    ·rw [getD_set_ne true hjk] at hun;exact hun
    ·subst hjk;exact hjun
   ·rw [Array.setIfInBounds_comm _ _ hji]
    exact h3.2.2
  ·subst hji
   exact hy.wpOp hi trivial ⟨fun _ h=>h,H⟩
/-! the moves -/
theorem wpAnyE_take {i:Nat} {oi:Oper} {v:Value} {fuel:Nat} {listed:Array Bool} {a:Act} {w:World} {xs:List Nat} (hi:ops[i]?=some oi)
 (hs:Region.noSelect ops=true) (hf:Region.free md ops listed i=true) (hr:(Region.ready md ops listed).contains i=true) (hx:xs.all (fun j=>waits md ops ops.size j i)=true)
 (hQ:∀ c a w,Q (.panic c) (a.put oi.dst v) w→Q (.panic c) a w) (hy:YieldsIf P ops S oi v a) (hS:S w) (hc:Closed md ops listed)
 (h:Closed md ops (listed.setIfInBounds i true)→wpAnyE P md ops Q S (fun j=>xs.contains j) fuel (listed.setIfInBounds i true) (a.put oi.dst v) w):wpAnyE P md ops Q S (fun j=>xs.contains j) (fuel+1) listed a w:=by
 have hr':i∈Region.ready md ops listed:=by simpa using hr
 refine wpAnyE_first hi (Region.noSelect_spec hs) hQ (fun j hj=>?_) fuel listed a w hc (Region.free_spec hi hf) hr' hy hS (h (hc.next hr'))
 exact List.all_eq_true.1 hx j (by simpa using hj)
theorem wpAnyE_free {i:Nat} {oi:Oper} {v:Value} {fuel:Nat} {listed:Array Bool} {a:Act} {w:World} (hi:ops[i]?=some oi)
 (hs:Region.noSelect ops=true) (hf:Region.free md ops listed i=true) (hr:(Region.ready md ops listed).contains i=true)
 (hQ:∀ c a w,Q (.panic c) (a.put oi.dst v) w→Q (.panic c) a w) (hy:YieldsIf P ops (fun _=>True) oi v a) (hc:Closed md ops listed)
 (h:Closed md ops (listed.setIfInBounds i true)→wpAnyE P md ops Q S ex fuel (listed.setIfInBounds i true) (a.put oi.dst v) w):wpAnyE P md ops Q S ex (fuel+1) listed a w:=by
 have hr':i∈Region.ready md ops listed:=by simpa using hr
 exact wpAnyE_first_free hi (Region.noSelect_spec hs) hQ fuel listed a w (Region.free_spec hi hf) hr' hy (h (hc.next hr'))
theorem eY (i:Nat) {oi:Oper} {v:Value} {fuel:Nat} {listed:Array Bool} {a:Act} {w:World} {xs:List Nat} (hS:S w) (hc:Closed md ops listed)
 (h:Closed md ops (listed.setIfInBounds i true)→wpAnyE P md ops Q S (fun j=>xs.contains j) fuel (listed.setIfInBounds i true) (a.put oi.dst v) w)
 (hi:ops[i]?=some oi:=by rfl) (hQ:∀ c a w,Q (.panic c) (a.put oi.dst v) w→Q (.panic c) a w:=by exact fun _ _ _ h=>h)
 (hw:Region.wanted oi (yielded ops a.tmps)=true:=by rfl) (hy:∀ u,S u→(execOp a.eval oi).run P u=.ok (.value v) u:=by (intro u hu;(try dsimp only at hu);go_simp;try with_reducible rfl))
 (hs:Region.noSelect ops=true:=by kernel_rfl) (hf:Region.free md ops listed i=true:=by kernel_rfl) (hr:(Region.ready md ops listed).contains i=true:=by kernel_rfl) (hx:xs.all (fun j=>waits md ops ops.size j i)=true:=by kernel_rfl) :
 wpAnyE P md ops Q S (fun j=>xs.contains j) (fuel+1) listed a w:=wpAnyE_take hi hs hf hr hx hQ (.inl ⟨hw,hy⟩) hS hc h
theorem eX (i:Nat) {oi:Oper} {v:Value} {fuel:Nat} {listed:Array Bool} {a:Act} {w:World} (hc:Closed md ops listed)
 (h:Closed md ops (listed.setIfInBounds i true)→wpAnyE P md ops Q S ex fuel (listed.setIfInBounds i true) (a.put oi.dst v) w)
 (hi:ops[i]?=some oi:=by rfl) (hQ:∀ c a w,Q (.panic c) (a.put oi.dst v) w→Q (.panic c) a w:=by exact fun _ _ _ h=>h)
 (hw:Region.wanted oi (yielded ops a.tmps)=true:=by rfl) (hy:∀ u,True→(execOp a.eval oi).run P u=.ok (.value v) u:=by (intro u _;go_simp;try with_reducible rfl))
 (hs:Region.noSelect ops=true:=by kernel_rfl) (hf:Region.free md ops listed i=true:=by kernel_rfl) (hr:(Region.ready md ops listed).contains i=true:=by kernel_rfl):wpAnyE P md ops Q S ex (fuel+1) listed a w:=wpAnyE_free hi hs hf hr hQ (.inl ⟨hw,hy⟩) hc h
def AllReadyE (P:Program) (md:Region.Mode) (ops:Array Oper) (Q:Exit→Act→World→Prop) (S:World→Prop) (ex:Nat→Bool) (fuel:Nat) (listed:Array Bool) (a:Act) (w:World) (rs:List Nat):Prop :=
 ∀ i∈rs,wpOp P ops Q i (fun a' w'=>(ex i=false→S w→S w')∧wpAnyE P md ops Q S ex fuel (listed.setIfInBounds i true) a' w') a w
theorem AllReadyE.nil {fuel:Nat} {listed:Array Bool} {a:Act} {w:World}:AllReadyE P md ops Q S ex fuel listed a w []:=fun _ h=>by cases h
theorem AllReadyE.cons {fuel:Nat} {listed:Array Bool} {a:Act} {w:World} {i:Nat} {o:Oper} {rs:List Nat} (ho:ops[i]?=some o)
 (h:∀ K':Act→World→Prop,Shut (∀ a w,(ex i=false→S w)→(S w→wpAnyE P md ops Q S ex fuel (listed.setIfInBounds i true) a w)→(ex i=true→wpAnyE P md ops Q S ex fuel (listed.setIfInBounds i true) a w)→K' a w) →
  if Region.wanted o (yielded ops a.tmps)=true then Oper.wp P o a w K' Q else K' (a.put o.dst undef) w)
 (hs:AllReadyE P md ops Q S ex fuel listed a w rs):AllReadyE P md ops Q S ex fuel listed a w (i :: rs):=fun j hj=>by
 rcases List.mem_cons.1 hj with hji | hj
 ·subst hji
  refine wpOp_step ho (fun K' hK=>h K' (fun a w hS hW hX=>hK a w ⟨fun he _=>hS he,?_⟩))
  cases he:ex j with
  | false=>exact hW (hS he)
  | true=>exact hX he
 ·exact hs j hj
theorem wpAnyE_ready {rs:List Nat} {fuel:Nat} {listed:Array Bool} {a:Act} {w:World} (hr:Region.ready md ops listed=rs) (hne:rs≠[])
 (h:AllReadyE P md ops Q S ex fuel listed a w rs):wpAnyE P md ops Q S ex (fuel+1) listed a w :=
 ⟨fun h0=>absurd (hr▸h0) hne,hr▸h⟩
theorem eA (i:Nat) {fuel:Nat} {listed:Array Bool} {a:Act} {w:World} {o:Oper}
 (h:∀ K':Act→World→Prop,Shut (∀ a w,(ex i=false→S w)→(S w→wpAnyE P md ops Q S ex fuel (listed.setIfInBounds i true) a w)→(ex i=true→wpAnyE P md ops Q S ex fuel (listed.setIfInBounds i true) a w)→K' a w) →
  if Region.wanted o (yielded ops a.tmps)=true then Oper.wp P o a w K' Q else K' (a.put o.dst undef) w)
 (ho:ops[i]?=some o:=by rfl) (hr:Region.ready md ops listed=[i]:=by kernel_rfl):wpAnyE P md ops Q S ex (fuel+1) listed a w :=
 wpAnyE_ready hr (List.cons_ne_nil _ _) (AllReadyE.cons ho h AllReadyE.nil)
theorem eB {K':Act→World→Prop} {fuel:Nat} {listed:Array Bool} {a:Act} {w:World} {i:Nat} (hK:Shut (∀ a w,(ex i=false→S w)→(S w→wpAnyE P md ops Q S ex fuel (listed.setIfInBounds i true) a w)→(ex i=true→wpAnyE P md ops Q S ex fuel (listed.setIfInBounds i true) a w)→K' a w))
 (hZ:Closed md ops listed) (hS:S w) (h:S w→Closed md ops (listed.setIfInBounds i true)→wpAnyE P md ops Q S ex fuel (listed.setIfInBounds i true) a w)
 (hr:(Region.ready md ops listed).contains i=true:=by kernel_rfl) (hx:ex i=false:=by kernel_rfl):K' a w :=
 hK.out a w (fun _=>hS) (fun h'=>h h' (hZ.step i hr)) (fun hX=>by rw [hx] at hX;cases hX)
theorem eE {K':Act→World→Prop} {fuel:Nat} {listed:Array Bool} {a:Act} {w:World} {i:Nat} (hK:Shut (∀ a w,(ex i=false→S w)→(S w→wpAnyE P md ops Q S ex fuel (listed.setIfInBounds i true) a w)→(ex i=true→wpAnyE P md ops Q S ex fuel (listed.setIfInBounds i true) a w)→K' a w))
 (hZ:Closed md ops listed) (h:Closed md ops (listed.setIfInBounds i true)→wpAnyE P md ops Q S ex fuel (listed.setIfInBounds i true) a w)
 (hr:(Region.ready md ops listed).contains i=true:=by kernel_rfl) (hx:ex i=true:=by kernel_rfl):K' a w :=
 hK.out a w (fun hX=>by rw [hx] at hX;cases hX) (fun _=>h (hZ.step i hr)) (fun _=>h (hZ.step i hr))
theorem wpAnyE_done {listed:Array Bool} {a:Act} {w:World} (hr:Region.ready md ops listed=[]) (h:Q .normal a w) :
 ∀ fuel,wpAnyE P md ops Q S ex fuel listed a w
 | 0=>⟨hr,h⟩
 | _+1=>⟨fun _=>h,by rw [hr];simp⟩
theorem wp_region_E {id:Nat} {a:Act} {w:World} (xs:List Nat) (hm:P.follows .mixedOrders=true) (hS:S w.drew)
 (h:S w.drew→Closed .any ops (Array.replicate ops.size false)→wpAnyE P .any ops Q S (fun j=>xs.contains j) ops.size (Array.replicate ops.size false) a w.drew):(Code.region id ops true).wp P Q a w :=
 wp_region_any hm (wpAny_of_E _ _ _ _ (h hS (closed_none _ _ _)))
end
end
end Go.Proofs.YtoeocodfndbebaaGreatDoor
