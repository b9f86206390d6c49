/- Shared texts, shaken for one claim. -/
import Derived.Test.YtoeocodfndbebaaGreatDoorZB2
import Derived.Test.YtoeocodfndbebaaGreatDoorZB7
import Derived.Test.YtoeocodfndbebaaGreatDoorZB20
set_option maxRecDepth 20000
set_option maxHeartbeats 16000000
namespace Go.Proofs.YtoeocodfndbebaaGreatDoor
section
open Go.RowKit Go.Maps
theorem clos_nil (f:Int):ClosR f []:=⟨fun _ _ _ _ _ h=>(by cases h),fun _ _ h=>(by cases h)⟩
theorem has_top {p:Int→Bool} {c:Int} (h:hasR (setP p) c=true):inTop c∧p c=true:=by
 rw [setP_has] at h
 simp only [Bool.and_eq_true,decide_eq_true_eq] at h
 exact ⟨h.1,h.2⟩
theorem has_of {p:Int→Bool} {c:Int} (hc:inTop c) (h:p c=true):hasR (setP p) c=true:=by
 rw [setP_has]
 unfold inTop at hc
 simp [hc.1,hc.2,h]
theorem clos_set {f:Int} {L:List (Int×Int)} (h:ClosR f L):ClosR f (setP (hasR L)):=by
 refine ⟨fun e c k hc hk hh=>?_,fun e c hh=>?_⟩
 ·exact has_of hc (h.1 e c k hc hk (has_top hh).2)
 ·exact has_of (mir_in (has_top hh).1) (h.2 e c (has_top hh).2)
theorem clos_not {f:Int} {L:List (Int×Int)} (h:ClosR f L):ClosR f (setP fun c=>!hasR L c):=by
 refine ⟨fun e c k hc hk hh=>?_,fun e c hh=>?_⟩
 ·have h1:=has_top hh
  refine has_of hc ?_
  rcases hL:hasR L c with _ | _
  ·rfl
  ·have h2:=h.1 e k c h1.1 hk.symm hL
   have h3:=h1.2
   rw [h2] at h3
   cases h3
 ·have h1:=has_top hh
  refine has_of (mir_in h1.1) ?_
  rcases hL:hasR L c with _ | _
  ·rfl
  ·have h2:=h.2 e (mir c) (by rw [mir_twice];exact hL)
   have h3:=h1.2
   rw [h2] at h3
   cases h3
theorem clos_app {f:Int} {L M:List (Int×Int)} (h:ClosR f L) (h':ClosR f M):ClosR f (L++M):=by
 refine ⟨fun e c k hc hk hh=>?_,fun e c hh=>?_⟩
 ·rw [hasR_append,Bool.or_eq_true] at hh ⊢
  exact hh.elim (fun x=>.inl (h.1 e c k hc hk x)) (fun x=>.inr (h'.1 e c k hc hk x))
 ·rw [hasR_append,Bool.or_eq_true] at hh ⊢
  exact hh.elim (fun x=>.inl (h.2 e c x)) (fun x=>.inr (h'.2 e c x))
theorem clos_beh (f:Int) (R:List (Int×Int)):ClosR f (behR (flag1 f) (flag2 f) R):=by
 unfold behR
 refine ⟨fun e c k hc hk hh=>?_,fun e c hh=>?_⟩
 ·obtain ⟨hkt,hh⟩:=has_top hh
  rw [beh_has hkt] at hh
  refine has_of hc ((beh_has hc).2 ?_)
  rcases hh with h | ⟨-,j,hj,hf,h⟩ | ⟨e2,h,hi⟩
  ·exact .inr (.inl ⟨e,k,hkt,hk,h⟩)
  ·exact .inr (.inl ⟨e,j,hj,hf.trans hk,h⟩)
  ·by_cases he:mir k=k
   ·rw [he] at h
    exact .inr (.inl ⟨e,k,hkt,hk,h⟩)
   ·have:=isM_alone (isM_iff.2 he) hk.symm
    subst this
    exact .inr (.inr ⟨e2,h,hi⟩)
 ·obtain ⟨hkt,hh⟩:=has_top hh
  have hc:=mir_in hkt
  rw [beh_has hkt] at hh
  refine has_of hc ((beh_has hc).2 ?_)
  rcases hh with h | ⟨e1,j,hj,hf,h⟩ | ⟨-,h,hi⟩
  ·exact .inr (.inr ⟨e,h,hkt⟩)
  ·by_cases he:mir c=c
   ·rw [he] at hf
    exact .inr (.inl ⟨e1,j,hj,hf,h⟩)
   ·have hm:isM (mir c)=true:=isM_iff.2 (by rw [mir_twice];exact fun x=>he x.symm)
    have:=isM_alone hm hf
    subst this
    exact .inr (.inr ⟨e,h,hkt⟩)
  ·rw [mir_twice] at h
   exact .inl h
theorem froms_ten:froms 10=[]∧fo 10=10∧mir 10=10:=by decide +kernel
theorem clos_ten (f:Int):ClosR f [(10,10)]:=by
 have h10:∀ c,hasR [(10,10)] c=true↔c=10:=fun c=>by
  rw [hasR_iff]
  constructor
  ·rintro ⟨r,hr,h1,h2⟩
   rw [List.mem_singleton] at hr
   subst hr
   dsimp only at h1 h2
   omega
  ·rintro rfl
   exact ⟨(10,10),by simp,by decide,by decide⟩
 refine ⟨fun _ c k _ hk hh=>?_,fun _ c hh=>?_⟩
 ·rw [h10] at hh ⊢
  subst hh
  rw [froms_ten.2.1] at hk
  false_or_by_contra
  rename_i hne
  have:c∈froms 10:=mem_froms.2 ⟨hk.symm,hne⟩
  rw [froms_ten.1] at this
  simp at this
 ·rw [h10] at hh ⊢
  have:=mir_twice c
  rw [hh,froms_ten.2.2] at this
  exact this.symm
theorem clos_dot (f:Int):ClosR f (dotR f):=by
 unfold dotR
 refine clos_not ?_
 split
 ·exact clos_nil f
 ·exact clos_ten f
theorem clos_part (f:Int) (t:Tok):ClosR f (partR f t):=by
 unfold partR
 split
 ·exact clos_beh f _
 ·split
  ·exact clos_beh f _
  ·split
   ·exact clos_not (clos_beh f _)
   ·exact clos_beh f _
theorem clos_classL {f:Int}:∀ {T:List Tok} {rs:List (Int×Int)} {R:List Tok},classL f T=some (rs,R)→ClosR f rs
 | [],_,_,h=>by cases h
 | t :: T,rs,R,h=>by
  rw [classL] at h
  by_cases h8:t.k=8
  ·rw [if_pos h8] at h
   injection h with h
   injection h with h1 h2
   subst h1
   exact clos_nil f
  ·rw [if_neg h8] at h
   rcases hc:classL f T with _ | ⟨rs',R'⟩
   ·rw [hc] at h;cases h
   ·rw [hc] at h
    injection h with h
    injection h with h1 h2
    subst h1
    exact clos_app (clos_part f t) (clos_classL hc)
theorem clos_setT {f:Int} {t:Tok} {R R':List Tok} {rs:List (Int×Int)} (h:setT f t R=some (rs,R')):ClosR f rs:=by
 unfold setT at h
 split at h
 ·injection h with h
  injection h with h1 h2
  subst h1
  exact clos_dot f
 ·split at h
  ·rcases hc:classL f R with _ | ⟨rs',R2⟩
   ·rw [hc] at h;cases h
   ·rw [hc] at h
    injection h with h
    injection h with h1 h2
    subst h1
    have hcl:=clos_classL hc
    unfold classR
    split
    ·exact clos_not (clos_set hcl)
    ·exact clos_set hcl
  ·injection h with h
   injection h with h1 h2
   subst h1
   exact clos_part f t
theorem clos_leaf (f k lo hi:Int) {rs:List (Int×Int)} (h:ClosR f rs):closN f (.mk k lo hi rs []):=by
 rw [closN]
 refine ⟨h,?_⟩
 rw [closL]
 trivial
theorem clos_tog {f k:Int}:∀ {ns:List Nd},closL f ns→closN f (togT k ns)
 | [],_=>clos_leaf f 1 0 0 (clos_nil f)
 | [n],h=>by rw [closL] at h;exact h.1
 | n :: m :: ns,h=>by
  show closN f (.mk k 0 0 [] (n :: m :: ns))
  rw [closN]
  exact ⟨clos_nil f,h⟩
def ClosOk (f:Int) (x:DR):Prop:=∀ n R,x=.ok (n,R)→closN f n
section
variable {inner:Option (List Tok→DR)} {f:Int} {e q:Nat}
theorem clos_atom (hin:∀ g,inner=some g→∀ T,ClosOk f (g T)) (T:List Tok):ClosOk f (dAtom inner f e T):=by
 intro n R h
 rcases T with _ | ⟨t,T⟩
 ·cases h
 unfold dAtom at h
 simp only at h
 by_cases h3:t.k=3
 ·rw [if_pos h3] at h
  rcases hi:inner with _ | g
  ·rw [hi] at h;cases h
  ·rw [hi] at h
   simp only at h
   rcases hg:g T with x | ⟨m,_ | ⟨s,S⟩⟩
   ·rw [hg] at h;cases h
   ·rw [hg] at h;cases h
   ·rw [hg] at h
    simp only at h
    by_cases h4:s.k=4
    ·rw [if_pos h4] at h
     injection h with h
     injection h with h1 h2
     subst h1
     exact hin g hi T _ _ hg
    ·rw [if_neg h4] at h;cases h
 rw [if_neg h3] at h
 by_cases h10:t.k=10
 ·rw [if_pos h10] at h
  injection h with h
  injection h with h1 h2
  subst h1
  exact clos_leaf f 6 0 0 (clos_nil f)
 rw [if_neg h10] at h
 by_cases h11:t.k=11
 ·rw [if_pos h11] at h
  injection h with h
  injection h with h1 h2
  subst h1
  exact clos_leaf f 7 0 0 (clos_nil f)
 rw [if_neg h11] at h
 by_cases h6:t.k=6
 ·rw [if_pos h6] at h;cases h
 rw [if_neg h6] at h
 rcases hs:setT f t T with _ | ⟨rs,R'⟩
 ·rw [hs] at h;cases h
 ·rw [hs] at h
  injection h with h
  injection h with h1 h2
  subst h1
  exact clos_leaf f 2 0 0 (clos_setT hs)
theorem clos_rep (hin:∀ g,inner=some g→∀ T,ClosOk f (g T)) (T:List Tok):ClosOk f (dRep inner f e T):=by
 intro n R h
 unfold dRep at h
 rcases ha:dAtom inner f e T with x | ⟨m,R'⟩
 ·rw [ha] at h;cases h
 have hm:=clos_atom hin T m R' ha
 have hr:∀ lo hi,closN f (.mk 5 lo hi [] [m]):=fun lo hi=>by
  rw [closN,closL,closL]
  exact ⟨clos_nil f,hm,trivial⟩
 rw [ha] at h
 rcases R' with _ | ⟨t,R'⟩
 ·injection h with h
  injection h with h1 h2
  subst h1
  exact hm
 simp only at h
 by_cases h6:t.k=6
 ·rw [if_pos h6] at h
  rcases hd:dropIs R' [13] with _ | ⟨s,S⟩
  ·rw [hd] at h
   injection h with h
   injection h with h1 h2
   subst h1
   exact hr _ _
  ·rw [hd] at h
   simp only at h
   by_cases hs:s.k=6
   ·rw [if_pos hs] at h;cases h
   ·rw [if_neg hs] at h
    injection h with h
    injection h with h1 h2
    subst h1
    exact hr _ _
 ·rw [if_neg h6] at h
  injection h with h
  injection h with h1 h2
  subst h1
  exact hm
theorem clos_joinL (hin:∀ g,inner=some g→∀ T,ClosOk f (g T)):∀ (k:Nat) (T:List Tok) (ns:List Nd) (R:List Tok),dJoinL inner f e k T=.ok (ns,R)→closL f ns
 | 0,T,ns,R,h=>by cases h
 | k+1,T,ns,R,h=>by
  rw [dJoinL] at h
  by_cases hc:T=[]∨kindIs T [5,4]=true
  ·rw [if_pos hc] at h
   injection h with h
   injection h with h1 h2
   subst h1
   rw [closL];trivial
  ·rw [if_neg hc] at h
   rcases hr:dRep inner f e T with x | ⟨n,S⟩
   ·rw [hr] at h;cases h
   ·rw [hr] at h
    simp only at h
    rcases hj:dJoinL inner f e k S with x | ⟨ms,S'⟩
    ·rw [hj] at h;cases h
    ·rw [hj] at h
     injection h with h
     injection h with h1 h2
     subst h1
     rw [closL]
     exact ⟨clos_rep hin T n S hr,clos_joinL hin k S ms S' hj⟩
theorem clos_join (hin:∀ g,inner=some g→∀ T,ClosOk f (g T)) (k:Nat) (T:List Tok):ClosOk f (dJoin inner f e k T):=by
 intro n R h
 unfold dJoin at h
 rcases hj:dJoinL inner f e k T with x | ⟨ms,S'⟩
 ·rw [hj] at h;cases h
 ·rw [hj] at h
  injection h with h
  injection h with h1 h2
  subst h1
  exact clos_tog (clos_joinL hin k T ms S' hj)
theorem clos_orL (hin:∀ g,inner=some g→∀ T,ClosOk f (g T)):∀ (k:Nat) (T:List Tok) (ns:List Nd) (R:List Tok),dOrL inner f e q k T=.ok (ns,R)→closL f ns
 | 0,T,ns,R,h=>by cases h
 | k+1,T,ns,R,h=>by
  rw [dOrL] at h
  by_cases hc:kindIs T [5]=true
  ·rw [if_pos hc] at h
   rcases hr:dJoin inner f e q T.tail with x | ⟨n,S⟩
   ·rw [hr] at h;cases h
   ·rw [hr] at h
    simp only at h
    rcases hj:dOrL inner f e q k S with x | ⟨ms,S'⟩
    ·rw [hj] at h;cases h
    ·rw [hj] at h
     injection h with h
     injection h with h1 h2
     subst h1
     rw [closL]
     exact ⟨clos_join hin q _ n S hr,clos_orL hin k S ms S' hj⟩
  ·rw [if_neg hc] at h
   injection h with h
   injection h with h1 h2
   subst h1
   rw [closL];trivial
theorem clos_or1 (hin:∀ g,inner=some g→∀ T,ClosOk f (g T)) (T:List Tok):ClosOk f (dOr1 inner f e q T):=by
 intro n R h
 unfold dOr1 at h
 rcases hr:dJoin inner f e q T with x | ⟨m,S⟩
 ·rw [hr] at h;cases h
 ·rw [hr] at h
  simp only at h
  rcases hj:dOrL inner f e q q S with x | ⟨ms,S'⟩
  ·rw [hj] at h;cases h
  ·rw [hj] at h
   injection h with h
   injection h with h1 h2
   subst h1
   refine clos_tog ?_
   rw [closL]
   exact ⟨clos_join hin q _ m S hr,clos_orL hin q S ms S' hj⟩
end
theorem clos_or (f:Int) (e q:Nat):∀ (d:Nat) (T:List Tok),ClosOk f (dOr f e q d T)
 | 0,T=>clos_or1 (fun g h=>by cases h) T
 | d+1,T=>clos_or1 (fun g h T=>by injection h with h;subst h;exact clos_or f e q d T) T
theorem parsed_clos {f:Int} {e q:Nat} {T:List Tok} {n:Nd} (h:dP f e q T=.ok n):closN f n:=by
 unfold dP at h
 rcases ho:dOr f e q 20 T with x | ⟨m,_ | ⟨t,R⟩⟩
 ·rw [ho] at h;cases h
 ·rw [ho] at h
  injection h with h
  subst h
  exact clos_or f e q 20 T _ _ ho
 ·rw [ho] at h;cases h
end
section
open Go.RowKit
theorem eq_two (a b c d:Int) (w:World):(Op.equalIn 10000 82 (.agg #[.int .i64 a,.int .i64 b]) (.agg #[.int .i64 c,.int .i64 d])).run Tryz.prog w=.ok (a == c && b == d) w:=by
 have u3:=Tryz.underlying3
 have a3:=Tryz.isAgg3
 have z3:=Tryz.sizeOf3
 rw [show (10000:Nat)=9999+1 from rfl,Op.equalIn]
 simp only [Sem.run_bind,run_underlying Tryz.underlying82,Result.andThen_ok]
 simp only [Std.Legacy.Range.forIn_eq_forIn_range',Std.Legacy.Range.size,Nat.sub_zero,Nat.add_sub_cancel,Nat.div_one,List.range'_succ,List.range'_zero,List.forIn_cons,List.forIn_nil]
 go_simp
 by_cases h1:a=c <;> by_cases h2:b=d <;> simp [h1,h2] <;> go_simp <;> simp [h1,h2]
theorem shtimes_any (w:World) (k lo hi:Int) (A A':Option Addr) (n c m c':Nat) :
 Calls Tryz.prog 51 #[.agg #[.int .i64 k,.slice A n c,.int .i64 lo,.int .i64 hi,.slice A' m c']] w fun e w'=>e=.returned (.agg #[.int .i64 lo,.int .i64 hi])∧w.grownBy w' none:=by
 have X0:Hid (Box ((w.alloc (.cells #[.int .i64 k,.slice A n c,.int .i64 lo,.int .i64 hi,.slice A' m c'] 25)).alloc (.cells #[.int .i64 0,.int .i64 0] 82)) (w.heap.size+1) #[.int .i64 0,.int .i64 0] 82):=qh (by
  have:=Box.new (w.alloc (.cells #[.int .i64 k,.slice A n c,.int .i64 lo,.int .i64 hi,.slice A' m c'] 25)) #[.int .i64 0,.int .i64 0] 82
  rw [World.size_alloc] at this
  exact this)
 have G0:Hid (w.grownBy ((w.alloc (.cells #[.int .i64 k,.slice A n c,.int .i64 lo,.int .i64 hi,.slice A' m c'] 25)).alloc (.cells #[.int .i64 0,.int .i64 0] 82)) none):=qh ((grown_new w _ none).trans (grown_new _ _ none))
 go_enter Tryz.func51,Tryz.ntmps51
 go_wp2_with (first
  | (refine store_box _ _ _ (w.heap.size+1) #[.int .i64 0,.int .i64 0] #[.int .i64 lo,.int .i64 hi] rfl rfl rfl rfl rfl X0.out rfl (by kernel_rfl) (by simp [Value.oneCell']) ?_;intro w1 x1 g1;have X1:=qh x1;have G1:=qh (grown_two G0.out g1 (Nat.le_succ _));clear x1 g1)
  | fail)
 (try simp only [Exit.inBlock,Exit.then])
 exact bodyPost_ret (v:=.agg #[.int .i64 lo,.int .i64 hi]) (results_cell_row rfl _ _ (w.heap.size+1) 82 _ (0,0) _ rfl X1.out Tryz.underlying82 rfl (by kernel_rfl)) rfl ⟨rfl,G1.out⟩
theorem shonce_any (w:World) (k lo hi:Int) (A A':Option Addr) (n c m c':Nat) :
 Calls Tryz.prog 59 #[.agg #[.int .i64 k,.slice A n c,.int .i64 lo,.int .i64 hi,.slice A' m c']] w fun e w'=>e=.returned (.bool (lo == 0 && hi == 0))∧w.grownBy w' none:=by
 have heq:=fun u=>eq_two lo hi 0 0 u
 go_enter Tryz.func59,Tryz.ntmps59
 go_wp2_with fail
 refine (shtimes_any _ k lo hi A A' n c m c').mono ?_
 rintro e w1 ⟨rfl,g1⟩
 have G1:=qh ((grown_new w _ none).trans g1)
 clear g1
 go_wp2_with fail
 go_ret
 exact ⟨rfl,G1.out⟩
theorem shcounted_any (w:World) (k lo hi:Int) (A A':Option Addr) (n c m c':Nat) :
 Calls Tryz.prog 62 #[.agg #[.int .i64 k,.slice A n c,.int .i64 lo,.int .i64 hi,.slice A' m c']] w fun e w'=>e=.returned (.bool (decide (0≤lo) && decide (lo≤20) && (hi == -1 || (decide (lo≤hi) && decide (hi≤20)))))∧w.grownBy w' none:=by
 have G0:Hid (w.grownBy (w.alloc (.cells #[.int .i64 k,.slice A n c,.int .i64 lo,.int .i64 hi,.slice A' m c'] 25)) none):=qh (grown_new w _ none)
 rcases h0:decide (0≤lo) with _ | _
 ·go_enter Tryz.func62,Tryz.ntmps62
  go_wp2
  go_ret
  exact ⟨rfl,G0.out⟩
 rcases h1:decide (lo≤20) with _ | _
 ·go_enter Tryz.func62,Tryz.ntmps62
  go_wp2
  go_ret
  exact ⟨rfl,G0.out⟩
 rcases h2:(hi == -1) with _ | _
 ·rcases h3:decide (lo≤hi) with _ | _
  ·go_enter Tryz.func62,Tryz.ntmps62
   go_wp2
   go_ret
   exact ⟨rfl,G0.out⟩
  ·rcases h4:decide (hi≤20) with _ | _
   ·go_enter Tryz.func62,Tryz.ntmps62
    go_wp2
    go_ret
    exact ⟨rfl,G0.out⟩
   ·go_enter Tryz.func62,Tryz.ntmps62
    go_wp2
    go_ret
    exact ⟨rfl,G0.out⟩
 ·go_enter Tryz.func62,Tryz.ntmps62
  go_wp2
  go_ret
  exact ⟨rfl,G0.out⟩
theorem equalrg_any (w:World) (B B':Nat) (A A':Option Addr) (R R':List (Int×Int)) (c c':Nat) (h:Lies w B A (prC R)) (h':Lies w B' A' (prC R')) (hl:R.length≤9223372036854775807) :
 Calls Tryz.prog 60 #[.slice A R.length c,.slice A' R'.length c'] w fun e w'=>e=.returned (.bool (decide (R=R')))∧w.grownBy w' none:=by
 have H:=qh h
 have H':=qh h'
 clear h h'
 by_cases hn:R.length=R'.length
 ·have d0:((R.length:Int) != (R'.length:Int))=false:=by simp [hn]
  have d1:(R.length != R'.length)=false:=by simp [hn]
  have HN:=qh hn
  obtain ⟨z,hz⟩:∃ z,decide (R=R')=z:=⟨_,rfl⟩
  have HZ:=qh hz
  rw [hz]
  clear hn hz
  go_enter Tryz.func60,Tryz.ntmps60
  go_wp2_with fail
  go_loopw [13] (fun i wr=>∃ k n:Nat,k≤R.length∧i=.int .i64 k∧wr=w.drewN n∧Hid (R.take k=R'.take k)) (fun i _=>R.length - (intOf i).toNat)
  case atStart=>exact ⟨0,0,by omega,rfl,rfl,qh rfl⟩
  case round =>
   obtain ⟨k,n,hk,rfl,rfl,HT⟩:=hrel
   by_cases hlt:k < R.length
   ·have hlt':k < R'.length:=by have:=HN.out;omega
    obtain ⟨g,off,rfl,-,c0,c1⟩:=prC_at H.out hlt
    obtain ⟨g',off',rfl,-,c0',c1'⟩:=prC_at H'.out hlt'
    have b0:(0:Int)≤(k:Int):=by omega
    have b1:(k:Int) < (R.length:Int):=by omega
    have b2:(k:Int) < (R'.length:Int):=by omega
    obtain ⟨p,hp⟩:∃ x,R[k]=x:=⟨_,rfl⟩
    obtain ⟨p',hp'⟩:∃ x,R'[k]=x:=⟨_,rfl⟩
    rw [hp] at c0 c1
    rw [hp'] at c0' c1'
    obtain ⟨p1,p2⟩:=p
    obtain ⟨q1,q2⟩:=p'
    simp only at c0 c1 c0' c1'
    have heq:=fun u=>eq_rg p1 p2 q1 q2 u
    have HP:=qh hp
    have HP':=qh hp'
    clear hp hp'
    by_cases he:p1=q1∧p2=q2
    ·obtain ⟨rfl,rfl⟩:=he
     have hx:(p1 == p1)=true:=by simp
     have hy:(p2 == p2)=true:=by simp
     go_wp2_with fail
     go_quiet (fail)
     go_wp2_with fail
     go_roundw
     case rel=>exact ⟨k+1,n+nq,by omega,by go_num,rfl,qh (by rw [List.take_succ_eq_append_getElem hlt,List.take_succ_eq_append_getElem hlt',HT.out,HP.out,HP'.out])⟩
     case measure=>simp [intOf];omega
    ·have hx:(p1 == q1 && p2 == q2)=false:=by simpa using he
     have HF:Hid (z=false):=qh (by
      rw [← HZ.out]
      refine decide_eq_false fun e=>he ?_
      subst e
      have:=HP.out.symm.trans HP'.out
      injection this with h1 h2
      exact ⟨h1,h2⟩)
     clear he
     go_wp2_with fail
     go_quiet (fail)
     go_wp2_with fail
     go_ret
     exact ⟨by rw [HF.out];rfl,grown_draws (grown_draws (grown_refl w none) n) nq⟩
   ·obtain rfl:k=R.length:=by omega
    have HF:Hid (z=true):=qh (by
     rw [← HZ.out]
     refine decide_eq_true ?_
     have:=HT.out
     rw [List.take_length,HN.out,List.take_length] at this
     exact this)
    go_wp2_with fail
    go_ret
    exact ⟨by rw [HF.out];rfl,grown_draws (grown_refl _ _) _⟩
 ·have d0:((R.length:Int) != (R'.length:Int))=true:=by simp;omega
  have d1:(R.length != R'.length)=true:=by simpa using hn
  have HF:Hid (decide (R=R')=false):=qh (decide_eq_false fun e=>hn (by rw [e]))
  rw [HF.out]
  clear hn
  go_enter Tryz.func60,Tryz.ntmps60
  go_wp2_with fail
  go_ret
  exact ⟨rfl,grown_refl _ _⟩
end
section
mutual
def mtN (d:Nat):Nd→Nat×Nat→Bool×(Nat×Nat)
 | .mk k lo hi rs ks,p=>if 400 < p.1+1∨400 < p.2+rs.length∨100 < d∨nodeI (.mk k lo hi rs ks)=false then (false,(p.1+1,p.2+rs.length)) else mtL (d+1) ks (p.1+1,p.2+rs.length)
def mtL (d:Nat):List Nd→Nat×Nat→Bool×(Nat×Nat)
 | [],p=>(true,p)
 | n :: ns,p=>match mtN d n p with
  | (false,q)=>(false,q)
  | (true,q)=>mtL d ns q
end
theorem mtN_def (d:Nat) (k lo hi:Int) (rs:List (Int×Int)) (ks:List Nd) (p:Nat×Nat):mtN d (.mk k lo hi rs ks) p=if 400 < p.1+1∨400 < p.2+rs.length∨100 < d∨nodeI (.mk k lo hi rs ks)=false then (false,(p.1+1,p.2+rs.length)) else mtL (d+1) ks (p.1+1,p.2+rs.length):=by
 rw [mtN.eq_def]
theorem mtL_next (d:Nat) (n:Nd) (ns:List Nd) (p:Nat×Nat):mtL d (n :: ns) p=if (mtN d n p).1=false then (false,(mtN d n p).2) else mtL d ns (mtN d n p).2:=by
 rw [mtL]
 rcases mtN d n p with ⟨b,q⟩
 cases b <;> rfl
mutual
theorem mtN_spec:∀ (n:Nd) (d a b:Nat),a≤400→b≤400→((mtN d n (a,b)).1=true↔a+cntN n≤400∧b+rngN n≤400∧d+deepN n≤101∧allN n=true)∧((mtN d n (a,b)).1=true→(mtN d n (a,b)).2=(a+cntN n,b+rngN n))
 | .mk k lo hi rs ks,d,a,b,ha,hb=>by
  rw [mtN_def,cntN,rngN,deepN,allN]
  simp only
  by_cases hc:400 < a+1∨400 < b+rs.length∨100 < d∨nodeI (.mk k lo hi rs ks)=false
  ·rw [if_pos hc]
   refine ⟨⟨fun h=>(by cases h),fun h=>?_⟩,fun h=>(by cases h)⟩
   exfalso
   obtain ⟨h1,h2,h3,h4⟩:=h
   rw [Bool.and_eq_true] at h4
   rcases hc with hc | hc | hc | hc
   ·omega
   ·omega
   ·omega
   ·rw [hc] at h4;cases h4.1
  ·rw [if_neg hc]
   simp only [not_or] at hc
   obtain ⟨h1,h2,h3,h4⟩:=hc
   have ih:=mtL_spec ks (d+1) (a+1) (b+rs.length) (by omega) (by omega) (by omega)
   have hn:nodeI (.mk k lo hi rs ks)=true:=by simpa using h4
   rw [hn,Bool.true_and]
   refine ⟨ih.1.trans ?_,fun h=>(ih.2 h).trans ?_⟩
   ·constructor
    ·rintro ⟨g1,g2,g3,g4⟩;exact ⟨by omega,by omega,by omega,g4⟩
    ·rintro ⟨g1,g2,g3,g4⟩;exact ⟨by omega,by omega,by omega,g4⟩
   ·rw [Nat.add_assoc,Nat.add_assoc]
theorem mtL_spec:∀ (ns:List Nd) (d a b:Nat),a≤400→b≤400→d≤101→((mtL d ns (a,b)).1=true↔a+cntL ns≤400∧b+rngL ns≤400∧d+deepL ns≤101∧allL ns=true)∧((mtL d ns (a,b)).1=true→(mtL d ns (a,b)).2=(a+cntL ns,b+rngL ns))
 | [],d,a,b,ha,hb,hd=>by
  rw [mtL,cntL,rngL,deepL,allL]
  exact ⟨⟨fun _=>⟨by omega,by omega,by omega,rfl⟩,fun _=>rfl⟩,fun _=>rfl⟩
 | n :: ns,d,a,b,ha,hb,hd=>by
  have h:=mtN_spec n d a b ha hb
  rw [mtL_next,cntL,rngL,deepL,allL]
  rcases hx:mtN d n (a,b) with ⟨r,q⟩
  rw [hx] at h
  simp only at h ⊢
  cases r
  ·rw [if_pos rfl]
   refine ⟨⟨fun h=>(by cases h),fun g=>?_⟩,fun h=>(by cases h)⟩
   exfalso
   obtain ⟨g1,g2,g3,g4⟩:=g
   rw [Bool.and_eq_true] at g4
   have:=h.1.2 ⟨by omega,by omega,by omega,g4.1⟩
   cases this
  ·rw [if_neg (by simp)]
   obtain ⟨k1,k2,k3,k4⟩:=h.1.1 rfl
   have hq:=h.2 rfl
   subst hq
   have ih:=mtL_spec ns d (a+cntN n) (b+rngN n) k1 k2 hd
   rw [k4,Bool.true_and]
   refine ⟨ih.1.trans ?_,fun h=>(ih.2 h).trans ?_⟩
   ·constructor
    ·rintro ⟨g1,g2,g3,g4⟩;exact ⟨by omega,by omega,by omega,g4⟩
    ·rintro ⟨g1,g2,g3,g4⟩;exact ⟨by omega,by omega,by omega,g4⟩
   ·rw [Nat.add_assoc,Nat.add_assoc]
end
theorem right_mt (n:Nd):rightN n=(mtN 1 n (0,0)).1:=by
 have h:=(mtN_spec n 1 0 0 (by omega) (by omega)).1
 unfold rightN
 rw [Bool.eq_iff_iff,h]
 simp only [Bool.and_eq_true,decide_eq_true_eq]
 constructor
 ·rintro ⟨⟨⟨g1,g2⟩,g3⟩,g4⟩;exact ⟨by omega,by omega,by omega,g4⟩
 ·rintro ⟨g1,g2,g3,g4⟩;exact ⟨⟨⟨by omega,by omega⟩,by omega⟩,g4⟩
mutual
def everyN (p:List (Int×Int)→Prop):Nd→Prop
 | .mk _ _ _ rs ks=>p rs∧everyL p ks
def everyL (p:List (Int×Int)→Prop):List Nd→Prop
 | []=>True
 | n :: ns=>everyN p n∧everyL p ns
end
mutual
theorem everyN.mono {p q:List (Int×Int)→Prop} (hpq:∀ rs,p rs→q rs):∀ (n:Nd),everyN p n→everyN q n
 | .mk _ _ _ rs ks,h=>⟨hpq rs h.1,everyL.mono hpq ks h.2⟩
theorem everyL.mono {p q:List (Int×Int)→Prop} (hpq:∀ rs,p rs→q rs):∀ (ns:List Nd),everyL p ns→everyL q ns
 | [],_=>trivial
 | n :: ns,h=>⟨everyN.mono hpq n h.1,everyL.mono hpq ns h.2⟩
end
/-! how long -/
theorem digI_len (n:Nat):n < 100→(digI n).length≤2:=by
 intro h
 rw [digI]
 split
 ·simp
 ·rw [digI,if_pos (by omega)];simp
theorem quoC_len (c:Int):(quoC c).length≤2:=by unfold quoC;split <;> simp
theorem itemsI_len:∀ rs:List (Int×Int),(itemsI rs).length≤5 * rs.length
 | []=>by simp [itemsI]
 | r :: rs=>by
  have h1:=quoC_len r.1
  have h2:=quoC_len r.2
  have h3:=itemsI_len rs
  rw [itemsI]
  simp only [List.length_append,List.length_cons]
  split
  ·simp only [List.length_cons];omega
  ·simp only [List.length_nil];omega
theorem setI_len (rs:List (Int×Int)):(setI rs).length≤2+5 * rs.length:=by
 unfold setI
 split
 ·rename_i r
  split
  ·have:=quoC_len r.1
   simp only [List.length_cons,List.length_nil];omega
  ·have:=itemsI_len [r]
   simp only [List.length_cons,List.length_append,List.length_nil] at this ⊢;omega
 ·have:=itemsI_len rs
  simp only [List.length_cons,List.length_append,List.length_nil] at this ⊢;omega
theorem timesT_len {lo hi:Int} (h0:0≤lo) (h1:lo≤20) (h2:hi≤20):(timesT lo hi).length≤7:=by
 unfold timesT
 split
 ·simp
 split
 ·simp
 split
 ·simp
 have h3:=digI_len lo.toNat (by omega)
 simp only [List.length_cons,List.length_append,List.length_nil]
 split
 ·simp only [List.length_cons]
  split
  ·have h4:=digI_len hi.toNat (by omega)
   omega
  ·simp only [List.length_nil];omega
 ·simp only [List.length_nil];omega
theorem inBr_len (b:Bool) (x:List Int):(inBr b x).length≤x.length+2:=by
 unfold inBr;split <;> simp
theorem textN_form (k lo hi:Int) (rs:List (Int×Int)) (ks:List Nd):textN (.mk k lo hi rs ks)=if k=1 then [40,41] else if k=6 then [94] else if k=7 then [36] else if k=2 then setI rs
 else if k=3 then joinTx [3,4] ks else if k=4 then orTx ks else (match ks with
  | []=>[]
  | n :: _=>inBr (([3,4,5]:List Int).contains (kindN n)) (textN n))++timesT lo hi:=by
 rw [textN.eq_def]
 all_goals (cases ks <;> rfl)
mutual
theorem textN_len:∀ (n:Nd),allN n=true→(textN n).length+3≤12 * cntN n+5 * rngN n
 | .mk k lo hi rs ks,h=>by
  rw [allN,Bool.and_eq_true] at h
  rw [textN_form,cntN,rngN]
  by_cases h1:k=1
  ·rw [if_pos h1];simp only [List.length_cons,List.length_nil];omega
  rw [if_neg h1]
  by_cases h6:k=6
  ·rw [if_pos h6];simp only [List.length_cons,List.length_nil];omega
  rw [if_neg h6]
  by_cases h7:k=7
  ·rw [if_pos h7];simp only [List.length_cons,List.length_nil];omega
  rw [if_neg h7]
  by_cases h2:k=2
  ·rw [if_pos h2];have:=setI_len rs;omega
  rw [if_neg h2]
  by_cases h3:k=3
  ·rw [if_pos h3];have:=joinTx_len [3,4] ks h.2;omega
  rw [if_neg h3]
  by_cases h4:k=4
  ·rw [if_pos h4];have:=orTx_len ks h.2;omega
  rw [if_neg h4]
  have h5:k=5:=by
   by_cases h5:k=5
   ·exact h5
   ·simp [nodeI,h1,h6,h7,h2,h3,h4,h5] at h
  subst h5
  simp [nodeI] at h
  have ht:=timesT_len (lo:=lo) (hi:=hi) (by omega) (by omega) (by omega)
  rcases ks with _ | ⟨n,ns⟩
  ·simp at h
  ·have h2:=h.2
   rw [allL,Bool.and_eq_true] at h2
   have:=textN_len n h2.1
   have hb:=inBr_len (([3,4,5]:List Int).contains (kindN n)) (textN n)
   rw [cntL,rngL]
   simp only [List.length_append]
   omega
theorem joinTx_len (l:List Int):∀ (ns:List Nd),allL ns=true→(joinTx l ns).length≤12 * cntL ns+5 * rngL ns
 | [],_=>by simp [joinTx]
 | n :: ns,h=>by
  rw [allL,Bool.and_eq_true] at h
  have h1:=textN_len n h.1
  have h2:=joinTx_len l ns h.2
  have h3:=inBr_len (l.contains (kindN n)) (textN n)
  rw [joinTx,cntL,rngL,List.length_append]
  omega
theorem orTx_len:∀ (ns:List Nd),allL ns=true→(orTx ns).length≤12 * cntL ns+5 * rngL ns
 | [],_=>by simp [orTx]
 | [n],h=>by
  rw [allL,Bool.and_eq_true] at h
  have h1:=textN_len n h.1
  have h3:=inBr_len (kindN n == 4) (textN n)
  rw [orTx,cntL,rngL,List.length_append]
  simp only [List.length_nil]
  omega
 | n :: m :: ns,h=>by
  rw [allL,Bool.and_eq_true] at h
  have h1:=textN_len n h.1
  have h2:=orTx_len (m :: ns) h.2
  have h3:=inBr_len (kindN n == 4) (textN n)
  rw [orTx,cntL,rngL,List.length_append]
  simp only [List.length_cons]
  omega
end
theorem text_short {n:Nd} (h:rightN n=true):(textN n).length≤10000:=by
 unfold rightN at h
 simp only [Bool.and_eq_true,decide_eq_true_eq] at h
 have:=textN_len n h.2
 omega
end
end Go.Proofs.YtoeocodfndbebaaGreatDoor
