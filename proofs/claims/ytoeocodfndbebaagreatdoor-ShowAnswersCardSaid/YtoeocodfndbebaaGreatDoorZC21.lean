/- Shared texts, shaken for one claim. -/
import Derived.Test.YtoeocodfndbebaaGreatDoorZC8
import Derived.Test.YtoeocodfndbebaaGreatDoorZC16
import Derived.Test.YtoeocodfndbebaaGreatDoorZC20
set_option maxRecDepth 20000
set_option maxHeartbeats 16000000
namespace Go.Proofs.YtoeocodfndbebaaGreatDoor
section
def wfT:Bool→Bool→List Tok→Prop
 | c,_,[]=>c=false
 | true,_,t :: T=>(t.k=8∨t.k=1∨t.k=9∨t.k=12)∧wfT (t.k != 8) false T
 | false,r,t :: T=>(t.k=1∨t.k=2∨t.k=3∨t.k=4∨t.k=5∨t.k=6∨t.k=7∨t.k=10∨t.k=11∨t.k=12∨t.k=13)∧(t.k=13→r=true)∧wfT (t.k == 7) (t.k == 6) T
theorem wfT.easy {r r':Bool} {T:List Tok} (h:wfT false r T) (h13:kindIs T [13]=false):wfT false r' T:=by
 rcases T with _ | ⟨t,T⟩
 ·exact rfl
 ·rw [wfT] at h ⊢
  exact ⟨h.1,fun e=>by simp [kindIs,e] at h13,h.2.2⟩
theorem wfT.no {T:List Tok} (h:wfT false false T):kindIs T [13]=false:=by
 rcases T with _ | ⟨t,T⟩
 ·rfl
 ·rw [wfT] at h
  have:¬ t.k=13:=fun e=>by have:=h.2.1 e;cases this
  simp [kindIs,this]
theorem dropIs_no {T:List Tok} {l:List Int} (h:kindIs T l=false):dropIs T l=T:=by
 unfold dropIs;rw [h];rfl
abbrev DR:=Except (Int×Int) (Nd×List Tok)
def dAtom (inner:Option (List Tok→DR)) (f:Int) (e:Nat):List Tok→DR
 | []=>.error (0,0)
 | t :: R=>if t.k=3 then (match inner with
  | none=>.error (t.pos,9)
  | some g=>match g R with
   | .error x=>.error x
   | .ok (_,[])=>.error ((e:Int),4)
   | .ok (n,s :: S)=>if s.k=4 then .ok (n,S) else .error ((e:Int),4))
  else if t.k=10 then .ok (.mk 6 0 0 [] [],R)
  else if t.k=11 then .ok (.mk 7 0 0 [] [],R)
  else if t.k=6 then .error (t.pos,5)
  else match setT f t R with
   | none=>.error (0,0)
   | some (rs,R')=>.ok (.mk 2 0 0 rs [],R')
def dRep (inner:Option (List Tok→DR)) (f:Int) (e:Nat) (T:List Tok):DR:=match dAtom inner f e T with
 | .error x=>.error x
 | .ok (n,[])=>.ok (n,[])
 | .ok (n,t :: R)=>if t.k=6 then (match dropIs R [13] with
  | []=>.ok (.mk 5 t.lo t.hi [] [n],[])
  | s :: S=>if s.k=6 then .error (s.pos,5) else .ok (.mk 5 t.lo t.hi [] [n],s :: S)) else .ok (n,t :: R)
def dJoinL (inner:Option (List Tok→DR)) (f:Int) (e:Nat):Nat→List Tok→Except (Int×Int) (List Nd×List Tok)
 | 0,_=>.error (0,0)
 | k+1,T=>if T=[]∨kindIs T [5,4]=true then .ok ([],T) else match dRep inner f e T with
  | .error x=>.error x
  | .ok (n,R)=>match dJoinL inner f e k R with
   | .error x=>.error x
   | .ok (ns,R')=>.ok (n :: ns,R')
def dJoin (inner:Option (List Tok→DR)) (f:Int) (e k:Nat) (T:List Tok):DR:=match dJoinL inner f e k T with
 | .error x=>.error x
 | .ok (ns,R)=>.ok (togT 3 ns,R)
def dOrL (inner:Option (List Tok→DR)) (f:Int) (e q:Nat):Nat→List Tok→Except (Int×Int) (List Nd×List Tok)
 | 0,_=>.error (0,0)
 | k+1,T=>if kindIs T [5]=true then (match dJoin inner f e q T.tail with
  | .error x=>.error x
  | .ok (n,R)=>match dOrL inner f e q k R with
   | .error x=>.error x
   | .ok (ns,R')=>.ok (n :: ns,R')) else .ok ([],T)
def dOr1 (inner:Option (List Tok→DR)) (f:Int) (e q:Nat) (T:List Tok):DR:=match dJoin inner f e q T with
 | .error x=>.error x
 | .ok (n,R)=>match dOrL inner f e q q R with
  | .error x=>.error x
  | .ok (ns,R')=>.ok (togT 4 (n :: ns),R')
def dOr (f:Int) (e q:Nat):Nat→List Tok→DR
 | 0=>dOr1 none f e q
 | d+1=>dOr1 (some (dOr f e q d)) f e q
def dP (f:Int) (e q:Nat) (T:List Tok):Except (Int×Int) Nd:=match dOr f e q 20 T with
 | .error x=>.error x
 | .ok (n,[])=>.ok n
 | .ok (_,t :: _)=>.error (t.pos,5)
/-! within a class nothing is wrong -/
theorem fault_class {f:Int} {E o:Nat}:∀ {T:List Tok} {rs:List (Int×Int)} {R:List Tok} (a:Int),wfT true false T→classL f T=some (rs,R)→faultT E T o a=faultT E R o 8∧wfT false false R
 | [],_,_,_,_,h=>by cases h
 | t :: T,rs,R,a,hw,h=>by
  rw [classL] at h
  rw [wfT] at hw
  have hk:=hw.1
  have hf:faultT E (t :: T) o a=faultT E T o t.k:=by
   rw [faultT,if_neg (by omega),if_neg (by omega),if_neg (by omega),if_neg (by omega),if_neg (by omega)]
  rw [hf]
  by_cases h8:t.k=8
  ·rw [if_pos h8] at h
   injection h with h
   injection h with h1 h2
   subst h2
   rw [h8]
   have h2:=hw.2
   rw [h8] at h2
   exact ⟨rfl,h2⟩
  ·rw [if_neg h8] at h
   rcases hc:classL f T with _ | ⟨rs',R'⟩
   ·rw [hc] at h;cases h
   ·rw [hc] at h
    injection h with h
    injection h with h1 h2
    subst h2
    have h3:=hw.2
    rw [show (t.k != 8)=true by simpa using h8] at h3
    exact fault_class t.k h3 hc
theorem class_some {f:Int}:∀ {T:List Tok},wfT true false T→∃ rs R,classL f T=some (rs,R)
 | [],h=>by rw [wfT] at h;cases h
 | t :: T,h=>by
  rw [wfT] at h
  by_cases h8:t.k=8
  ·exact ⟨[],T,by rw [classL,if_pos h8]⟩
  ·have h3:=h.2
   rw [show (t.k != 8)=true by simpa using h8] at h3
   obtain ⟨rs,R,hc⟩:=class_some (f:=f) h3
   exact ⟨partR f t++rs,R,by rw [classL,if_neg h8,hc]⟩
def noRep (a:Int):Bool:=([3,5,6,13]:List Int).contains a
def Ready (T:List Tok) (a:Int):Prop:=kindIs T [6]=true→noRep a=true
def SameAt (E o:Nat) (T:List Tok) (a:Int) (x:DR) (y:PR):Prop:=match x with
 | .error e=>faultT E T o a=e∧¬ e.2=0
 | .ok (n,R)=>y=some (n,R)∧wfT false false R∧R.length < T.length∧∃ a',noRep a'=false∧faultT E T o a=faultT E R o a'
def SameRep (E o:Nat) (T:List Tok) (a:Int) (x:DR) (y:PR):Prop:=match x with
 | .error e=>faultT E T o a=e∧¬ e.2=0
 | .ok (n,R)=>y=some (n,R)∧wfT false false R∧R.length < T.length∧∃ a',Ready R a'∧faultT E T o a=faultT E R o a'
def SameL (E o:Nat) (T:List Tok) (a:Int) (l:List Int) (x:Except (Int×Int) (List Nd×List Tok)) (y:Option (List Nd×List Tok)):Prop:=match x with
 | .error e=>faultT E T o a=e∧¬ e.2=0
 | .ok (n,R)=>y=some (n,R)∧wfT false false R∧R.length≤T.length∧(R=[]∨kindIs R l=true)∧∃ a',faultT E T o a=faultT E R o a'
def SameOr (E o:Nat) (T:List Tok) (a:Int) (l:List Int) (x:DR) (y:PR):Prop:=match x with
 | .error e=>faultT E T o a=e∧¬ e.2=0
 | .ok (n,R)=>y=some (n,R)∧wfT false false R∧R.length≤T.length∧(R=[]∨kindIs R l=true)∧∃ a',faultT E T o a=faultT E R o a'
theorem fault_step {E o:Nat} {t:Tok} {R:List Tok} (a:Int) (h3:¬ t.k=3) (h4:¬ t.k=4) (h6:¬ t.k=6):faultT E (t :: R) o a=faultT E R o t.k:=by
 rw [faultT,if_neg (by simp [h4]),if_neg (by simp [h6]),if_neg (by simp [h3]),if_neg h3,if_neg h4]
theorem noRep_of {k:Int} (h:k=1∨k=2∨k=4∨k=7∨k=8∨k=10∨k=11∨k=12):noRep k=false:=by
 rcases h with rfl | rfl | rfl | rfl | rfl | rfl | rfl | rfl <;> rfl
theorem fault_again {E o:Nat} {t:Tok} {R:List Tok} {a:Int} (h6:t.k=6) (ha:noRep a=true):faultT E (t :: R) o a=(t.pos,5):=by
 rw [faultT,if_neg (by omega),if_pos ⟨h6,ha⟩]
theorem fault_rep {E o:Nat} {t:Tok} {R:List Tok} {a:Int} (h6:t.k=6) (ha:noRep a=false):faultT E (t :: R) o a=faultT E R o 6:=by
 have:¬ (t.k=6∧([3,5,6,13]:List Int).contains a=true):=fun h=>by have h2:noRep a=true:=h.2;rw [ha] at h2;cases h2
 rw [faultT,if_neg (by omega),if_neg this,if_neg (by omega),if_neg (by omega),if_neg (by omega),h6]
theorem fault_open {E o:Nat} {t:Tok} {R:List Tok} (a:Int) (h3:t.k=3) (ho:o < 20):faultT E (t :: R) o a=faultT E R (o+1) 3:=by
 rw [faultT,if_neg (by omega),if_neg (by omega),if_neg (by omega),if_pos h3,h3]
theorem fault_shut {E o:Nat} {t:Tok} {R:List Tok} (a:Int) (h4:t.k=4):faultT E (t :: R) (o+1) a=faultT E R o 4:=by
 rw [faultT,if_neg (by omega),if_neg (by omega),if_neg (by omega),if_neg (by omega),if_pos h4,h4]
 rfl
theorem wfT.tail {r:Bool} {t:Tok} {T:List Tok} (h:wfT false r (t :: T)) (h7:¬ t.k=7) (h6:¬ t.k=6):wfT false false T:=by
 rw [wfT] at h
 have h2:=h.2.2
 rwa [show (t.k == 7)=false by simpa using h7,show (t.k == 6)=false by simpa using h6] at h2
section
variable {inner:Option (List Tok→DR)} {pat:List Tok→PR} {E o q:Nat} {f:Int}
def Deeper (inner:Option (List Tok→DR)) (pat:List Tok→PR) (E o q:Nat):Prop :=
 (inner=none→o=20)∧∀ g,inner=some g→o < 20∧∀ T a,wfT false false T→Ready T a→T.length < q→SameOr E (o+1) T a [4] (g T) (pat T)
theorem atom_same (hd:Deeper inner pat E o q) {T:List Tok} {a:Int} (hne:¬ T=[]) (hw:wfT false false T) (hr:Ready T a) (hk:kindIs T [5,4]=false) (hq:T.length≤q):SameAt E o T a (dAtom inner f E T) (oneT pat f T):=by
 rcases T with _ | ⟨t,R⟩
 ·exact absurd rfl hne
 have hw0:=hw
 rw [wfT] at hw
 have hk5:¬ t.k=5∧¬ t.k=4:=by simpa [kindIs] using hk
 unfold dAtom oneT
 simp only
 by_cases h3:t.k=3
 ·rw [if_pos h3,if_pos h3]
  rcases hi:inner with _ | g
  ·have ho:=hd.1 hi
   refine ⟨?_,by simp⟩
   rw [faultT,if_neg (by omega),if_neg (by omega),if_pos ⟨h3,ho⟩]
  ·obtain ⟨ho,hS⟩:=hd.2 g hi
   have hwR:=hw0.tail (by omega) (by omega)
   have hS:=hS R 3 hwR (fun _=>rfl) (by simp at hq;omega)
   simp only
   rcases hg:g R with x | ⟨n,R'⟩
   ·rw [hg] at hS
    exact ⟨(fault_open a h3 ho).trans hS.1,hS.2⟩
   ·rw [hg] at hS
    obtain ⟨h1,h2,h4,h5,a',h6⟩:=hS
    rcases R' with _ | ⟨s,S⟩
    ·refine ⟨?_,by simp⟩
     rw [fault_open a h3 ho,h6,faultT,if_pos (by omega)]
    ·have hs4:s.k=4:=by
      rcases h5 with h5 | h5
      ·cases h5
      ·simpa [kindIs] using h5
     simp only
     rw [if_pos hs4,h1]
     refine ⟨?_,h2.tail (by omega) (by omega),?_,4,rfl,?_⟩
     ·simp [dropIs,kindIs,hs4]
     ·simp at h4 ⊢;omega
     ·rw [fault_open a h3 ho,h6,fault_shut a' hs4]
 rw [if_neg h3,if_neg h3]
 by_cases h10:t.k=10
 ·rw [if_pos h10,if_pos h10]
  exact ⟨rfl,hw0.tail (by omega) (by omega),by simp,t.k,noRep_of (by omega),fault_step a h3 hk5.2 (by omega)⟩
 rw [if_neg h10,if_neg h10]
 by_cases h11:t.k=11
 ·rw [if_pos h11,if_pos h11]
  exact ⟨rfl,hw0.tail (by omega) (by omega),by simp,t.k,noRep_of (by omega),fault_step a h3 hk5.2 (by omega)⟩
 rw [if_neg h11,if_neg h11]
 by_cases h6:t.k=6
 ·rw [if_pos h6]
  exact ⟨fault_again h6 (hr (by simp [kindIs,h6])),by simp⟩
 rw [if_neg h6]
 have h13:¬ t.k=13:=fun e=>by have:=hw.2.1 e;cases this
 unfold setT
 by_cases h2:t.k=2
 ·rw [if_pos h2]
  exact ⟨rfl,hw0.tail (by omega) (by omega),by simp,t.k,noRep_of (by omega),fault_step a h3 hk5.2 h6⟩
 rw [if_neg h2]
 by_cases h7:t.k=7
 ·rw [if_pos h7]
  have hwc:=hw.2.2
  rw [show (t.k == 7)=true by simpa using h7,show (t.k == 6)=false by simpa using h6] at hwc
  obtain ⟨rs,R',hc⟩:=class_some (f:=f) hwc
  rw [hc]
  obtain ⟨hf,hw'⟩:=fault_class (E:=E) (o:=o) t.k hwc hc
  refine ⟨rfl,hw',?_,8,rfl,?_⟩
  ·have:=classL_shr hc
   simp;omega
  ·rw [fault_step a h3 hk5.2 h6,hf]
 ·rw [if_neg h7]
  exact ⟨rfl,hw0.tail h7 h6,by simp,t.k,noRep_of (by omega),fault_step a h3 hk5.2 h6⟩
theorem rep_same (hd:Deeper inner pat E o q) {T:List Tok} {a:Int} (hne:¬ T=[]) (hw:wfT false false T) (hr:Ready T a) (hk:kindIs T [5,4]=false) (hq:T.length≤q):SameRep E o T a (dRep inner f E T) (rpT pat f T):=by
 have hA:=atom_same (f:=f) hd hne hw hr hk hq
 unfold dRep rpT
 rcases ha:dAtom inner f E T with x | ⟨n,R⟩
 ·rw [ha] at hA
  exact hA
 ·rw [ha] at hA
  obtain ⟨h1,h2,h4,a',h5,h6⟩:=hA
  rw [h1]
  rcases R with _ | ⟨t,R⟩
  ·exact ⟨rfl,rfl,h4,a',fun h=>by simp [kindIs] at h,h6⟩
  simp only
  by_cases hk6:t.k=6
  ·rw [if_pos hk6,if_pos hk6]
   have hwR:wfT false true R:=by
    rw [wfT] at h2
    have h3:=h2.2.2
    rwa [show (t.k == 7)=false by simp [hk6],show (t.k == 6)=true by simp [hk6]] at h3
   have hR2:∃ a2,noRep a2=true∧faultT E R o 6=faultT E (dropIs R [13]) o a2∧wfT false false (dropIs R [13])∧(dropIs R [13]).length≤R.length:=by
    rcases h13:kindIs R [13] with _ | _
    ·rw [dropIs_no h13]
     exact ⟨6,rfl,rfl,hwR.easy h13,Nat.le_refl _⟩
    ·rcases R with _ | ⟨s,S⟩
     ·cases h13
     ·have hs:s.k=13:=by simpa [kindIs] using h13
      have hdr:dropIs (s :: S) [13]=S:=by unfold dropIs;rw [h13];rfl
      rw [hdr]
      exact ⟨13,rfl,by rw [fault_step 6 (by omega) (by omega) (by omega),hs],hwR.tail (by omega) (by omega),by simp⟩
   obtain ⟨a2,g1,g2,g3,g4⟩:=hR2
   have hf:faultT E T o a=faultT E (dropIs R [13]) o a2:=by rw [h6,fault_rep hk6 h5,g2]
   unfold lazyT
   rcases hR:dropIs R [13] with _ | ⟨s,S⟩
   ·rw [hR] at hf g3 g4
    refine ⟨rfl,rfl,?_,a2,fun h=>by simp [kindIs] at h,hf⟩
    simp at h4 ⊢;omega
   ·rw [hR] at hf g3 g4
    simp only
    by_cases hs6:s.k=6
    ·rw [if_pos hs6]
     exact ⟨hf.trans (fault_again hs6 g1),by simp⟩
    ·rw [if_neg hs6]
     refine ⟨rfl,g3,?_,a2,fun h=>by simp [kindIs,hs6] at h,hf⟩
     simp at h4 g4 ⊢;omega
  ·rw [if_neg hk6,if_neg hk6]
   refine ⟨?_,h2,h4,a',fun h=>by simp [kindIs,hk6] at h,h6⟩
   unfold lazyT
   rw [dropIs_no h2.no]
theorem joinL_same (hd:Deeper inner pat E o q):∀ (k:Nat) {T:List Tok} {a:Int},wfT false false T→Ready T a→T.length < k→T.length≤q→SameL E o T a [5,4] (dJoinL inner f E k T) (joinL pat f k T)
 | 0,T,_,_,_,hk,_=>by omega
 | k+1,T,a,hw,hr,hk,hq=>by
  rw [dJoinL,joinL]
  by_cases hc:T=[]∨kindIs T [5,4]=true
  ·rw [if_pos hc,if_pos hc]
   exact ⟨rfl,hw,Nat.le_refl _,hc,a,rfl⟩
  ·rw [if_neg hc,if_neg hc]
   have hS:=rep_same (f:=f) hd (fun e=>hc (.inl e)) hw hr (by simpa using fun e=>hc (.inr e)) hq
   rcases hx:dRep inner f E T with x | ⟨n,R⟩
   ·rw [hx] at hS
    exact hS
   ·rw [hx] at hS
    obtain ⟨h1,h2,h4,a',h5,h6⟩:=hS
    rw [h1]
    simp only
    have hJ:=joinL_same hd k h2 h5 (by omega) (by omega)
    rcases hy:dJoinL inner f E k R with x | ⟨ns,R'⟩
    ·rw [hy] at hJ
     exact ⟨h6.trans hJ.1,hJ.2⟩
    ·rw [hy] at hJ
     obtain ⟨j1,j2,j3,j4,a2,j5⟩:=hJ
     rw [j1]
     exact ⟨rfl,j2,by omega,j4,a2,h6.trans j5⟩
theorem join_same (hd:Deeper inner pat E o q) (k:Nat) {T:List Tok} {a:Int} (hw:wfT false false T) (hr:Ready T a) (hk:T.length < k) (hq:T.length≤q):SameOr E o T a [5,4] (dJoin inner f E k T) (joinT pat f k T):=by
 have h:=joinL_same (f:=f) hd k hw hr hk hq
 unfold dJoin joinT
 rcases hx:dJoinL inner f E k T with x | ⟨ns,R⟩
 ·rw [hx] at h
  exact h
 ·rw [hx] at h
  obtain ⟨h1,h2⟩:=h
  rw [h1]
  exact ⟨rfl,h2⟩
theorem orL_same (hd:Deeper inner pat E o q):∀ (k:Nat) {T:List Tok} {a:Int},wfT false false T→(T=[]∨kindIs T [5,4]=true)→T.length < k→T.length < q→SameL E o T a [4] (dOrL inner f E q k T) (orL pat f q k T)
 | 0,T,_,_,_,hk,_=>by omega
 | k+1,T,a,hw,hr,hk,hq=>by
  rw [dOrL,orL]
  by_cases hc:kindIs T [5]=true
  ·rw [if_pos hc,if_pos hc]
   rcases T with _ | ⟨t,T⟩
   ·cases hc
   have h5:t.k=5:=by simpa [kindIs] using hc
   have hf:=fault_step (E:=E) (o:=o) (R:=T) a (show ¬ t.k=3 by omega) (by omega) (by omega)
   rw [h5] at hf
   rw [List.tail_cons]
   have hS:=join_same (f:=f) hd q (a:=5) (hw.tail (by omega) (by omega)) (fun _=>rfl) (by simp at hq;omega) (by simp at hq;omega)
   rcases hx:dJoin inner f E q T with x | ⟨n,R⟩
   ·rw [hx] at hS
    exact ⟨hf.trans hS.1,hS.2⟩
   ·rw [hx] at hS
    obtain ⟨h1,h2,h4,h6,a',h7⟩:=hS
    rw [h1]
    simp only
    have hJ:=orL_same hd k (a:=a') h2 h6 (by simp at hk;omega) (by simp at hq;omega)
    rcases hy:dOrL inner f E q k R with x | ⟨ns,R'⟩
    ·rw [hy] at hJ
     exact ⟨(hf.trans h7).trans hJ.1,hJ.2⟩
    ·rw [hy] at hJ
     obtain ⟨j1,j2,j3,j4,a2,j5⟩:=hJ
     rw [j1]
     exact ⟨rfl,j2,by simp;omega,j4,a2,(hf.trans h7).trans j5⟩
  ·rw [if_neg hc,if_neg hc]
   refine ⟨rfl,hw,Nat.le_refl _,?_,a,rfl⟩
   rcases hr with hr | hr
   ·exact .inl hr
   ·refine .inr ?_
    rcases T with _ | ⟨t,T⟩
    ·cases hr
    ·simp [kindIs] at hr hc ⊢
     omega
theorem or1_same (hd:Deeper inner pat E o q) {T:List Tok} {a:Int} (hw:wfT false false T) (hr:Ready T a) (hq:T.length < q):SameOr E o T a [4] (dOr1 inner f E q T) (match joinT pat f q T with
 | none=>none
 | some (n,R)=>match orL pat f q q R with
  | none=>none
  | some (ns,R')=>some (togT 4 (n :: ns),R')):=by
 have hS:=join_same (f:=f) hd q hw hr hq (by omega)
 unfold dOr1
 rcases hx:dJoin inner f E q T with x | ⟨n,R⟩
 ·rw [hx] at hS
  exact hS
 ·rw [hx] at hS
  obtain ⟨h1,h2,h4,h6,a',h7⟩:=hS
  rw [h1]
  simp only
  have hJ:=orL_same (f:=f) hd q (a:=a') h2 h6 (by omega) (by omega)
  rcases hy:dOrL inner f E q q R with x | ⟨ns,R'⟩
  ·rw [hy] at hJ
   exact ⟨h7.trans hJ.1,hJ.2⟩
  ·rw [hy] at hJ
   obtain ⟨j1,j2,j3,j4,a2,j5⟩:=hJ
   rw [j1]
   exact ⟨rfl,j2,by omega,j4,a2,h7.trans j5⟩
end
theorem dOr_same (f:Int) (E q:Nat):∀ (d o:Nat),o+d=20→∀ {T:List Tok} {a:Int},wfT false false T→Ready T a→T.length < q→SameOr E o T a [4] (dOr f E q d T) (patT f q (d+1) T)
 | 0,o,ho,T,a,hw,hr,hq=>by
  rw [patT]
  exact or1_same (pat:=patT f q 0) ⟨fun _=>by omega,fun g h=>by cases h⟩ hw hr hq
 | d+1,o,ho,T,a,hw,hr,hq=>by
  rw [patT]
  have hd:Deeper (some (dOr f E q d)) (patT f q (d+1)) E o q:=by
   refine ⟨fun h=>(by cases h),fun g h=>?_⟩
   injection h with h
   subst h
   exact ⟨by omega,fun T a h1 h2 h3=>dOr_same f E q d (o+1) (by omega) h1 h2 h3⟩
  exact or1_same hd hw hr hq
theorem dP_same (f:Int) (E q:Nat) {T:List Tok} (hw:wfT false false T) (hq:T.length < q) :
 (∃ n,dP f E q T=.ok n∧faultT E T 0 3=(0,0)∧patT f q 21 T=some (n,[]))∨(dP f E q T=.error (faultT E T 0 3)∧¬ (faultT E T 0 3).2=0):=by
 have h:=dOr_same f E q 20 0 rfl (a:=3) hw (fun _=>rfl) hq
 unfold dP
 rcases hx:dOr f E q 20 T with x | ⟨n,R⟩
 ·rw [hx] at h
  obtain ⟨h1,h2⟩:=h
  refine .inr ⟨?_,by rw [h1];exact h2⟩
  simp only
  rw [h1]
 ·rw [hx] at h
  obtain ⟨h1,h2,h4,h6,a',h7⟩:=h
  rcases R with _ | ⟨t,R⟩
  ·exact .inl ⟨n,rfl,by rw [h7,faultT,if_neg (by omega)],h1⟩
  ·refine .inr ?_
   have ht:t.k=4:=by
    rcases h6 with h6 | h6
    ·cases h6
    ·simpa [kindIs] using h6
   have hf:faultT E (t :: R) 0 a'=(t.pos,5):=by rw [faultT,if_pos ⟨ht,rfl⟩]
   rw [h7,hf]
   exact ⟨rfl,by simp⟩
end
section
def lowT (t:Tok):Int:=if t.k=9 then t.lo else t.c
theorem part_nine {f:Int} {t:Tok} (h:t.k=9):partR f t=behR (flag1 f) (flag2 f) [(lowT t,t.hi)]:=by
 unfold partR lowT;rw [if_pos h,if_pos h]
theorem part_one {f:Int} {t:Tok} (h:t.k=1):partR f t=behR (flag1 f) (flag2 f) [(lowT t,t.c)]:=by
 unfold partR lowT;rw [if_neg (by omega),if_pos h,if_neg (by omega)]
theorem part_kin {f:Int} {t:Tok} (h9:¬ t.k=9) (h1:¬ t.k=1):partR f t=(setP fun c=>!hasR (behR (flag1 f) (flag2 f) (groupR t.c)) c)∨partR f t=behR (flag1 f) (flag2 f) (groupR t.c):=by
 unfold partR
 rw [if_neg h9,if_neg h1]
 split
 ·exact .inl rfl
 ·exact .inr rfl
theorem turn_edge {B:List (Int×Int)} {x:Int} (h:hasR (setP fun c=>!hasR B c) x=true) (h1:x=0∨hasR (setP fun c=>!hasR B c) (x - 1)=false):inTop x∧hasR B x=false∧(x=0∨hasR B (x - 1)=true):=by
 have h0:=h
 rw [setP_has] at h
 simp at h
 have hx:inTop x:=by unfold inTop;omega
 refine ⟨hx,h.2,?_⟩
 by_cases hz:x=0
 ·exact .inl hz
 ·refine .inr ?_
  rcases h1 with h1 | h1
  ·exact absurd h1 hz
  ·rw [setP_has] at h1
   rcases hb:hasR B (x - 1) with _ | _
   ·rw [hb] at h1
    simp at h1
    omega
   ·rfl
theorem edge_of {lo hi x:Int} {f1 f2:Bool} (h:hasR (behR f1 f2 [(lo,hi)]) x=true) (h1:x=0∨hasR (behR f1 f2 [(lo,hi)]) (x - 1)=false):x=lo∨x∈GL∨x∈KL∨x∈mrL:=by
 have hx:=beh_top h
 rcases hb:hasR [(lo,hi)] x with _ | _
 ·rcases beh_more h hb with ⟨_,k,_,hf,hne,_⟩ | ⟨hm,_⟩
  ·exact .inr (.inr (.inl (mem_KL hf hne)))
  ·exact .inr (.inr (.inr (mem_mrL hm)))
 ·rw [range_has] at hb
  by_cases h0:x=0
  ·exact .inr (.inl (gl_of (by omega)))
  ·rcases h1 with h1 | h1
   ·exact absurd h1 h0
   ·have hx1:inTop (x - 1):=by unfold inTop at hx ⊢;omega
    rcases hc:hasR [(lo,hi)] (x - 1) with _ | _
    ·left
     have:¬ (lo≤x - 1∧x - 1≤hi):=fun e=>by rw [range_has.2 e] at hc;cases hc
     omega
    ·rw [(beh_iff hx1).2 (.inl hc)] at h1;cases h1
theorem part_start {f:Int} {t:Tok} {x:Int} (h:hasR (partR f t) x=true) (h1:x=0∨hasR (partR f t) (x - 1)=false):x=lowT t∨x∈GL∨x∈KL∨x∈mrL:=by
 by_cases h9:t.k=9
 ·rw [part_nine h9] at h h1
  exact edge_of h h1
 ·by_cases hk:t.k=1
  ·rw [part_one hk] at h h1
   exact edge_of h h1
  ·rcases part_kin (f:=f) h9 hk with e | e
   ·rw [e] at h h1
    obtain ⟨hx,h2,h3⟩:=turn_edge h h1
    exact .inr (.inl (group_turn hx h2 h3))
   ·rw [e] at h h1
    exact .inr (.inl (group_start h h1))
theorem canon_edge {S:List (Int×Int)} (hS:Canon 0 S) {x:Int} (hx:x∈S.map (·.1)):hasR S x=true∧(x=0∨hasR S (x - 1)=false):=by
 obtain ⟨-,h1,h2⟩:=hS.lows.2 x hx
 exact ⟨h1,.inr (h2 (x - 1) rfl)⟩
theorem gl_len:GL.length=38:=by decide
theorem range_len (lo hi:Int) (f1 f2:Bool):(behR f1 f2 [(lo,hi)]).length≤62:=by
 have hS:Canon 0 (behR f1 f2 [(lo,hi)]):=setP_canon _
 have:=hS.count ([lo,0]++alike lo++BND++mrL) [] fun x hx=>by
  obtain ⟨h1,h2⟩:=canon_edge hS hx
  left
  rcases range_start h1 h2 with h | h | h | h | h
  ·simp [h]
  ·simp [h]
  ·simp [h]
  ·simp [h]
  ·simp [h]
 have h1:=alike_few lo
 have h2:=bnd_few
 have h3:=mrL_few
 simp at this
 omega
theorem group_len (c:Int) (f1 f2:Bool):(behR f1 f2 (groupR c)).length≤38∧(setP fun d=>!hasR (behR f1 f2 (groupR c)) d).length≤38:=by
 have hg:=gl_len
 constructor
 ·have hS:Canon 0 (behR f1 f2 (groupR c)):=setP_canon _
  have:=hS.count GL [] fun x hx=>by
   obtain ⟨h1,h2⟩:=canon_edge hS hx
   exact .inl (group_start h1 h2)
  simp at this
  omega
 ·have hS:Canon 0 (setP fun d=>!hasR (behR f1 f2 (groupR c)) d):=setP_canon _
  have:=hS.count GL [] fun x hx=>by
   obtain ⟨h1,h2⟩:=canon_edge hS hx
   obtain ⟨h3,h4,h5⟩:=turn_edge h1 h2
   exact .inl (group_turn h3 h4 h5)
  simp at this
  omega
theorem part_len (f:Int) (t:Tok):(partR f t).length≤62:=by
 by_cases h9:t.k=9
 ·rw [part_nine h9];exact range_len _ _ _ _
 ·by_cases hk:t.k=1
  ·rw [part_one hk];exact range_len _ _ _ _
  ·rcases part_kin (f:=f) h9 hk with e | e
   ·rw [e];have:=(group_len t.c (flag1 f) (flag2 f)).2;omega
   ·rw [e];have:=(group_len t.c (flag1 f) (flag2 f)).1;omega
theorem class_count (f:Int) (T:List Tok):(setP (hasR (T.flatMap (partR f)))).length≤T.length+192:=by
 have:=setP_count (hasR (T.flatMap (partR f))) (T.map lowT++GL) K2 fun x h0 ht hp hb=>by
  obtain ⟨r,hr,h1⟩:=hasR_iff.1 hp
  obtain ⟨t,ht,hrt⟩:=List.mem_flatMap.1 hr
  have h2:hasR (partR f t) x=true:=hasR_iff.2 ⟨r,hrt,h1⟩
  have h3:x=0∨hasR (partR f t) (x - 1)=false:=hb.imp id fun hb=>by
   rcases hc:hasR (partR f t) (x - 1) with _ | _
   ·rfl
   ·obtain ⟨s,hs,h4⟩:=hasR_iff.1 hc
    rw [hasR_iff.2 ⟨s,List.mem_flatMap.2 ⟨t,ht,hs⟩,h4⟩] at hb;cases hb
  rcases part_start h2 h3 with h | h | h | h
  ·exact .inl (List.mem_append.2 (.inl (List.mem_map.2 ⟨t,ht,h.symm⟩)))
  ·exact .inl (List.mem_append.2 (.inr h))
  ·exact .inr (kl_half x h)
  ·exact .inr (mrL_half x h)
 have h1:=k2_few
 have h2:=gl_len
 simp at this
 omega
def dPart (f:Int) (t:Tok):List (Int×Int) :=
 if t.k=1 then closeR (flag1 f) (flag2 f) [(t.c,t.c)]
 else if t.k=9 then closeR (flag1 f) (flag2 f) [(t.lo,t.hi)]
 else if ([68,83,87]:List Int).contains t.c=true then turnR (closeR (flag1 f) (flag2 f) (groupR t.c))
 else closeR (flag1 f) (flag2 f) (groupR t.c)
theorem close_is (f1 f2:Bool) {R:List (Int×Int)} (hl:R.length≤60):closeR f1 f2 R=behR f1 f2 R:=by
 rw [beh_set f1 f2 (by omega),beh_close f1 f2 hl]
theorem turn_is {L:List (Int×Int)} (hc:Canon 0 L) (hl:L.length≤500):turnR L=setP fun c=>!hasR L c:=by
 unfold turnR
 rw [setR_is hc hl]
theorem dPart_is (f:Int) (t:Tok):dPart f t=partR f t:=by
 unfold dPart partR
 by_cases h9:t.k=9
 ·rw [if_neg (by omega),if_pos h9,if_pos h9,close_is _ _ (by simp)]
 ·rw [if_neg h9,if_neg h9]
  by_cases h1:t.k=1
  ·rw [if_pos h1,if_pos h1,close_is _ _ (by simp)]
  ·rw [if_neg h1,if_neg h1,close_is _ _ (group_few t.c),turn_is (L:=behR (flag1 f) (flag2 f) (groupR t.c)) (setP_canon _) (by have:=(group_len t.c (flag1 f) (flag2 f)).1;omega)]
def dGather (f:Int):List Tok→List (Int×Int)→List (Int×Int)
 | [],acc=>acc
 | t :: T,acc=>dGather f T (setR (acc++dPart f t))
theorem gather_is (f:Int):∀ (T P:List Tok),P.length+T.length≤200→dGather f T (setP (hasR (P.flatMap (partR f))))=setP (hasR ((P++T).flatMap (partR f)))
 | [],P,_=>by rw [dGather,List.append_nil]
 | t :: T,P,h=>by
  have h1:=class_count f P
  have h2:=part_len f t
  simp only [List.length_cons] at h
  rw [dGather,dPart_is,setR_small (by rw [List.length_append];omega)]
  have e:setP (hasR (setP (hasR (P.flatMap (partR f)))++partR f t))=setP (hasR ((P++[t]).flatMap (partR f))):=by
   refine setP_congr fun c h0 h3=>?_
   rw [hasR_append,setP_has,List.flatMap_append,hasR_append]
   simp [h0,h3]
  rw [e,gather_is f T (P++[t]) (by simp;omega)]
  simp
theorem gather_all (f:Int) (T:List Tok) (h:T.length≤200):dGather f T []=setP (hasR (T.flatMap (partR f))):=by
 have h1:=gather_is f T [] (by simpa using h)
 have h2:setP (hasR (([]:List Tok).flatMap (partR f)))=[]:=setP_is trivial fun c _ _=>rfl
 rw [h2] at h1
 exact h1
def dClass (f:Int) (round:Bool) (C:List Tok):List (Int×Int):=if round=true then turnR (dGather f C []) else setR (dGather f C [])
theorem dClass_is (f:Int) (round:Bool) (C:List Tok) (h:C.length≤200):dClass f round C=classR round (C.flatMap (partR f)):=by
 have h1:=class_count f C
 unfold dClass classR
 rw [gather_all f C h]
 split
 ·rw [turn_is (setP_canon _) (by omega)]
 ·rw [setR_is (setP_canon _) (by omega)]
theorem classL_form {f:Int}:∀ {T:List Tok} {rs:List (Int×Int)} {R:List Tok},classL f T=some (rs,R)→∃ C t,T=C++t :: R∧t.k=8∧(∀ s∈C,¬ s.k=8)∧rs=C.flatMap (partR f)
 | [],_,_,h=>by cases h
 | t :: T,rs,R,h=>by
  rw [classL] at h
  by_cases h8:t.k=8
  ·rw [if_pos h8] at h
   injection h with h
   injection h with h1 h2
   subst h1 h2
   exact ⟨[],t,rfl,h8,fun s hs=>by simp at hs,rfl⟩
  ·rw [if_neg h8] at h
   rcases hc:classL f T with _ | ⟨rs',R'⟩
   ·rw [hc] at h;cases h
   ·rw [hc] at h
    injection h with h
    injection h with h1 h2
    subst h1 h2
    obtain ⟨C,s,e1,e2,e3,e4⟩:=classL_form hc
    refine ⟨t :: C,s,by rw [e1];rfl,e2,fun x hx=>?_,by rw [e4];rfl⟩
    rcases List.mem_cons.1 hx with rfl | hx
    ·exact h8
    ·exact e3 x hx
theorem dot_is (f:Int):dotR f=turnR (if flag4 f=true then [] else [(10,10)]):=by
 unfold dotR
 split
 ·exact (turn_is (L:=[]) trivial (by simp)).symm
 ·exact (turn_is (L:=[(10,10)]) (by simp [Canon,topR]) (by simp)).symm
end
section
theorem part_zero {lo hi:Int} (h0:0≤lo) (h1:lo≤hi) (h2:hi≤topR):behR (flag1 0) (flag2 0) [(lo,hi)]=[(lo,hi)]:=by
 have h:addQ [(lo,hi)] (flag1 0) (flag2 0) [(lo,hi)]=[]:=by
  rw [show flag1 0=false by decide,show flag2 0=false by decide]
  have hz:∀ c,toldI false false c=[]:=fun c=>by simp [toldI]
  simp [addQ,addW,addC,hz]
 unfold behR
 rw [h,List.append_nil]
 exact setP_is ⟨h0,h1,h2,trivial⟩ fun _ _ _=>rfl
end
section
def prevR (T:List Tok) (i:Nat):Bool:=match (if 0 < i then T[i - 1]? else none) with
 | some q=>q.k == 6
 | none=>false
theorem wf_fits {n k:Nat} {T:List Tok} (h:Fits n false k T):∀ (m i:Nat),T.length - i=m→i≤T.length→wfT (clsAt T i) (prevR T i) (T.drop i)
 | 0,i,hm,hi=>by
  obtain rfl:i=T.length:=by omega
  rw [List.drop_length,h.cls]
  rfl
 | m+1,i,hm,hi=>by
  have hlt:i < T.length:=by omega
  have ih:=wf_fits h m (i+1) (by omega) (by omega)
  have hf:=h.fit i hlt
  have hp:prevR T (i+1)=(T[i].k == 6):=by
   unfold prevR
   rw [if_pos (by omega)]
   simp only [Nat.add_sub_cancel]
   rw [List.getElem?_eq_getElem hlt]
  rw [clsAt_next hlt,hp] at ih
  rw [List.drop_eq_getElem_cons hlt]
  rcases hc:clsAt T i with _ | _
  ·rw [hc] at ih hf
   rw [wfT]
   have h8:¬ T[i].k=8:=fun e=>by have:=hf.ends e;cases this
   have h9:¬ T[i].k=9:=fun e=>by have:=(hf.range e).1;cases this
   refine ⟨?_,fun e=>?_,?_⟩
   ·have:=hf.lo;have:=hf.hi;omega
   ·obtain ⟨q,hq,h6⟩:=hf.lazy e
    unfold prevR
    rw [hq]
    simp [h6]
   ·have hn:nextC false T[i]=(T[i].k == 7):=by
     unfold nextC
     by_cases h7:T[i].k=7
     ·rw [if_pos h7];simp [h7]
     ·rw [if_neg h7,if_neg h8];simp [h7]
    rw [hn] at ih
    exact ih
  ·rw [hc] at ih hf
   rw [wfT]
   have hin:=hf.inside rfl
   refine ⟨by omega,?_⟩
   have hn:nextC true T[i]=(T[i].k != 8):=by
    unfold nextC
    rw [if_neg (by omega)]
    by_cases h8:T[i].k=8
    ·rw [if_pos h8];simp [h8]
    ·rw [if_neg h8];simp [h8]
   rw [hn,show (T[i].k == 6)=false by simp;omega] at ih
   exact ih
theorem of_wf {l:List Int} {T:List Tok} (h:ofT l=.ok T):wfT false false T:=by
 have:=wf_fits (of_fits h).1 T.length 0 (by omega) (by omega)
 exact this
theorem of_same {l:List Int} {T:List Tok} (f:Int) (h:ofT l=.ok T) :
 (∃ n,dP f l.length 201 T=.ok n∧faultT l.length T 0 3=(0,0)∧patT f 201 21 T=some (n,[]))∨(dP f l.length 201 T=.error (faultT l.length T 0 3)∧¬ (faultT l.length T 0 3).2=0) :=
 dP_same f l.length 201 (of_wf h) (by have:=of_length h;have:=(of_fits h).2;omega)
end
section
def GoodD (x:DR) (n:Nd) (R:List Tok):Prop:=x=.ok (n,R)∨∃ p,x=.error (p,9)
def innD (f:Int) (E q:Nat):Nat→Option (List Tok→DR)
 | 0=>none
 | d+1=>some (dOr f E q d)
def NoRep (R:List Tok):Prop:=kindIs R [6,13]=false
def JoinEnd (R:List Tok):Prop:=R=[]∨kindIs R [5,4]=true
def OrEnd (R:List Tok):Prop:=R=[]∨kindIs R [4]=true
theorem OrEnd.join {R:List Tok} (h:OrEnd R):JoinEnd R:=by
 rcases h with h | h
 ·exact .inl h
 ·refine .inr ?_
  rcases R with _ | ⟨t,R⟩
  ·cases h
  ·simp [kindIs] at h ⊢;exact .inr h
section
variable {inner:Option (List Tok→DR)} {f:Int} {E q:Nat} {n:Nd} {S R T:List Tok}
theorem NoRep.lazy (h:NoRep R):kindIs R [13]=false:=by
 rcases R with _ | ⟨t,R⟩
 ·rfl
 ·simp [kindIs,NoRep] at h ⊢;omega
end
def headOk (S:List Tok):Prop:=∃ t T,S=t :: T∧(t.k=1∨t.k=3∨t.k=7∨t.k=10∨t.k=11)
theorem headOk.app {S T:List Tok} (h:headOk S):headOk (S++T):=by
 obtain ⟨t,T',rfl,h⟩:=h
 exact ⟨t,T'++T,rfl,h⟩
theorem headOk.z {S X:List Tok} (h:headOk S) (hX:X.map z=S):headOk X:=by
 obtain ⟨t,T,rfl,h⟩:=h
 rcases X with _ | ⟨x,X⟩
 ·cases hX
 ·injection hX with h1 h2
  have hk:x.k=t.k:=by rw [← h1];rfl
  exact ⟨x,X,rfl,by omega⟩
theorem headOk.noRep {X R:List Tok} (h:headOk X):NoRep (X++R):=by
 obtain ⟨t,T,rfl,h⟩:=h
 simp [kindIs,NoRep];omega
theorem node_plain {k lo hi:Int} {rs:List (Int×Int)} {ks:List Nd} (h:nodeI (.mk k lo hi rs ks)=true):(k=1∨k=2∨k=3∨k=4∨k=5∨k=6∨k=7)∧(k≠5→lo=0∧hi=0)∧(k≠2→rs=[])∧(k=1∨k=2∨k=6∨k=7→ks=[])∧(k=3∨k=4→2≤ks.length)∧(k=5→ks.length=1)∧(k=2→setR rs=rs):=by
 have hk:k=1∨k=2∨k=3∨k=4∨k=5∨k=6∨k=7:=by
  by_cases h1:k=1
  ·exact .inl h1
  by_cases h6:k=6
  ·omega
  by_cases h7:k=7
  ·omega
  by_cases h2:k=2
  ·omega
  by_cases h3:k=3
  ·omega
  by_cases h4:k=4
  ·omega
  by_cases h5:k=5
  ·omega
  simp [nodeI,h1,h6,h7,h2,h3,h4,h5] at h
 refine ⟨hk,?_⟩
 rcases hk with rfl | rfl | rfl | rfl | rfl | rfl | rfl <;> simp [nodeI] at h ⊢ <;> grind
structure ReadsN (f:Int) (E:Nat) (n:Nd):Prop where
 A:∀ d S R,S.map z=brT (([3,4,5]:List Int).contains (kindN n)) (shN n)→S.length≤200→GoodD (dAtom (innD f E 201 d) f E (S++R)) n R
 B:∀ d S R,S.map z=brT (([3,4]:List Int).contains (kindN n)) (shN n)→S.length≤200→NoRep R→GoodD (dRep (innD f E 201 d) f E (S++R)) n R
 J:∀ d S R,S.map z=brT (kindN n == 4) (shN n)→S.length≤200→JoinEnd R→GoodD (dJoin (innD f E 201 d) f E 201 (S++R)) n R
 O:∀ d S R,S.map z=shN n→S.length≤200→OrEnd R→GoodD (dOr f E 201 d (S++R)) n R
section
variable {f:Int} {E:Nat} {n:Nd}
end
def ClosR (f:Int) (rs:List (Int×Int)):Prop:=(flag1 f=true→Folded rs)∧(flag2 f=true→∀ c,hasR rs (mir c)=true→hasR rs c=true)
mutual
def closN (f:Int):Nd→Prop
 | .mk _ _ _ rs ks=>ClosR f rs∧closL f ks
def closL (f:Int):List Nd→Prop
 | []=>True
 | n :: ns=>closN f n∧closL f ns
end
theorem all_mem:∀ {ns:List Nd},allL ns=true→∀ n∈ns,allN n=true
 | [],_,n,h=>by simp at h
 | m :: ns,ha,n,h=>by
  rw [allL,Bool.and_eq_true] at ha
  rcases List.mem_cons.1 h with e | h
  ·rw [e];exact ha.1
  ·exact all_mem ha.2 n h
end
end Go.Proofs.YtoeocodfndbebaaGreatDoor
