/- Shared texts, shaken for one claim. -/
import Derived.Test.YtoeocodfndbebaaGreatDoorZC6
import Derived.Test.YtoeocodfndbebaaGreatDoorZC7
import Derived.Test.YtoeocodfndbebaaGreatDoorZC12
import Derived.Test.YtoeocodfndbebaaGreatDoorZC19
set_option maxRecDepth 20000
set_option maxHeartbeats 16000000
namespace Go.Proofs.YtoeocodfndbebaaGreatDoor
section
def tk (k:Int):Tok:=⟨k,0,0,0,0⟩
def brT (b:Bool) (S:List Tok):List Tok:=if b=true then tk 3 :: (S++[tk 4]) else S
mutual
def shN:Nd→List Tok
 | .mk k lo hi rs ks=>if k=1 then [tk 3,tk 4] else if k=6 then [tk 10] else if k=7 then [tk 11] else if k=2 then shSet rs
  else if k=3 then shJ [3,4] ks else if k=4 then shO ks else (match ks with
   | []=>[]
   | n :: _=>brT (([3,4,5]:List Int).contains (kindN n)) (shN n))++[⟨6,0,lo,hi,0⟩]
def shJ (l:List Int):List Nd→List Tok
 | []=>[]
 | n :: ns=>brT (l.contains (kindN n)) (shN n)++shJ l ns
def shO:List Nd→List Tok
 | []=>[]
 | n :: ns=>brT (kindN n == 4) (shN n)++(match ns with
  | []=>[]
  | _ :: _=>tk 5 :: shO ns)
end
def lastOk (S:List Tok):Prop:=∃ s,S.getLast?=some s∧¬ s.k=6
theorem lastOk.of {S X T:List Tok} (h:lastOk S) (hX:X.map z=S):lastR (T++X)=false:=by
 obtain ⟨s,h1,h2⟩:=h
 rw [← hX,List.getLast?_map] at h1
 rcases hx:X.getLast? with _ | x
 ·rw [hx] at h1;cases h1
 ·rw [hx] at h1
  injection h1 with h1
  have hk:¬ x.k=6:=by rw [← h1] at h2;exact h2
  unfold lastR
  rw [List.getLast?_append,hx]
  simpa using hk
theorem Spelt.after {L:List Int} {k:Nat} {x y:List Int} {S S':List Tok} (h:Spelt L k x S) (hl:lastOk S) (h':SpeltAfter L (k+x.length) y S'):Spelt L k (x++y) (S++S'):=by
 intro fuel T
 obtain ⟨X,h1,h2⟩:=h (fuel+S'.length) T
 obtain ⟨Y,h3,h4⟩:=h' fuel (T++X) (hl.of h1)
 refine ⟨X++Y,by rw [List.map_append,h1,h3],?_⟩
 rw [List.length_append,show fuel+(S.length+S'.length)=fuel+S'.length+S.length by omega,h2,h4]
 simp [Nat.add_assoc]
end
section
theorem Canon.apart:∀ {S:List (Int×Int)} {a:Int},Canon a S→S.Pairwise (fun r s=>r.1+2≤s.1)∧∀ r∈S,a≤r.1
 | [],_,_=>⟨List.Pairwise.nil,fun r h=>by simp at h⟩
 | r :: S,a,h=>by
  obtain ⟨h1,h2,h3,h4⟩:=h
  obtain ⟨k1,k2⟩:=Canon.apart h4
  refine ⟨List.pairwise_cons.2 ⟨fun s hs=>by have:=k2 s hs;omega,k1⟩,fun s hs=>?_⟩
  rcases List.mem_cons.1 hs with rfl | hs
  ·exact h1
  ·have:=k2 s hs;omega
theorem Canon.count {S:List (Int×Int)} {a:Int} (hS:Canon a S) (L M:List Int) (h:∀ x∈S.map (·.1),x∈L∨x / 2∈M):S.length≤L.length+M.length:=by
 have hp:=hS.apart.1
 have:=sub_length (S.map fun r=>if r.1∈L then 2 * r.1 else 2 * (r.1 / 2)+1) ((L.map fun x=>2 * x)++M.map fun x=>2 * x+1)
  (List.pairwise_map.2 (hp.imp fun {r s} hrs=>by split <;> split <;> omega)) fun y hy=>by
   obtain ⟨r,hr,rfl⟩:=List.mem_map.1 hy
   by_cases hL:r.1∈L
   ·rw [if_pos hL]
    exact List.mem_append.2 (.inl (List.mem_map.2 ⟨r.1,hL,rfl⟩))
   ·rw [if_neg hL]
    rcases h r.1 (List.mem_map.2 ⟨r,hr,rfl⟩) with h | h
    ·exact absurd h hL
    ·exact List.mem_append.2 (.inr (List.mem_map.2 ⟨r.1 / 2,h,rfl⟩))
 simpa using this
theorem setP_count (p:Int→Bool) (L M:List Int) (h:∀ x,0≤x→x≤topR→p x=true→(x=0∨p (x - 1)=false)→x∈L∨x / 2∈M):(setP p).length≤L.length+M.length:=by
 refine (setP_canon p).count L M fun x hx=>?_
 obtain ⟨h0,h1,h2⟩:=(setP_canon p).lows.2 x hx
 rw [setP_has] at h1
 simp at h1
 refine h x h1.1.1 h1.1.2 h1.2 ?_
 by_cases hz:x=0
 ·exact .inl hz
 ·refine .inr ?_
  have h3:=h2 (x - 1) rfl
  rw [setP_has] at h3
  rcases hp:p (x - 1) with _ | _
  ·rfl
  ·rw [hp] at h3
   simp at h3
   omega
/-! what others are folded or mirrored into -/
def upTo (a:Int) (n:Nat):List Int:=(List.range n).map fun (k:Nat)=>a+(k:Int)
theorem mem_upTo {a x:Int} {n:Nat}:x∈upTo a n↔a≤x∧x < a+n:=by
 unfold upTo
 rw [List.mem_map]
 constructor
 ·rintro ⟨k,hk,rfl⟩
  have:=List.mem_range.1 hk
  omega
 ·rintro ⟨h1,h2⟩
  exact ⟨(x - a).toNat,List.mem_range.2 (by omega),by omega⟩
def KL:List Int:=rws.flatMap fun r=>upTo r.1 (r.2.1 - r.1+1).toNat++upTo (r.1+r.2.2) (r.2.1 - r.1+1).toNat
theorem mem_KL {c k:Int} (h:fo k=fo c) (hne:k≠c):c∈KL:=by
 unfold KL
 rw [List.mem_flatMap]
 by_cases hc:fo c=c
 ·have hk:fo k≠k:=fun e=>hne (by rw [← e,h,hc])
  obtain ⟨r,hr,h1,h2⟩:=fo_rows k hk
  have h3:=(fo_row r hr k h1 h2).1
  exact ⟨r,hr,List.mem_append.2 (.inr (mem_upTo.2 (by omega)))⟩
 ·obtain ⟨r,hr,h1,h2⟩:=fo_rows c hc
  exact ⟨r,hr,List.mem_append.2 (.inl (mem_upTo.2 (by omega)))⟩
def mrL:List Int:=mrs.flatMap fun p=>[p.1,p.2]
theorem mem_mrL {c:Int} (h:mir c≠c):c∈mrL:=by
 revert h
 refine all_mrs (Q:=fun c=>mir c≠c→c∈mrL) (fun c h h2=>?_) (by decide +kernel) c
 exact absurd (mir_none h) h2
def alike (c:Int):List Int:=fo c :: froms (fo c)
theorem mem_alike {c k:Int} (h:fo k=fo c):k∈alike c:=by
 unfold alike
 by_cases hk:k=fo c
 ·rw [hk];exact List.mem_cons_self
 ·exact List.mem_cons_of_mem _ (mem_froms.2 ⟨h,hk⟩)
theorem alike_few (c:Int):(alike c).length≤4:=by
 have:=froms_few (fo c)
 simp [alike];omega
def BND:List Int:=KL.filter fun c=>(alike c).any fun k=>k != c && fo (k - 1) != fo (c - 1)
theorem mem_BND {c k:Int} (h:fo k=fo c) (hne:k≠c) (hb:¬ fo (k - 1)=fo (c - 1)):c∈BND:=by
 refine List.mem_filter.2 ⟨mem_KL h hne,?_⟩
 refine List.any_eq_true.2 ⟨k,mem_alike h,?_⟩
 simp [hne,hb]
theorem bnd_few:BND.length≤30:=by decide +kernel
theorem mrL_few:mrL.length≤26:=by decide +kernel
def K2:List Int:=upTo 32 14++upTo 48 14++upTo 96 12++upTo 108 20++upTo 456 13++upTo 472 13++upTo 512 48++[90,3919,20,45,46,61,62,4500,4501,6148,6149,6150,6151,6152,30,31,85,93,4402,4405]
theorem k2_few:K2.length≤154:=by decide +kernel
theorem kl_half:∀ c∈KL,c / 2∈K2:=by decide +kernel
theorem mrL_half:∀ c∈mrL,c / 2∈K2:=by decide +kernel
end
section
theorem beh_iff {R:List (Int×Int)} {f1 f2:Bool} {c:Int} (hc:inTop c):hasR (behR f1 f2 R) c=true↔hasR R c=true∨(f1=true∧∃ k,inTop k∧fo k=fo c∧hasR R k=true)∨(f2=true∧hasR R (mir c)=true∧inTop (mir c)):=by
 have h:=beh_has (R:=R) (f1:=f1) (f2:=f2) hc
 unfold behR
 rw [setP_has]
 unfold inTop at hc
 have h1:(decide (0≤c) && decide (c≤topR))=true:=by unfold topR at hc ⊢;simp;omega
 rw [h1,Bool.true_and]
 exact h
theorem beh_top {R:List (Int×Int)} {f1 f2:Bool} {c:Int} (h:hasR (behR f1 f2 R) c=true):inTop c:=by
 have:=(setP_canon (hasR (R++addQ R f1 f2 R))).has h
 unfold topR at this
 unfold inTop topR
 omega
theorem beh_more {R:List (Int×Int)} {f1 f2:Bool} {x:Int} (h:hasR (behR f1 f2 R) x=true) (h0:hasR R x=false):(f1=true∧∃ k,inTop k∧fo k=fo x∧k≠x∧hasR R k=true)∨(mir x≠x∧hasR R (mir x)=true):=by
 rcases (beh_iff (beh_top h)).1 h with h | ⟨e,k,hk,hf,h⟩ | ⟨e,h,hm⟩
 ·rw [h] at h0;cases h0
 ·refine .inl ⟨e,k,hk,hf,fun e=>?_,h⟩
  rw [← e,h] at h0;cases h0
 ·refine .inr ⟨fun e=>?_,h⟩
  rw [← e,h] at h0;cases h0
def GL:List Int:=[0,48,9,32,133,160,8232,65,95,97,192,216,248,880,1024,1488,1568,1632,58,14,33,134,161,8234,91,96,123,215,247,592,1280,1515,1611,1642,181,182,7838,7839]
theorem range_has {lo hi x:Int}:hasR [(lo,hi)] x=true↔lo≤x∧x≤hi:=by simp [hasR,inR]
theorem range_start {lo hi:Int} {f1 f2:Bool} {x:Int} (h:hasR (behR f1 f2 [(lo,hi)]) x=true) (h1:x=0∨hasR (behR f1 f2 [(lo,hi)]) (x - 1)=false):x=lo∨x=0∨x∈alike lo∨x∈BND∨x∈mrL:=by
 have hx:=beh_top h
 rcases hb:hasR [(lo,hi)] x with _ | _
 ·rcases beh_more h hb with ⟨e,k,hk,hf,hne,h2⟩ | ⟨hm,h2⟩
  ·rw [range_has] at h2
   by_cases hkl:k=lo
   ·exact .inr (.inr (.inl (mem_alike (by rw [← hkl,hf]))))
   ·by_cases hfb:fo (k - 1)=fo (x - 1)
    ·exfalso
     have s1:=fo_spec k
     have s2:=fo_spec x
     have hk1:1≤k∧1≤x:=by omega
     rcases h1 with h1 | h1
     ·omega
     ·have hx1:inTop (x - 1):=by unfold inTop at hx ⊢;omega
      have:=(beh_iff (R:=[(lo,hi)]) (f1:=f1) (f2:=f2) hx1).2 (.inr (.inl ⟨e,k - 1,by unfold inTop at hk ⊢;omega,hfb,range_has.2 (by omega)⟩))
      rw [this] at h1;cases h1
    ·exact .inr (.inr (.inr (.inl (mem_BND hf hne hfb))))
  ·exact .inr (.inr (.inr (.inr (mem_mrL hm))))
 ·rw [range_has] at hb
  rcases h1 with h1 | h1
  ·exact .inr (.inl h1)
  ·by_cases h0:x=0
   ·exact .inr (.inl h0)
   ·have hx1:inTop (x - 1):=by unfold inTop at hx ⊢;omega
    rcases hc:hasR [(lo,hi)] (x - 1) with _ | _
    ·left
     have:¬ (lo≤x - 1∧x - 1≤hi):=fun e=>by rw [range_has.2 e] at hc;cases hc
     omega
    ·rw [(beh_iff hx1).2 (.inl hc)] at h1;cases h1
theorem group_three (c:Int):groupL c=[48,57]∨groupL c=[9,13,32,32,133,133,160,160,8232,8233]∨groupL c=[48,57,65,90,95,95,97,122,192,214,216,246,248,591,880,1023,1024,1279,1488,1514,1568,1610,1632,1641]:=by
 unfold groupL
 split
 ·exact .inl rfl
 ·split
  ·exact .inr (.inl rfl)
  ·exact .inr (.inr rfl)
theorem group_mir (c:Int):∀ x∈mrL,hasR (groupR c) x=false:=by
 unfold groupR
 rcases group_three c with h | h | h <;> rw [h] <;> decide +kernel
theorem group_has {c:Int} {f1 f2:Bool} {x:Int} (h:hasR (behR f1 f2 (groupR c)) x=true):hasR (groupR c) x=true∨x=181∨x=7838:=by
 rcases hb:hasR (groupR c) x with _ | _
 ·refine .inr ?_
  rcases beh_more h hb with ⟨e,k,hk,hf,hne,h2⟩ | ⟨hm,h2⟩
  ·have s1:=fo_spec k
   have s2:=fo_spec x
   rw [hasR_iff] at h2
   have hb2:¬ ∃ r∈groupR c,r.1≤x∧x≤r.2:=fun e=>by rw [hasR_iff.2 e] at hb;cases hb
   unfold groupR at h2 hb2
   rcases group_three c with h | h | h
   ·rw [h] at h2 hb2
    simp [pairUp] at h2 hb2
    omega
   ·rw [h] at h2 hb2
    simp [pairUp] at h2 hb2
    omega
   ·rw [h] at h2 hb2
    simp [pairUp] at h2 hb2
    omega
  ·have:=group_mir c (mir x) (mem_mrL (by rw [mir_twice];exact fun e=>hm e.symm))
   rw [this] at h2;cases h2
 ·exact .inl rfl
theorem group_edge {c x:Int} (h:hasR (groupR c) x=true) (h1:x=0∨hasR (groupR c) (x - 1)=false):x∈GL:=by
 rw [hasR_iff] at h
 have hb2:x=0∨¬ ∃ r∈groupR c,r.1≤x - 1∧x - 1≤r.2:=h1.imp id fun h1 e=>by rw [hasR_iff.2 e] at h1;cases h1
 unfold groupR at h hb2
 simp only [GL,List.mem_cons,List.not_mem_nil,or_false]
 rcases group_three c with h3 | h3 | h3
 ·rw [h3] at h hb2
  simp [pairUp] at h hb2
  omega
 ·rw [h3] at h hb2
  simp [pairUp] at h hb2
  omega
 ·rw [h3] at h hb2
  simp [pairUp] at h hb2
  omega
theorem group_end {c x:Int} (h:hasR (groupR c) (x - 1)=true) (h1:hasR (groupR c) x=false):x∈GL:=by
 rw [hasR_iff] at h
 have hb2:¬ ∃ r∈groupR c,r.1≤x∧x≤r.2:=fun e=>by rw [hasR_iff.2 e] at h1;cases h1
 unfold groupR at h hb2
 simp only [GL,List.mem_cons,List.not_mem_nil,or_false]
 rcases group_three c with h3 | h3 | h3
 ·rw [h3] at h hb2
  simp [pairUp] at h hb2
  omega
 ·rw [h3] at h hb2
  simp [pairUp] at h hb2
  omega
 ·rw [h3] at h hb2
  simp [pairUp] at h hb2
  omega
theorem gl_of {x:Int} (h:x=181∨x=182∨x=7838∨x=7839∨x=0):x∈GL:=by
 rcases h with rfl | rfl | rfl | rfl | rfl <;> decide
theorem group_start {c:Int} {f1 f2:Bool} {x:Int} (h:hasR (behR f1 f2 (groupR c)) x=true) (h1:x=0∨hasR (behR f1 f2 (groupR c)) (x - 1)=false):x∈GL:=by
 have hx:=beh_top h
 rcases group_has h with h2 | h2 | h2
 ·refine group_edge h2 ?_
  by_cases h0:x=0
  ·exact .inl h0
  ·refine .inr ?_
   rcases h1 with h1 | h1
   ·exact absurd h1 h0
   ·rcases hc:hasR (groupR c) (x - 1) with _ | _
    ·rfl
    ·have hx1:inTop (x - 1):=by unfold inTop at hx ⊢;omega
     rw [(beh_iff hx1).2 (.inl hc)] at h1;cases h1
 ·exact gl_of (by omega)
 ·exact gl_of (by omega)
theorem group_turn {c:Int} {f1 f2:Bool} {x:Int} (hx:inTop x) (h:hasR (behR f1 f2 (groupR c)) x=false) (h1:x=0∨hasR (behR f1 f2 (groupR c)) (x - 1)=true):x∈GL:=by
 rcases h1 with h1 | h1
 ·exact gl_of (by omega)
 ·rcases group_has h1 with h2 | h2 | h2
  ·refine group_end h2 ?_
   rcases hc:hasR (groupR c) x with _ | _
   ·rfl
   ·rw [(beh_iff hx).2 (.inl hc)] at h;cases h
  ·exact gl_of (by omega)
  ·exact gl_of (by omega)
end
section
def nextC (c:Bool) (t:Tok):Bool:=if t.k=7 then true else if t.k=8 then false else c
structure Fit (n:Nat) (c:Bool) (p:Option Tok) (t:Tok):Prop where
 pos0:0≤t.pos
 posn:t.pos < n
 rises:∀ q,p=some q→q.pos < t.pos
 lo:1≤t.k
 hi:t.k≤13
 begins:t.k=7→c=false
 ends:t.k=8→c=true
 range:t.k=9→c=true∧t.lo≤t.hi
 inside:c=true→t.k=1∨t.k=12∨t.k=9∨t.k=8
 lazy:t.k=13→∃ q,p=some q∧q.k=6
 again:t.k=6→0≤t.lo∧t.lo≤20∧t.hi≤20∧(0≤t.hi→t.lo≤t.hi)
structure OutK (r:Bool) (t:Tok):Prop where
 kind:t.k=1∨t.k=2∨t.k=3∨t.k=4∨t.k=5∨t.k=6∨t.k=7∨t.k=10∨t.k=11∨t.k=12∨t.k=13
 lazy:t.k=13→r=true
 again:t.k=6→0≤t.lo∧t.lo≤20∧t.hi≤20∧(0≤t.hi→t.lo≤t.hi)
theorem OutK.easy {r:Bool} {t:Tok} (h:t.k=1∨t.k=2∨t.k=3∨t.k=4∨t.k=5∨t.k=7∨t.k=10∨t.k=11∨t.k=12):OutK r t:=⟨by omega,fun e=>by omega,fun e=>by omega⟩
theorem escT_kind {l:List Int} {fr k:Nat} {t:Tok} {k':Nat} (h:escT l fr k=.ok (t,k')):t.k=1∨t.k=12:=by
 unfold escT at h
 split at h
 ·cases h
 ·split at h
  ·cases h
  ·injection h with h;injection h with h _;subst h;exact .inr rfl
  ·injection h with h;injection h with h _;subst h;exact .inl rfl
theorem shutT_kind {fr:Nat} {a b c:Int} {k:Nat} {t:Tok} {k':Nat} (h:shutT fr a b c k=.ok (t,k')) (r:Bool):OutK r t:=by
 unfold shutT at h
 split at h
 ·cases h
 ·rename_i hb
  injection h with h;injection h with h _;subst h
  refine ⟨by simp,fun e=>by simp at e,fun _=>?_⟩
  simp [badB] at hb
  simp only
  omega
theorem braT_kind {l:List Int} {fr k:Nat} {t:Tok} {k':Nat} (h:braT l fr k=.ok (t,k')) (r:Bool):OutK r t:=by
 unfold braT at h
 split at h
 ·cases h
 ·split at h
  ·split at h
   ·cases h
   ·exact shutT_kind h r
  ·exact shutT_kind h r
theorem repT_kind (r:Bool) (c:Int):OutK r (repT r c):=by
 unfold repT
 split
 ·rename_i h;exact ⟨by simp,fun _=>h.2,fun e=>by simp at e⟩
 ·split
  ·exact ⟨by simp,fun e=>by simp at e,fun _=>by simp⟩
  ·split
   ·exact ⟨by simp,fun e=>by simp at e,fun _=>by simp⟩
   ·exact ⟨by simp,fun e=>by simp at e,fun _=>by simp⟩
theorem aloT_kind (r:Bool) (c:Int):OutK r (aloT c):=by
 refine OutK.easy ?_
 unfold aloT
 repeat' split
 all_goals simp [chT]
theorem claT_kind (l:List Int) (k:Nat) (r:Bool):OutK r (claT l k).1:=by
 refine OutK.easy ?_
 unfold claT
 split <;> simp
theorem outB_kind {l:List Int} {r:Bool} {k:Nat} {t:Tok} {k':Nat} (h:outB l r k=.ok (t,k')):OutK r t:=by
 unfold outB at h
 split at h
 ·cases h
 ·split at h
  ·injection h with h;injection h with h _;subst h;exact repT_kind r _
  ·split at h
   ·exact braT_kind h r
   ·split at h
    ·injection h with h
     have:=claT_kind l (k+1) r
     rename_i c k2 hn _ _ _
     have h2:=claT_kind l k2 r
     rw [h] at h2;exact h2
    ·split at h
     ·have:=escT_kind h;exact OutK.easy (by omega)
     ·injection h with h;injection h with h _;subst h;exact aloT_kind r _
theorem itemT_kind {l:List Int} {k:Nat} {t:Tok} {k':Nat} (h:itemT l k=.ok (t,k')):t.k=1∨t.k=12:=by
 unfold itemT at h
 split at h
 ·cases h
 ·split at h
  ·exact escT_kind h
  ·injection h with h;injection h with h _;subst h;exact .inl rfl
theorem upT_kind {l:List Int} {low:Int} {fr k:Nat} {t:Tok} {k':Nat} (h:upT l low fr k=.ok (t,k')):t.k=9∧t.lo≤t.hi:=by
 unfold upT at h
 split at h
 ·cases h
 ·split at h
  ·cases h
  ·split at h
   ·cases h
   ·rename_i hlt
    injection h with h;injection h with h _;subst h
    exact ⟨rfl,by simp only;omega⟩
theorem inB_kind {l:List Int} {k:Nat} {t:Tok} {k':Nat} (h:inB l k=.ok (t,k')):(t.k=1∨t.k=12∨t.k=9∨t.k=8)∧(t.k=9→t.lo≤t.hi):=by
 unfold inB at h
 split at h
 ·injection h with h;injection h with h _;subst h;exact ⟨by simp,fun e=>by simp at e⟩
 ·split at h
  ·cases h
  ·rename_i t2 k2 hn
   have h1:=itemT_kind hn
   split at h
   ·have:=upT_kind h;exact ⟨by omega,fun _=>this.2⟩
   ·injection h with h;injection h with h _;subst h;exact ⟨by omega,fun e=>by omega⟩
def clsAt (T:List Tok) (i:Nat):Bool:=(T.take i).foldl nextC false
structure Fits (n:Nat) (c:Bool) (k:Nat) (T:List Tok):Prop where
 fit:∀ i (h:i < T.length),Fit n (clsAt T i) (if 0 < i then T[i - 1]? else none) T[i]
 cls:clsAt T T.length=c
 last:∀ t,T.getLast?=some t→t.pos < k
theorem clsAt_append {T:List Tok} {t:Tok} {i:Nat} (h:i≤T.length):clsAt (T++[t]) i=clsAt T i:=by
 unfold clsAt;rw [List.take_append_of_le_length h]
theorem clsAt_next {T:List Tok} {i:Nat} (h:i < T.length):clsAt T (i+1)=nextC (clsAt T i) T[i]:=by
 unfold clsAt;rw [List.take_succ_eq_append_getElem h,List.foldl_append];rfl
theorem Fits.push {n k k':Nat} {c c':Bool} {T:List Tok} {t:Tok} (h:Fits n c k T) (hf:Fit n c T.getLast? t) (hp:t.pos=(k:Int)) (hk:k < k') (hc:nextC c t=c'):Fits n c' k' (T++[t]):=by
 refine ⟨fun i hi=>?_,?_,fun q hq=>?_⟩
 ·by_cases hlt:i < T.length
  ·rw [clsAt_append (by omega),List.getElem_append_left hlt]
   have:=h.fit i hlt
   by_cases h0:0 < i
   ·rw [if_pos h0] at this ⊢
    rw [List.getElem?_append_left (by omega)];exact this
   ·rw [if_neg h0] at this ⊢;exact this
  ·obtain rfl:i=T.length:=by simp at hi;omega
   rw [clsAt_append (Nat.le_refl _),h.cls]
   rw [List.getElem_append_right (Nat.le_refl _)]
   simp only [Nat.sub_self,List.getElem_cons_zero]
   have e:(if 0 < T.length then (T++[t])[T.length - 1]? else none)=T.getLast?:=by
    by_cases h0:0 < T.length
    ·rw [if_pos h0,List.getElem?_append_left (by omega),List.getLast?_eq_getElem?]
    ·have hT:T=[]:=List.eq_nil_of_length_eq_zero (by omega)
     subst hT;rfl
   rw [e];exact hf
 ·rw [List.length_append,List.length_singleton,clsAt_next (by simp),List.getElem_append_right (Nat.le_refl _),clsAt_append (Nat.le_refl _),h.cls]
  simp [hc]
 ·rw [List.getLast?_append] at hq
  simp at hq
  subst hq
  rw [hp];omega
theorem last_rep {T:List Tok} (h:lastR T=true):∃ q,T.getLast?=some q∧q.k=6:=by
 unfold lastR at h
 split at h
 ·rename_i q hq;exact ⟨q,hq,by simpa using h⟩
 ·cases h
theorem read_fits (l:List Int):∀ (n:Nat) (c:Bool) (k:Nat) (T T':List Tok),k≤l.length→l.length - k < n→Fits l.length c k T→readT l n c k T=.ok T'→Fits l.length false (l.length+1) T'
 | 0,_,_,_,_,_,hn,_,_=>by omega
 | n+1,false,k,T,T',hk,hn,hf,h=>by
  by_cases hke:k=l.length
  ·subst hke
   rw [readT_end] at h
   injection h with h
   subst h
   exact ⟨hf.fit,hf.cls,fun t ht=>by have:=hf.last t ht;omega⟩
  ·rw [readT_out hke] at h
   rcases ho:outT l (lastR T) k with e | ⟨t,k'⟩
   ·rw [ho] at h;cases h
   ·rw [ho] at h
    simp only at h
    obtain ⟨h1,h2,h3⟩:=outT_ok ho
    obtain ⟨t',hb,e⟩:=plT_ok ho
    have hk2:=outB_kind hb
    have ek:t.k=t'.k:=by rw [e]
    have el:t.lo=t'.lo:=by rw [e]
    have eh:t.hi=t'.hi:=by rw [e]
    have hkind:=hk2.kind
    refine read_fits l n (t.k == 7) k' (T++[t]) T' h2 (by omega) (hf.push ?_ h3 h1 ?_) h
    ·refine ⟨by rw [h3];omega,by rw [h3];omega,fun q hq=>by rw [h3];exact hf.last q hq,by omega,by omega,fun _=>rfl,fun e1=>by omega,fun e1=>(by exfalso;omega),fun e1=>(by cases e1),fun e1=>last_rep (hk2.lazy (by omega)),fun e1=>by rw [el,eh];exact hk2.again (by omega)⟩
    ·unfold nextC
     by_cases h7:t.k=7
     ·rw [if_pos h7,h7];rfl
     ·rw [if_neg h7,if_neg (by omega)];symm;simpa using h7
 | n+1,true,k,T,T',hk,hn,hf,h=>by
  rw [readT_in] at h
  rcases ho:inT l k with e | ⟨t,k'⟩
  ·rw [ho] at h;cases h
  ·rw [ho] at h
   simp only at h
   obtain ⟨h1,h2,h3⟩:=inT_ok ho
   obtain ⟨t',hb,e⟩:=plT_ok ho
   have hk2:=inB_kind hb
   have ek:t.k=t'.k:=by rw [e]
   have el:t.lo=t'.lo:=by rw [e]
   have eh:t.hi=t'.hi:=by rw [e]
   have hkind:=hk2.1
   refine read_fits l n (t.k != 8) k' (T++[t]) T' h2 (by omega) (hf.push ?_ h3 h1 ?_) h
   ·refine ⟨by rw [h3];omega,by rw [h3];omega,fun q hq=>by rw [h3];exact hf.last q hq,by omega,by omega,fun e1=>(by exfalso;omega),fun _=>rfl,fun e1=>⟨rfl,by rw [el,eh];exact hk2.2 (by omega)⟩,fun _=>by omega,fun e1=>(by exfalso;omega),fun e1=>(by exfalso;omega)⟩
   ·unfold nextC
    rw [if_neg (by omega)]
    by_cases h8:t.k=8
    ·rw [if_pos h8,h8];rfl
    ·rw [if_neg h8];symm;simpa using h8
theorem of_fits {l:List Int} {T:List Tok} (h:ofT l=.ok T):Fits l.length false (l.length+1) T∧l.length≤200:=by
 unfold ofT at h
 split at h
 ·cases h
 ·exact ⟨read_fits l (l.length+1) false 0 [] T (by omega) (by omega) ⟨fun i hi=>by simp at hi,rfl,fun t ht=>by simp at ht⟩ h,by omega⟩
theorem read_length (l:List Int):∀ (n:Nat) (c:Bool) (k:Nat) (T T':List Tok),k≤l.length→readT l n c k T=.ok T'→T'.length+k≤T.length+l.length
 | 0,_,k,T,T',hk,h=>by
  injection h with h;subst h;omega
 | n+1,false,k,T,T',hk,h=>by
  by_cases hke:k=l.length
  ·subst hke;rw [readT_end] at h;injection h with h;subst h;omega
  ·rw [readT_out hke] at h
   rcases ho:outT l (lastR T) k with e' | ⟨t,k'⟩
   ·rw [ho] at h;cases h
   ·rw [ho] at h
    obtain ⟨h1,h2,_⟩:=outT_ok ho
    have:=read_length l n _ k' _ T' h2 h
    simp at this;omega
 | n+1,true,k,T,T',hk,h=>by
  rw [readT_in] at h
  rcases ho:inT l k with e' | ⟨t,k'⟩
  ·rw [ho] at h;cases h
  ·rw [ho] at h
   obtain ⟨h1,h2,_⟩:=inT_ok ho
   have:=read_length l n _ k' _ T' h2 h
   simp at this;omega
theorem of_length {l:List Int} {T:List Tok} (h:ofT l=.ok T):T.length≤l.length:=by
 unfold ofT at h
 split at h
 ·cases h
 ·have:=read_length l (l.length+1) false 0 [] T (by omega) h
  simp at this;exact this
/-! where it is wrong -/
structure Bad (n:Nat) (e:Nat×Int):Prop where
 le:e.1≤n
 atEnd:e.2=4→e.1=n
 kind:e.2=4∨e.2=6∨e.2=7∨e.2=8
theorem nxT_bad {l:List Int} {k:Nat} {e:Nat×Int} (hk:k≤l.length) (h:nxT l k=.error e):Bad l.length e:=by
 obtain ⟨h1,rfl⟩:=nxT_no h
 exact ⟨hk,fun _=>by simp only;omega,.inl rfl⟩
theorem bad_at {n fr:Nat} {x:Int} (h:fr≤n) (hx:x=6∨x=7∨x=8):Bad n (fr,x):=⟨h,fun e=>by simp only at e;omega,by simp only;omega⟩
theorem escT_bad {l:List Int} {fr k:Nat} {e:Nat×Int} (hf:fr≤l.length) (hk:k≤l.length) (h:escT l fr k=.error e):Bad l.length e:=by
 unfold escT at h
 split at h
 ·rename_i hn;injection h with h;subst h;exact nxT_bad hk hn
 ·split at h
  ·injection h with h;subst h;exact bad_at hf (by simp)
  ·cases h
  ·cases h
theorem itemT_bad {l:List Int} {k:Nat} {e:Nat×Int} (hk:k≤l.length) (h:itemT l k=.error e):Bad l.length e:=by
 unfold itemT at h
 split at h
 ·rename_i hn;injection h with h;subst h;exact nxT_bad hk hn
 ·rename_i c k2 hn
  obtain ⟨rfl,hk2,_⟩:=nxT_ok hn
  split at h
  ·exact escT_bad hk (by omega) h
  ·cases h
theorem upT_bad {l:List Int} {low:Int} {fr k:Nat} {e:Nat×Int} (hf:fr≤l.length) (hk:k≤l.length) (h:upT l low fr k=.error e):Bad l.length e:=by
 unfold upT at h
 split at h
 ·rename_i hn;injection h with h;subst h;exact itemT_bad hk hn
 ·split at h
  ·injection h with h;subst h;exact bad_at hk (by simp)
  ·split at h
   ·injection h with h;subst h;exact bad_at hf (by simp)
   ·cases h
theorem shutT_bad {n fr:Nat} {a b c:Int} {k:Nat} {e:Nat×Int} (hf:fr≤n) (h:shutT fr a b c k=.error e):Bad n e:=by
 unfold shutT at h
 split at h
 ·injection h with h;subst h;exact bad_at hf (by simp)
 ·cases h
theorem braT_bad {l:List Int} {fr k:Nat} {e:Nat×Int} (hf:fr≤l.length) (hk:k≤l.length) (h:braT l fr k=.error e):Bad l.length e:=by
 unfold braT at h
 split at h
 ·rename_i hn;injection h with h;subst h;exact nxT_bad (by have:=digT_length l k;omega) hn
 ·rename_i c k2 hn
  obtain ⟨rfl,hk2,_⟩:=nxT_ok hn
  split at h
  ·split at h
   ·rename_i hn2;injection h with h;subst h;exact nxT_bad (by have:=digT_length l (k+(digT l k).length+1);omega) hn2
   ·exact shutT_bad hf h
  ·exact shutT_bad hf h
theorem outB_bad {l:List Int} {r:Bool} {k:Nat} {e:Nat×Int} (hk:k≤l.length) (h:outB l r k=.error e):Bad l.length e:=by
 unfold outB at h
 split at h
 ·rename_i hn;injection h with h;subst h;exact nxT_bad hk hn
 ·rename_i c k2 hn
  obtain ⟨rfl,hk2,_⟩:=nxT_ok hn
  split at h
  ·cases h
  ·split at h
   ·exact braT_bad hk (by omega) h
   ·split at h
    ·cases h
    ·split at h
     ·exact escT_bad hk (by omega) h
     ·cases h
theorem inB_bad {l:List Int} {k:Nat} {e:Nat×Int} (hk:k≤l.length) (h:inB l k=.error e):Bad l.length e:=by
 unfold inB at h
 split at h
 ·cases h
 ·split at h
  ·rename_i hn;injection h with h;subst h;exact itemT_bad hk hn
  ·rename_i t2 k2 hn
   have h1:=itemT_ok hn
   split at h
   ·rename_i hc
    have:=(List.getElem?_eq_some_iff.1 hc.2.1).1
    exact upT_bad hk (by omega) h
   ·cases h
theorem plT_bad {fr:Nat} {r:Wr (Tok×Nat)} {e:Nat×Int} (h:plT fr r=.error e):r=.error e:=by
 unfold plT at h
 split at h
 ·injection h with h;rw [h]
 ·cases h
theorem read_bad (l:List Int):∀ (n:Nat) (c:Bool) (k:Nat) (T:List Tok) (e:Nat×Int),k≤l.length→readT l n c k T=.error e→Bad l.length e
 | 0,_,_,_,_,_,h=>by cases h
 | n+1,false,k,T,e,hk,h=>by
  by_cases hke:k=l.length
  ·subst hke;rw [readT_end] at h;cases h
  ·rw [readT_out hke] at h
   rcases ho:outT l (lastR T) k with e' | ⟨t,k'⟩
   ·rw [ho] at h;injection h with h;subst h;exact outB_bad hk (plT_bad ho)
   ·rw [ho] at h
    exact read_bad l n _ k' _ e (outT_ok ho).2.1 h
 | n+1,true,k,T,e,hk,h=>by
  rw [readT_in] at h
  rcases ho:inT l k with e' | ⟨t,k'⟩
  ·rw [ho] at h;injection h with h;subst h;exact inB_bad hk (plT_bad ho)
  ·rw [ho] at h
   exact read_bad l n _ k' _ e (inT_ok ho).2.1 h
theorem of_bad {l:List Int} {m:Nat} {x:Int} (h:ofT l=.error (m,x)):m≤l.length∧(x=4→m=l.length)∧¬ x=0∧(200 < l.length↔x=10):=by
 unfold ofT at h
 split at h
 ·injection h with h;injection h with h1 h2;subst h1 h2;exact ⟨by omega,fun e=>by omega,by omega,by omega⟩
 ·have:=read_bad l (l.length+1) false 0 [] (m,x) (by omega) h
  have h1:=this.le
  have h2:=this.atEnd
  have h3:=this.kind
  simp only at h1 h2 h3
  exact ⟨h1,h2,by omega,by omega⟩
end
end Go.Proofs.YtoeocodfndbebaaGreatDoor
