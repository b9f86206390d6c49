/- Shared texts, shaken for one claim. -/
import Derived.Test.YtoeocodfndbebaaGreatDoorZC6
import Derived.Test.YtoeocodfndbebaaGreatDoorZC38
set_option maxRecDepth 20000
set_option maxHeartbeats 16000000
namespace Go.Proofs.YtoeocodfndbebaaGreatDoor
section
open Go.RowKit
def plM (z:Int):Option Int:=if z=36 then some 11 else if z=94 then some 10 else if z=124 then some 5 else if z=41 then some 4 else if z=40 then some 3 else if z=46 then some 2 else none
section
variable {l:List Int} {k k1:Nat} {t:Tok} {T:List Tok} {R:Wr (List Tok)}
theorem outB_at (hk:k < l.length) (r:Bool):outB l r k=if l[k]=63∨l[k]=42∨l[k]=43 then .ok (repT r l[k],k+1) else if l[k]=123 then braT l k (k+1) else if l[k]=91 then .ok (claT l (k+1)) else if l[k]=92 then escT l k (k+1) else .ok (aloT l[k],k+1):=by
 unfold outB;rw [nxT_at hk]
theorem RD_next (hk:k < l.length) (h:outB l (lastR T) k=.ok (t,k1)) (h7:(t.k == 7)=false):RD l false k T=RD l false k1 (T++[⟨t.k,t.c,t.lo,t.hi,(k:Int)⟩]):=by
 rw [RD_out hk]
 unfold outT
 rw [h]
 simp only [plT]
 rw [h7]
theorem st_plain (hk:k < l.length) {v:Int} (hv:plM l[k]=some v):RD l false k T=RD l false (k+1) (T++[⟨v,0,0,0,(k:Int)⟩])∧¬ v=6:=by
 have ho:=outB_at hk (lastR T)
 unfold plM at hv
 obtain ⟨y,hy⟩:∃ y:Int,l[k]=y:=⟨_,rfl⟩
 rw [hy] at hv ho
 have key:∀ u:Int,aloT y=⟨u,0,0,0,0⟩→¬ (y=63∨y=42∨y=43)→y≠123→y≠91→y≠92→(u == 7)=false→u=v→RD l false k T=RD l false (k+1) (T++[⟨v,0,0,0,(k:Int)⟩]):=by
  intro u h1 h2 h3 h4 h5 h7 hu
  rw [if_neg h2,if_neg h3,if_neg h4,if_neg h5,h1] at ho
  have:=RD_next hk ho h7
  rw [this,hu]
 split at hv
 ·injection hv with hv;rename_i hc;subst hc;exact ⟨key 11 rfl (by decide) (by decide) (by decide) (by decide) rfl hv,by omega⟩
 split at hv
 ·injection hv with hv;rename_i hc;subst hc;exact ⟨key 10 rfl (by decide) (by decide) (by decide) (by decide) rfl hv,by omega⟩
 split at hv
 ·injection hv with hv;rename_i hc;subst hc;exact ⟨key 5 rfl (by decide) (by decide) (by decide) (by decide) rfl hv,by omega⟩
 split at hv
 ·injection hv with hv;rename_i hc;subst hc;exact ⟨key 4 rfl (by decide) (by decide) (by decide) (by decide) rfl hv,by omega⟩
 split at hv
 ·injection hv with hv;rename_i hc;subst hc;exact ⟨key 3 rfl (by decide) (by decide) (by decide) (by decide) rfl hv,by omega⟩
 split at hv
 ·injection hv with hv;rename_i hc;subst hc;exact ⟨key 2 rfl (by decide) (by decide) (by decide) (by decide) rfl hv,by omega⟩
 cases hv
theorem st_rep (hk:k < l.length) {y lo hi:Int} (hy:l[k]=y) (h:(y=63∧lo=0∧hi=1)∨(y=42∧lo=0∧hi=-1)∨(y=43∧lo=1∧hi=-1)) (hl:lastR T=true→l[k]?≠some 63):RD l false k T=RD l false (k+1) (T++[⟨6,0,lo,hi,(k:Int)⟩]):=by
 have ho:=outB_at hk (lastR T)
 rw [hy,if_pos (by omega)] at ho
 have hr:repT (lastR T) y=⟨6,0,lo,hi,0⟩:=by
  unfold repT
  rcases h with ⟨rfl,rfl,rfl⟩ | ⟨rfl,rfl,rfl⟩ | ⟨rfl,rfl,rfl⟩
  ·have:lastR T=false:=by
    rcases hr:lastR T with _ | _
    ·rfl
    ·exact absurd (by rw [List.getElem?_eq_getElem hk,hy]) (hl hr)
   rw [this];rfl
  ·rfl
  ·rfl
 rw [hr] at ho
 exact RD_next hk ho rfl
theorem st_lazy (hk:k < l.length) (h63:l[k]=63) (u:Tok) (hu:u.k=6):RD l false k (T++[u])=RD l false (k+1) (T++[u]++[⟨13,0,0,0,(k:Int)⟩]):=by
 have ho:=outB_at hk (lastR (T++[u]))
 rw [h63,if_pos (.inl rfl)] at ho
 have:lastR (T++[u])=true:=by simp [lastR,hu]
 have hr:repT (lastR (T++[u])) 63=⟨13,0,0,0,0⟩:=by rw [this];rfl
 rw [hr] at ho
 exact RD_next hk ho rfl
theorem st_bra (hk:k < l.length) (h:l[k]=123):RD l false k T=match braT l k (k+1) with
 | .error e=>.error e
 | .ok (t,k1)=>RD l false k1 (T++[⟨6,0,t.lo,t.hi,(k:Int)⟩]):=by
 have ho:=outB_at hk (lastR T)
 rw [h,if_neg (by decide),if_pos rfl] at ho
 rcases hb:braT l k (k+1) with e | ⟨t,k1⟩
 ·rw [hb] at ho
  rw [RD_out hk]
  unfold outT
  rw [ho];rfl
 ·rw [hb] at ho
  have hf:t=⟨6,0,t.lo,t.hi,0⟩:=by
   have key:∀ {fr:Nat} {a b c:Int} {k2:Nat},shutT fr a b c k2=.ok (t,k1)→t=⟨6,0,t.lo,t.hi,0⟩:=by
    intro fr a b c k2 h
    unfold shutT at h
    split at h
    ·cases h
    ·injection h with h;injection h with h _;subst h;rfl
   unfold braT at hb
   split at hb
   ·cases hb
   ·split at hb
    ·split at hb
     ·cases hb
     ·exact key hb
    ·exact key hb
  have:=RD_next hk ho (by rw [hf];rfl)
  rw [this,show t.k=6 by rw [hf],show t.c=0 by rw [hf]]
theorem st_cls (hk:k < l.length) (h:l[k]=91):RD l false k T=RD l true (claT l (k+1)).2 (T++[⟨7,(claT l (k+1)).1.c,0,0,(k:Int)⟩]):=by
 have ho:=outB_at hk (lastR T)
 rw [h,if_neg (by decide),if_neg (by decide),if_pos rfl] at ho
 rw [RD_out hk]
 unfold outT
 rw [ho]
 by_cases h94:l[k+1]?=some 94
 ·have e:claT l (k+1)=(⟨7,1,0,0,0⟩,k+1+1):=by unfold claT;rw [if_pos h94]
  rw [e];rfl
 ·have e:claT l (k+1)=(⟨7,0,0,0,0⟩,k+1):=by unfold claT;rw [if_neg h94]
  rw [e];rfl
theorem st_else (hk:k < l.length) {y:Int} (hy:l[k]=y) (h1:plM y=none) (h2:y≠63) (h3:y≠42) (h4:y≠43) (h5:y≠123) (h6:y≠91):RD l false k T=match itemT l k with
 | .error e=>.error e
 | .ok (t,k1)=>RD l false k1 (T++[⟨t.k,t.c,0,0,(k:Int)⟩]):=by
 have ho:=outB_at hk (lastR T)
 rw [hy,if_neg (by omega),if_neg h5,if_neg h6] at ho
 have hi:itemT l k=if y=92 then escT l k (k+1) else .ok (chT y,k+1):=by
  unfold itemT;rw [nxT_at hk];simp only;rw [hy]
 have ha:aloT y=chT y:=by
  unfold plM at h1
  unfold aloT
  split at h1
  ·cases h1
  split at h1
  ·cases h1
  split at h1
  ·cases h1
  split at h1
  ·cases h1
  split at h1
  ·cases h1
  split at h1
  ·cases h1
  rw [if_neg (by omega),if_neg (by omega),if_neg (by omega),if_neg (by omega),if_neg (by omega),if_neg (by omega)]
 rw [ha,← hi] at ho
 rcases hb:itemT l k with e | ⟨t,k1⟩
 ·rw [hb] at ho
  rw [RD_out hk]
  unfold outT
  rw [ho];rfl
 ·rw [hb] at ho
  have hf:=itemT_form hb
  have hkd:=itemT_kind hb
  have:=RD_next hk ho (by rcases hkd with h | h <;> rw [h] <;> rfl)
  rw [this,show t.lo=0 by rw [hf],show t.hi=0 by rw [hf]]
end
theorem braT_no {l:List Int} {fr k:Nat} {e:Nat×Int} (h:braT l fr k=.error e):e.2≠0:=by
 have key:∀ {a b c:Int} {k2:Nat},shutT fr a b c k2=.error e→e.2≠0:=by
  intro a b c k2 h
  unfold shutT at h
  split at h
  ·injection h with h;rw [← h];simp
  ·cases h
 unfold braT at h
 split at h
 ·rename_i hn;injection h with h;rw [← h,(nxT_no hn).2];simp
 ·split at h
  ·split at h
   ·rename_i hn;injection h with h;rw [← h,(nxT_no hn).2];simp
   ·exact key h
  ·exact key h
theorem IsD.belowUp {w w':World} {b c k:Nat} {A:Option Addr} {l:List Int} {tv:Value} {T:List Tok} {p x:Int} (h:IsD w b A l c k tv T p x) (hb:Below w.heap.size w w'):IsD w' b A l c k tv T p x :=
 h.grown ⟨hb.os,hb.tape,hb.output,hb.size,fun i hi _=>hb.block i (by omega)⟩
theorem dst_plain (w:World) (b c k:Nat) (A:Option Addr) (l:List Int) (tv:Value) (T:List Tok) (R:Wr (List Tok)) (H:Hid (IsD w b A l c k tv T 0 0)) (hk:k < l.length) (HTK:Hid (T.length≤k)) (y:Int) (HY:Hid (l[k]'hk=y)) (hwf:(Lit.int .i64 y).wf=true) (v:Int) (hv:plM y=some v) (d0:decide (v > 0)=true) (HN:Hid (RD l false (k+1) (T++[⟨v,0,0,0,(k:Int)⟩])=R)) (hv6:¬ v=6) :
 Calls Tryz.prog 44 #[.pointer (some ⟨b,0,none⟩)] w (fun e w'=>e=.returned (.tuple #[])∧Below b w w'∧StD w' b c A l R k):=by
 have d00:decide (0 < v)=true:=d0
 have HV6:=qh hv6
 clear hv6
 have hmm:=@run_makeMap Tryz.prog
 have HM:=qh (mapAt_made w)
 have HB:=qh (below_alloc w (.map #[] 0))
 have HV:Hid ((plM y).getD 0=v):=qh (by rw [hv];rfl)
 have HK:=qh hk
 have hbw:=H.out.lt
 have k0:(0:Int)≤(k:Int):=by omega
 have k1':(k:Int) < (l.length:Int):=by omega
 have hw:=bw k (by have:=H.out.few;omega)
 obtain ⟨g,off,hA,-,-⟩:=H.out.char hk
 subst hA
 have c0:=H.out.c0
 have c1:=H.out.c1
 have cc:=H.out.charAt hk HY.out
 go_enter Tryz.func44,Tryz.ntmps44
 go_wp2_with (first
  | (refine insert_at rfl rfl Tryz.underlying94 rfl HM.out (by decide) rfl rfl (by decide) (by decide) ?_;intro w1 h1 g1;replace HM:=qh h1;replace HB:=qh (ins_step HB.out g1 (Nat.le_refl _));clear h1 g1;go_frame)
  | (at_lookup;have HM6:Hid (MapAt w1 w.heap.size 6 plM):=qh (HM.out.cong fun z=>by unfold plM;rfl);have H1:=qh (H.out.belowUp HB.out);have B1:Hid (Below b w w1):=qh (HB.out.mono (by omega));clear HM c0 c1 cc;have c0:=H1.out.c0;have c1:=H1.out.c1;refine look_def rfl rfl Tryz.underlying94 rfl HM6.out rfl hwf ?_;rw [HV.out];go_frame)
  | (refine storeD_at _ _ _ (k+1) rfl rfl rfl rfl rfl H1.out (by have:=HK.out;omega) ?_;intro w2 h2 g2;have H2:=qh h2;have B2:=qh (B1.out.trans (below_row g2 (Nat.le_refl _) (by have:=H1.out.lt;omega)));have G2:=qh g2;clear h2 g2)
  | (at_lookup;have HM7:=qh (HM6.out.kept G2.out (fun e=>by injection e with e;omega));refine look_def rfl rfl Tryz.underlying94 rfl HM7.out rfl hwf ?_;rw [HV.out];go_frame)
  | fail)
 clear hmm
 clear hv
 refine (dput_any w2 b c (k+1) _ l tv T 0 0 H2.out (by have:=HTK.out;have:=H2.out.few;omega) ⟨v,0,0,0,(k:Int)⟩).mono ?_
 rintro e w3 ⟨rfl,⟨tv3,h3⟩,b3⟩
 have H3:=qh h3
 have B3:=qh (B2.out.trans b3)
 clear h3 b3
 go_wp2_with fail
 refine bodyPost_end (results_none rfl _ _ _) rfl ⟨rfl,B3.out,.inl ⟨_,_,_,H3.out,HN.out,by have:=HTK.out;simp;omega,fun h=>?_,by omega⟩⟩
 simp [lastR] at h
 exact absurd h HV6.out
theorem dst_rep63 (w:World) (b c k:Nat) (A:Option Addr) (l:List Int) (tv:Value) (T:List Tok) (R:Wr (List Tok)) (H:Hid (IsD w b A l c k tv T 0 0)) (hk:k < l.length) (HTK:Hid (T.length≤k)) (y:Int) (HY:Hid (l[k]'hk=y)) (hwf:(Lit.int .i64 y).wf=true) (hy:y=63) (HN:Hid (RD l false (k+1) (T++[⟨6,0,0,1,(k:Int)⟩])=R)) :
 Calls Tryz.prog 44 #[.pointer (some ⟨b,0,none⟩)] w (fun e w'=>e=.returned (.tuple #[])∧Below b w w'∧StD w' b c A l R k):=by
 have e63:(y == 63)=true:=by rw [hy];rfl
 have hmm:=@run_makeMap Tryz.prog
 have HM:=qh (mapAt_made w)
 have HB:=qh (below_alloc w (.map #[] 0))
 have HV:Hid ((plM y).getD 0=0):=qh (by rw [hy];rfl)
 clear hy
 have HK:=qh hk
 have hbw:=H.out.lt
 have k0:(0:Int)≤(k:Int):=by omega
 have k1':(k:Int) < (l.length:Int):=by omega
 have hw:=bw k (by have:=H.out.few;omega)
 obtain ⟨g,off,hA,-,-⟩:=H.out.char hk
 subst hA
 have c0:=H.out.c0
 have c1:=H.out.c1
 have cc:=H.out.charAt hk HY.out
 go_enter Tryz.func44,Tryz.ntmps44
 go_wp2_with (first
  | (refine insert_at rfl rfl Tryz.underlying94 rfl HM.out (by decide) rfl rfl (by decide) (by decide) ?_;intro w1 h1 g1;replace HM:=qh h1;replace HB:=qh (ins_step HB.out g1 (Nat.le_refl _));clear h1 g1;go_frame)
  | (at_lookup;have HM6:Hid (MapAt w1 w.heap.size 6 plM):=qh (HM.out.cong fun z=>by unfold plM;rfl);have H1:=qh (H.out.belowUp HB.out);have B1:Hid (Below b w w1):=qh (HB.out.mono (by omega));clear HM c0 c1 cc;have c0:=H1.out.c0;have c1:=H1.out.c1;refine look_def rfl rfl Tryz.underlying94 rfl HM6.out rfl hwf ?_;rw [HV.out];go_frame)
  | (refine storeD_at _ _ _ (k+1) rfl rfl rfl rfl rfl H1.out (by have:=HK.out;omega) ?_;intro w2 h2 g2;have H2:=qh h2;have B2:=qh (B1.out.trans (below_row g2 (Nat.le_refl _) (by have:=H1.out.lt;omega)));have G2:=qh g2;clear h2 g2)
  | fail)
 clear hmm
 refine (drep_any w2 b c (k+1) _ l tv T H2.out (by have:=HTK.out;have:=H2.out.few;omega) (k:Int) (0) (1)).mono ?_
 rintro e w3 ⟨rfl,b3,tv3,h3⟩
 have B3:=qh (B2.out.trans b3)
 have HH:=qh h3
 clear h3 b3
 go_wp2_with fail
 refine bodyPost_end (results_none rfl _ _ _) rfl ⟨rfl,B3.out,.inl ?_⟩
 have hh:=HH.out
 have hT:=HTK.out
 have hkk:=HK.out
 by_cases h63:l[k+1]?=some 63
 ·rw [if_pos h63] at hh
  obtain ⟨hk1,h63'⟩:=List.getElem?_eq_some_iff.1 h63
  exact ⟨_,_,_,hh,by rw [← st_lazy hk1 h63' ⟨6,0,0,1,(k:Int)⟩ rfl];exact HN.out,by simp;omega,fun h=>by simp [lastR] at h,by omega⟩
 ·rw [if_neg h63] at hh
  exact ⟨_,_,_,hh,HN.out,by simp;omega,fun _=>h63,by omega⟩
theorem dst_rep42 (w:World) (b c k:Nat) (A:Option Addr) (l:List Int) (tv:Value) (T:List Tok) (R:Wr (List Tok)) (H:Hid (IsD w b A l c k tv T 0 0)) (hk:k < l.length) (HTK:Hid (T.length≤k)) (y:Int) (HY:Hid (l[k]'hk=y)) (hwf:(Lit.int .i64 y).wf=true) (hy:y=42) (HN:Hid (RD l false (k+1) (T++[⟨6,0,0,-1,(k:Int)⟩])=R)) :
 Calls Tryz.prog 44 #[.pointer (some ⟨b,0,none⟩)] w (fun e w'=>e=.returned (.tuple #[])∧Below b w w'∧StD w' b c A l R k):=by
 have e63:(y == 63)=false:=by rw [hy];rfl
 have e42:(y == 42)=true:=by rw [hy];rfl
 have hmm:=@run_makeMap Tryz.prog
 have HM:=qh (mapAt_made w)
 have HB:=qh (below_alloc w (.map #[] 0))
 have HV:Hid ((plM y).getD 0=0):=qh (by rw [hy];rfl)
 clear hy
 have HK:=qh hk
 have hbw:=H.out.lt
 have k0:(0:Int)≤(k:Int):=by omega
 have k1':(k:Int) < (l.length:Int):=by omega
 have hw:=bw k (by have:=H.out.few;omega)
 obtain ⟨g,off,hA,-,-⟩:=H.out.char hk
 subst hA
 have c0:=H.out.c0
 have c1:=H.out.c1
 have cc:=H.out.charAt hk HY.out
 go_enter Tryz.func44,Tryz.ntmps44
 go_wp2_with (first
  | (refine insert_at rfl rfl Tryz.underlying94 rfl HM.out (by decide) rfl rfl (by decide) (by decide) ?_;intro w1 h1 g1;replace HM:=qh h1;replace HB:=qh (ins_step HB.out g1 (Nat.le_refl _));clear h1 g1;go_frame)
  | (at_lookup;have HM6:Hid (MapAt w1 w.heap.size 6 plM):=qh (HM.out.cong fun z=>by unfold plM;rfl);have H1:=qh (H.out.belowUp HB.out);have B1:Hid (Below b w w1):=qh (HB.out.mono (by omega));clear HM c0 c1 cc;have c0:=H1.out.c0;have c1:=H1.out.c1;refine look_def rfl rfl Tryz.underlying94 rfl HM6.out rfl hwf ?_;rw [HV.out];go_frame)
  | (refine storeD_at _ _ _ (k+1) rfl rfl rfl rfl rfl H1.out (by have:=HK.out;omega) ?_;intro w2 h2 g2;have H2:=qh h2;have B2:=qh (B1.out.trans (below_row g2 (Nat.le_refl _) (by have:=H1.out.lt;omega)));have G2:=qh g2;clear h2 g2)
  | fail)
 clear hmm
 refine (drep_any w2 b c (k+1) _ l tv T H2.out (by have:=HTK.out;have:=H2.out.few;omega) (k:Int) (0) (-1)).mono ?_
 rintro e w3 ⟨rfl,b3,tv3,h3⟩
 have B3:=qh (B2.out.trans b3)
 have HH:=qh h3
 clear h3 b3
 go_wp2_with fail
 refine bodyPost_end (results_none rfl _ _ _) rfl ⟨rfl,B3.out,.inl ?_⟩
 have hh:=HH.out
 have hT:=HTK.out
 have hkk:=HK.out
 by_cases h63:l[k+1]?=some 63
 ·rw [if_pos h63] at hh
  obtain ⟨hk1,h63'⟩:=List.getElem?_eq_some_iff.1 h63
  exact ⟨_,_,_,hh,by rw [← st_lazy hk1 h63' ⟨6,0,0,-1,(k:Int)⟩ rfl];exact HN.out,by simp;omega,fun h=>by simp [lastR] at h,by omega⟩
 ·rw [if_neg h63] at hh
  exact ⟨_,_,_,hh,HN.out,by simp;omega,fun _=>h63,by omega⟩
theorem dst_rep43 (w:World) (b c k:Nat) (A:Option Addr) (l:List Int) (tv:Value) (T:List Tok) (R:Wr (List Tok)) (H:Hid (IsD w b A l c k tv T 0 0)) (hk:k < l.length) (HTK:Hid (T.length≤k)) (y:Int) (HY:Hid (l[k]'hk=y)) (hwf:(Lit.int .i64 y).wf=true) (hy:y=43) (HN:Hid (RD l false (k+1) (T++[⟨6,0,1,-1,(k:Int)⟩])=R)) :
 Calls Tryz.prog 44 #[.pointer (some ⟨b,0,none⟩)] w (fun e w'=>e=.returned (.tuple #[])∧Below b w w'∧StD w' b c A l R k):=by
 have e63:(y == 63)=false:=by rw [hy];rfl
 have e42:(y == 42)=false:=by rw [hy];rfl
 have e43:(y == 43)=true:=by rw [hy];rfl
 have hmm:=@run_makeMap Tryz.prog
 have HM:=qh (mapAt_made w)
 have HB:=qh (below_alloc w (.map #[] 0))
 have HV:Hid ((plM y).getD 0=0):=qh (by rw [hy];rfl)
 clear hy
 have HK:=qh hk
 have hbw:=H.out.lt
 have k0:(0:Int)≤(k:Int):=by omega
 have k1':(k:Int) < (l.length:Int):=by omega
 have hw:=bw k (by have:=H.out.few;omega)
 obtain ⟨g,off,hA,-,-⟩:=H.out.char hk
 subst hA
 have c0:=H.out.c0
 have c1:=H.out.c1
 have cc:=H.out.charAt hk HY.out
 go_enter Tryz.func44,Tryz.ntmps44
 go_wp2_with (first
  | (refine insert_at rfl rfl Tryz.underlying94 rfl HM.out (by decide) rfl rfl (by decide) (by decide) ?_;intro w1 h1 g1;replace HM:=qh h1;replace HB:=qh (ins_step HB.out g1 (Nat.le_refl _));clear h1 g1;go_frame)
  | (at_lookup;have HM6:Hid (MapAt w1 w.heap.size 6 plM):=qh (HM.out.cong fun z=>by unfold plM;rfl);have H1:=qh (H.out.belowUp HB.out);have B1:Hid (Below b w w1):=qh (HB.out.mono (by omega));clear HM c0 c1 cc;have c0:=H1.out.c0;have c1:=H1.out.c1;refine look_def rfl rfl Tryz.underlying94 rfl HM6.out rfl hwf ?_;rw [HV.out];go_frame)
  | (refine storeD_at _ _ _ (k+1) rfl rfl rfl rfl rfl H1.out (by have:=HK.out;omega) ?_;intro w2 h2 g2;have H2:=qh h2;have B2:=qh (B1.out.trans (below_row g2 (Nat.le_refl _) (by have:=H1.out.lt;omega)));have G2:=qh g2;clear h2 g2)
  | fail)
 clear hmm
 refine (drep_any w2 b c (k+1) _ l tv T H2.out (by have:=HTK.out;have:=H2.out.few;omega) (k:Int) (1) (-1)).mono ?_
 rintro e w3 ⟨rfl,b3,tv3,h3⟩
 have B3:=qh (B2.out.trans b3)
 have HH:=qh h3
 clear h3 b3
 go_wp2_with fail
 refine bodyPost_end (results_none rfl _ _ _) rfl ⟨rfl,B3.out,.inl ?_⟩
 have hh:=HH.out
 have hT:=HTK.out
 have hkk:=HK.out
 by_cases h63:l[k+1]?=some 63
 ·rw [if_pos h63] at hh
  obtain ⟨hk1,h63'⟩:=List.getElem?_eq_some_iff.1 h63
  exact ⟨_,_,_,hh,by rw [← st_lazy hk1 h63' ⟨6,0,1,-1,(k:Int)⟩ rfl];exact HN.out,by simp;omega,fun h=>by simp [lastR] at h,by omega⟩
 ·rw [if_neg h63] at hh
  exact ⟨_,_,_,hh,HN.out,by simp;omega,fun _=>h63,by omega⟩
theorem dst_bra_no (w:World) (b c k:Nat) (A:Option Addr) (l:List Int) (tv:Value) (T:List Tok) (R:Wr (List Tok)) (H:Hid (IsD w b A l c k tv T 0 0)) (hk:k < l.length) (HTK:Hid (T.length≤k)) (y:Int) (HY:Hid (l[k]'hk=y)) (hwf:(Lit.int .i64 y).wf=true) (hy:y=123) (q:Nat) (x:Int) (hb:braT l k (k+1)=.error (q,x)) (HN:Hid (R=.error (q,x))) :
 Calls Tryz.prog 44 #[.pointer (some ⟨b,0,none⟩)] w (fun e w'=>e=.returned (.tuple #[])∧Below b w w'∧StD w' b c A l R k):=by
 have e63:(y == 63)=false:=by rw [hy];rfl
 have e42:(y == 42)=false:=by rw [hy];rfl
 have e43:(y == 43)=false:=by rw [hy];rfl
 have e123:(y == 123)=true:=by rw [hy];rfl
 have HBR:=qh fun u hu=>dbraces_any u b c (k+1) k A l tv T hu
 rw [hb] at HBR
 have HX:Hid (x≠0):=qh (braT_no hb)
 clear hb
 have hmm:=@run_makeMap Tryz.prog
 have HM:=qh (mapAt_made w)
 have HB:=qh (below_alloc w (.map #[] 0))
 have HV:Hid ((plM y).getD 0=0):=qh (by rw [hy];rfl)
 clear hy
 have HK:=qh hk
 have hbw:=H.out.lt
 have k0:(0:Int)≤(k:Int):=by omega
 have k1':(k:Int) < (l.length:Int):=by omega
 have hw:=bw k (by have:=H.out.few;omega)
 obtain ⟨g,off,hA,-,-⟩:=H.out.char hk
 subst hA
 have c0:=H.out.c0
 have c1:=H.out.c1
 have cc:=H.out.charAt hk HY.out
 go_enter Tryz.func44,Tryz.ntmps44
 go_wp2_with (first
  | (refine insert_at rfl rfl Tryz.underlying94 rfl HM.out (by decide) rfl rfl (by decide) (by decide) ?_;intro w1 h1 g1;replace HM:=qh h1;replace HB:=qh (ins_step HB.out g1 (Nat.le_refl _));clear h1 g1;go_frame)
  | (at_lookup;have HM6:Hid (MapAt w1 w.heap.size 6 plM):=qh (HM.out.cong fun z=>by unfold plM;rfl);have H1:=qh (H.out.belowUp HB.out);have B1:Hid (Below b w w1):=qh (HB.out.mono (by omega));clear HM c0 c1 cc;have c0:=H1.out.c0;have c1:=H1.out.c1;refine look_def rfl rfl Tryz.underlying94 rfl HM6.out rfl hwf ?_;rw [HV.out];go_frame)
  | (refine storeD_at _ _ _ (k+1) rfl rfl rfl rfl rfl H1.out (by have:=HK.out;omega) ?_;intro w2 h2 g2;have H2:=qh h2;have B2:=qh (B1.out.trans (below_row g2 (Nat.le_refl _) (by have:=H1.out.lt;omega)));have G2:=qh g2;clear h2 g2)
  | fail)
 clear hmm
 refine (HBR.out w2 H2.out).mono ?_
 rintro e w3 ⟨g3,⟨zu,zv,rfl⟩,k',h3⟩
 have H3:=qh h3
 have B3:=qh (B2.out.trans (below_row g3 (Nat.le_refl _) (by have:=H2.out.lt;omega)))
 clear h3 g3
 go_wp2_with fail
 refine (drep_bad w3 b c k' _ l tv T q x H3.out HX.out (by have:=HTK.out;have:=H3.out.few;omega) (k:Int) zu zv).mono ?_
 rintro e w4 ⟨rfl,b4,tv4,h4⟩
 have H4:=qh h4
 have B4:=qh (B3.out.trans b4)
 clear h4 b4
 go_wp2_with fail
 exact bodyPost_end (results_none rfl _ _ _) rfl ⟨rfl,B4.out,.inr ⟨_,_,_,_,_,H4.out,HX.out,HN.out,by have:=HTK.out;have:=H4.out.few;simp;omega⟩⟩
theorem dst_bra_ok (w:World) (b c k:Nat) (A:Option Addr) (l:List Int) (tv:Value) (T:List Tok) (R:Wr (List Tok)) (H:Hid (IsD w b A l c k tv T 0 0)) (hk:k < l.length) (HTK:Hid (T.length≤k)) (y:Int) (HY:Hid (l[k]'hk=y)) (hwf:(Lit.int .i64 y).wf=true) (hy:y=123) (t:Tok) (k1:Nat) (hb:braT l k (k+1)=.ok (t,k1)) (HN:Hid (RD l false k1 (T++[⟨6,0,t.lo,t.hi,(k:Int)⟩])=R)) :
 Calls Tryz.prog 44 #[.pointer (some ⟨b,0,none⟩)] w (fun e w'=>e=.returned (.tuple #[])∧Below b w w'∧StD w' b c A l R k):=by
 have e63:(y == 63)=false:=by rw [hy];rfl
 have e42:(y == 42)=false:=by rw [hy];rfl
 have e43:(y == 43)=false:=by rw [hy];rfl
 have e123:(y == 123)=true:=by rw [hy];rfl
 have HBR:=qh fun u hu=>dbraces_any u b c (k+1) k A l tv T hu
 rw [hb] at HBR
 have HKK:=qh (braT_ok hb)
 obtain ⟨lo,hi,hlo,hhi⟩:∃ lo hi,t.lo=lo∧t.hi=hi:=⟨_,_,rfl,rfl⟩
 rw [hlo,hhi] at HN
 have HLO:=qh hlo
 have HHI:=qh hhi
 clear hb hlo hhi
 have hmm:=@run_makeMap Tryz.prog
 have HM:=qh (mapAt_made w)
 have HB:=qh (below_alloc w (.map #[] 0))
 have HV:Hid ((plM y).getD 0=0):=qh (by rw [hy];rfl)
 clear hy
 have HK:=qh hk
 have hbw:=H.out.lt
 have k0:(0:Int)≤(k:Int):=by omega
 have k1':(k:Int) < (l.length:Int):=by omega
 have hw:=bw k (by have:=H.out.few;omega)
 obtain ⟨g,off,hA,-,-⟩:=H.out.char hk
 subst hA
 have c0:=H.out.c0
 have c1:=H.out.c1
 have cc:=H.out.charAt hk HY.out
 go_enter Tryz.func44,Tryz.ntmps44
 go_wp2_with (first
  | (refine insert_at rfl rfl Tryz.underlying94 rfl HM.out (by decide) rfl rfl (by decide) (by decide) ?_;intro w1 h1 g1;replace HM:=qh h1;replace HB:=qh (ins_step HB.out g1 (Nat.le_refl _));clear h1 g1;go_frame)
  | (at_lookup;have HM6:Hid (MapAt w1 w.heap.size 6 plM):=qh (HM.out.cong fun z=>by unfold plM;rfl);have H1:=qh (H.out.belowUp HB.out);have B1:Hid (Below b w w1):=qh (HB.out.mono (by omega));clear HM c0 c1 cc;have c0:=H1.out.c0;have c1:=H1.out.c1;refine look_def rfl rfl Tryz.underlying94 rfl HM6.out rfl hwf ?_;rw [HV.out];go_frame)
  | (refine storeD_at _ _ _ (k+1) rfl rfl rfl rfl rfl H1.out (by have:=HK.out;omega) ?_;intro w2 h2 g2;have H2:=qh h2;have B2:=qh (B1.out.trans (below_row g2 (Nat.le_refl _) (by have:=H1.out.lt;omega)));have G2:=qh g2;clear h2 g2)
  | fail)
 clear hmm
 refine (HBR.out w2 H2.out).mono ?_
 rintro e w3 ⟨g3,rfl,h3⟩
 rw [HLO.out,HHI.out]
 have H3:=qh h3
 have B3:=qh (B2.out.trans (below_row g3 (Nat.le_refl _) (by have:=H2.out.lt;omega)))
 clear h3 g3
 go_wp2_with fail
 refine (drep_any w3 b c k1 _ l tv T H3.out (by have:=HTK.out;have:=H3.out.few;omega) (k:Int) lo hi).mono ?_
 rintro e w4 ⟨rfl,b4,tv4,h4⟩
 have B4:=qh (B3.out.trans b4)
 have HH:=qh h4
 clear h4 b4
 go_wp2_with fail
 refine bodyPost_end (results_none rfl _ _ _) rfl ⟨rfl,B4.out,.inl ?_⟩
 have hh:=HH.out
 have hT:=HTK.out
 have hkk:=HKK.out
 by_cases h63:l[k1]?=some 63
 ·rw [if_pos h63] at hh
  obtain ⟨hk1,h63'⟩:=List.getElem?_eq_some_iff.1 h63
  exact ⟨_,_,_,hh,by rw [← st_lazy hk1 h63' ⟨6,0,lo,hi,(k:Int)⟩ rfl];exact HN.out,by simp;omega,fun h=>by simp [lastR] at h,by omega⟩
 ·rw [if_neg h63] at hh
  exact ⟨_,_,_,hh,HN.out,by simp;omega,fun _=>h63,by omega⟩
theorem dst_cls_none (w:World) (b c k:Nat) (A:Option Addr) (l:List Int) (tv:Value) (T:List Tok) (R:Wr (List Tok)) (H:Hid (IsD w b A l c k tv T 0 0)) (hk:k < l.length) (HTK:Hid (T.length≤k)) (y:Int) (HY:Hid (l[k]'hk=y)) (hwf:(Lit.int .i64 y).wf=true) (hy:y=91) (n:Nat) (HNK:Hid (k+1=n)) (hkl:n=l.length) (HN:Hid (RD l true n (T++[⟨7,0,0,0,(k:Int)⟩])=R)) :
 Calls Tryz.prog 44 #[.pointer (some ⟨b,0,none⟩)] w (fun e w'=>e=.returned (.tuple #[])∧Below b w w'∧StD w' b c A l R k):=by
 have e63:(y == 63)=false:=by rw [hy];rfl
 have e42:(y == 42)=false:=by rw [hy];rfl
 have e43:(y == 43)=false:=by rw [hy];rfl
 have e123:(y == 123)=false:=by rw [hy];rfl
 have e91:(y == 91)=true:=by rw [hy];rfl
 have HKL:=qh hkl
 have t1:decide ((n:Int) < (l.length:Int))=false:=decide_eq_false (by omega)
 have t2:decide (n < l.length)=false:=decide_eq_false (by omega)
 clear hkl
 have hmm:=@run_makeMap Tryz.prog
 have HM:=qh (mapAt_made w)
 have HB:=qh (below_alloc w (.map #[] 0))
 have HV:Hid ((plM y).getD 0=0):=qh (by rw [hy];rfl)
 clear hy
 have HK:=qh hk
 have hbw:=H.out.lt
 have k0:(0:Int)≤(k:Int):=by omega
 have k1':(k:Int) < (l.length:Int):=by omega
 have hw:IntKind.i64.wrap ((k:Int)+1)=(n:Int):=by rw [bw k (by have:=H.out.few;omega),HNK.out]
 have hwn:=bw n (by have:=H.out.few;have:=HNK.out;omega)
 obtain ⟨g,off,hA,-,-⟩:=H.out.char hk
 subst hA
 have c0:=H.out.c0
 have c1:=H.out.c1
 have cc:=H.out.charAt hk HY.out
 go_enter Tryz.func44,Tryz.ntmps44
 go_wp2_with (first
  | (refine insert_at rfl rfl Tryz.underlying94 rfl HM.out (by decide) rfl rfl (by decide) (by decide) ?_;intro w1 h1 g1;replace HM:=qh h1;replace HB:=qh (ins_step HB.out g1 (Nat.le_refl _));clear h1 g1;go_frame)
  | (at_lookup;have HM6:Hid (MapAt w1 w.heap.size 6 plM):=qh (HM.out.cong fun z=>by unfold plM;rfl);have H1:=qh (H.out.belowUp HB.out);have B1:Hid (Below b w w1):=qh (HB.out.mono (by omega));clear HM c0 c1 cc;have c0:=H1.out.c0;have c1:=H1.out.c1;refine look_def rfl rfl Tryz.underlying94 rfl HM6.out rfl hwf ?_;rw [HV.out];go_frame)
  | (refine storeD_at _ _ _ n rfl rfl rfl rfl rfl H1.out (by have:=HK.out;have:=HNK.out;omega) ?_;intro w2 h2 g2;have H2:=qh h2;have B2:=qh (B1.out.trans (below_row g2 (Nat.le_refl _) (by have:=H1.out.lt;omega)));have G2:=qh g2;clear h2 g2)
  | (refine store_tok (w2.alloc _) _ _ w2.heap.size noTok ⟨7,0,0,0,(k:Int)⟩ rfl rfl rfl rfl rfl (Box.new w2 _ _) ?_;intro w3 x3 g3;have X3:=qh x3;have H3:=qh ((H2.out.grown (grown_new w2 _ none)).new g3 H2.out.lt (H2.out.old (Nat.le_refl _)));have B3:Hid (Below b w w3):=qh (B2.out.trans ((below_row (grown_new w2 _ (some b)) (Nat.le_refl _) (by have:=H2.out.lt;omega)).trans (below_row g3 (by have:=H2.out.lt;omega) (by have:=H2.out.lt;simp;omega))));clear x3 g3)
  | fail)
 clear hmm
 clear c0 c1
 have c0:=H3.out.c0
 have c1:=H3.out.c1
 go_wp2_with fail
 go_quiet (fail)
 obtain ⟨w4,hw4⟩:∃ u,w3.drewN nq=u:=⟨_,rfl⟩
 have H4:Hid (IsD w4 b (some ⟨g,off,none⟩) l c n tv T 0 0):=qh (hw4▸H3.out.grown (grown_draws (grown_refl w3 none) _))
 have X4:Hid (Box w4 w2.heap.size (⟨7,0,0,0,(k:Int)⟩:Tok).arr 56):=qh (hw4▸X3.out.kept (grown_draws (grown_refl w3 none) nq) (by simp))
 have B4:Hid (Below b w w4):=qh (hw4▸B3.out.trans (below_row (grown_draws (grown_refl w3 (some b)) nq) (Nat.le_refl _) (by have:=H3.out.lt;omega)))
 rw [hw4]
 clear hw4 c0 c1
 go_wp2_with (first
  | (refine load_box _ w2.heap.size _ _ rfl rfl rfl X4.out Tryz.underlying56 rfl (tokInfo _) ?_)
  | fail)
 refine (dput_any w4 b c n _ l tv T 0 0 H4.out (by have:=HTK.out;have:=H4.out.few;omega) ⟨7,0,0,0,(k:Int)⟩).mono ?_
 rintro e w8 ⟨rfl,⟨tv8,h8⟩,b8⟩
 have H8:=qh h8
 have B8:=qh (B4.out.trans b8)
 clear h8 b8
 go_wp2_with fail
 refine (dclass_any w8 b c _ l R k (qh (.inl ⟨_,_,_,H8.out,HN.out,by have:=HTK.out;have:=HNK.out;simp;omega,by have:=HNK.out;omega⟩))).mono ?_
 rintro e w9 ⟨rfl,b9,s9⟩
 have S9:=qh s9
 have B9:=qh (B8.out.trans b9)
 clear s9 b9
 go_wp2_with fail
 exact bodyPost_end (results_none rfl _ _ _) rfl ⟨rfl,B9.out,S9.out⟩
theorem dst_cls_not (w:World) (b c k:Nat) (A:Option Addr) (l:List Int) (tv:Value) (T:List Tok) (R:Wr (List Tok)) (H:Hid (IsD w b A l c k tv T 0 0)) (hk:k < l.length) (HTK:Hid (T.length≤k)) (y:Int) (HY:Hid (l[k]'hk=y)) (hwf:(Lit.int .i64 y).wf=true) (hy:y=91) (n:Nat) (HNK:Hid (k+1=n)) (hn:n < l.length) (z:Int) (hz:l[n]'hn=z) (e94:(z == 94)=false) (HN:Hid (RD l true n (T++[⟨7,0,0,0,(k:Int)⟩])=R)) :
 Calls Tryz.prog 44 #[.pointer (some ⟨b,0,none⟩)] w (fun e w'=>e=.returned (.tuple #[])∧Below b w w'∧StD w' b c A l R k):=by
 have e63:(y == 63)=false:=by rw [hy];rfl
 have e42:(y == 42)=false:=by rw [hy];rfl
 have e43:(y == 43)=false:=by rw [hy];rfl
 have e123:(y == 123)=false:=by rw [hy];rfl
 have e91:(y == 91)=true:=by rw [hy];rfl
 have HNL:=qh hn
 have HZ:Hid (l[n]'hn=z):=qh hz
 have n0:(0:Int)≤(n:Int):=by omega
 have n1:(n:Int) < (l.length:Int):=by omega
 have t1:decide ((n:Int) < (l.length:Int))=true:=decide_eq_true n1
 clear hz
 have hmm:=@run_makeMap Tryz.prog
 have HM:=qh (mapAt_made w)
 have HB:=qh (below_alloc w (.map #[] 0))
 have HV:Hid ((plM y).getD 0=0):=qh (by rw [hy];rfl)
 clear hy
 have HK:=qh hk
 have hbw:=H.out.lt
 have k0:(0:Int)≤(k:Int):=by omega
 have k1':(k:Int) < (l.length:Int):=by omega
 have hw:IntKind.i64.wrap ((k:Int)+1)=(n:Int):=by rw [bw k (by have:=H.out.few;omega),HNK.out]
 have hwn:=bw n (by have:=H.out.few;have:=HNK.out;omega)
 obtain ⟨g,off,hA,-,-⟩:=H.out.char hk
 subst hA
 have c0:=H.out.c0
 have c1:=H.out.c1
 have cc:=H.out.charAt hk HY.out
 go_enter Tryz.func44,Tryz.ntmps44
 go_wp2_with (first
  | (refine insert_at rfl rfl Tryz.underlying94 rfl HM.out (by decide) rfl rfl (by decide) (by decide) ?_;intro w1 h1 g1;replace HM:=qh h1;replace HB:=qh (ins_step HB.out g1 (Nat.le_refl _));clear h1 g1;go_frame)
  | (at_lookup;have HM6:Hid (MapAt w1 w.heap.size 6 plM):=qh (HM.out.cong fun z=>by unfold plM;rfl);have H1:=qh (H.out.belowUp HB.out);have B1:Hid (Below b w w1):=qh (HB.out.mono (by omega));clear HM c0 c1 cc;have c0:=H1.out.c0;have c1:=H1.out.c1;refine look_def rfl rfl Tryz.underlying94 rfl HM6.out rfl hwf ?_;rw [HV.out];go_frame)
  | (refine storeD_at _ _ _ n rfl rfl rfl rfl rfl H1.out (by have:=HK.out;have:=HNK.out;omega) ?_;intro w2 h2 g2;have H2:=qh h2;have B2:=qh (B1.out.trans (below_row g2 (Nat.le_refl _) (by have:=H1.out.lt;omega)));have G2:=qh g2;clear h2 g2)
  | (refine store_tok (w2.alloc _) _ _ w2.heap.size noTok ⟨7,0,0,0,(k:Int)⟩ rfl rfl rfl rfl rfl (Box.new w2 _ _) ?_;intro w3 x3 g3;have X3:=qh x3;have H3:=qh ((H2.out.grown (grown_new w2 _ none)).new g3 H2.out.lt (H2.out.old (Nat.le_refl _)));have B3:Hid (Below b w w3):=qh (B2.out.trans ((below_row (grown_new w2 _ (some b)) (Nat.le_refl _) (by have:=H2.out.lt;omega)).trans (below_row g3 (by have:=H2.out.lt;omega) (by have:=H2.out.lt;simp;omega))));clear x3 g3)
  | fail)
 clear hmm
 clear c0 c1
 have c0:=H3.out.c0
 have c1:=H3.out.c1
 have cc:=H3.out.charAt HNL.out HZ.out
 go_wp2_with fail
 go_quiet (fail)
 obtain ⟨w4,hw4⟩:∃ u,w3.drewN nq=u:=⟨_,rfl⟩
 have H4:Hid (IsD w4 b (some ⟨g,off,none⟩) l c n tv T 0 0):=qh (hw4▸H3.out.grown (grown_draws (grown_refl w3 none) _))
 have X4:Hid (Box w4 w2.heap.size (⟨7,0,0,0,(k:Int)⟩:Tok).arr 56):=qh (hw4▸X3.out.kept (grown_draws (grown_refl w3 none) nq) (by simp))
 have B4:Hid (Below b w w4):=qh (hw4▸B3.out.trans (below_row (grown_draws (grown_refl w3 (some b)) nq) (Nat.le_refl _) (by have:=H3.out.lt;omega)))
 rw [hw4]
 clear hw4 c0 c1 cc
 go_wp2_with (first
  | (refine load_box _ w2.heap.size _ _ rfl rfl rfl X4.out Tryz.underlying56 rfl (tokInfo _) ?_)
  | fail)
 refine (dput_any w4 b c n _ l tv T 0 0 H4.out (by have:=HTK.out;have:=H4.out.few;omega) ⟨7,0,0,0,(k:Int)⟩).mono ?_
 rintro e w8 ⟨rfl,⟨tv8,h8⟩,b8⟩
 have H8:=qh h8
 have B8:=qh (B4.out.trans b8)
 clear h8 b8
 go_wp2_with fail
 refine (dclass_any w8 b c _ l R k (qh (.inl ⟨_,_,_,H8.out,HN.out,by have:=HTK.out;have:=HNK.out;simp;omega,by have:=HNK.out;omega⟩))).mono ?_
 rintro e w9 ⟨rfl,b9,s9⟩
 have S9:=qh s9
 have B9:=qh (B8.out.trans b9)
 clear s9 b9
 go_wp2_with fail
 exact bodyPost_end (results_none rfl _ _ _) rfl ⟨rfl,B9.out,S9.out⟩
theorem dst_cls_is (w:World) (b c k:Nat) (A:Option Addr) (l:List Int) (tv:Value) (T:List Tok) (R:Wr (List Tok)) (H:Hid (IsD w b A l c k tv T 0 0)) (hk:k < l.length) (HTK:Hid (T.length≤k)) (y:Int) (HY:Hid (l[k]'hk=y)) (hwf:(Lit.int .i64 y).wf=true) (hy:y=91) (n:Nat) (HNK:Hid (k+1=n)) (hn:n < l.length) (z:Int) (hz:l[n]'hn=z) (e94:(z == 94)=true) (HN:Hid (RD l true (n+1) (T++[⟨7,1,0,0,(k:Int)⟩])=R)) :
 Calls Tryz.prog 44 #[.pointer (some ⟨b,0,none⟩)] w (fun e w'=>e=.returned (.tuple #[])∧Below b w w'∧StD w' b c A l R k):=by
 have e63:(y == 63)=false:=by rw [hy];rfl
 have e42:(y == 42)=false:=by rw [hy];rfl
 have e43:(y == 43)=false:=by rw [hy];rfl
 have e123:(y == 123)=false:=by rw [hy];rfl
 have e91:(y == 91)=true:=by rw [hy];rfl
 have HNL:=qh hn
 have HZ:Hid (l[n]'hn=z):=qh hz
 have n0:(0:Int)≤(n:Int):=by omega
 have n1:(n:Int) < (l.length:Int):=by omega
 have t1:decide ((n:Int) < (l.length:Int))=true:=decide_eq_true n1
 clear hz
 have hmm:=@run_makeMap Tryz.prog
 have HM:=qh (mapAt_made w)
 have HB:=qh (below_alloc w (.map #[] 0))
 have HV:Hid ((plM y).getD 0=0):=qh (by rw [hy];rfl)
 clear hy
 have HK:=qh hk
 have hbw:=H.out.lt
 have k0:(0:Int)≤(k:Int):=by omega
 have k1':(k:Int) < (l.length:Int):=by omega
 have hw:IntKind.i64.wrap ((k:Int)+1)=(n:Int):=by rw [bw k (by have:=H.out.few;omega),HNK.out]
 have hwn:=bw n (by have:=H.out.few;have:=HNK.out;omega)
 obtain ⟨g,off,hA,-,-⟩:=H.out.char hk
 subst hA
 have c0:=H.out.c0
 have c1:=H.out.c1
 have cc:=H.out.charAt hk HY.out
 go_enter Tryz.func44,Tryz.ntmps44
 go_wp2_with (first
  | (refine insert_at rfl rfl Tryz.underlying94 rfl HM.out (by decide) rfl rfl (by decide) (by decide) ?_;intro w1 h1 g1;replace HM:=qh h1;replace HB:=qh (ins_step HB.out g1 (Nat.le_refl _));clear h1 g1;go_frame)
  | (at_lookup;have HM6:Hid (MapAt w1 w.heap.size 6 plM):=qh (HM.out.cong fun z=>by unfold plM;rfl);have H1:=qh (H.out.belowUp HB.out);have B1:Hid (Below b w w1):=qh (HB.out.mono (by omega));clear HM c0 c1 cc;have c0:=H1.out.c0;have c1:=H1.out.c1;refine look_def rfl rfl Tryz.underlying94 rfl HM6.out rfl hwf ?_;rw [HV.out];go_frame)
  | (refine storeD_at _ _ _ n rfl rfl rfl rfl rfl H1.out (by have:=HK.out;have:=HNK.out;omega) ?_;intro w2 h2 g2;have H2:=qh h2;have B2:=qh (B1.out.trans (below_row g2 (Nat.le_refl _) (by have:=H1.out.lt;omega)));have G2:=qh g2;clear h2 g2)
  | (refine store_tok (w2.alloc _) _ _ w2.heap.size noTok ⟨7,0,0,0,(k:Int)⟩ rfl rfl rfl rfl rfl (Box.new w2 _ _) ?_;intro w3 x3 g3;have X3:=qh x3;have H3:=qh ((H2.out.grown (grown_new w2 _ none)).new g3 H2.out.lt (H2.out.old (Nat.le_refl _)));have B3:Hid (Below b w w3):=qh (B2.out.trans ((below_row (grown_new w2 _ (some b)) (Nat.le_refl _) (by have:=H2.out.lt;omega)).trans (below_row g3 (by have:=H2.out.lt;omega) (by have:=H2.out.lt;simp;omega))));clear x3 g3)
  | fail)
 clear hmm
 clear c0 c1
 have c0:=H3.out.c0
 have c1:=H3.out.c1
 have cc:=H3.out.charAt HNL.out HZ.out
 go_wp2_with fail
 go_quiet (fail)
 obtain ⟨w4,hw4⟩:∃ u,w3.drewN nq=u:=⟨_,rfl⟩
 have H4:Hid (IsD w4 b (some ⟨g,off,none⟩) l c n tv T 0 0):=qh (hw4▸H3.out.grown (grown_draws (grown_refl w3 none) _))
 have X4:Hid (Box w4 w2.heap.size (⟨7,0,0,0,(k:Int)⟩:Tok).arr 56):=qh (hw4▸X3.out.kept (grown_draws (grown_refl w3 none) nq) (by simp))
 have B4:Hid (Below b w w4):=qh (hw4▸B3.out.trans (below_row (grown_draws (grown_refl w3 (some b)) nq) (Nat.le_refl _) (by have:=H3.out.lt;omega)))
 rw [hw4]
 clear hw4 c0 c1 cc
 go_wp2_with (first
  | (refine store_in w4 _ _ w2.heap.size 1 (.int .i64 1) _ rfl rfl rfl intInfo rfl rfl rfl X4.out (by simp) (by simp [maxLen]) ?_;intro w5 x5 g5;have X5:Hid (Box w5 w2.heap.size (⟨7,1,0,0,(k:Int)⟩:Tok).arr 56):=qh x5;have H5:=qh (H4.out.new g5 H2.out.lt (H2.out.old (Nat.le_refl _)));have B5:=qh (B4.out.trans (below_row g5 (by have:=H2.out.lt;omega) (by have:=H4.out.lt;omega)));clear x5 g5;have c1:=H5.out.c1)
  | (refine storeD_at _ _ _ (n+1) rfl rfl rfl rfl rfl H5.out (by have:=HNL.out;omega) ?_;intro w6 h6 g6;have H6:=qh h6;have X6:=qh (X5.out.kept g6 (fun e=>by have:=H2.out.lt;injection e with e;omega));have B6:=qh (B5.out.trans (below_row g6 (Nat.le_refl _) (by have:=H5.out.lt;omega)));clear h6 g6)
  | (refine load_box _ w2.heap.size _ _ rfl rfl rfl X6.out Tryz.underlying56 rfl (tokInfo _) ?_)
  | fail)
 go_wp2_with (first
  | (refine load_box _ w2.heap.size _ _ rfl rfl rfl X6.out Tryz.underlying56 rfl (tokInfo _) ?_)
  | fail)
 refine (dput_any w6 b c (n+1) _ l tv T 0 0 H6.out (by have:=HTK.out;have:=H6.out.few;omega) ⟨7,1,0,0,(k:Int)⟩).mono ?_
 rintro e w8 ⟨rfl,⟨tv8,h8⟩,b8⟩
 have H8:=qh h8
 have B8:=qh (B6.out.trans b8)
 clear h8 b8
 go_wp2_with fail
 refine (dclass_any w8 b c _ l R k (qh (.inl ⟨_,_,_,H8.out,HN.out,by have:=HTK.out;have:=HNK.out;simp;omega,by have:=HNK.out;omega⟩))).mono ?_
 rintro e w9 ⟨rfl,b9,s9⟩
 have S9:=qh s9
 have B9:=qh (B8.out.trans b9)
 clear s9 b9
 go_wp2_with fail
 exact bodyPost_end (results_none rfl _ _ _) rfl ⟨rfl,B9.out,S9.out⟩
end
end Go.Proofs.YtoeocodfndbebaaGreatDoor
