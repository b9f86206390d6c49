/- Shared texts, shaken for one claim. -/
import Derived.Test.YtoeocodfndbebaaGreatDoorZC37
set_option maxRecDepth 20000
set_option maxHeartbeats 16000000
namespace Go.Proofs.YtoeocodfndbebaaGreatDoor
section
open Go.RowKit
section
variable {l:List Int} {k k1 k2:Nat} {t t2:Tok}
theorem itemT_form (h:itemT l k=.ok (t,k1)):t=⟨t.k,t.c,0,0,0⟩:=by
 unfold itemT at h
 split at h
 ·cases h
 ·split at h
  ·unfold escT at h
   split at h
   ·cases h
   ·split at h
    ·cases h
    ·injection h with h;injection h with h _;subst h;rfl
    ·injection h with h;injection h with h _;subst h;rfl
  ·injection h with h;injection h with h _;subst h;rfl
theorem cls_end (T:List Tok):RD l true l.length T=.error (l.length,4):=by
 rw [RD_in (Nat.le_refl _)]
 have:inT l l.length=.error (l.length,4):=by
  unfold inT inB itemT
  rw [nxT_end (Nat.le_refl _)]
  simp [plT]
 rw [this]
theorem cls_shut (hk:k < l.length) (h:l[k]=93) (T:List Tok):RD l true k T=RD l false (k+1) (T++[⟨8,0,0,0,(k:Int)⟩]):=by
 rw [RD_in (by omega)]
 have:inT l k=.ok (⟨8,0,0,0,(k:Int)⟩,k+1):=by
  unfold inT inB
  rw [List.getElem?_eq_getElem hk,h]
  rfl
 rw [this];rfl
theorem cls_in (hk:k < l.length) (h:l[k]≠93):inB l k=match itemT l k with
 | .error e=>.error e
 | .ok (t,k')=>if t.k=1∧l[k']?=some 45∧¬ l[k'+1]?=some 93 then upT l t.c k (k'+1) else .ok (t,k'):=by
 unfold inB
 rw [if_neg (by rw [List.getElem?_eq_getElem hk];simpa using h)]
 rfl
theorem cls_bad (hk:k < l.length) (h:l[k]≠93) {e:Nat×Int} (hi:itemT l k=.error e) (T:List Tok):RD l true k T=.error e:=by
 rw [RD_in (by omega)]
 have:inT l k=.error e:=by unfold inT;rw [cls_in hk h,hi];rfl
 rw [this]
theorem cls_group (hk:k < l.length) (h:l[k]≠93) (hi:itemT l k=.ok (t,k1)) (ht:t.k=12) (T:List Tok):RD l true k T=RD l true k1 (T++[⟨12,t.c,0,0,(k:Int)⟩]):=by
 rw [RD_in (by omega)]
 have hf:=itemT_form hi
 have:inT l k=.ok (⟨12,t.c,0,0,(k:Int)⟩,k1):=by
  unfold inT
  rw [cls_in hk h,hi]
  simp only
  rw [if_neg (by rw [ht];simp)]
  rw [hf,ht];rfl
 rw [this];rfl
theorem cls_char (hk:k < l.length) (h:l[k]≠93) (hi:itemT l k=.ok (t,k1)) (ht:t.k=1) (hno:∀ h1:k1+1 < l.length,¬ (l[k1]=45∧l[k1+1]≠93)) (T:List Tok):RD l true k T=RD l true k1 (T++[⟨1,t.c,0,0,(k:Int)⟩]):=by
 have hf:=itemT_form hi
 have hle:=itemT_ok hi
 by_cases hc:l[k1]?=some 45∧¬ l[k1+1]?=some 93
 ·obtain ⟨h1,h2⟩:=List.getElem?_eq_some_iff.1 hc.1
  have hend:k1+1=l.length:=by
   apply Classical.byContradiction
   intro hn
   have hlt:k1+1 < l.length:=by omega
   exact hno hlt ⟨h2,fun e=>hc.2 (by rw [List.getElem?_eq_getElem hlt,e])⟩
  have e1:RD l true k T=.error (l.length,4):=by
   rw [RD_in (by omega)]
   have:inT l k=.error (l.length,4):=by
    unfold inT
    rw [cls_in hk h,hi]
    simp only
    rw [if_pos ⟨ht,hc⟩]
    unfold upT itemT
    rw [nxT_end (by omega),hend]
    rfl
   rw [this]
  rw [e1,RD_in (by omega)]
  have:inT l k1=.ok (⟨1,45,0,0,(k1:Int)⟩,k1+1):=by
   unfold inT
   rw [cls_in h1 (by rw [h2];decide)]
   have:itemT l k1=.ok (chT 45,k1+1):=by
    unfold itemT
    rw [nxT_at h1,h2]
    rfl
   rw [this]
   simp only
   rw [if_neg (by rw [List.getElem?_eq_none (by omega)];simp)]
   rfl
  rw [this]
  simp only
  rw [hend]
  exact (cls_end _).symm
 ·rw [RD_in (by omega)]
  have:inT l k=.ok (⟨1,t.c,0,0,(k:Int)⟩,k1):=by
   unfold inT
   rw [cls_in hk h,hi]
   simp only
   rw [if_neg (fun h=>hc h.2)]
   rw [hf,ht];rfl
  rw [this];rfl
theorem cls_up (hk:k < l.length) (h:l[k]≠93) (hi:itemT l k=.ok (t,k1)) (ht:t.k=1) (h1:k1+1 < l.length) (h45:l[k1]=45) (h93:l[k1+1]≠93) (T:List Tok):RD l true k T=match itemT l (k1+1) with
 | .error e=>.error e
 | .ok (t2,k2)=>if t2.k=12 then .error (k1+1,7) else if t2.c < t.c then .error (k,7) else RD l true k2 (T++[⟨9,0,t.c,t2.c,(k:Int)⟩]):=by
 rw [RD_in (by omega)]
 have:inT l k=plT k (upT l t.c k (k1+1)):=by
  unfold inT
  rw [cls_in hk h,hi]
  simp only
  rw [if_pos ⟨ht,by rw [List.getElem?_eq_getElem (by omega),h45],by rw [List.getElem?_eq_getElem h1];simpa using h93⟩]
 rw [this]
 unfold upT
 rcases itemT l (k1+1) with e | ⟨t2,k2⟩
 ·rfl
 ·simp only
  by_cases h12:t2.k=12
  ·rw [if_pos h12,if_pos h12];rfl
  ·rw [if_neg h12,if_neg h12]
   by_cases hl:t2.c < t.c
   ·rw [if_pos hl,if_pos hl];rfl
   ·rw [if_neg hl,if_neg hl];rfl
end
theorem itemT_no {l:List Int} {k:Nat} {e:Nat×Int} (hk:k < l.length) (h:itemT l k=.error e):e.2≠0:=by
 unfold itemT at h
 rw [nxT_at hk] at h
 simp only at h
 split at h
 ·unfold escT at h
  split at h
  ·rename_i hn
   injection h with h
   rw [← h,(nxT_no hn).2]
   simp
  ·split at h
   ·injection h with h;rw [← h];simp
   ·cases h
   ·cases h
 ·cases h
def ClsSt (w:World) (b c:Nat) (A:Option Addr) (l:List Int) (R:Wr (List Tok)) (kk0:Nat):Prop :=
 (∃ k tv T,IsD w b A l c k tv T 0 0∧RD l true k T=R∧T.length≤k∧kk0 < k)∨(∃ k tv T p x,IsD w b A l c k tv T (p:Nat) x∧x≠0∧R=.error (p,x)∧T.length≤300)
def errAt (b:Nat) (w:World):Int:=match w.cell? ⟨b,4,none⟩ with
 | some (.int _ n)=>n
 | _=>0
def clsLeft (b n:Nat) (w:World):Nat:=if errAt b w=0 then n+2 - readAt b w else 0
theorem errAt_of {w:World} {b c k:Nat} {A:Option Addr} {l:List Int} {tv:Value} {T:List Tok} {p x:Int} (h:IsD w b A l c k tv T p x):errAt b w=x:=by
 unfold errAt;rw [h.c4]
theorem clsLeft_right {w w':World} {b c k k' n:Nat} {A:Option Addr} {l:List Int} {tv tv':Value} {T T':List Tok} (h:IsD w b A l c k tv T 0 0) (h':IsD w' b A l c k' tv' T' 0 0) (hk:k < k') (hn:k'≤n):clsLeft b n w' < clsLeft b n w:=by
 unfold clsLeft
 rw [errAt_of h,errAt_of h',if_pos rfl,if_pos rfl,readAt_d h,readAt_d h']
 omega
theorem clsLeft_wrong {w w':World} {b c k k' n:Nat} {A:Option Addr} {l:List Int} {tv tv':Value} {T T':List Tok} {p x:Int} (h:IsD w b A l c k tv T 0 0) (h':IsD w' b A l c k' tv' T' p x) (hx:x≠0) (hn:k≤n):clsLeft b n w' < clsLeft b n w:=by
 unfold clsLeft
 rw [errAt_of h,errAt_of h',if_pos rfl,if_neg hx,readAt_d h]
 omega
theorem dclass_any (w:World) (b c:Nat) (A:Option Addr) (l:List Int) (R:Wr (List Tok)) (kk0:Nat) (HS:Hid (ClsSt w b c A l R kk0)) :
 Calls Tryz.prog 67 #[.pointer (some ⟨b,0,none⟩)] w fun e w'=>e=.returned (.tuple #[])∧Below b w w'∧StD w' b c A l R kk0:=by
 go_enter Tryz.func67,Tryz.ntmps67
 go_wp2
 go_loopw [] (fun wr=>Hid (ClsSt wr b c A l R kk0)∧Hid (Below b w wr)) (fun wr=>clsLeft b l.length wr)
 case atStart=>exact ⟨HS,qh (Below.refl _ _)⟩
 case round =>
  obtain ⟨HC,HB⟩:=hrel
  rcases HC.out with ⟨k,tv,T,h,hR,hT,hkk0⟩ | ⟨k,tv,T,p,x,h,hx,hR,hT⟩
  ·clear HC HS
   have HR:=qh h
   have HRR:=qh hR
   have HTK:=qh hT
   have HMK:=qh hkk0
   have hfew:=h.few
   have hle:=h.le
   have hbw:=h.lt
   clear h hR hT hkk0
   by_cases hk:k < l.length
   ·have HK:=qh hk
    have k0:(0:Int)≤(k:Int):=by omega
    have k1':(k:Int) < (l.length:Int):=by omega
    have hw:=bw k (by omega)
    obtain ⟨y,hy⟩:∃ y:Int,l[k]'hk=y:=⟨_,rfl⟩
    have HY:Hid (l[k]'hk=y):=qh hy
    obtain ⟨g,off,hA,-,-⟩:=HR.out.char hk
    subst hA
    clear hy
    by_cases h93:y=93
    ·have d0:(y == 93)=true:=by simpa using h93
     have HN:Hid (RD l false (k+1) (T++[⟨8,0,0,0,(k:Int)⟩])=R):=qh (by rw [← cls_shut HK.out (HY.out.trans h93) T];exact HRR.out)
     clear h93 HRR
     go_wp2_with fail
     refine (dends_not wr b c k _ l tv T 0 0 HR.out HK.out).mono ?_
     rintro e w1 ⟨rfl,g1⟩
     have H1:=qh (HR.out.grown g1)
     have B1:=qh (HB.out.trans (below_row_none g1 (by omega)))
     clear g1
     have c0:=H1.out.c0
     have c1:=H1.out.c1
     have cc:=H1.out.charAt HK.out HY.out
     go_wp2_with fail
     go_quiet (fail)
     obtain ⟨w2,hw2⟩:∃ u,w1.drewN nq=u:=⟨_,rfl⟩
     have H2:Hid (IsD w2 b (some ⟨g,off,none⟩) l c k tv T 0 0):=qh (hw2▸H1.out.grown (grown_draws (grown_refl w1 none) _))
     have B2:Hid (Below b w w2):=qh (hw2▸B1.out.trans (below_row (grown_draws (grown_refl w1 (some b)) nq) (Nat.le_refl _) (by have:=H1.out.lt;omega)))
     rw [hw2]
     clear hw2
     clear c0 c1 cc
     have c1:=H2.out.c1
     go_wp2_with fail
     refine (dput_any w2 b c k _ l tv T 0 0 H2.out (by have:=HTK.out;omega) ⟨8,0,0,0,(k:Int)⟩).mono ?_
     rintro e w3 ⟨rfl,⟨tv3,h⟩,bb⟩
     have H3:=qh h
     have B3:=qh (B2.out.trans bb)
     clear h bb
     clear c1
     have c1:=H3.out.c1
     go_wp2_with (first
      | (refine storeD_at _ _ _ (k+1) rfl rfl rfl rfl rfl H3.out (by have:=HK.out;omega) ?_;intro w4 h4 g4;have H4:=qh h4;have B4:=qh (B3.out.trans (below_row g4 (Nat.le_refl _) (by have:=H3.out.lt;omega)));clear h4 g4)
      | fail)
     exact bodyPost_ret (v:=.tuple #[]) (results_none rfl _ _ _) rfl ⟨rfl,B4.out,.inl ⟨_,_,_,H4.out,HN.out,by have:=HTK.out;simp;omega,by simp [lastR],by have:=HMK.out;omega⟩⟩
    have d0:(y == 93)=false:=by simpa using h93
    have h93':l[k]≠93:=fun e=>h93 (HY.out.symm.trans e)
    rcases hI:itemT l k with ⟨q,x⟩ | ⟨t,k1⟩
    ·have hx:=itemT_no hk hI
     have HO:=qh fun u hu=>done_any u b c k (some ⟨g,off,none⟩) l tv T hu HK.out
     rw [hI] at HO
     have HN:Hid (R=.error (q,x)):=qh (by rw [← HRR.out];exact cls_bad hk h93' hI T)
     have d1:(x != 0)=true:=by simpa using hx
     have HX:Hid (x≠0):=qh hx
     clear hx hI h93' h93 HRR
     go_wp2_with fail
     refine (dends_not wr b c k _ l tv T 0 0 HR.out HK.out).mono ?_
     rintro e w1 ⟨rfl,g1⟩
     have H1:=qh (HR.out.grown g1)
     have B1:=qh (HB.out.trans (below_row_none g1 (by omega)))
     clear g1
     have c0:=H1.out.c0
     have c1:=H1.out.c1
     have cc:=H1.out.charAt HK.out HY.out
     go_wp2_with fail
     go_quiet (fail)
     obtain ⟨w2,hw2⟩:∃ u,w1.drewN nq=u:=⟨_,rfl⟩
     have H2:Hid (IsD w2 b (some ⟨g,off,none⟩) l c k tv T 0 0):=qh (hw2▸H1.out.grown (grown_draws (grown_refl w1 none) _))
     have B2:Hid (Below b w w2):=qh (hw2▸B1.out.trans (below_row (grown_draws (grown_refl w1 (some b)) nq) (Nat.le_refl _) (by have:=H1.out.lt;omega)))
     rw [hw2]
     clear hw2
     clear c0 c1 cc
     go_wp2_with fail
     refine (HO.out w2 H2.out).mono ?_
     rintro e w3 ⟨g3,⟨zz,gg,rfl⟩,k',h3⟩
     have H3:=qh h3
     have B3:=qh (B2.out.trans (below_row g3 (Nat.le_refl _) (by have:=H2.out.lt;omega)))
     have c4:=h3.c4
     clear h3 g3
     go_wp2_with fail
     exact bodyPost_ret (v:=.tuple #[]) (results_none rfl _ _ _) rfl ⟨rfl,B3.out,.inr ⟨_,_,_,_,_,H3.out,HX.out,HN.out,by have:=HTK.out;omega⟩⟩
    ·have hkk:=itemT_ok hI
     have hkind:=itemT_kind hI
     have HO:=qh fun u hu=>done_any u b c k (some ⟨g,off,none⟩) l tv T hu HK.out
     rw [hI] at HO
     have HKK:=qh hkk
     have HI:=qh hI
     have H93:=qh h93'
     obtain ⟨ch,hch⟩:∃ ch,t.c=ch:=⟨_,rfl⟩
     have HCH:=qh hch
     clear h93' h93 hI
     rcases hkind with h1 | h12
     rotate_left
     ·have hq:(t.k == 12)=true:=by simpa using h12
      have HN:Hid (RD l true k1 (T++[⟨12,ch,0,0,(k:Int)⟩])=R):=qh (by rw [← HCH.out,← cls_group HK.out H93.out HI.out h12 T];exact HRR.out)
      clear hkk hch
      go_wp2_with fail
      refine (dends_not wr b c k _ l tv T 0 0 HR.out HK.out).mono ?_
      rintro e w1 ⟨rfl,g1⟩
      have H1:=qh (HR.out.grown g1)
      have B1:=qh (HB.out.trans (below_row_none g1 (by omega)))
      clear g1
      have c0:=H1.out.c0
      have c1:=H1.out.c1
      have cc:=H1.out.charAt HK.out HY.out
      go_wp2_with fail
      go_quiet (fail)
      obtain ⟨w2,hw2⟩:∃ u,w1.drewN nq=u:=⟨_,rfl⟩
      have H2:Hid (IsD w2 b (some ⟨g,off,none⟩) l c k tv T 0 0):=qh (hw2▸H1.out.grown (grown_draws (grown_refl w1 none) _))
      have B2:Hid (Below b w w2):=qh (hw2▸B1.out.trans (below_row (grown_draws (grown_refl w1 (some b)) nq) (Nat.le_refl _) (by have:=H1.out.lt;omega)))
      rw [hw2]
      clear hw2
      clear c0 c1 cc
      go_wp2_with fail
      refine (HO.out w2 H2.out).mono ?_
      rintro e w3 ⟨g3,rfl,h3⟩
      rw [HCH.out,hq]
      have H3:=qh h3
      have B3:=qh (B2.out.trans (below_row g3 (Nat.le_refl _) (by have:=H2.out.lt;omega)))
      have c4:=h3.c4
      have c0:=h3.c0
      have c1:=h3.c1
      clear h3 g3
      go_wp2_with fail
      refine (dput_any w3 b c k1 _ l tv T 0 0 H3.out (by have:=HTK.out;omega) ⟨12,ch,0,0,(k:Int)⟩).mono ?_
      rintro e w4 ⟨rfl,⟨tv4,h⟩,bb⟩
      have H4:=qh h
      have B4:=qh (B3.out.trans bb)
      clear h bb
      go_wp2_with fail
      refine ⟨⟨qh (.inl ⟨_,_,_,H4.out,HN.out,by have:=HTK.out;have:=HKK.out;simp;omega,by have:=HMK.out;have:=HKK.out;omega⟩),B4⟩,clsLeft_right HR.out H4.out (by have:=HKK.out;omega) H4.out.le⟩
     have hq:(t.k == 12)=false:=by rw [h1];rfl
     have H1K:=qh h1
     have hw1:=bw k1 (by have:=hkk.2;omega)
     clear hkk hch h1
     have HQ:(¬ k1+1 < l.length)∨(∃ h:k1+1 < l.length,∃ x:Int,l[k1]'(by omega)=x∧x≠45)∨(∃ h:k1+1 < l.length,l[k1]'(by omega)=45∧l[k1+1]'h=93)∨(∃ h:k1+1 < l.length,l[k1]'(by omega)=45∧∃ z:Int,l[k1+1]'h=z∧z≠93):=by
      by_cases h:k1+1 < l.length
      ·by_cases h45:l[k1]'(by omega)=45
       ·by_cases h93:l[k1+1]'h=93
        ·exact .inr (.inr (.inl ⟨h,h45,h93⟩))
        ·exact .inr (.inr (.inr ⟨h,h45,_,rfl,h93⟩))
       ·exact .inr (.inl ⟨h,_,rfl,h45⟩)
      ·exact .inl h
     obtain ⟨m,hm⟩:∃ m,k1+1=m:=⟨_,rfl⟩
     have HM:=qh hm
     rw [hm] at hw1
     rcases HQ with hA | ⟨hlt,x,hx,hx45⟩ | ⟨hlt,h45,hz⟩ | ⟨hlt,h45,z,hz,hz93⟩
     ·rw [hm] at hA
      have HN:Hid (RD l true k1 (T++[⟨1,ch,0,0,(k:Int)⟩])=R):=qh (by rw [← HCH.out,← cls_char HK.out H93.out HI.out H1K.out (fun h1=>by have:=HM.out;omega) T];exact HRR.out)
      have t1:decide ((m:Int) < (l.length:Int))=false:=decide_eq_false (by omega)
      have t2:decide (m < l.length)=false:=decide_eq_false hA
      clear hm
      go_wp2_with fail
      refine (dends_not wr b c k _ l tv T 0 0 HR.out HK.out).mono ?_
      rintro e w1 ⟨rfl,g1⟩
      have H1:=qh (HR.out.grown g1)
      have B1:=qh (HB.out.trans (below_row_none g1 (by omega)))
      clear g1
      have c0:=H1.out.c0
      have c1:=H1.out.c1
      have cc:=H1.out.charAt HK.out HY.out
      go_wp2_with fail
      go_quiet (fail)
      obtain ⟨w2,hw2⟩:∃ u,w1.drewN nq=u:=⟨_,rfl⟩
      have H2:Hid (IsD w2 b (some ⟨g,off,none⟩) l c k tv T 0 0):=qh (hw2▸H1.out.grown (grown_draws (grown_refl w1 none) _))
      have B2:Hid (Below b w w2):=qh (hw2▸B1.out.trans (below_row (grown_draws (grown_refl w1 (some b)) nq) (Nat.le_refl _) (by have:=H1.out.lt;omega)))
      rw [hw2]
      clear hw2
      clear c0 c1 cc
      go_wp2_with fail
      refine (HO.out w2 H2.out).mono ?_
      rintro e w3 ⟨g3,rfl,h3⟩
      rw [HCH.out,hq]
      have H3:=qh h3
      have B3:=qh (B2.out.trans (below_row g3 (Nat.le_refl _) (by have:=H2.out.lt;omega)))
      have c4:=h3.c4
      have c0:=h3.c0
      have c1:=h3.c1
      clear h3 g3
      go_wp2_with fail
      go_quiet (fail)
      obtain ⟨w4,hw4⟩:∃ u,w3.drewN nq=u:=⟨_,rfl⟩
      have H4:Hid (IsD w4 b (some ⟨g,off,none⟩) l c k1 tv T 0 0):=qh (hw4▸H3.out.grown (grown_draws (grown_refl w3 none) _))
      have B4:Hid (Below b w w4):=qh (hw4▸B3.out.trans (below_row (grown_draws (grown_refl w3 (some b)) nq) (Nat.le_refl _) (by have:=H3.out.lt;omega)))
      rw [hw4]
      clear hw4 c0 c1 c4
      go_wp2_with fail
      refine (dput_any w4 b c k1 _ l tv T 0 0 H4.out (by have:=HTK.out;omega) ⟨1,ch,0,0,(k:Int)⟩).mono ?_
      rintro e w5 ⟨rfl,⟨tv5,h⟩,bb⟩
      have H5:=qh h
      have B5:=qh (B4.out.trans bb)
      clear h bb
      go_wp2_with fail
      refine ⟨⟨qh (.inl ⟨_,_,_,H5.out,HN.out,by have:=HTK.out;have:=HKK.out;simp;omega,by have:=HMK.out;have:=HKK.out;omega⟩),B5⟩,clsLeft_right HR.out H5.out (by have:=HKK.out;omega) H5.out.le⟩
     ·have HLT:=qh hlt
      have hlt1:(k1:Int) < (l.length:Int):=by omega
      have k10:(0:Int)≤(k1:Int):=by omega
      have hlt2:(m:Int) < (l.length:Int):=by omega
      have m0:(0:Int)≤(m:Int):=by omega
      have t1:decide ((m:Int) < (l.length:Int))=true:=decide_eq_true hlt2
      have HX:Hid (l[k1]'(by have:=HLT.out;omega)=x):=qh hx
      have HN:Hid (RD l true k1 (T++[⟨1,ch,0,0,(k:Int)⟩])=R):=qh (by rw [← HCH.out,← cls_char HK.out H93.out HI.out H1K.out (fun h1=>by exact fun h2=>hx45 (hx.symm.trans h2.1)) T];exact HRR.out)
      have t2:(x == 45)=false:=by simpa using hx45
      clear hx
      clear hm
      go_wp2_with fail
      refine (dends_not wr b c k _ l tv T 0 0 HR.out HK.out).mono ?_
      rintro e w1 ⟨rfl,g1⟩
      have H1:=qh (HR.out.grown g1)
      have B1:=qh (HB.out.trans (below_row_none g1 (by omega)))
      clear g1
      have c0:=H1.out.c0
      have c1:=H1.out.c1
      have cc:=H1.out.charAt HK.out HY.out
      go_wp2_with fail
      go_quiet (fail)
      obtain ⟨w2,hw2⟩:∃ u,w1.drewN nq=u:=⟨_,rfl⟩
      have H2:Hid (IsD w2 b (some ⟨g,off,none⟩) l c k tv T 0 0):=qh (hw2▸H1.out.grown (grown_draws (grown_refl w1 none) _))
      have B2:Hid (Below b w w2):=qh (hw2▸B1.out.trans (below_row (grown_draws (grown_refl w1 (some b)) nq) (Nat.le_refl _) (by have:=H1.out.lt;omega)))
      rw [hw2]
      clear hw2
      clear c0 c1 cc
      go_wp2_with fail
      refine (HO.out w2 H2.out).mono ?_
      rintro e w3 ⟨g3,rfl,h3⟩
      rw [HCH.out,hq]
      have H3:=qh h3
      have B3:=qh (B2.out.trans (below_row g3 (Nat.le_refl _) (by have:=H2.out.lt;omega)))
      have c4:=h3.c4
      have c0:=h3.c0
      have c1:=h3.c1
      clear h3 g3
      have cc:=H3.out.charAt _ HX.out
      go_wp2_with fail
      go_quiet (fail)
      obtain ⟨w4,hw4⟩:∃ u,w3.drewN nq=u:=⟨_,rfl⟩
      have H4:Hid (IsD w4 b (some ⟨g,off,none⟩) l c k1 tv T 0 0):=qh (hw4▸H3.out.grown (grown_draws (grown_refl w3 none) _))
      have B4:Hid (Below b w w4):=qh (hw4▸B3.out.trans (below_row (grown_draws (grown_refl w3 (some b)) nq) (Nat.le_refl _) (by have:=H3.out.lt;omega)))
      rw [hw4]
      clear hw4 c0 c1 c4
      go_wp2_with fail
      refine (dput_any w4 b c k1 _ l tv T 0 0 H4.out (by have:=HTK.out;omega) ⟨1,ch,0,0,(k:Int)⟩).mono ?_
      rintro e w5 ⟨rfl,⟨tv5,h⟩,bb⟩
      have H5:=qh h
      have B5:=qh (B4.out.trans bb)
      clear h bb
      go_wp2_with fail
      refine ⟨⟨qh (.inl ⟨_,_,_,H5.out,HN.out,by have:=HTK.out;have:=HKK.out;simp;omega,by have:=HMK.out;have:=HKK.out;omega⟩),B5⟩,clsLeft_right HR.out H5.out (by have:=HKK.out;omega) H5.out.le⟩
     ·have HLT:=qh hlt
      have hlt1:(k1:Int) < (l.length:Int):=by omega
      have k10:(0:Int)≤(k1:Int):=by omega
      have hlt2:(m:Int) < (l.length:Int):=by omega
      have m0:(0:Int)≤(m:Int):=by omega
      have t1:decide ((m:Int) < (l.length:Int))=true:=decide_eq_true hlt2
      have HX:Hid (l[k1]'(by have:=HLT.out;omega)=45):=qh h45
      have HZ:Hid (∃ h:m < l.length,l[m]'h=93):=qh (by subst hm;exact ⟨hlt,hz⟩)
      have HN:Hid (RD l true k1 (T++[⟨1,ch,0,0,(k:Int)⟩])=R):=qh (by rw [← HCH.out,← cls_char HK.out H93.out HI.out H1K.out (fun h1=>by exact fun h2=>h2.2 hz) T];exact HRR.out)
      clear hz h45
      clear hm
      go_wp2_with fail
      refine (dends_not wr b c k _ l tv T 0 0 HR.out HK.out).mono ?_
      rintro e w1 ⟨rfl,g1⟩
      have H1:=qh (HR.out.grown g1)
      have B1:=qh (HB.out.trans (below_row_none g1 (by omega)))
      clear g1
      have c0:=H1.out.c0
      have c1:=H1.out.c1
      have cc:=H1.out.charAt HK.out HY.out
      go_wp2_with fail
      go_quiet (fail)
      obtain ⟨w2,hw2⟩:∃ u,w1.drewN nq=u:=⟨_,rfl⟩
      have H2:Hid (IsD w2 b (some ⟨g,off,none⟩) l c k tv T 0 0):=qh (hw2▸H1.out.grown (grown_draws (grown_refl w1 none) _))
      have B2:Hid (Below b w w2):=qh (hw2▸B1.out.trans (below_row (grown_draws (grown_refl w1 (some b)) nq) (Nat.le_refl _) (by have:=H1.out.lt;omega)))
      rw [hw2]
      clear hw2
      clear c0 c1 cc
      go_wp2_with fail
      refine (HO.out w2 H2.out).mono ?_
      rintro e w3 ⟨g3,rfl,h3⟩
      rw [HCH.out,hq]
      have H3:=qh h3
      have B3:=qh (B2.out.trans (below_row g3 (Nat.le_refl _) (by have:=H2.out.lt;omega)))
      have c4:=h3.c4
      have c0:=h3.c0
      have c1:=h3.c1
      clear h3 g3
      have cc:=H3.out.charAt _ HX.out
      obtain ⟨hzl,hz⟩:=HZ.out
      have cc2:=H3.out.charAt hzl hz
      clear hz
      go_wp2_with fail
      go_quiet (fail)
      obtain ⟨w4,hw4⟩:∃ u,w3.drewN nq=u:=⟨_,rfl⟩
      have H4:Hid (IsD w4 b (some ⟨g,off,none⟩) l c k1 tv T 0 0):=qh (hw4▸H3.out.grown (grown_draws (grown_refl w3 none) _))
      have B4:Hid (Below b w w4):=qh (hw4▸B3.out.trans (below_row (grown_draws (grown_refl w3 (some b)) nq) (Nat.le_refl _) (by have:=H3.out.lt;omega)))
      rw [hw4]
      clear hw4 c0 c1 c4
      go_wp2_with fail
      refine (dput_any w4 b c k1 _ l tv T 0 0 H4.out (by have:=HTK.out;omega) ⟨1,ch,0,0,(k:Int)⟩).mono ?_
      rintro e w5 ⟨rfl,⟨tv5,h⟩,bb⟩
      have H5:=qh h
      have B5:=qh (B4.out.trans bb)
      clear h bb
      go_wp2_with fail
      refine ⟨⟨qh (.inl ⟨_,_,_,H5.out,HN.out,by have:=HTK.out;have:=HKK.out;simp;omega,by have:=HMK.out;have:=HKK.out;omega⟩),B5⟩,clsLeft_right HR.out H5.out (by have:=HKK.out;omega) H5.out.le⟩
     ·have HLT:=qh hlt
      have hlt1:(k1:Int) < (l.length:Int):=by omega
      have k10:(0:Int)≤(k1:Int):=by omega
      have hlt2:(m:Int) < (l.length:Int):=by omega
      have m0:(0:Int)≤(m:Int):=by omega
      have t1:decide ((m:Int) < (l.length:Int))=true:=decide_eq_true hlt2
      have HX:Hid (l[k1]'(by have:=HLT.out;omega)=45):=qh h45
      have HZ:Hid (∃ h:m < l.length,l[m]'h=z):=qh (by subst hm;exact ⟨hlt,hz⟩)
      have HML:Hid (m < l.length):=qh (by omega)
      have HU:=qh (cls_up HK.out H93.out HI.out H1K.out hlt h45 (fun e=>hz93 (hz.symm.trans e)) T)
      rw [hm,HCH.out,HRR.out] at HU
      have t2:(z != 93)=true:=by simpa using hz93
      clear hz h45 hz93 hm
      rcases hI2:itemT l m with ⟨q,x⟩ | ⟨t2,k2⟩
      ·have hx:=itemT_no HML.out hI2
       have HO2:=qh fun u hu=>done_any u b c m (some ⟨g,off,none⟩) l tv T hu HML.out
       rw [hI2] at HO2
       rw [hI2] at HU
       have HN:Hid (R=.error (q,x)):=qh HU.out
       have d1:(x == 0)=false:=by simpa using hx
       have HXX:Hid (x≠0):=qh hx
       clear hx hI2 HU
       go_wp2_with fail
       refine (dends_not wr b c k _ l tv T 0 0 HR.out HK.out).mono ?_
       rintro e w1 ⟨rfl,g1⟩
       have H1:=qh (HR.out.grown g1)
       have B1:=qh (HB.out.trans (below_row_none g1 (by omega)))
       clear g1
       have c0:=H1.out.c0
       have c1:=H1.out.c1
       have cc:=H1.out.charAt HK.out HY.out
       go_wp2_with fail
       go_quiet (fail)
       obtain ⟨w2,hw2⟩:∃ u,w1.drewN nq=u:=⟨_,rfl⟩
       have H2:Hid (IsD w2 b (some ⟨g,off,none⟩) l c k tv T 0 0):=qh (hw2▸H1.out.grown (grown_draws (grown_refl w1 none) _))
       have B2:Hid (Below b w w2):=qh (hw2▸B1.out.trans (below_row (grown_draws (grown_refl w1 (some b)) nq) (Nat.le_refl _) (by have:=H1.out.lt;omega)))
       rw [hw2]
       clear hw2
       clear c0 c1 cc
       go_wp2_with fail
       refine (HO.out w2 H2.out).mono ?_
       rintro e w3 ⟨g3,rfl,h3⟩
       rw [HCH.out,hq]
       have H3:=qh h3
       have B3:=qh (B2.out.trans (below_row g3 (Nat.le_refl _) (by have:=H2.out.lt;omega)))
       have c4:=h3.c4
       have c0:=h3.c0
       have c1:=h3.c1
       clear h3 g3
       have cc:=H3.out.charAt _ HX.out
       obtain ⟨hzl,hz⟩:=HZ.out
       have cc2:=H3.out.charAt hzl hz
       clear hz
       go_wp2_with fail
       go_quiet (fail)
       obtain ⟨w4,hw4⟩:∃ u,w3.drewN nq=u:=⟨_,rfl⟩
       have H4:Hid (IsD w4 b (some ⟨g,off,none⟩) l c k1 tv T 0 0):=qh (hw4▸H3.out.grown (grown_draws (grown_refl w3 none) _))
       have B4:Hid (Below b w w4):=qh (hw4▸B3.out.trans (below_row (grown_draws (grown_refl w3 (some b)) nq) (Nat.le_refl _) (by have:=H3.out.lt;omega)))
       rw [hw4]
       clear hw4 c0 c1 c4 cc cc2
       have c1:=H4.out.c1
       go_wp2_with (first
        | (refine storeD_at _ _ _ m rfl rfl rfl rfl rfl H4.out (by have:=HML.out;omega) ?_;intro w5 h5 g5;have H5:=qh h5;have B5:=qh (B4.out.trans (below_row g5 (Nat.le_refl _) (by have:=H4.out.lt;omega)));clear h5 g5)
        | fail)
       clear c1
       refine (HO2.out w5 H5.out).mono ?_
       rintro e w6 ⟨g6,⟨zz,gg,rfl⟩,k',h6⟩
       have H6:=qh h6
       have B6:=qh (B5.out.trans (below_row g6 (Nat.le_refl _) (by have:=H5.out.lt;omega)))
       have c4:=h6.c4
       clear h6 g6
       have hdd:(decide (ch > zz)=true∧decide (zz < ch)=true)∨(decide (ch > zz)=false∧decide (zz < ch)=false):=by
        by_cases h:zz < ch
        ·exact .inl ⟨decide_eq_true h,decide_eq_true h⟩
        ·exact .inr ⟨decide_eq_false h,decide_eq_false h⟩
       rcases gg with _ | _
       ·rcases hdd with ⟨e1,e2⟩ | ⟨e1,e2⟩
        all_goals
         go_wp2_with fail
         refine (dput_any w6 b c k' _ l tv T q x H6.out (by have:=HTK.out;omega) ⟨9,0,ch,zz,(k:Int)⟩).mono ?_
         rintro e w7 ⟨rfl,⟨tv7,h⟩,bb⟩
         have H7:=qh h
         have B7:=qh (B6.out.trans bb)
         clear h bb
         go_wp2_with fail
         refine ⟨⟨qh (.inr ⟨_,_,_,_,_,H7.out,HXX.out,HN.out,by have:=HTK.out;simp;omega⟩),B7⟩,clsLeft_wrong HR.out H7.out HXX.out HR.out.le⟩
       ·rcases hdd with ⟨e1,e2⟩ | ⟨e1,e2⟩
        all_goals
         go_wp2_with fail
         refine (dfail_old w6 b c k' _ l tv T q x H6.out HXX.out (m:Int) 7).mono ?_
         rintro e w9 ⟨rfl,rfl⟩
         go_wp2_with fail
         refine (dput_any w6 b c k' _ l tv T q x H6.out (by have:=HTK.out;omega) ⟨9,0,ch,zz,(k:Int)⟩).mono ?_
         rintro e w7 ⟨rfl,⟨tv7,h⟩,bb⟩
         have H7:=qh h
         have B7:=qh (B6.out.trans bb)
         clear h bb
         go_wp2_with fail
         refine ⟨⟨qh (.inr ⟨_,_,_,_,_,H7.out,HXX.out,HN.out,by have:=HTK.out;simp;omega⟩),B7⟩,clsLeft_wrong HR.out H7.out HXX.out HR.out.le⟩
      ·have hkk2:=itemT_ok hI2
       have hkind2:=itemT_kind hI2
       have HO2:=qh fun u hu=>done_any u b c m (some ⟨g,off,none⟩) l tv T hu HML.out
       rw [hI2] at HO2
       rw [hI2] at HU
       have HKK2:=qh hkk2
       obtain ⟨dh,hdh⟩:∃ dh,t2.c=dh:=⟨_,rfl⟩
       have HDH:=qh hdh
       have HU2:=HU.out
       simp only at HU2
       rw [hdh] at HU2
       have HUU:=qh HU2
       clear hI2 HU HU2 hkk2 hdh
       have hdd:(dh < ch∧decide (ch > dh)=true∧decide (dh < ch)=true)∨(¬ dh < ch∧decide (ch > dh)=false∧decide (dh < ch)=false):=by
        by_cases h:dh < ch
        ·exact .inl ⟨h,decide_eq_true h,decide_eq_true h⟩
        ·exact .inr ⟨h,decide_eq_false h,decide_eq_false h⟩
       rcases hkind2 with h1 | h12
       rotate_left
       ·have hq2:(t2.k == 12)=true:=by simpa using h12
        have HN:Hid (R=.error (m,7)):=qh (by have:=HUU.out;rw [if_pos h12] at this;exact this)
        clear h12 HUU
        rcases hdd with ⟨-,e1,e2⟩ | ⟨-,e1,e2⟩
        all_goals
         go_wp2_with fail
         refine (dends_not wr b c k _ l tv T 0 0 HR.out HK.out).mono ?_
         rintro e w1 ⟨rfl,g1⟩
         have H1:=qh (HR.out.grown g1)
         have B1:=qh (HB.out.trans (below_row_none g1 (by omega)))
         clear g1
         have c0:=H1.out.c0
         have c1:=H1.out.c1
         have cc:=H1.out.charAt HK.out HY.out
         go_wp2_with fail
         go_quiet (fail)
         obtain ⟨w2,hw2⟩:∃ u,w1.drewN nq=u:=⟨_,rfl⟩
         have H2:Hid (IsD w2 b (some ⟨g,off,none⟩) l c k tv T 0 0):=qh (hw2▸H1.out.grown (grown_draws (grown_refl w1 none) _))
         have B2:Hid (Below b w w2):=qh (hw2▸B1.out.trans (below_row (grown_draws (grown_refl w1 (some b)) nq) (Nat.le_refl _) (by have:=H1.out.lt;omega)))
         rw [hw2]
         clear hw2
         clear c0 c1 cc
         go_wp2_with fail
         refine (HO.out w2 H2.out).mono ?_
         rintro e w3 ⟨g3,rfl,h3⟩
         rw [HCH.out,hq]
         have H3:=qh h3
         have B3:=qh (B2.out.trans (below_row g3 (Nat.le_refl _) (by have:=H2.out.lt;omega)))
         have c4:=h3.c4
         have c0:=h3.c0
         have c1:=h3.c1
         clear h3 g3
         have cc:=H3.out.charAt _ HX.out
         obtain ⟨hzl,hz⟩:=HZ.out
         have cc2:=H3.out.charAt hzl hz
         clear hz
         go_wp2_with fail
         go_quiet (fail)
         obtain ⟨w4,hw4⟩:∃ u,w3.drewN nq=u:=⟨_,rfl⟩
         have H4:Hid (IsD w4 b (some ⟨g,off,none⟩) l c k1 tv T 0 0):=qh (hw4▸H3.out.grown (grown_draws (grown_refl w3 none) _))
         have B4:Hid (Below b w w4):=qh (hw4▸B3.out.trans (below_row (grown_draws (grown_refl w3 (some b)) nq) (Nat.le_refl _) (by have:=H3.out.lt;omega)))
         rw [hw4]
         clear hw4 c0 c1 c4 cc cc2
         have c1:=H4.out.c1
         go_wp2_with (first
          | (refine storeD_at _ _ _ m rfl rfl rfl rfl rfl H4.out (by have:=HML.out;omega) ?_;intro w5 h5 g5;have H5:=qh h5;have B5:=qh (B4.out.trans (below_row g5 (Nat.le_refl _) (by have:=H4.out.lt;omega)));clear h5 g5)
          | fail)
         clear c1
         refine (HO2.out w5 H5.out).mono ?_
         rintro e w6 ⟨g6,rfl,h6⟩
         rw [HDH.out,hq2]
         have H6:=qh h6
         have B6:=qh (B5.out.trans (below_row g6 (Nat.le_refl _) (by have:=H5.out.lt;omega)))
         clear h6 g6
         go_wp2_with fail
         refine (dfail_new w6 b c k2 _ l tv T 0 H6.out (m:Int) 7).mono ?_
         rintro e w7 ⟨rfl,h7,g7⟩
         have H7:=qh h7
         have B7:=qh (B6.out.trans (below_row g7 (Nat.le_refl _) (by have:=H6.out.lt;omega)))
         have c4:=h7.c4
         clear h7 g7
         go_wp2_with fail
         refine (dput_any w7 b c k2 _ l tv T m 7 H7.out (by have:=HTK.out;omega) ⟨9,0,ch,dh,(k:Int)⟩).mono ?_
         rintro e w8 ⟨rfl,⟨tv8,h⟩,bb⟩
         have H8:=qh h
         have B8:=qh (B7.out.trans bb)
         clear h bb
         go_wp2_with fail
         refine ⟨⟨qh (.inr ⟨_,_,_,_,_,H8.out,(by decide),HN.out,by have:=HTK.out;simp;omega⟩),B8⟩,clsLeft_wrong HR.out H8.out (by decide) HR.out.le⟩
       have hq2:(t2.k == 12)=false:=by rw [h1];rfl
       have h112:¬ t2.k=12:=by omega
       rcases hdd with ⟨hlt3,e1,e2⟩ | ⟨hlt3,e1,e2⟩
       ·have HN:Hid (R=.error (k,7)):=qh (by have:=HUU.out;rw [if_neg h112,if_pos hlt3] at this;exact this)
        clear h1 h112 hlt3 HUU
        go_wp2_with fail
        refine (dends_not wr b c k _ l tv T 0 0 HR.out HK.out).mono ?_
        rintro e w1 ⟨rfl,g1⟩
        have H1:=qh (HR.out.grown g1)
        have B1:=qh (HB.out.trans (below_row_none g1 (by omega)))
        clear g1
        have c0:=H1.out.c0
        have c1:=H1.out.c1
        have cc:=H1.out.charAt HK.out HY.out
        go_wp2_with fail
        go_quiet (fail)
        obtain ⟨w2,hw2⟩:∃ u,w1.drewN nq=u:=⟨_,rfl⟩
        have H2:Hid (IsD w2 b (some ⟨g,off,none⟩) l c k tv T 0 0):=qh (hw2▸H1.out.grown (grown_draws (grown_refl w1 none) _))
        have B2:Hid (Below b w w2):=qh (hw2▸B1.out.trans (below_row (grown_draws (grown_refl w1 (some b)) nq) (Nat.le_refl _) (by have:=H1.out.lt;omega)))
        rw [hw2]
        clear hw2
        clear c0 c1 cc
        go_wp2_with fail
        refine (HO.out w2 H2.out).mono ?_
        rintro e w3 ⟨g3,rfl,h3⟩
        rw [HCH.out,hq]
        have H3:=qh h3
        have B3:=qh (B2.out.trans (below_row g3 (Nat.le_refl _) (by have:=H2.out.lt;omega)))
        have c4:=h3.c4
        have c0:=h3.c0
        have c1:=h3.c1
        clear h3 g3
        have cc:=H3.out.charAt _ HX.out
        obtain ⟨hzl,hz⟩:=HZ.out
        have cc2:=H3.out.charAt hzl hz
        clear hz
        go_wp2_with fail
        go_quiet (fail)
        obtain ⟨w4,hw4⟩:∃ u,w3.drewN nq=u:=⟨_,rfl⟩
        have H4:Hid (IsD w4 b (some ⟨g,off,none⟩) l c k1 tv T 0 0):=qh (hw4▸H3.out.grown (grown_draws (grown_refl w3 none) _))
        have B4:Hid (Below b w w4):=qh (hw4▸B3.out.trans (below_row (grown_draws (grown_refl w3 (some b)) nq) (Nat.le_refl _) (by have:=H3.out.lt;omega)))
        rw [hw4]
        clear hw4 c0 c1 c4 cc cc2
        have c1:=H4.out.c1
        go_wp2_with (first
         | (refine storeD_at _ _ _ m rfl rfl rfl rfl rfl H4.out (by have:=HML.out;omega) ?_;intro w5 h5 g5;have H5:=qh h5;have B5:=qh (B4.out.trans (below_row g5 (Nat.le_refl _) (by have:=H4.out.lt;omega)));clear h5 g5)
         | fail)
        clear c1
        refine (HO2.out w5 H5.out).mono ?_
        rintro e w6 ⟨g6,rfl,h6⟩
        rw [HDH.out,hq2]
        have H6:=qh h6
        have B6:=qh (B5.out.trans (below_row g6 (Nat.le_refl _) (by have:=H5.out.lt;omega)))
        have c4:=h6.c4
        clear h6 g6
        go_wp2_with fail
        refine (dfail_new w6 b c k2 _ l tv T 0 H6.out (k:Int) 7).mono ?_
        rintro e w7 ⟨rfl,h7,g7⟩
        have H7:=qh h7
        have B7:=qh (B6.out.trans (below_row g7 (Nat.le_refl _) (by have:=H6.out.lt;omega)))
        clear h7 g7
        go_wp2_with fail
        refine (dput_any w7 b c k2 _ l tv T k 7 H7.out (by have:=HTK.out;omega) ⟨9,0,ch,dh,(k:Int)⟩).mono ?_
        rintro e w8 ⟨rfl,⟨tv8,h⟩,bb⟩
        have H8:=qh h
        have B8:=qh (B7.out.trans bb)
        clear h bb
        go_wp2_with fail
        refine ⟨⟨qh (.inr ⟨_,_,_,_,_,H8.out,(by decide),HN.out,by have:=HTK.out;simp;omega⟩),B8⟩,clsLeft_wrong HR.out H8.out (by decide) HR.out.le⟩
       ·have HN:Hid (RD l true k2 (T++[⟨9,0,ch,dh,(k:Int)⟩])=R):=qh (by have:=HUU.out;rw [if_neg h112,if_neg hlt3] at this;exact this.symm)
        clear h1 h112 hlt3 HUU
        go_wp2_with fail
        refine (dends_not wr b c k _ l tv T 0 0 HR.out HK.out).mono ?_
        rintro e w1 ⟨rfl,g1⟩
        have H1:=qh (HR.out.grown g1)
        have B1:=qh (HB.out.trans (below_row_none g1 (by omega)))
        clear g1
        have c0:=H1.out.c0
        have c1:=H1.out.c1
        have cc:=H1.out.charAt HK.out HY.out
        go_wp2_with fail
        go_quiet (fail)
        obtain ⟨w2,hw2⟩:∃ u,w1.drewN nq=u:=⟨_,rfl⟩
        have H2:Hid (IsD w2 b (some ⟨g,off,none⟩) l c k tv T 0 0):=qh (hw2▸H1.out.grown (grown_draws (grown_refl w1 none) _))
        have B2:Hid (Below b w w2):=qh (hw2▸B1.out.trans (below_row (grown_draws (grown_refl w1 (some b)) nq) (Nat.le_refl _) (by have:=H1.out.lt;omega)))
        rw [hw2]
        clear hw2
        clear c0 c1 cc
        go_wp2_with fail
        refine (HO.out w2 H2.out).mono ?_
        rintro e w3 ⟨g3,rfl,h3⟩
        rw [HCH.out,hq]
        have H3:=qh h3
        have B3:=qh (B2.out.trans (below_row g3 (Nat.le_refl _) (by have:=H2.out.lt;omega)))
        have c4:=h3.c4
        have c0:=h3.c0
        have c1:=h3.c1
        clear h3 g3
        have cc:=H3.out.charAt _ HX.out
        obtain ⟨hzl,hz⟩:=HZ.out
        have cc2:=H3.out.charAt hzl hz
        clear hz
        go_wp2_with fail
        go_quiet (fail)
        obtain ⟨w4,hw4⟩:∃ u,w3.drewN nq=u:=⟨_,rfl⟩
        have H4:Hid (IsD w4 b (some ⟨g,off,none⟩) l c k1 tv T 0 0):=qh (hw4▸H3.out.grown (grown_draws (grown_refl w3 none) _))
        have B4:Hid (Below b w w4):=qh (hw4▸B3.out.trans (below_row (grown_draws (grown_refl w3 (some b)) nq) (Nat.le_refl _) (by have:=H3.out.lt;omega)))
        rw [hw4]
        clear hw4 c0 c1 c4 cc cc2
        have c1:=H4.out.c1
        go_wp2_with (first
         | (refine storeD_at _ _ _ m rfl rfl rfl rfl rfl H4.out (by have:=HML.out;omega) ?_;intro w5 h5 g5;have H5:=qh h5;have B5:=qh (B4.out.trans (below_row g5 (Nat.le_refl _) (by have:=H4.out.lt;omega)));clear h5 g5)
         | fail)
        clear c1
        refine (HO2.out w5 H5.out).mono ?_
        rintro e w6 ⟨g6,rfl,h6⟩
        rw [HDH.out,hq2]
        have H6:=qh h6
        have B6:=qh (B5.out.trans (below_row g6 (Nat.le_refl _) (by have:=H5.out.lt;omega)))
        have c4:=h6.c4
        clear h6 g6
        go_wp2_with fail
        refine (dput_any w6 b c k2 _ l tv T 0 0 H6.out (by have:=HTK.out;omega) ⟨9,0,ch,dh,(k:Int)⟩).mono ?_
        rintro e w7 ⟨rfl,⟨tv7,h⟩,bb⟩
        have H7:=qh h
        have B7:=qh (B6.out.trans bb)
        clear h bb
        go_wp2_with fail
        refine ⟨⟨qh (.inl ⟨_,_,_,H7.out,HN.out,by have:=HTK.out;have:=HKK.out;have:=HKK2.out;have:=HM.out;simp;omega,by have:=HMK.out;have:=HKK.out;have:=HKK2.out;have:=HM.out;omega⟩),B7⟩,clsLeft_right HR.out H7.out (by have:=HKK.out;have:=HKK2.out;have:=HM.out;omega) H7.out.le⟩
   ·have hkl:k=l.length:=by omega
    subst hkl
    have HN:Hid (R=.error (l.length,4)):=qh (by rw [← HRR.out];exact cls_end T)
    go_wp2_with fail
    refine (dends_end wr b c A l tv T 0 HR.out).mono ?_
    rintro e w1 ⟨rfl,h1,g1⟩
    have H1:=qh h1
    have B1:=qh (HB.out.trans (below_row g1 (Nat.le_refl _) (by omega)))
    clear h1 g1
    go_wp2_with fail
    exact bodyPost_end (results_none rfl _ _ _) rfl ⟨rfl,B1.out,.inr ⟨_,_,_,_,_,H1.out,by decide,HN.out,by have:=HTK.out;omega⟩⟩
  ·have H:=qh h
   have HX:=qh hx
   have HRR:=qh hR
   have HTK:=qh hT
   have hbw:=h.lt
   clear h hx hR hT
   go_wp2_with fail
   refine (dends_bad wr b c k A l tv T p x H.out HX.out).mono ?_
   rintro e w1 ⟨rfl,g1⟩
   have H1:=qh (H.out.grown g1)
   have B1:=qh (HB.out.trans (below_row_none g1 (by omega)))
   clear g1
   go_wp2_with fail
   exact bodyPost_end (results_none rfl _ _ _) rfl ⟨rfl,B1.out,.inr ⟨_,_,_,_,_,H1.out,HX.out,HRR.out,HTK.out⟩⟩
end
end Go.Proofs.YtoeocodfndbebaaGreatDoor
