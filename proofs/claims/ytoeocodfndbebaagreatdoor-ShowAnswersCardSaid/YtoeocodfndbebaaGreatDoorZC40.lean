/- Shared texts, shaken for one claim. -/
import Derived.Test.YtoeocodfndbebaaGreatDoorZC8
import Derived.Test.YtoeocodfndbebaaGreatDoorZC17
import Derived.Test.YtoeocodfndbebaaGreatDoorZC18
import Derived.Test.YtoeocodfndbebaaGreatDoorZC22
import Derived.Test.YtoeocodfndbebaaGreatDoorZC39
set_option maxRecDepth 20000
set_option maxHeartbeats 16000000
namespace Go.Proofs.YtoeocodfndbebaaGreatDoor
section
open Go.RowKit
theorem dst_else_no (w:World) (b c k:Nat) (A:Option Addr) (l:List Int) (tv:Value) (T:List Tok) (R:Wr (List Tok)) (H:Hid (IsD w b A l c k tv T 0 0)) (hk:k < l.length) (HTK:Hid (T.length≤k)) (y:Int) (HY:Hid (l[k]'hk=y)) (hwf:(Lit.int .i64 y).wf=true) (hpl:plM y=none) (hn63:y≠63) (hn42:y≠42) (hn43:y≠43) (hn123:y≠123) (hn91:y≠91) (q:Nat) (x:Int) (hb:itemT l k=.error (q,x)) (HN:Hid (R=.error (q,x))) :
 Calls Tryz.prog 44 #[.pointer (some ⟨b,0,none⟩)] w (fun e w'=>e=.returned (.tuple #[])∧Below b w w'∧StD w' b c A l R k):=by
 have e63:(y == 63)=false:=by simpa using hn63
 have e42:(y == 42)=false:=by simpa using hn42
 have e43:(y == 43)=false:=by simpa using hn43
 have e123:(y == 123)=false:=by simpa using hn123
 have e91:(y == 91)=false:=by simpa using hn91
 have HX:Hid (x≠0):=qh (itemT_no hk hb)
 have HO:=qh fun u A hu=>done_any u b c k A l tv T hu hk
 rw [hb] at HO
 clear hb
 have hmm:=@run_makeMap Tryz.prog
 have HM:=qh (mapAt_made w)
 have HB:=qh (below_alloc w (.map #[] 0))
 have HV:Hid ((plM y).getD 0=0):=qh (by rw [hpl];rfl)
 have HK:=qh hk
 have hbw:=H.out.lt
 have k0:(0:Int)≤(k:Int):=by omega
 have k1':(k:Int) < (l.length:Int):=by omega
 have hw:=bw k (by have:=H.out.few;omega)
 obtain ⟨g,off,hA,-,-⟩:=H.out.char hk
 subst hA
 have c0:=H.out.c0
 have c1:=H.out.c1
 have cc:=H.out.charAt hk HY.out
 go_enter Tryz.func44,Tryz.ntmps44
 go_wp2_with (first
  | (refine insert_at rfl rfl Tryz.underlying94 rfl HM.out (by decide) rfl rfl (by decide) (by decide) ?_;intro w1 h1 g1;replace HM:=qh h1;replace HB:=qh (ins_step HB.out g1 (Nat.le_refl _));clear h1 g1;go_frame)
  | (at_lookup;have HM6:Hid (MapAt w1 w.heap.size 6 plM):=qh (HM.out.cong fun z=>by unfold plM;rfl);have H1:=qh (H.out.belowUp HB.out);have B1:Hid (Below b w w1):=qh (HB.out.mono (by omega));clear HM c0 c1 cc;have c0:=H1.out.c0;have c1:=H1.out.c1;refine look_def rfl rfl Tryz.underlying94 rfl HM6.out rfl hwf ?_;rw [HV.out];go_frame)
  | fail)
 clear hmm
 clear c0 c1
 refine (HO.out w1 _ H1.out).mono ?_
 rintro e w3 ⟨g3,⟨zz,gg,rfl⟩,k',h3⟩
 have H3:=qh h3
 have B3:=qh (B1.out.trans (below_row g3 (Nat.le_refl _) (by have:=H1.out.lt;omega)))
 clear h3 g3
 rcases gg with _ | _
 ·go_wp2_with (first
   | (refine store_tok (w3.alloc _) _ _ w3.heap.size noTok ⟨1,zz,0,0,(k:Int)⟩ rfl rfl rfl rfl rfl (Box.new w3 _ _) ?_;intro w4 x4 g4;have X4:=qh x4;have H4:=qh ((H3.out.grown (grown_new w3 _ none)).new g4 H3.out.lt (H3.out.old (Nat.le_refl _)));have B4:Hid (Below b w w4):=qh (B3.out.trans ((below_row (grown_new w3 _ (some b)) (Nat.le_refl _) (by have:=H3.out.lt;omega)).trans (below_row g4 (by have:=H3.out.lt;omega) (by have:=H3.out.lt;simp;omega))));clear x4 g4)
   | (refine load_box _ w3.heap.size _ _ rfl rfl rfl X4.out Tryz.underlying56 rfl (tokInfo _) ?_)
   | fail)
  refine (dput_any w4 b c k' _ l tv T q x H4.out (by have:=HTK.out;have:=H4.out.few;omega) ⟨1,zz,0,0,(k:Int)⟩).mono ?_
  rintro e w8 ⟨rfl,⟨tv8,h8⟩,b8⟩
  have H8:=qh h8
  have B8:=qh (B4.out.trans b8)
  clear h8 b8
  go_wp2_with fail
  exact bodyPost_end (results_none rfl _ _ _) rfl ⟨rfl,B8.out,.inr ⟨_,_,_,_,_,H8.out,HX.out,HN.out,by have:=HTK.out;have:=H8.out.few;simp;omega⟩⟩
 ·go_wp2_with (first
   | (refine store_tok (w3.alloc _) _ _ w3.heap.size noTok ⟨1,zz,0,0,(k:Int)⟩ rfl rfl rfl rfl rfl (Box.new w3 _ _) ?_;intro w4 x4 g4;have X4:=qh x4;have H4:=qh ((H3.out.grown (grown_new w3 _ none)).new g4 H3.out.lt (H3.out.old (Nat.le_refl _)));have B4:Hid (Below b w w4):=qh (B3.out.trans ((below_row (grown_new w3 _ (some b)) (Nat.le_refl _) (by have:=H3.out.lt;omega)).trans (below_row g4 (by have:=H3.out.lt;omega) (by have:=H3.out.lt;simp;omega))));clear x4 g4)
   | (refine store_in w4 _ _ w3.heap.size 0 (.int .i64 12) _ rfl rfl rfl intInfo rfl rfl rfl X4.out (by simp) (by simp [maxLen]) ?_;intro w5 x5 g5;have X5:Hid (Box w5 w3.heap.size (⟨12,zz,0,0,(k:Int)⟩:Tok).arr 56):=qh x5;have H5:=qh (H4.out.new g5 H3.out.lt (H3.out.old (Nat.le_refl _)));have B5:=qh (B4.out.trans (below_row g5 (by have:=H3.out.lt;omega) (by have:=H4.out.lt;omega)));clear x5 g5)
   | (refine load_box _ w3.heap.size _ _ rfl rfl rfl X5.out Tryz.underlying56 rfl (tokInfo _) ?_)
   | fail)
  refine (dput_any w5 b c k' _ l tv T q x H5.out (by have:=HTK.out;have:=H5.out.few;omega) ⟨12,zz,0,0,(k:Int)⟩).mono ?_
  rintro e w8 ⟨rfl,⟨tv8,h8⟩,b8⟩
  have H8:=qh h8
  have B8:=qh (B5.out.trans b8)
  clear h8 b8
  go_wp2_with fail
  exact bodyPost_end (results_none rfl _ _ _) rfl ⟨rfl,B8.out,.inr ⟨_,_,_,_,_,H8.out,HX.out,HN.out,by have:=HTK.out;have:=H8.out.few;simp;omega⟩⟩
theorem dst_else_ok (w:World) (b c k:Nat) (A:Option Addr) (l:List Int) (tv:Value) (T:List Tok) (R:Wr (List Tok)) (H:Hid (IsD w b A l c k tv T 0 0)) (hk:k < l.length) (HTK:Hid (T.length≤k)) (y:Int) (HY:Hid (l[k]'hk=y)) (hwf:(Lit.int .i64 y).wf=true) (hpl:plM y=none) (hn63:y≠63) (hn42:y≠42) (hn43:y≠43) (hn123:y≠123) (hn91:y≠91) (t:Tok) (k1:Nat) (hb:itemT l k=.ok (t,k1)) (HN:Hid (RD l false k1 (T++[⟨t.k,t.c,0,0,(k:Int)⟩])=R)) :
 Calls Tryz.prog 44 #[.pointer (some ⟨b,0,none⟩)] w (fun e w'=>e=.returned (.tuple #[])∧Below b w w'∧StD w' b c A l R k):=by
 have e63:(y == 63)=false:=by simpa using hn63
 have e42:(y == 42)=false:=by simpa using hn42
 have e43:(y == 43)=false:=by simpa using hn43
 have e123:(y == 123)=false:=by simpa using hn123
 have e91:(y == 91)=false:=by simpa using hn91
 have hkind:=itemT_kind hb
 have HKK:=qh (itemT_ok hb)
 obtain ⟨ch,hch⟩:∃ ch,t.c=ch:=⟨_,rfl⟩
 rw [hch] at HN
 have HCH:=qh hch
 have HO:=qh fun u A hu=>done_any u b c k A l tv T hu hk
 rw [hb] at HO
 clear hb hch
 have hmm:=@run_makeMap Tryz.prog
 have HM:=qh (mapAt_made w)
 have HB:=qh (below_alloc w (.map #[] 0))
 have HV:Hid ((plM y).getD 0=0):=qh (by rw [hpl];rfl)
 have HK:=qh hk
 have hbw:=H.out.lt
 have k0:(0:Int)≤(k:Int):=by omega
 have k1':(k:Int) < (l.length:Int):=by omega
 have hw:=bw k (by have:=H.out.few;omega)
 obtain ⟨g,off,hA,-,-⟩:=H.out.char hk
 subst hA
 have c0:=H.out.c0
 have c1:=H.out.c1
 have cc:=H.out.charAt hk HY.out
 go_enter Tryz.func44,Tryz.ntmps44
 go_wp2_with (first
  | (refine insert_at rfl rfl Tryz.underlying94 rfl HM.out (by decide) rfl rfl (by decide) (by decide) ?_;intro w1 h1 g1;replace HM:=qh h1;replace HB:=qh (ins_step HB.out g1 (Nat.le_refl _));clear h1 g1;go_frame)
  | (at_lookup;have HM6:Hid (MapAt w1 w.heap.size 6 plM):=qh (HM.out.cong fun z=>by unfold plM;rfl);have H1:=qh (H.out.belowUp HB.out);have B1:Hid (Below b w w1):=qh (HB.out.mono (by omega));clear HM c0 c1 cc;have c0:=H1.out.c0;have c1:=H1.out.c1;refine look_def rfl rfl Tryz.underlying94 rfl HM6.out rfl hwf ?_;rw [HV.out];go_frame)
  | fail)
 clear hmm
 clear c0 c1
 refine (HO.out w1 _ H1.out).mono ?_
 rintro e w3 ⟨g3,rfl,h3⟩
 rw [HCH.out]
 have H3:=qh h3
 have B3:=qh (B1.out.trans (below_row g3 (Nat.le_refl _) (by have:=H1.out.lt;omega)))
 clear h3 g3
 rcases hkind with hq | hq
 ·rw [hq] at HN ⊢
  rw [show ((1:Int) == 12)=false from rfl]
  clear hq
  go_wp2_with (first
   | (refine store_tok (w3.alloc _) _ _ w3.heap.size noTok ⟨1,ch,0,0,(k:Int)⟩ rfl rfl rfl rfl rfl (Box.new w3 _ _) ?_;intro w4 x4 g4;have X4:=qh x4;have H4:=qh ((H3.out.grown (grown_new w3 _ none)).new g4 H3.out.lt (H3.out.old (Nat.le_refl _)));have B4:Hid (Below b w w4):=qh (B3.out.trans ((below_row (grown_new w3 _ (some b)) (Nat.le_refl _) (by have:=H3.out.lt;omega)).trans (below_row g4 (by have:=H3.out.lt;omega) (by have:=H3.out.lt;simp;omega))));clear x4 g4)
   | (refine load_box _ w3.heap.size _ _ rfl rfl rfl X4.out Tryz.underlying56 rfl (tokInfo _) ?_)
   | fail)
  refine (dput_any w4 b c k1 _ l tv T 0 0 H4.out (by have:=HTK.out;have:=H4.out.few;omega) ⟨1,ch,0,0,(k:Int)⟩).mono ?_
  rintro e w8 ⟨rfl,⟨tv8,h8⟩,b8⟩
  have H8:=qh h8
  have B8:=qh (B4.out.trans b8)
  clear h8 b8
  go_wp2_with fail
  exact bodyPost_end (results_none rfl _ _ _) rfl ⟨rfl,B8.out,.inl ⟨_,_,_,H8.out,HN.out,by have:=HTK.out;have:=HKK.out;simp;omega,fun h=>by simp [lastR] at h,by have:=HKK.out;omega⟩⟩
 ·rw [hq] at HN ⊢
  rw [show ((12:Int) == 12)=true from rfl]
  clear hq
  go_wp2_with (first
   | (refine store_tok (w3.alloc _) _ _ w3.heap.size noTok ⟨1,ch,0,0,(k:Int)⟩ rfl rfl rfl rfl rfl (Box.new w3 _ _) ?_;intro w4 x4 g4;have X4:=qh x4;have H4:=qh ((H3.out.grown (grown_new w3 _ none)).new g4 H3.out.lt (H3.out.old (Nat.le_refl _)));have B4:Hid (Below b w w4):=qh (B3.out.trans ((below_row (grown_new w3 _ (some b)) (Nat.le_refl _) (by have:=H3.out.lt;omega)).trans (below_row g4 (by have:=H3.out.lt;omega) (by have:=H3.out.lt;simp;omega))));clear x4 g4)
   | (refine store_in w4 _ _ w3.heap.size 0 (.int .i64 12) _ rfl rfl rfl intInfo rfl rfl rfl X4.out (by simp) (by simp [maxLen]) ?_;intro w5 x5 g5;have X5:Hid (Box w5 w3.heap.size (⟨12,ch,0,0,(k:Int)⟩:Tok).arr 56):=qh x5;have H5:=qh (H4.out.new g5 H3.out.lt (H3.out.old (Nat.le_refl _)));have B5:=qh (B4.out.trans (below_row g5 (by have:=H3.out.lt;omega) (by have:=H4.out.lt;omega)));clear x5 g5)
   | (refine load_box _ w3.heap.size _ _ rfl rfl rfl X5.out Tryz.underlying56 rfl (tokInfo _) ?_)
   | fail)
  refine (dput_any w5 b c k1 _ l tv T 0 0 H5.out (by have:=HTK.out;have:=H5.out.few;omega) ⟨12,ch,0,0,(k:Int)⟩).mono ?_
  rintro e w8 ⟨rfl,⟨tv8,h8⟩,b8⟩
  have H8:=qh h8
  have B8:=qh (B5.out.trans b8)
  clear h8 b8
  go_wp2_with fail
  exact bodyPost_end (results_none rfl _ _ _) rfl ⟨rfl,B8.out,.inl ⟨_,_,_,H8.out,HN.out,by have:=HTK.out;have:=HKK.out;simp;omega,fun h=>by simp [lastR] at h,by have:=HKK.out;omega⟩⟩
theorem dstep_any (w:World) (b c k:Nat) (A:Option Addr) (l:List Int) (tv:Value) (T:List Tok) (R:Wr (List Tok)) (h:IsD w b A l c k tv T 0 0) (hk:k < l.length) (hT:T.length≤k) (hwf:∀ x∈l,(Lit.int .i64 x).wf=true) (hR:RD l false k T=R) (hl:lastR T=true→l[k]?≠some 63) :
 Calls Tryz.prog 44 #[.pointer (some ⟨b,0,none⟩)] w (fun e w'=>e=.returned (.tuple #[])∧Below b w w'∧StD w' b c A l R k):=by
 have H:=qh h
 have HTK:=qh hT
 obtain ⟨y,hy⟩:∃ y:Int,l[k]'hk=y:=⟨_,rfl⟩
 have hw:(Lit.int .i64 y).wf=true:=by rw [← hy];exact hwf _ (List.getElem_mem hk)
 have HY:Hid (l[k]'hk=y):=qh hy
 cases hpl:plM y with
 | some v =>
  have h1:=st_plain (T:=T) hk (v:=v) (by rw [hy];exact hpl)
  have hv:0 < v:=by
   unfold plM at hpl
   repeat' split at hpl
   all_goals first | (injection hpl with hpl;omega) | cases hpl
  exact dst_plain w b c k A l tv T R H hk HTK y HY hw v hpl (decide_eq_true hv) (qh (by rw [← h1.1];exact hR)) h1.2
 | none =>
  by_cases h63:y=63
  ·exact dst_rep63 w b c k A l tv T R H hk HTK y HY hw h63 (qh (by rw [← st_rep hk hy (.inl ⟨h63,rfl,rfl⟩) hl];exact hR))
  by_cases h42:y=42
  ·exact dst_rep42 w b c k A l tv T R H hk HTK y HY hw h42 (qh (by rw [← st_rep hk hy (.inr (.inl ⟨h42,rfl,rfl⟩)) hl];exact hR))
  by_cases h43:y=43
  ·exact dst_rep43 w b c k A l tv T R H hk HTK y HY hw h43 (qh (by rw [← st_rep hk hy (.inr (.inr ⟨h43,rfl,rfl⟩)) hl];exact hR))
  by_cases h123:y=123
  ·have hb:=st_bra (T:=T) hk (hy.trans h123)
   rcases hbr:braT l k (k+1) with ⟨q,x⟩ | ⟨t,k1⟩
   ·rw [hbr] at hb
    exact dst_bra_no w b c k A l tv T R H hk HTK y HY hw h123 q x hbr (qh (by rw [← hR];exact hb))
   ·rw [hbr] at hb
    exact dst_bra_ok w b c k A l tv T R H hk HTK y HY hw h123 t k1 hbr (qh (by rw [← hR];exact hb.symm))
  by_cases h91:y=91
  ·have hc:=st_cls (T:=T) hk (hy.trans h91)
   obtain ⟨n,hn⟩:∃ n,k+1=n:=⟨_,rfl⟩
   have HNK:=qh hn
   rw [hn] at hc
   by_cases hnl:n < l.length
   ·by_cases h94:l[n]'hnl=94
    ·have e:claT l n=(⟨7,1,0,0,0⟩,n+1):=by unfold claT;rw [if_pos (by rw [List.getElem?_eq_getElem hnl,h94])]
     rw [e] at hc
     exact dst_cls_is w b c k A l tv T R H hk HTK y HY hw h91 n HNK hnl _ rfl (by simpa using h94) (qh (by rw [← hR];exact hc.symm))
    ·have e:claT l n=(⟨7,0,0,0,0⟩,n):=by unfold claT;rw [if_neg (by rw [List.getElem?_eq_getElem hnl];simpa using h94)]
     rw [e] at hc
     exact dst_cls_not w b c k A l tv T R H hk HTK y HY hw h91 n HNK hnl _ rfl (by simpa using h94) (qh (by rw [← hR];exact hc.symm))
   ·have e:claT l n=(⟨7,0,0,0,0⟩,n):=by unfold claT;rw [if_neg (by rw [List.getElem?_eq_none (by omega)];simp)]
    rw [e] at hc
    exact dst_cls_none w b c k A l tv T R H hk HTK y HY hw h91 n HNK (by omega) (qh (by rw [← hR];exact hc.symm))
  have he:=st_else (T:=T) hk hy hpl h63 h42 h43 h123 h91
  rcases hb:itemT l k with ⟨q,x⟩ | ⟨t,k1⟩
  ·rw [hb] at he
   exact dst_else_no w b c k A l tv T R H hk HTK y HY hw hpl h63 h42 h43 h123 h91 q x hb (qh (by rw [← hR];exact he))
  ·rw [hb] at he
   exact dst_else_ok w b c k A l tv T R H hk HTK y HY hw hpl h63 h42 h43 h123 h91 t k1 hb (qh (by rw [← hR];exact he.symm))
end
section
open Go.RowKit
theorem rof15_any (w:World) (c:Nat) (A:Option Addr) (l:List Int) (h:Lies w w.heap.size A (ints .i64 l)) (hwf:∀ x∈l,(Lit.int .i64 x).wf=true) :
 Calls Tryz.prog 24 #[.slice A l.length c] w (OfTo w (ofT l)):=by
 by_cases h200:200 < l.length
 ·have hr:ofT l=.error (0,10):=by unfold ofT;rw [if_pos h200]
  rw [hr]
  have d1:decide ((l.length:Int) > 200)=true:=decide_eq_true (by omega)
  have d2:decide (200 < (l.length:Int))=true:=d1
  have d3:decide (200 < l.length)=true:=decide_eq_true h200
  clear h h200 hr hwf
  go_enter Tryz.func24,Tryz.ntmps24
  go_wp2_with fail
  go_ret3
  exact ⟨rfl,Below.refl _ _⟩
 ·obtain ⟨R,hR⟩:∃ R,RD l false 0 []=R:=⟨_,rfl⟩
  rw [RD_of h200,hR]
  have d1:decide ((l.length:Int) > 200)=false:=decide_eq_false (by omega)
  have d2:decide (200 < (l.length:Int))=false:=d1
  have d3:decide (200 < l.length)=false:=decide_eq_false h200
  have HWF:=qh hwf
  have H0:Hid (IsD (w.alloc (.cells #[.slice A l.length c,.int .i64 0,.slice none 0 0,.int .i64 0,.int .i64 0] 77)) w.heap.size A l c 0 (.slice none 0 0) [] 0 0):=qh ⟨Box.new w _ _,OwnN.empty _ _ _ _,h.alloc (Nat.le_refl _) _,by omega,by omega⟩
  have B0:Hid (Below w.heap.size w (w.alloc (.cells #[.slice A l.length c,.int .i64 0,.slice none 0 0,.int .i64 0,.int .i64 0] 77))):=qh (below_alloc w _)
  have HR0:=qh hR
  clear h hwf h200 hR
  go_enter Tryz.func24,Tryz.ntmps24
  go_wp2_with fail
  go_loopw [] (fun wr=>Hid ((∃ k tv T,IsD wr w.heap.size A l c k tv T 0 0∧RD l false k T=R∧T.length≤k∧(lastR T=true→l[k]?≠some 63))∨(∃ k tv T p x,IsD wr w.heap.size A l c k tv T (p:Nat) x∧x≠0∧R=.error (p,x)∧T.length≤300))∧Hid (Below w.heap.size w wr)) (fun wr=>clsLeft w.heap.size l.length wr)
  case atStart=>exact ⟨qh (.inl ⟨_,_,_,H0.out,HR0.out,by simp,fun h=>by simp [lastR] at h⟩),B0⟩
  case round =>
   clear H0 B0 HR0
   obtain ⟨HC,HB⟩:=hrel
   rcases HC.out with ⟨k,tv,T,h,hR,hT,hl⟩ | ⟨k,tv,T,p,x,h,hx,hR,hT⟩
   ·have H:=qh h
    have HRR:=qh hR
    have hle:=h.le
    have c1:=h.c1
    have c4:=h.c4
    by_cases hk:k < l.length
    ·have HST:=qh (dstep_any wr w.heap.size c k A l tv T R h hk hT HWF.out hR hl)
     have e1:decide ((k:Int) < (l.length:Int))=true:=decide_eq_true (by omega)
     have e2:decide (k < l.length)=true:=decide_eq_true hk
     clear HC h hR hT hl
     go_wp2_with fail
     refine HST.out.mono ?_
     rintro e w2 ⟨rfl,b2,s2⟩
     have B2:=qh (HB.out.trans b2)
     have S2:=qh s2
     clear b2 s2
     go_wp2_with fail
     rcases S2.out with ⟨k',tv',T',h',hR',hT',hl',hkk⟩ | ⟨k',tv',T',p',x',h',hx',hR',hT'⟩
     ·exact ⟨⟨qh (.inl ⟨k',tv',T',h',hR',hT',hl'⟩),B2⟩,clsLeft_right H.out h' hkk h'.le⟩
     ·exact ⟨⟨qh (.inr ⟨k',tv',T',p',x',h',hx',hR',hT'⟩),B2⟩,clsLeft_wrong H.out h' hx' hle⟩
    ·have hkl:k=l.length:=by omega
     subst hkl
     have e1:decide ((l.length:Int) < (l.length:Int))=false:=by simp
     have c2:=h.c2
     rw [RD_end] at hR
     have HRE:=qh hR
     obtain ⟨At,ct,rfl,-,-,-⟩:=h.toks.form
     clear HC h hR hT hl hk HRR
     go_wp2_with fail
     go_ret3
     rw [← HRE.out]
     exact ⟨⟨_,rfl,H.out.toks.weaken (Nat.le_succ _)⟩,HB.out⟩
   ·have H:=qh h
    have HRR:=qh hR
    have c1:=h.c1
    have c3:=h.c3
    have c4:=h.c4
    have e1:(x == 0)=false:=by simpa using hx
    have e2:(x != 0)=true:=by simpa using hx
    clear HC h hR hT hx
    go_wp2_with fail
    go_quiet (fail)
    go_wp2_with fail
    go_ret3
    rw [HRR.out]
    exact ⟨rfl,below_drawn HB.out _⟩
end
section
open Go.RowKit
theorem size_plain (k lo hi:Int) (rs:List (Int×Int)) (ks:List Nd):sizeI (.mk k lo hi rs ks)=min 1000000 (1+min (timesI k lo hi) 1000000 * sumI ks):=by
 have ht:=times_pos k lo hi
 rw [← dSize_is,dSize,dSizeL_is ks (by omega) (by omega) (by omega)]
theorem times_ways (k lo hi t:Int) (h:min (timesI k lo hi) 1000000=t):((k == 5)=false∧t=1)∨((k == 5)=true∧decide (hi < 0)=false∧∃ z,max 1 hi=z∧min z 1000000=t)∨((k == 5)=true∧decide (hi < 0)=true∧max 1 hi=1∧∃ a z,min lo 1000000=a∧max 1 (IntKind.i64.wrap (a+1))=z∧min z 1000000=t):=by
 unfold timesI at h
 by_cases hk:k=5
 ·subst hk
  rw [if_pos rfl] at h
  by_cases hh:hi < 0
  ·rw [if_pos hh] at h
   refine .inr (.inr ⟨rfl,decide_eq_true hh,by omega,_,_,rfl,rfl,?_⟩)
   rw [Int.max_comm]
   exact h
  ·rw [if_neg hh] at h
   refine .inr (.inl ⟨rfl,decide_eq_false hh,_,rfl,?_⟩)
   rw [Int.max_comm]
   exact h
 ·rw [if_neg hk] at h
  exact .inl ⟨by simpa using hk,by omega⟩
theorem rsize16_any {w:World} {P:Nat→Prop} {n:Nd} {v:Array Value} (h:Treed w P n v):∀ (u:World),(∀ b,P b→b < w.heap.size→u.heap[b]?=w.heap[b]?)→w.heap.size≤u.heap.size →
 Calls Tryz.prog 27 #[.agg v] u fun e u'=>e=.returned (.int .i64 (sizeI n))∧u.grownBy u' none:=by
 induction h with
 | @mk k lo hi rs ks A A' c c' vs h1 hc h0 h2 hc' hk ih =>
  intro u hu hs
  have HU:=qh hu
  have HIH:=qh ih
  have H2:=qh h2
  have H5:Hid (∀ v∈vs,v.size=5):=qh fun v hv=>by
   obtain ⟨i,hi,rfl⟩:=List.getElem_of_mem hv
   exact (hk i hi (by omega)).size
  have HFO:=qh (fun (i:Nat) (hi:i < vs.length)=>(hk i hi (by omega)).form)
  have HN0:=qh h0
  have HS:=qh hs
  rw [size_plain]
  obtain ⟨t,ht⟩:∃ t,min (timesI k lo hi) 1000000=t:=⟨_,rfl⟩
  have htp:1≤t∧t≤1000000:=by have:=times_pos k lo hi;omega
  have HWAY:=qh (times_ways k lo hi t ht)
  rw [ht]
  have X0:Hid (Box (u.alloc (.cells #[.int .i64 k,.slice A rs.length c,.int .i64 lo,.int .i64 hi,.slice A' ks.length c'] 25)) u.heap.size #[.int .i64 k,.slice A rs.length c,.int .i64 lo,.int .i64 hi,.slice A' ks.length c'] 25):=qh (Box.new u _ _)
  have HNN:=qh (fun i=>sumI_nn (ks.take i))
  have hkl:ks.length≤9223372036854775807:=by have h1:=hc'.1;have h2:=hc'.2;unfold maxLen at h2;omega
  clear h1 h2 hc hc' hk ih hu hs ht
  go_enter Tryz.func27,Tryz.ntmps27
  go_wp2_with fail
  go_loopw [4,3] (fun iv sv wr=>∃ (i:Nat),i≤ks.length∧iv=.int .i64 i∧sv=.int .i64 (min 1000000 (1+t * sumI (ks.take i)))∧Hid (u.grownBy wr none)∧Hid (Box wr u.heap.size #[.int .i64 k,.slice A rs.length c,.int .i64 lo,.int .i64 hi,.slice A' ks.length c'] 25)) (fun iv _ _=>ks.length - (intOf iv).toNat)
  case atStart=>exact ⟨0,by omega,rfl,by simp [sumI];omega,qh (grown_new u _ none),X0⟩
  case round =>
   obtain ⟨i,hi',rfl,rfl,HG,HX⟩:=hrel
   have e0:wr.cell? ⟨u.heap.size,0,none⟩=some (.int .i64 k):=HX.out.cell rfl
   have e2:wr.cell? ⟨u.heap.size,2,none⟩=some (.int .i64 lo):=HX.out.cell rfl
   have e3:wr.cell? ⟨u.heap.size,3,none⟩=some (.int .i64 hi):=HX.out.cell rfl
   have e4:wr.cell? ⟨u.heap.size,4,none⟩=some (.slice A' ks.length c'):=HX.out.cell rfl
   by_cases hlt:i < ks.length
   ·have hlv:i < vs.length:=by have:=HN0.out;omega
    have hagree:∀ b,P b→b < w.heap.size→wr.heap[b]?=w.heap[b]?:=fun b hb hl=>(HG.out.block b (by have:=HS.out;omega) (by simp)).trans (HU.out b hb hl)
    obtain ⟨g,off,rfl,hg,hcell⟩:=kid_at H2.out H5.out hagree hlv
    obtain ⟨k1,Ar,nr,cr,lo1,hi1,Ak,nk,ck,hv⟩:=HFO.out i hlv
    have q0:wr.cell? ⟨g,off+i * 5,none⟩=vs[i][0]?:=hcell 0 (by decide)
    have q1:=hcell 1 (by decide)
    have q2:=hcell 2 (by decide)
    have q3:=hcell 3 (by decide)
    have q4:=hcell 4 (by decide)
    rw [hv] at q0 q1 q2 q3 q4
    have hrec:=HIH.out i hlv hlt wr hagree (Nat.le_trans HS.out HG.out.size)
    rw [hv] at hrec
    have hin:=sizeI_in ks[i]
    have HNX:=qh (sumI_next hlt)
    have HN1:=HNN.out i
    obtain ⟨y,hy⟩:∃ s,sizeI ks[i]=s:=⟨_,rfl⟩
    obtain ⟨s0,hs0⟩:∃ s,sumI (ks.take i)=s:=⟨_,rfl⟩
    rw [hy] at hrec hin HNX
    rw [hs0] at HN1 HNX ⊢
    have HRC:=qh hrec
    have b0:(0:Int)≤(i:Int):=by omega
    have b1:(i:Int) < (ks.length:Int):=by omega
    obtain ⟨s,hss⟩:∃ s,min 1000000 (1+t * s0)=s:=⟨_,rfl⟩
    have hts:0≤t * s0:=Int.mul_nonneg (by omega) HN1
    have hsb:1≤s∧s≤1000000:=by omega
    have hty:0≤t * y:=Int.mul_nonneg (by omega) (by omega)
    have hty2:t * y≤1000000 * 1000000:=Int.le_trans (Int.mul_le_mul_of_nonneg_right htp.2 (by omega)) (Int.mul_le_mul_of_nonneg_left hin.2 (by omega))
    have HST:Hid (min 1000000 (s+t * y)=min 1000000 (1+t * (s0+y))):=qh (dSize_step htp.1 HN1 (by omega) hss.symm)
    rw [hss]
    obtain ⟨p,hp⟩:∃ p,t * y=p:=⟨_,rfl⟩
    rw [hp] at hty hty2 HST
    have hw1:IntKind.i64.wrap (t * y)=p:=by rw [hp];exact IntWalk.i64_in _ (by omega)
    have hw2:IntKind.i64.wrap (s+p)=s+p:=IntWalk.i64_in _ (by omega)
    obtain ⟨zz,hzz⟩:∃ z,min 1000000 (s+p)=z:=⟨_,rfl⟩
    rw [hzz] at HST
    have f1:(if s+p < 1000000 then s+p else (1000000:Int))=zz:=by rw [← hzz];split <;> omega
    have f2:(if 1000000 < s+p then (1000000:Int) else s+p)=zz:=by rw [← hzz];split <;> omega
    have f3:min (s+p) 1000000=zz:=by omega
    have HTP:=qh htp
    simp only [List.getElem?_toArray,List.getElem?_cons_zero,List.getElem?_cons_succ] at q0 q1 q2 q3 q4
    clear hcell hv hrec hagree hy hs0 hts hsb hty hty2 hp hss hin HN1
    rcases HWAY.out with ⟨d1,rfl⟩ | ⟨d1,d2,z,g1,g2⟩ | ⟨d1,d2,g0,a,z,g1,g2,g3⟩
    ·have hm1:min (1:Int) 1000000=1:=by omega
     have hy1:IntKind.i64.wrap y=p:=by rw [← hw1,Int.one_mul]
     clear htp
     go_wp2_with fail
     refine HRC.out.mono ?_
     rintro e w2 ⟨rfl,g2⟩
     have HG2:=qh (HG.out.trans g2)
     have HX2:=qh (HX.out.kept g2 (by simp))
     clear g2
     go_wp2_with fail
     go_roundw
     case rel=>exact ⟨i+1,by omega,by go_num,by rw [HNX.out,← HST.out],HG2,HX2⟩
     case measure=>simp [intOf];omega
    ·have i1:(if hi > 1 then hi else (1:Int))=z:=by rw [← g1];split <;> omega
     have i2:(if 1 > hi then (1:Int) else hi)=z:=by rw [← g1];split <;> omega
     have i3:max hi 1=z:=by omega
     have i4:(if 1000000 < z then (1000000:Int) else z)=t:=by rw [← g2];split <;> omega
     have i5:(if z < 1000000 then z else (1000000:Int))=t:=by rw [← g2];split <;> omega
     clear htp
     go_wp2_with fail
     refine HRC.out.mono ?_
     rintro e w2 ⟨rfl,g2⟩
     have HG2:=qh (HG.out.trans g2)
     have HX2:=qh (HX.out.kept g2 (by simp))
     clear g2
     go_wp2_with fail
     go_roundw
     case rel=>exact ⟨i+1,by omega,by go_num,by rw [HNX.out,← HST.out],HG2,HX2⟩
     case measure=>simp [intOf];omega
    ·have i1:(if hi > 1 then hi else (1:Int))=1:=by split <;> omega
     have i2:(if 1 > hi then (1:Int) else hi)=1:=by split <;> omega
     have i3:max hi 1=1:=by omega
     have i4:(if 1000000 < lo then (1000000:Int) else lo)=a:=by rw [← g1];split <;> omega
     have i5:(if lo < 1000000 then lo else (1000000:Int))=a:=by rw [← g1];split <;> omega
     obtain ⟨x,hx⟩:∃ x,IntKind.i64.wrap (a+1)=x:=⟨_,rfl⟩
     rw [hx] at g2
     have i6:(if x > 1 then x else (1:Int))=z:=by rw [← g2];split <;> omega
     have i7:(if 1 > x then (1:Int) else x)=z:=by rw [← g2];split <;> omega
     have i8:max x 1=z:=by omega
     have i9:(if 1000000 < z then (1000000:Int) else z)=t:=by rw [← g3];split <;> omega
     have i10:(if z < 1000000 then z else (1000000:Int))=t:=by rw [← g3];split <;> omega
     clear htp
     go_wp2_with fail
     refine HRC.out.mono ?_
     rintro e w2 ⟨rfl,g2⟩
     have HG2:=qh (HG.out.trans g2)
     have HX2:=qh (HX.out.kept g2 (by simp))
     clear g2
     go_wp2_with fail
     go_roundw
     case rel=>exact ⟨i+1,by omega,by go_num,by rw [HNX.out,← HST.out],HG2,HX2⟩
     case measure=>simp [intOf];omega
   ·obtain rfl:i=ks.length:=by omega
    rw [List.take_length]
    go_wp2_with fail
    go_ret
    exact ⟨rfl,HG.out⟩
end
end Go.Proofs.YtoeocodfndbebaaGreatDoor
