/- Shared texts, shaken for one claim. -/
import Derived.ScopeJumps
import Derived.WalkMore
import Derived.Test.YtoeocodfndbebaaGreatDoorZC10
set_option maxRecDepth 20000
set_option maxHeartbeats 16000000
namespace Go.Proofs.YtoeocodfndbebaaGreatDoor
section
open Go.RowKit
def ToldT (w:World) (b:Nat) (A:Option Addr) (l:List Int) (c:Nat) (T:List Tok) (r:Wr (Tok×Nat)) (ed:Ending) (w':World):Prop:=match r with
 | .ok (t,k')=>ed=.returned (.int .i64 t.k)∧(∃ tv',IsR w' b A l c k' tv' (T++[t]))∧Below b w w'
 | .error (n,x)=>ed=.panicked [{ v:=.iface 86 (.agg #[.int .i64 n,.int .i64 x]),recovered:=false }]∧Below b w w'
theorem plT_no {fr:Nat} {r:Wr (Tok×Nat)} {e:Nat×Int} (h:r=.error e):plT fr r=.error e:=by rw [h];rfl
theorem plT_yes {fr:Nat} {r:Wr (Tok×Nat)} {t:Tok} {k:Nat} (h:r=.ok (t,k)):plT fr r=.ok (t.laid fr,k):=by rw [h];rfl
theorem tkoutside_any (w:World) (b c k:Nat) (A:Option Addr) (l:List Int) (tv:Value) (T:List Tok) (h:IsR w b A l c k tv T) (hl:l.length≤1000) (hT:T.length≤1000) :
 Calls Tryz.prog 92 #[.pointer (some ⟨b,0,none⟩)] w (ToldT w b A l c T (outT l (lastR T) k)):=by
 have hbw:b≤w.heap.size:=Nat.le_of_lt h.lt
 obtain ⟨c0,c1,c2⟩:=h.cells
 have H:=qh h
 obtain ⟨R,hR⟩:∃ R,outT l (lastR T) k=R:=⟨_,rfl⟩
 rw [hR]
 have HN:=qh (tknext_any w b c k A l tv T h hl)
 clear h
 unfold outT at hR
 rcases hn:nxT l k with ⟨n,x⟩ | ⟨x,k'⟩
 ·rw [hn] at HN
  have HR:Hid (R=.error (n,x)):=qh (by rw [← hR];refine plT_no ?_;unfold outB;rw [hn])
  clear hn hR
  go_enter Tryz.func92,Tryz.ntmps92
  go_wp2_with fail
  refine HN.out.mono ?_
  rintro e w1 ⟨rfl,g1⟩
  have G1:=qh (below_row g1 (Nat.le_refl _) hbw)
  clear g1
  go_wp2_with fail
  exact ⟨rfl,by rw [HR.out];exact ⟨rfl,G1.out⟩⟩
 ·rw [hn] at HN
  have hk':=(nxT_ok hn).1
  by_cases h63:x=63
  ·subst h63
   have HR:Hid (R=.ok ((repT (lastR T) 63).laid k,k')):=qh (by rw [← hR];refine plT_yes ?_;unfold outB;rw [hn];simp)
   clear hn hR 
   go_enter Tryz.func92,Tryz.ntmps92
   go_wp2_with fail
   refine HN.out.mono ?_
   rintro e w1 ⟨rfl,h1,g1⟩
   have G1:=qh g1
   have H1:=qh h1
   have z1:b≤w1.heap.size:=Nat.le_of_lt h1.lt
   clear h1 g1
   go_wp2_with fail
   refine (tkrepeat_any w1 b c k' A l tv T H1.out hT 63).mono ?_
   rintro e w2 ⟨rfl,g2⟩
   have G2:=qh (G1.out.trans (grown_any g2 (some b)))
   have H2:=qh (H1.out.grown g2)
   clear g2
   go_wp2_with fail
   refine (tkadd_any w2 b c k' A l tv T H2.out hT (repT (lastR T) 63) k).mono ?_
   rintro e w9 ⟨rfl,h9,b9⟩
   have H9:=qh h9
   have B9:Hid (Below b w w9):=qh ((below_row G2.out (Nat.le_refl _) hbw).trans b9)
   clear h9 b9
   go_wp2_with fail
   go_ret
   exact by rw [HR.out];exact ⟨rfl,H9.out,B9.out⟩
  by_cases h42:x=42
  ·subst h42
   have HR:Hid (R=.ok ((repT (lastR T) 42).laid k,k')):=qh (by rw [← hR];refine plT_yes ?_;unfold outB;rw [hn];simp)
   clear hn hR h63
   go_enter Tryz.func92,Tryz.ntmps92
   go_wp2_with fail
   refine HN.out.mono ?_
   rintro e w1 ⟨rfl,h1,g1⟩
   have G1:=qh g1
   have H1:=qh h1
   have z1:b≤w1.heap.size:=Nat.le_of_lt h1.lt
   clear h1 g1
   go_wp2_with fail
   refine (tkrepeat_any w1 b c k' A l tv T H1.out hT 42).mono ?_
   rintro e w2 ⟨rfl,g2⟩
   have G2:=qh (G1.out.trans (grown_any g2 (some b)))
   have H2:=qh (H1.out.grown g2)
   clear g2
   go_wp2_with fail
   refine (tkadd_any w2 b c k' A l tv T H2.out hT (repT (lastR T) 42) k).mono ?_
   rintro e w9 ⟨rfl,h9,b9⟩
   have H9:=qh h9
   have B9:Hid (Below b w w9):=qh ((below_row G2.out (Nat.le_refl _) hbw).trans b9)
   clear h9 b9
   go_wp2_with fail
   go_ret
   exact by rw [HR.out];exact ⟨rfl,H9.out,B9.out⟩
  by_cases h43:x=43
  ·subst h43
   have HR:Hid (R=.ok ((repT (lastR T) 43).laid k,k')):=qh (by rw [← hR];refine plT_yes ?_;unfold outB;rw [hn];simp)
   clear hn hR h63 h42
   go_enter Tryz.func92,Tryz.ntmps92
   go_wp2_with fail
   refine HN.out.mono ?_
   rintro e w1 ⟨rfl,h1,g1⟩
   have G1:=qh g1
   have H1:=qh h1
   have z1:b≤w1.heap.size:=Nat.le_of_lt h1.lt
   clear h1 g1
   go_wp2_with fail
   refine (tkrepeat_any w1 b c k' A l tv T H1.out hT 43).mono ?_
   rintro e w2 ⟨rfl,g2⟩
   have G2:=qh (G1.out.trans (grown_any g2 (some b)))
   have H2:=qh (H1.out.grown g2)
   clear g2
   go_wp2_with fail
   refine (tkadd_any w2 b c k' A l tv T H2.out hT (repT (lastR T) 43) k).mono ?_
   rintro e w9 ⟨rfl,h9,b9⟩
   have H9:=qh h9
   have B9:Hid (Below b w w9):=qh ((below_row G2.out (Nat.le_refl _) hbw).trans b9)
   clear h9 b9
   go_wp2_with fail
   go_ret
   exact by rw [HR.out];exact ⟨rfl,H9.out,B9.out⟩
  by_cases h123:x=123
  ·subst h123
   have hR':plT k (braT l k k')=R:=by rw [← hR];congr 1;unfold outB;rw [hn];simp
   clear hn hR h63 h42 h43
   rcases hr:braT l k k' with ⟨n,y⟩ | ⟨t,k2⟩
   ·have HR:Hid (R=.error (n,y)):=qh (by rw [← hR',hr];rfl)
    clear hR'
    go_enter Tryz.func92,Tryz.ntmps92
    go_wp2_with fail
    refine HN.out.mono ?_
    rintro e w1 ⟨rfl,h1,g1⟩
    have G1:=qh g1
    have H1:=qh h1
    have z1:b≤w1.heap.size:=Nat.le_of_lt h1.lt
    clear h1 g1
    have HB:=qh (tkbraces_any w1 b c k' A l tv T H1.out hl k)
    rw [hr] at HB
    clear hr
    go_wp2_with fail
    refine HB.out.mono ?_
    rintro e w2 ⟨rfl,g2⟩
    have G2:=qh (below_row (G1.out.trans g2) (Nat.le_refl _) hbw)
    clear g2
    go_wp2_with fail
    exact ⟨rfl,by rw [HR.out];exact ⟨rfl,G2.out⟩⟩
   ·have HR:Hid (R=.ok (t.laid k,k2)):=qh (by rw [← hR',hr];rfl)
    clear hR'
    go_enter Tryz.func92,Tryz.ntmps92
    go_wp2_with fail
    refine HN.out.mono ?_
    rintro e w1 ⟨rfl,h1,g1⟩
    have G1:=qh g1
    have H1:=qh h1
    have z1:b≤w1.heap.size:=Nat.le_of_lt h1.lt
    clear h1 g1
    have HB:=qh (tkbraces_any w1 b c k' A l tv T H1.out hl k)
    rw [hr] at HB
    clear hr
    go_wp2_with fail
    refine HB.out.mono ?_
    rintro e w2 ⟨rfl,h2,g2⟩
    have G2:=qh (G1.out.trans g2)
    have H2:=qh h2
    clear g2 h2
    go_wp2_with fail
    refine (tkadd_any w2 b c k2 A l tv T H2.out hT (t) k).mono ?_
    rintro e w9 ⟨rfl,h9,b9⟩
    have H9:=qh h9
    have B9:Hid (Below b w w9):=qh ((below_row G2.out (Nat.le_refl _) hbw).trans b9)
    clear h9 b9
    go_wp2_with fail
    go_ret
    exact by rw [HR.out];exact ⟨rfl,H9.out,B9.out⟩
  by_cases h91:x=91
  ·subst h91
   obtain ⟨t,k2,hcl⟩:∃ t k2,claT l k'=(t,k2):=⟨_,_,rfl⟩
   have HR:Hid (R=.ok (t.laid k,k2)):=qh (by rw [← hR];refine plT_yes ?_;unfold outB;rw [hn];simp [hcl])
   have HCL:=qh hcl
   clear hn hR h63 h42 h43 h123 hcl
   go_enter Tryz.func92,Tryz.ntmps92
   go_wp2_with fail
   refine HN.out.mono ?_
   rintro e w1 ⟨rfl,h1,g1⟩
   have G1:=qh g1
   have H1:=qh h1
   have z1:b≤w1.heap.size:=Nat.le_of_lt h1.lt
   clear h1 g1
   have HB:=qh (tkclass_any w1 b c k' A l tv T H1.out hl)
   rw [HCL.out] at HB
   go_wp2_with fail
   refine HB.out.mono ?_
   rintro e w2 ⟨rfl,h2,g2⟩
   have G2:=qh (G1.out.trans g2)
   have H2:=qh h2
   clear g2 h2
   go_wp2_with fail
   refine (tkadd_any w2 b c k2 A l tv T H2.out hT (t) k).mono ?_
   rintro e w9 ⟨rfl,h9,b9⟩
   have H9:=qh h9
   have B9:Hid (Below b w w9):=qh ((below_row G2.out (Nat.le_refl _) hbw).trans b9)
   clear h9 b9
   go_wp2_with fail
   go_ret
   exact by rw [HR.out];exact ⟨rfl,H9.out,B9.out⟩
  by_cases h92:x=92
  ·subst h92
   have hR':plT k (escT l k k')=R:=by rw [← hR];congr 1;unfold outB;rw [hn];simp
   clear hn hR h63 h42 h43 h123 h91
   rcases hr:escT l k k' with ⟨n,y⟩ | ⟨t,k2⟩
   ·have HR:Hid (R=.error (n,y)):=qh (by rw [← hR',hr];rfl)
    clear hR'
    go_enter Tryz.func92,Tryz.ntmps92
    go_wp2_with fail
    refine HN.out.mono ?_
    rintro e w1 ⟨rfl,h1,g1⟩
    have G1:=qh g1
    have H1:=qh h1
    have z1:b≤w1.heap.size:=Nat.le_of_lt h1.lt
    clear h1 g1
    have HB:=qh (tkesc_any w1 b c k' A l tv T H1.out hl k)
    rw [hr] at HB
    clear hr
    go_wp2_with fail
    refine HB.out.mono ?_
    rintro e w2 ⟨rfl,g2⟩
    have G2:=qh (below_row (G1.out.trans g2) (Nat.le_refl _) hbw)
    clear g2
    go_wp2_with fail
    exact ⟨rfl,by rw [HR.out];exact ⟨rfl,G2.out⟩⟩
   ·have HR:Hid (R=.ok (t.laid k,k2)):=qh (by rw [← hR',hr];rfl)
    clear hR'
    go_enter Tryz.func92,Tryz.ntmps92
    go_wp2_with fail
    refine HN.out.mono ?_
    rintro e w1 ⟨rfl,h1,g1⟩
    have G1:=qh g1
    have H1:=qh h1
    have z1:b≤w1.heap.size:=Nat.le_of_lt h1.lt
    clear h1 g1
    have HB:=qh (tkesc_any w1 b c k' A l tv T H1.out hl k)
    rw [hr] at HB
    clear hr
    go_wp2_with fail
    refine HB.out.mono ?_
    rintro e w2 ⟨rfl,h2,g2⟩
    have G2:=qh (G1.out.trans g2)
    have H2:=qh h2
    clear g2 h2
    go_wp2_with fail
    refine (tkadd_any w2 b c k2 A l tv T H2.out hT (t) k).mono ?_
    rintro e w9 ⟨rfl,h9,b9⟩
    have H9:=qh h9
    have B9:Hid (Below b w w9):=qh ((below_row G2.out (Nat.le_refl _) hbw).trans b9)
    clear h9 b9
    go_wp2_with fail
    go_ret
    exact by rw [HR.out];exact ⟨rfl,H9.out,B9.out⟩
  have HR:Hid (R=.ok ((aloT x).laid k,k')):=qh (by rw [← hR];refine plT_yes ?_;unfold outB;rw [hn];simp only;rw [if_neg (by omega),if_neg h123,if_neg h91,if_neg h92])
  have d63:(x == 63)=false:=by simpa using h63
  have d42:(x == 42)=false:=by simpa using h42
  have d43:(x == 43)=false:=by simpa using h43
  have d123:(x == 123)=false:=by simpa using h123
  have d91:(x == 91)=false:=by simpa using h91
  have d92:(x == 92)=false:=by simpa using h92
  clear hn hR h63 h42 h43 h123 h91 h92
  go_enter Tryz.func92,Tryz.ntmps92
  go_wp2_with fail
  refine HN.out.mono ?_
  rintro e w1 ⟨rfl,h1,g1⟩
  have G1:=qh g1
  have H1:=qh h1
  have z1:b≤w1.heap.size:=Nat.le_of_lt h1.lt
  clear h1 g1
  go_wp2_with fail
  refine (tkalone_any x w1).mono ?_
  rintro e w2 ⟨rfl,g2⟩
  have G2:=qh (G1.out.trans (grown_any g2 (some b)))
  have H2:=qh (H1.out.grown g2)
  clear g2
  go_wp2_with fail
  refine (tkadd_any w2 b c k' A l tv T H2.out hT (aloT x) k).mono ?_
  rintro e w9 ⟨rfl,h9,b9⟩
  have H9:=qh h9
  have B9:Hid (Below b w w9):=qh ((below_row G2.out (Nat.le_refl _) hbw).trans b9)
  clear h9 b9
  go_wp2_with fail
  go_ret
  exact by rw [HR.out];exact ⟨rfl,H9.out,B9.out⟩
theorem tkwithin_any (w:World) (b c k:Nat) (A:Option Addr) (l:List Int) (tv:Value) (T:List Tok) (h:IsR w b A l c k tv T) (hl:l.length≤1000) (hT:T.length≤1000) :
 Calls Tryz.prog 93 #[.pointer (some ⟨b,0,none⟩)] w (ToldT w b A l c T (inT l k)):=by
 have hbw:b≤w.heap.size:=Nat.le_of_lt h.lt
 obtain ⟨c0,c1,c2⟩:=h.cells
 have H:=qh h
 obtain ⟨R,hR⟩:∃ R,inT l k=R:=⟨_,rfl⟩
 rw [hR]
 clear h
 unfold inT at hR
 have hkl:=H.out.le
 rcases hs:seesB l (k+0) 93 with _ | _
 ·have hR':plT k (match itemT l k with
   | .error e=>.error e
   | .ok (t,k')=>if t.k=1∧l[k']?=some 45∧¬ l[k'+1]?=some 93 then upT l t.c k (k'+1) else .ok (t,k'))=R:=by
   rw [← hR];congr 1;unfold inB;rw [if_neg (by simpa [seesB] using hs)];rfl
  have HS:=qh hs
  have HI:=qh (tkitem_any w b c k A l tv T H.out hl)
  clear hs hR
  rcases hn:itemT l k with ⟨n,x⟩ | ⟨t,k'⟩
  ·rw [hn] at HI hR'
   have HR:Hid (R=.error (n,x)):=qh (by rw [← hR'];rfl)
   clear hn hR'
   go_enter Tryz.func93,Tryz.ntmps93
   go_wp2_with fail
   refine (tksees_any w b c k A l tv T H.out hl 0 0 93 rfl (by omega)).mono ?_
   rintro e wq ⟨rfl,rfl⟩
   rw [HS.out]
   go_wp2_with fail
   refine HI.out.mono ?_
   rintro e w1 ⟨rfl,g1⟩
   have G1:=qh (below_row g1 (Nat.le_refl _) hbw)
   clear g1
   go_wp2_with fail
   exact ⟨rfl,by rw [HR.out];exact ⟨rfl,G1.out⟩⟩
  ·rw [hn] at HI hR'
   simp only at hR'
   have hk':=itemT_ok hn
   clear hn
   by_cases q1:t.k=1
   ·rcases q2:seesB l (k'+0) 45 with _ | _
    ·have HR:Hid (R=.ok (t.laid k,k')):=qh (by rw [← hR',if_neg (fun e=>by have:=e.2.1;simp [seesB,this] at q2)];rfl)
     have d1:(t.k == 1)=true:=by simpa using q1
     have HQ:=qh q2
     clear hR' q1 q2
     go_enter Tryz.func93,Tryz.ntmps93
     go_wp2_with fail
     refine (tksees_any w b c k A l tv T H.out hl 0 0 93 rfl (by omega)).mono ?_
     rintro e wq ⟨rfl,rfl⟩
     rw [HS.out]
     go_wp2_with fail
     refine HI.out.mono ?_
     rintro e w1 ⟨rfl,h1,g1⟩
     obtain ⟨wb,hwb⟩:∃ u,w1.alloc (.cells t.arr 56)=u:=⟨_,rfl⟩
     have HWB:Hid (w1.alloc (.cells #[.int .i64 t.k,.int .i64 t.c,.int .i64 t.lo,.int .i64 t.hi,.int .i64 t.pos] 56)=wb):=qh hwb
     have XB:Hid (Box wb w1.heap.size t.arr 56):=qh (hwb▸Box.new w1 _ _)
     have GB:Hid (w.grownBy wb (some b)):=qh (g1.trans (hwb▸grown_new w1 _ _))
     have H1:Hid (IsR wb b A l c k' tv T):=qh (h1.grown (hwb▸grown_new w1 _ _))
     have hb1:=h1.lt
     have HO:Hid (tv.ownBlock≠some w1.heap.size):=qh (h1.old (Nat.le_refl _))
     clear h1 g1 hwb
     have hf0:=XB.out.field.1
     go_wp2_with fail
     rw [HWB.out]
     refine (tksees_any wb b c k' A l tv T H1.out hl 0 0 45 rfl (by omega)).mono ?_
     rintro e wq ⟨rfl,rfl⟩
     rw [HQ.out]
     go_wp2_with (first
      | (refine load_box _ w1.heap.size _ _ rfl rfl rfl XB.out Tryz.underlying56 rfl (tokInfo _) ?_)
      | fail)
     refine (tkadd_any wb b c k' A l tv T H1.out hT t k).mono ?_
     rintro e w9 ⟨rfl,h9,b9⟩
     have H9:=qh h9
     have B9:Hid (Below b w w9):=qh ((below_row GB.out (Nat.le_refl _) hbw).trans b9)
     clear h9 b9
     go_wp2_with fail
     go_ret
     exact by rw [HR.out];exact ⟨rfl,H9.out,B9.out⟩
    ·rcases q3:seesB l (k'+1) 93 with _ | _
     ·have hR2:plT k (upT l t.c k (k'+1))=R:=by rw [← hR',if_pos ⟨q1,by simpa [seesB] using q2,by simpa [seesB] using q3⟩]
      have d1:(t.k == 1)=true:=by simpa using q1
      have HQ:=qh q2
      have HQ3:=qh q3
      have hklt:k' < l.length:=by
       have:l[k']?=some 45:=by simpa [seesB] using q2
       exact (List.getElem?_eq_some_iff.1 this).1
      have hw:=tkwrap (k:=k') (by omega)
      clear hR' q1 q2 q3
      rcases hr:upT l t.c k (k'+1) with ⟨n,y⟩ | ⟨t2,k2⟩
      ·have HR:Hid (R=.error (n,y)):=qh (by rw [← hR2,hr];rfl)
       have HRR:=qh hr
       clear hR2 hr
       go_enter Tryz.func93,Tryz.ntmps93
       go_wp2_with fail
       refine (tksees_any w b c k A l tv T H.out hl 0 0 93 rfl (by omega)).mono ?_
       rintro e wq ⟨rfl,rfl⟩
       rw [HS.out]
       go_wp2_with fail
       refine HI.out.mono ?_
       rintro e w1 ⟨rfl,h1,g1⟩
       obtain ⟨wb,hwb⟩:∃ u,w1.alloc (.cells t.arr 56)=u:=⟨_,rfl⟩
       have HWB:Hid (w1.alloc (.cells #[.int .i64 t.k,.int .i64 t.c,.int .i64 t.lo,.int .i64 t.hi,.int .i64 t.pos] 56)=wb):=qh hwb
       have XB:Hid (Box wb w1.heap.size t.arr 56):=qh (hwb▸Box.new w1 _ _)
       have GB:Hid (w.grownBy wb (some b)):=qh (g1.trans (hwb▸grown_new w1 _ _))
       have H1:Hid (IsR wb b A l c k' tv T):=qh (h1.grown (hwb▸grown_new w1 _ _))
       have hb1:=h1.lt
       have HO:Hid (tv.ownBlock≠some w1.heap.size):=qh (h1.old (Nat.le_refl _))
       clear h1 g1 hwb
       obtain ⟨f0,f1⟩:=XB.out.field
       go_wp2_with fail
       rw [HWB.out]
       refine (tksees_any wb b c k' A l tv T H1.out hl 0 0 45 rfl (by omega)).mono ?_
       rintro e wq ⟨rfl,rfl⟩
       rw [HQ.out]
       go_wp2_with fail
       refine (tksees_any wb b c k' A l tv T H1.out hl 1 1 93 rfl (by omega)).mono ?_
       rintro e wq ⟨rfl,rfl⟩
       rw [HQ3.out]
       obtain ⟨c0',c1',c2'⟩:=H1.out.cells
       go_wp2_with (first
        | (refine store_at wb _ _ (k'+1) rfl rfl rfl rfl rfl H1.out hklt ?_;intro w2 h2 g2;have H2:=qh h2;have G2:=qh (GB.out.trans g2);have X2:=qh (XB.out.kept g2 (by simp;omega));have f12:=X2.out.field.2;have U2:=qh (tkup_any w2 b c (k'+1) A l tv T h2 hl t.c k);rw [HRR.out] at U2;clear h2 g2)
        | fail)
       refine U2.out.mono ?_
       rintro e w3 ⟨rfl,g3⟩
       have G3:=qh (below_row (G2.out.trans g3) (Nat.le_refl _) hbw)
       clear g3
       go_wp2_with fail
       exact ⟨rfl,by rw [HR.out];exact ⟨rfl,G3.out⟩⟩
      ·have HR:Hid (R=.ok (t2.laid k,k2)):=qh (by rw [← hR2,hr];rfl)
       have HRR:=qh hr
       clear hR2 hr
       go_enter Tryz.func93,Tryz.ntmps93
       go_wp2_with fail
       refine (tksees_any w b c k A l tv T H.out hl 0 0 93 rfl (by omega)).mono ?_
       rintro e wq ⟨rfl,rfl⟩
       rw [HS.out]
       go_wp2_with fail
       refine HI.out.mono ?_
       rintro e w1 ⟨rfl,h1,g1⟩
       obtain ⟨wb,hwb⟩:∃ u,w1.alloc (.cells t.arr 56)=u:=⟨_,rfl⟩
       have HWB:Hid (w1.alloc (.cells #[.int .i64 t.k,.int .i64 t.c,.int .i64 t.lo,.int .i64 t.hi,.int .i64 t.pos] 56)=wb):=qh hwb
       have XB:Hid (Box wb w1.heap.size t.arr 56):=qh (hwb▸Box.new w1 _ _)
       have GB:Hid (w.grownBy wb (some b)):=qh (g1.trans (hwb▸grown_new w1 _ _))
       have H1:Hid (IsR wb b A l c k' tv T):=qh (h1.grown (hwb▸grown_new w1 _ _))
       have hb1:=h1.lt
       have HO:Hid (tv.ownBlock≠some w1.heap.size):=qh (h1.old (Nat.le_refl _))
       clear h1 g1 hwb
       obtain ⟨f0,f1⟩:=XB.out.field
       go_wp2_with fail
       rw [HWB.out]
       refine (tksees_any wb b c k' A l tv T H1.out hl 0 0 45 rfl (by omega)).mono ?_
       rintro e wq ⟨rfl,rfl⟩
       rw [HQ.out]
       go_wp2_with fail
       refine (tksees_any wb b c k' A l tv T H1.out hl 1 1 93 rfl (by omega)).mono ?_
       rintro e wq ⟨rfl,rfl⟩
       rw [HQ3.out]
       obtain ⟨c0',c1',c2'⟩:=H1.out.cells
       go_wp2_with (first
        | (refine store_at wb _ _ (k'+1) rfl rfl rfl rfl rfl H1.out hklt ?_;intro w2 h2 g2;have H2:=qh h2;have G2:=qh (GB.out.trans g2);have X2:=qh (XB.out.kept g2 (by simp;omega));have f12:=X2.out.field.2;have U2:=qh (tkup_any w2 b c (k'+1) A l tv T h2 hl t.c k);rw [HRR.out] at U2;clear h2 g2)
        | fail)
       refine U2.out.mono ?_
       rintro e w3 ⟨rfl,h3,g3⟩
       have G3:=qh (G2.out.trans g3)
       have H3:=qh h3
       have X3:=qh (X2.out.kept g3 (by simp;omega))
       clear h3 g3
       go_wp2_with (first
        | (refine store_tok w3 _ _ w1.heap.size t t2 rfl rfl rfl rfl rfl X3.out ?_;intro w4 x4 g4;have X4:=qh x4;have H4:=qh (H3.out.new g4 hb1 HO.out);have B4:Hid (Below b w w4):=qh ((below_row G3.out (Nat.le_refl _) hbw).trans (below_row g4 (by omega) (Nat.le_of_lt H3.out.lt)));clear x4 g4)
        | (refine load_box _ w1.heap.size _ _ rfl rfl rfl X4.out Tryz.underlying56 rfl (tokInfo _) ?_)
        | fail)
       refine (tkadd_any w4 b c k2 A l tv T H4.out hT t2 k).mono ?_
       rintro e w9 ⟨rfl,h9,b9⟩
       have H9:=qh h9
       have B9:Hid (Below b w w9):=qh (B4.out.trans b9)
       clear h9 b9
       go_wp2_with fail
       go_ret
       exact by rw [HR.out];exact ⟨rfl,H9.out,B9.out⟩
     ·have HR:Hid (R=.ok (t.laid k,k')):=qh (by rw [← hR',if_neg (fun e=>e.2.2 (by simpa [seesB] using q3))];rfl)
      have d1:(t.k == 1)=true:=by simpa using q1
      have HQ:=qh q2
      have HQ3:=qh q3
      clear hR' q1 q2 q3
      go_enter Tryz.func93,Tryz.ntmps93
      go_wp2_with fail
      refine (tksees_any w b c k A l tv T H.out hl 0 0 93 rfl (by omega)).mono ?_
      rintro e wq ⟨rfl,rfl⟩
      rw [HS.out]
      go_wp2_with fail
      refine HI.out.mono ?_
      rintro e w1 ⟨rfl,h1,g1⟩
      obtain ⟨wb,hwb⟩:∃ u,w1.alloc (.cells t.arr 56)=u:=⟨_,rfl⟩
      have HWB:Hid (w1.alloc (.cells #[.int .i64 t.k,.int .i64 t.c,.int .i64 t.lo,.int .i64 t.hi,.int .i64 t.pos] 56)=wb):=qh hwb
      have XB:Hid (Box wb w1.heap.size t.arr 56):=qh (hwb▸Box.new w1 _ _)
      have GB:Hid (w.grownBy wb (some b)):=qh (g1.trans (hwb▸grown_new w1 _ _))
      have H1:Hid (IsR wb b A l c k' tv T):=qh (h1.grown (hwb▸grown_new w1 _ _))
      have hb1:=h1.lt
      have HO:Hid (tv.ownBlock≠some w1.heap.size):=qh (h1.old (Nat.le_refl _))
      clear h1 g1 hwb
      have hf0:=XB.out.field.1
      go_wp2_with fail
      rw [HWB.out]
      refine (tksees_any wb b c k' A l tv T H1.out hl 0 0 45 rfl (by omega)).mono ?_
      rintro e wq ⟨rfl,rfl⟩
      rw [HQ.out]
      go_wp2_with fail
      refine (tksees_any wb b c k' A l tv T H1.out hl 1 1 93 rfl (by omega)).mono ?_
      rintro e wq ⟨rfl,rfl⟩
      rw [HQ3.out]
      go_wp2_with (first
       | (refine load_box _ w1.heap.size _ _ rfl rfl rfl XB.out Tryz.underlying56 rfl (tokInfo _) ?_)
       | fail)
      refine (tkadd_any wb b c k' A l tv T H1.out hT t k).mono ?_
      rintro e w9 ⟨rfl,h9,b9⟩
      have H9:=qh h9
      have B9:Hid (Below b w w9):=qh ((below_row GB.out (Nat.le_refl _) hbw).trans b9)
      clear h9 b9
      go_wp2_with fail
      go_ret
      exact by rw [HR.out];exact ⟨rfl,H9.out,B9.out⟩
   ·have HR:Hid (R=.ok (t.laid k,k')):=qh (by rw [← hR',if_neg (fun e=>q1 e.1)];rfl)
    have d1:(t.k == 1)=false:=by simpa using q1
    clear hR' q1
    go_enter Tryz.func93,Tryz.ntmps93
    go_wp2_with fail
    refine (tksees_any w b c k A l tv T H.out hl 0 0 93 rfl (by omega)).mono ?_
    rintro e wq ⟨rfl,rfl⟩
    rw [HS.out]
    go_wp2_with fail
    refine HI.out.mono ?_
    rintro e w1 ⟨rfl,h1,g1⟩
    obtain ⟨wb,hwb⟩:∃ u,w1.alloc (.cells t.arr 56)=u:=⟨_,rfl⟩
    have HWB:Hid (w1.alloc (.cells #[.int .i64 t.k,.int .i64 t.c,.int .i64 t.lo,.int .i64 t.hi,.int .i64 t.pos] 56)=wb):=qh hwb
    have XB:Hid (Box wb w1.heap.size t.arr 56):=qh (hwb▸Box.new w1 _ _)
    have GB:Hid (w.grownBy wb (some b)):=qh (g1.trans (hwb▸grown_new w1 _ _))
    have H1:Hid (IsR wb b A l c k' tv T):=qh (h1.grown (hwb▸grown_new w1 _ _))
    have hb1:=h1.lt
    have HO:Hid (tv.ownBlock≠some w1.heap.size):=qh (h1.old (Nat.le_refl _))
    clear h1 g1 hwb
    have hf0:=XB.out.field.1
    go_wp2_with (first
     | (rw [HWB.out])
     | (refine load_box _ w1.heap.size _ _ rfl rfl rfl XB.out Tryz.underlying56 rfl (tokInfo _) ?_)
     | fail)
    refine (tkadd_any wb b c k' A l tv T H1.out hT t k).mono ?_
    rintro e w9 ⟨rfl,h9,b9⟩
    have H9:=qh h9
    have B9:Hid (Below b w w9):=qh ((below_row GB.out (Nat.le_refl _) hbw).trans b9)
    clear h9 b9
    go_wp2_with fail
    go_ret
    exact by rw [HR.out];exact ⟨rfl,H9.out,B9.out⟩
 ·have hk:k < l.length:=by
   have:l[k]?=some 93:=by simpa [seesB] using hs
   exact (List.getElem?_eq_some_iff.1 this).1
  have HR:Hid (R=.ok ((⟨8,0,0,0,0⟩:Tok).laid k,k+1)):=qh (by rw [← hR];refine plT_yes ?_;unfold inB;rw [if_pos (by simpa [seesB] using hs)])
  have HS:=qh hs
  have hw:=tkwrap (k:=k) (by omega)
  clear hs hR
  go_enter Tryz.func93,Tryz.ntmps93
  go_wp2_with fail
  refine (tksees_any w b c k A l tv T H.out hl 0 0 93 rfl (by omega)).mono ?_
  rintro e wq ⟨rfl,rfl⟩
  rw [HS.out]
  go_wp2_with (first
   | (refine store_at w _ _ (k+1) rfl rfl rfl rfl rfl H.out hk ?_;intro w2 h2 g2;have H2:=qh h2;have G2:=qh g2;clear h2 g2)
   | fail)
  refine (tkadd_any w2 b c (k+1) A l tv T H2.out hT ⟨8,0,0,0,0⟩ k).mono ?_
  rintro e w9 ⟨rfl,h9,b9⟩
  have H9:=qh h9
  have B9:Hid (Below b w w9):=qh ((below_row G2.out (Nat.le_refl _) hbw).trans b9)
  clear h9 b9
  go_wp2_with fail
  go_ret
  exact by rw [HR.out];exact ⟨rfl,H9.out,B9.out⟩
end
section
open Go.RowKit
def Exit.jump2 (l0 l1:Nat) (J0 J1:Act→World→Prop) (Q:Exit→Act→World→Prop):Exit→Act→World→Prop
 | .goto l,a,w=>(l=l0∧J0 a w)∨(l=l1∧J1 a w)
 | e,a,w=>Q e a w
section
variable {P:Program} {a:Act} {w:World} {Q:Exit→Act→World→Prop}
theorem wp_scope_two {c r0 r1:Code} (l0 l1:Nat) (J0 J1:Act→World→Prop) (μ:Act→World→Nat) (hf0:findLabel c l0=some r0) (hf1:findLabel c l1=some r1)
 (pass0:∀ a w,J0 a w→r0.wp P (Exit.jump2 l0 l1 (fun a' w'=>J0 a' w'∧μ a' w' < μ a w) (fun a' w'=>J1 a' w'∧μ a' w' < μ a w) Q) a w)
 (pass1:∀ a w,J1 a w→r1.wp P (Exit.jump2 l0 l1 (fun a' w'=>J0 a' w'∧μ a' w' < μ a w) (fun a' w'=>J1 a' w'∧μ a' w' < μ a w) Q) a w)
 (first:c.wp P (Exit.jump2 l0 l1 J0 J1 Q) a w):(Code.scope c).wp P Q a w:=by
 intro b k cs
 have hg0:gotoIn l0 (.inScope c :: k)=some (.code r0 :: .inScope c :: k):=by simp [gotoIn,hf0]
 have hg1:gotoIn l1 (.inScope c :: k)=some (.code r1 :: .inScope c :: k):=by simp [gotoIn,hf1]
 have key:∀ n a w,μ a w=n →
  (J0 a w→∃ e a' w',Q e a' w'∧Arrives P (lone (b.at a (.code r0 :: .inScope c :: k)) cs w) b k cs e a' w') ∧
  (J1 a w→∃ e a' w',Q e a' w'∧Arrives P (lone (b.at a (.code r1 :: .inScope c :: k)) cs w) b k cs e a' w'):=by
  intro n
  induction n using Nat.strongRecOn with
  | _ n ih =>
   intro a w hn
   have one:∀ r:Code,r.wp P (Exit.jump2 l0 l1 (fun a' w'=>J0 a' w'∧μ a' w' < μ a w) (fun a' w'=>J1 a' w'∧μ a' w' < μ a w) Q) a w→∃ e a' w',Q e a' w'∧Arrives P (lone (b.at a (.code r :: .inScope c :: k)) cs w) b k cs e a' w':=by
    intro r hr
    obtain ⟨e,a₁,w₁,hq,harr⟩:=hr b (.inScope c :: k) cs
    cases e with
    | normal=>exact ⟨.normal,a₁,w₁,hq,Steps.trans harr (.one step_inScope)⟩
    | exit id=>exact ⟨.exit id,a₁,w₁,hq,fun k' hk=>harr k' (by simp [exitTo,hk])⟩
    | goto l' =>
     rcases hq with ⟨rfl,hJ',hlt⟩ | ⟨rfl,hJ',hlt⟩
     ·obtain ⟨e₂,a₂,w₂,hq₂,harr₂⟩:=(ih _ (by omega) a₁ w₁ rfl).1 hJ'
      exact ⟨e₂,a₂,w₂,hq₂,.of_steps (harr _ hg0) harr₂⟩
     ·obtain ⟨e₂,a₂,w₂,hq₂,harr₂⟩:=(ih _ (by omega) a₁ w₁ rfl).2 hJ'
      exact ⟨e₂,a₂,w₂,hq₂,.of_steps (harr _ hg1) harr₂⟩
    | ret=>exact ⟨_,a₁,w₁,hq,harr⟩
    | panic ch=>exact ⟨_,a₁,w₁,hq,harr⟩
    | outgrown=>exact ⟨_,a₁,w₁,hq,harr⟩
   exact ⟨fun hJ=>one r0 (pass0 a w hJ),fun hJ=>one r1 (pass1 a w hJ)⟩
 obtain ⟨e,a₁,w₁,hq,harr⟩:=first b (.inScope c :: k) cs
 cases e with
 | normal=>exact ⟨.normal,a₁,w₁,hq,.head step_scope (Steps.trans harr (.one step_inScope))⟩
 | exit id=>exact ⟨.exit id,a₁,w₁,hq,fun k' hk=>.head step_scope (harr k' (by simp [exitTo,hk]))⟩
 | goto l' =>
  rcases hq with ⟨rfl,hJ'⟩ | ⟨rfl,hJ'⟩
  ·obtain ⟨e₂,a₂,w₂,hq₂,harr₂⟩:=(key _ a₁ w₁ rfl).1 hJ'
   exact ⟨e₂,a₂,w₂,hq₂,.of_steps (.head step_scope (harr _ hg0)) harr₂⟩
  ·obtain ⟨e₂,a₂,w₂,hq₂,harr₂⟩:=(key _ a₁ w₁ rfl).2 hJ'
   exact ⟨e₂,a₂,w₂,hq₂,.of_steps (.head step_scope (harr _ hg1)) harr₂⟩
 | ret=>exact ⟨_,a₁,w₁,hq,.of_steps (.one step_scope) harr⟩
 | panic ch=>exact ⟨_,a₁,w₁,hq,.of_steps (.one step_scope) harr⟩
 | outgrown=>exact ⟨_,a₁,w₁,hq,.of_steps (.one step_scope) harr⟩
theorem wp_scope_enter2 {c r0 r1:Code} (l0 l1:Nat) (J0 J1:Act→World→Prop) (μ:Act→World→Nat) (hf0:findLabel c l0=some (Code.skip.seq r0)) (hf1:findLabel c l1=some (Code.skip.seq r1))
 (pass0:∀ a w,J0 a w→r0.wp P (Exit.jump2 l0 l1 (fun a' w'=>J0 a' w'∧μ a' w' < μ a w) (fun a' w'=>J1 a' w'∧μ a' w' < μ a w) Q) a w)
 (pass1:∀ a w,J1 a w→r1.wp P (Exit.jump2 l0 l1 (fun a' w'=>J0 a' w'∧μ a' w' < μ a w) (fun a' w'=>J1 a' w'∧μ a' w' < μ a w) Q) a w)
 (first:(∀ a w,J0 a w→r0.wp P (Exit.jump2 l0 l1 J0 J1 Q) a w)→c.wp P (Exit.jump2 l0 l1 J0 J1 Q) a w):(Code.scope c).wp P Q a w:=by
 refine wp_scope_two l0 l1 J0 J1 μ hf0 hf1 (fun a w h=>wp_seq (wp_skip (pass0 a w h))) (fun a w h=>wp_seq (wp_skip (pass1 a w h))) (first fun a w h=>wp_mono (pass0 a w h) fun e a' w' hq=>?_)
 cases e with
 | goto l' =>
  rcases hq with ⟨h1,h2,_⟩ | ⟨h1,h2,_⟩
  ·exact .inl ⟨h1,h2⟩
  ·exact .inr ⟨h1,h2⟩
 | _=>exact hq
end
def ReadTo (w:World) (r:Wr (List Tok)) (ed:Ending) (w':World):Prop:=match r with
 | .ok T=>(∃ tv,ed=.returned tv∧OwnN w' w.heap.size 56 5 tv T.length (tokCells T))∧Below w.heap.size w w'
 | .error (n,x)=>ed=.panicked [{ v:=.iface 86 (.agg #[.int .i64 n,.int .i64 x]),recovered:=false }]∧Below w.heap.size w w'
theorem readT_end (l:List Int) (n:Nat) (T:List Tok):readT l (n+1) false l.length T=.ok T:=by simp [readT]
theorem readT_out {l:List Int} {n k:Nat} {T:List Tok} (hk:k≠l.length):readT l (n+1) false k T=(match outT l (lastR T) k with
 | .error e=>.error e
 | .ok (t,k')=>readT l n (t.k == 7) k' (T++[t])):=by
 rw [readT,if_neg (fun h=>hk h.2),if_neg (by simp)];rfl
theorem readT_in {l:List Int} {n k:Nat} {T:List Tok}:readT l (n+1) true k T=(match inT l k with
 | .error e=>.error e
 | .ok (t,k')=>readT l n (t.k != 8) k' (T++[t])):=by
 rw [readT,if_neg (fun h=>by cases h.1),if_pos rfl];rfl
theorem tkread_any (w:World) (c:Nat) (A:Option Addr) (l:List Int) (h:Lies w w.heap.size A (ints .i64 l)) (hl:l.length≤1000) (hc:l.length≤c) :
 Calls Tryz.prog 75 #[.slice A l.length c] w (ReadTo w (readT l (l.length+1) false 0 [])):=by
 obtain ⟨R,hR⟩:∃ R,readT l (l.length+1) false 0 []=R:=⟨_,rfl⟩
 rw [hR]
 have HR0:=qh hR
 have H:=qh h
 clear h hR
 go_enter Tryz.func75,Tryz.ntmps75
 go_wp2_with fail
 refine wp_scope_enter2 0 1 (fun a' w'=>∃ (k n:Nat) (T:List Tok) (tv u4 u5 u6 u7 u8 u9 u10 u11 u12 u13 u14 u15 u16:Value),a'={ tmps:=#[.slice A l.length c,undef,.slice none 0 0,.pointer (some ⟨w.heap.size,0,none⟩),u4,u5,u6,u7,u8,u9,u10,u11,u12,u13,u14,u15,u16],defers:=[] }∧Hid (IsR w' w.heap.size A l c k tv T)∧Hid (Below w.heap.size w w')∧Hid (T.length≤k∧l.length - k < n∧readT l n false k T=R)) (fun a' w'=>∃ (k n:Nat) (T:List Tok) (tv u4 u5 u6 u7 u8 u9 u10 u11 u12 u13 u14 u15 u16:Value),a'={ tmps:=#[.slice A l.length c,undef,.slice none 0 0,.pointer (some ⟨w.heap.size,0,none⟩),u4,u5,u6,u7,u8,u9,u10,u11,u12,u13,u14,u15,u16],defers:=[] }∧Hid (IsR w' w.heap.size A l c k tv T)∧Hid (Below w.heap.size w w')∧Hid (T.length≤k∧l.length - k < n∧readT l n true k T=R)) (fun _ w'=>l.length - readAt w.heap.size w') rfl rfl ?_ ?_ ?_
 ·rintro a wr ⟨k,n,T,tv,u4,u5,u6,u7,u8,u9,u10,u11,u12,u13,u14,u15,u16,rfl,HR,HB,HP⟩
  have h0:=HP.out
  have hle:=HR.out.le
  obtain ⟨n',rfl⟩:∃ n',n=n'+1:=⟨n - 1,by omega⟩
  obtain ⟨c0,c1,c2⟩:=HR.out.cells
  have hT:T.length≤1000:=by omega
  have hread:=h0.2.2
  clear h0
  by_cases hke:k=l.length
  ·subst hke
   rw [readT_end] at hread
   have HRE:=qh hread
   obtain ⟨At,ct,rfl,-,-,-⟩:=HR.out.toks.form
   clear hread hle HP
   go_wp2_with fail
   go_ret
   rw [← HRE.out]
   exact ⟨⟨_,rfl,HR.out.toks⟩,HB.out⟩
  ·have d0:((k:Int) == (l.length:Int))=false:=beq_eq_false_iff_ne.2 (by omega)
   rw [readT_out hke] at hread
   have HC:=qh (tkoutside_any wr w.heap.size c k A l tv T HR.out hl hT)
   rcases hn:outT l (lastR T) k with ⟨n,x⟩ | ⟨t,k'⟩
   ·rw [hn] at HC hread
    simp only at hread
    have HRE:=qh hread
    clear hread hn
    go_wp2_with fail
    refine HC.out.mono ?_
    rintro e w2 ⟨rfl,b2⟩
    have B2:=qh (HB.out.trans b2)
    clear b2
    go_wp2_with fail
    exact ⟨rfl,by rw [← HRE.out];exact ⟨rfl,B2.out⟩⟩
   ·rw [hn] at HC hread
    simp only at hread
    have hk':=outT_ok hn
    have hP:=HP.out
    rcases hk:(t.k == 7) with _ | _
    ·have HRE:Hid (readT l n' false k' (T++[t])=R):=qh (by rw [← hread,hk])
     clear hread hn
     go_wp2_with fail
     refine HC.out.mono ?_
     rintro e w2 ⟨rfl,⟨tv2,h2⟩,b2⟩
     have H2:=qh h2
     have B2:=qh (HB.out.trans b2)
     clear b2 h2
     go_wp2_with fail
     go_step3
     refine .inl ⟨rfl,⟨k',n',T++[t],tv2,_,_,_,_,_,_,_,_,_,_,_,_,_,rfl,H2,B2,qh ⟨by rw [List.length_append];simp;omega,by omega,HRE.out⟩⟩,?_⟩
     rw [readAt_of H2.out,readAt_of HR.out];omega
    ·have HRE:Hid (readT l n' true k' (T++[t])=R):=qh (by rw [← hread,hk])
     clear hread hn
     go_wp2_with fail
     refine HC.out.mono ?_
     rintro e w2 ⟨rfl,⟨tv2,h2⟩,b2⟩
     have H2:=qh h2
     have B2:=qh (HB.out.trans b2)
     clear b2 h2
     go_wp2_with fail
     go_step3
     refine .inr ⟨rfl,⟨k',n',T++[t],tv2,_,_,_,_,_,_,_,_,_,_,_,_,_,rfl,H2,B2,qh ⟨by rw [List.length_append];simp;omega,by omega,HRE.out⟩⟩,?_⟩
     rw [readAt_of H2.out,readAt_of HR.out];omega
 ·rintro a wr ⟨k,n,T,tv,u4,u5,u6,u7,u8,u9,u10,u11,u12,u13,u14,u15,u16,rfl,HR,HB,HP⟩
  have h0:=HP.out
  have hle:=HR.out.le
  obtain ⟨n',rfl⟩:∃ n',n=n'+1:=⟨n - 1,by omega⟩
  obtain ⟨c0,c1,c2⟩:=HR.out.cells
  have hT:T.length≤1000:=by omega
  have hread:=h0.2.2
  clear h0
  rw [readT_in] at hread
  have HC:=qh (tkwithin_any wr w.heap.size c k A l tv T HR.out hl hT)
  rcases hn:inT l k with ⟨n,x⟩ | ⟨t,k'⟩
  ·rw [hn] at HC hread
   simp only at hread
   have HRE:=qh hread
   clear hread hn
   go_wp2_with fail
   refine HC.out.mono ?_
   rintro e w2 ⟨rfl,b2⟩
   have B2:=qh (HB.out.trans b2)
   clear b2
   go_wp2_with fail
   exact ⟨rfl,by rw [← HRE.out];exact ⟨rfl,B2.out⟩⟩
  ·rw [hn] at HC hread
   simp only at hread
   have hk':=inT_ok hn
   have hP:=HP.out
   rcases hk:(t.k == 8) with _ | _
   ·have HRE:Hid (readT l n' true k' (T++[t])=R):=qh (by rw [← hread,bne,hk];rfl)
    clear hread hn
    go_wp2_with fail
    refine HC.out.mono ?_
    rintro e w2 ⟨rfl,⟨tv2,h2⟩,b2⟩
    have H2:=qh h2
    have B2:=qh (HB.out.trans b2)
    clear b2 h2
    go_wp2_with fail
    go_step3
    refine .inr ⟨rfl,⟨k',n',T++[t],tv2,_,_,_,_,_,_,_,_,_,_,_,_,_,rfl,H2,B2,qh ⟨by rw [List.length_append];simp;omega,by omega,HRE.out⟩⟩,?_⟩
    rw [readAt_of H2.out,readAt_of HR.out];omega
   ·have HRE:Hid (readT l n' false k' (T++[t])=R):=qh (by rw [← hread,bne,hk];rfl)
    clear hread hn
    go_wp2_with fail
    refine HC.out.mono ?_
    rintro e w2 ⟨rfl,⟨tv2,h2⟩,b2⟩
    have H2:=qh h2
    have B2:=qh (HB.out.trans b2)
    clear b2 h2
    go_wp2_with fail
    go_step3
    refine .inl ⟨rfl,⟨k',n',T++[t],tv2,_,_,_,_,_,_,_,_,_,_,_,_,_,rfl,H2,B2,qh ⟨by rw [List.length_append];simp;omega,by omega,HRE.out⟩⟩,?_⟩
    rw [readAt_of H2.out,readAt_of HR.out];omega
 ·intro hpass
  go_wp2_with fail
  go_step3
  go_simp
  rename_i K hK
  refine hK _ _ ?_
  exact hpass _ _ ⟨0,l.length+1,[],.slice none 0 0,_,_,_,_,_,_,_,_,_,_,_,_,_,rfl,qh ⟨Box.new w _ _,OwnN.empty _ _ _ _,H.out.alloc (Nat.le_refl _) _,by omega,hc⟩,qh (below_alloc w _),qh ⟨by simp,by omega,HR0.out⟩⟩
end
end Go.Proofs.YtoeocodfndbebaaGreatDoor
