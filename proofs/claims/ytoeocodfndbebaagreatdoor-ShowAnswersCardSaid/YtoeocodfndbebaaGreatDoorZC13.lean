/- Shared texts, shaken for one claim. -/
import Derived.Shelf.SlSortCmp.NoneTotal
import Derived.BigQuiet
import Derived.Test.YtoeocodfndbebaaGreatDoorZC3
import Derived.Test.YtoeocodfndbebaaGreatDoorZC5
import Derived.Test.YtoeocodfndbebaaGreatDoorZC7
import Derived.Test.YtoeocodfndbebaaGreatDoorZC12
set_option maxRecDepth 20000
set_option maxHeartbeats 16000000
namespace Go.Proofs.YtoeocodfndbebaaGreatDoor
section
open Go.RowKit
def rgArr (p:Int×Int):Array Value:=#[.int .i64 p.1,.int .i64 p.2]
theorem rgInfo (p:Int×Int):(Tryz.prog.info? 66).map (·.size)=some (rgArr p).size:=by kernel_rfl
theorem rg_onecell (p:Int×Int):(rgArr p).all (·.oneCell')=true:=by simp [rgArr,Value.oneCell']
theorem store_rg {ops:Array Oper} {rest:List Oper} {o:Oper} {a:Act} {Q:Exit→Act→World→Prop} (W:World) (x y:Operand) (g:Nat) (u v lo hi:Int)
 (hgd:o.guard=none) (hd:o.dst=none) (ho:o.op=.store 66 x y) (hx:a.eval x=.pointer (some ⟨g,0,none⟩)) (hy:a.eval y=.agg #[.int .i64 lo,.int .i64 hi]) (hb:Box W g #[.int .i64 u,.int .i64 v] 66)
 (h:∀ w',Box w' g #[.int .i64 lo,.int .i64 hi] 66→w'.cell? ⟨g,0,none⟩=some (.int .i64 lo)→w'.cell? ⟨g,1,none⟩=some (.int .i64 hi)→W.grownBy w' (some g)→wpList Tryz.prog ops Q rest a w'):wpList Tryz.prog ops Q (o :: rest) a W :=
 store_box W x y g (rgArr (u,v)) (rgArr (lo,hi)) hgd hd ho hx hy hb rfl (rgInfo (lo,hi)) (rg_onecell (lo,hi)) fun w' h1 h2=>h w' h1 (h1.cell rfl) (h1.cell rfl) h2
theorem load_rg {ops:Array Oper} {rest:List Oper} {o:Oper} {a:Act} {Q:Exit→Act→World→Prop} {W:World} (x:Operand) (g:Nat) (lo hi:Int)
 (hgd:o.guard=none) (ho:o.op=.load 66 x) (hx:a.eval x=.pointer (some ⟨g,0,none⟩)) (hb:Box W g #[.int .i64 lo,.int .i64 hi] 66)
 (h:wpList Tryz.prog ops Q rest (a.put o.dst (.agg #[.int .i64 lo,.int .i64 hi])) W):wpList Tryz.prog ops Q (o :: rest) a W :=
 load_box x g (rgArr (lo,hi)) _ hgd ho hx hb Tryz.underlying66 rfl (rgInfo (lo,hi)) h
theorem own_none (v:Value):v.ownBlock=none∨v.ownBlock≠none:=Decidable.em _
section
variable {P:Program} {ops:Array Oper} {o:Oper} {a:Act} {K:Act→World→Prop} {Q:Exit→Act→World→Prop} {E:Prop}
theorem step_storeN {t e:TypeId} {size:Nat} (W:World) (B:Nat) (x y:Operand) (g j c n:Nat) (u:Value) (xs:List Value)
 (hgd:o.guard=none) (hd:o.dst=none) (ho:o.op=.store t x y) (ht:(P.info? t).map (·.size)=some 1) (hu:u.oneCell'=true) (hx:a.eval x=.pointer (some ⟨g,j,none⟩)) (hy:a.eval y=u) (hr:OwnN W B e size (.slice (some ⟨g,0,none⟩) n c) n xs) (hj:j < n * size)
 (h:∀ w',OwnN w' B e size (.slice (some ⟨g,0,none⟩) n c) n (xs.set j u)→W.grownBy w' (some g)→K a w') :
 if Region.wanted o (yielded ops a.tmps)=true then Oper.wp P o a W K Q else E:=by
 have hw:Region.wanted o (yielded ops a.tmps)=true:=by simp [Region.wanted,hgd]
 rw [if_pos hw]
 have hjl:j < xs.length:=by rw [hr.1];exact hj
 have hcell:W.cell? ⟨g,j,none⟩=some xs[j]:=by
  have:=World.ownsRow.cellAt hr j hj
  rw [this,List.getElem?_eq_getElem hjl]
 have hfree:W.frozen? ⟨g,j,none⟩=false:=World.ownsRow.frozenAt hr j
 have hst:=World.ownsRow.stored hr j u
 obtain ⟨i,hi,hz1⟩:∃ i,P.info? t=some i∧i.size=1:=by
  cases hh:P.info? t with
  | none=>rw [hh] at ht;cases ht
  | some i=>rw [hh] at ht;exact ⟨i,rfl,by simpa using ht⟩
 unfold Oper.wp
 obtain ⟨dst,op,ty,pos,after,guard⟩:=o
 obtain rfl:dst=none:=hd
 obtain rfl:op=.store t x y:=ho
 simp [execOp,hx,hy,Instr.storeAt,Instr.sureAddr]
 cases u with
 | agg cs=>cases hu
 | tuple cs=>cases hu
 | _ =>
  all_goals
   go_simp
   simp only [sizeOf,typeInfo,Sem.run_bind,Sem.run_pure]
   go_simp
   first
    | exact h _ hst.1 hst.2
    | (rw [run_store P W _ _ _ rfl];simp only [hcell,hfree];exact h _ hst.1 hst.2)
end
theorem prC_setLast (T:List (Int×Int)) (q:Int×Int) (m:Nat) (hm:T.length=m) (x:Int):(prC (T++[q])).set (m * 2+1) (.int .i64 x)=prC (T++[(q.1,x)]):=by
 have hl:=prC_length T
 rw [prC_append,prC_append,List.set_append_right _ _ (by omega),hl,hm,show m * 2+1 - m * 2=1 by omega]
 rfl
theorem has1_any (r:Int×Int) (x:Int) (b:Nat) (w:World) (hb:w.cell? ⟨b,0,none⟩=some (.int .i64 x)) (hlt:b < w.heap.size) :
 Calls Tryz.prog 165 #[.agg (rgArr r),.pointer (some ⟨b,0,none⟩)] w fun e w'=>e=.returned (.bool (inR r x))∧Below w.heap.size w w':=by
 have hb':∀ u,Below w.heap.size w u→u.cell? ⟨b,0,none⟩=some (.int .i64 x):=fun u hu=>by rw [hu.cell (p:=⟨b,0,none⟩) hlt];exact hb
 obtain ⟨lo,hi⟩:=r
 have hc:=hb' _ (below_alloc w (.cells #[.int .i64 lo,.int .i64 hi] 66))
 clear hb hb' hlt
 unfold inR rgArr
 simp only
 rcases d1:decide (lo≤x) with _ | _
 ·go_enter Tryz.func165,Tryz.ntmps165
  go_wp2
  go_ret
  exact ⟨rfl,below_alloc w _⟩
 ·rcases d2:decide (x≤hi) with _ | _
  all_goals
   go_enter Tryz.func165,Tryz.ntmps165
   go_wp2
   go_ret
   exact ⟨rfl,below_alloc w _⟩
theorem rgindex_any (w:World) (A:Option Addr) (R:List (Int×Int)) (c:Nat) (x:Int) (b:Nat) (h:Lies w w.heap.size A (prC R)) (hl:R.length≤1000000) (hb:w.cell? ⟨b,0,none⟩=some (.int .i64 x)) (hlt:b < w.heap.size) :
 Calls Tryz.prog 171 #[.slice A R.length c,.func (.func 165) #[] #[.pointer (some ⟨b,0,none⟩)]] w fun e w'=>∃ i:Int,e=.returned (.int .i64 i)∧decide (0≤i)=hasR R x∧Below w.heap.size w w':=by
 have HL:=qh h
 have HX:Hid (∀ u,Below w.heap.size w u→u.cell? ⟨b,0,none⟩=some (.int .i64 x)∧b < u.heap.size):=qh fun u hu=>⟨by rw [hu.cell (p:=⟨b,0,none⟩) hlt];exact hb,Nat.lt_of_lt_of_le hlt hu.size⟩
 have henter:=fun args u=>call_ok Tryz.func165 (by kernel_rfl) rfl args u
 clear h hb hlt
 go_enter Tryz.func171,Tryz.ntmps171
 go_wp2_with fail
 go_loopw [8] (fun iv wr=>∃ k:Nat,k≤R.length∧iv=.int .i64 k∧Hid (hasR (R.take k) x=false)∧Hid (Below w.heap.size w wr)) (fun iv _=>R.length - (intOf iv).toNat)
 case atStart=>exact ⟨0,by omega,rfl,qh rfl,qh (Below.refl _ _)⟩
 case round =>
  obtain ⟨k,hk,rfl,HN,HB⟩:=hrel
  by_cases hlt:k < R.length
  ·obtain ⟨g,off,rfl,-,c0,c1⟩:=prC_at (HL.out.below HB.out) hlt
   have k0:(0:Int)≤(k:Int):=by omega
   have k1:(k:Int) < (R.length:Int):=by omega
   have HS:Hid (hasR (R.take (k+1)) x=inR R[k] x):=qh (by rw [List.take_succ_eq_append_getElem hlt,hasR_append,HN.out];simp [hasR])
   have HM:Hid (inR R[k] x=true→hasR R x=true):=qh (fun h1=>hasR_iff.2 ⟨_,List.getElem_mem hlt,by simpa [inR] using h1⟩)
   obtain ⟨p,hp⟩:∃ p,R[k]=p:=⟨_,rfl⟩
   rw [hp] at c0 c1 HS HM
   obtain ⟨lo,hi⟩:=p
   simp only at c0 c1
   have hcall:=fun u (hu:Below w.heap.size w u)=>has1_any (lo,hi) x b u (HX.out u hu).1 (HX.out u hu).2
   have HC:=qh hcall
   clear hp hcall
   go_wp2_with fail
   refine (HC.out _ HB.out).mono ?_
   rintro e w1 ⟨rfl,b1⟩
   have B1:=qh (HB.out.trans (b1.mono HB.out.size))
   clear b1 c0 c1
   rcases hz:inR (lo,hi) x with _ | _
   ·rw [hz] at HS
    go_wp2_with fail
    go_roundw
    case rel=>exact ⟨k+1,by omega,by go_num,HS,B1⟩
    case measure=>simp [intOf];omega
   ·have HT:=qh (HM.out hz)
    go_wp2_with fail
    go_ret
    exact ⟨(k:Int),rfl,by rw [HT.out];exact decide_eq_true k0,B1.out⟩
  ·obtain rfl:k=R.length:=by omega
   have hzf:hasR R x=false:=by have:=HN.out;rwa [List.take_length] at this
   have HZ:=qh hzf
   clear hzf
   go_wp2_with fail
   go_ret
   exact ⟨-1,rfl,by rw [HZ.out];rfl,HB.out⟩
theorem rgcontains_any (w:World) (A:Option Addr) (R:List (Int×Int)) (c:Nat) (x:Int) (b:Nat) (h:Lies w w.heap.size A (prC R)) (hl:R.length≤1000000) (hb:w.cell? ⟨b,0,none⟩=some (.int .i64 x)) (hlt:b < w.heap.size) :
 Calls Tryz.prog 164 #[.slice A R.length c,.func (.func 165) #[] #[.pointer (some ⟨b,0,none⟩)]] w fun e w'=>e=.returned (.bool (hasR R x))∧Below w.heap.size w w':=by
 have H:=qh (rgindex_any w A R c x b h hl hb hlt)
 obtain ⟨z,hz⟩:∃ z,hasR R x=z:=⟨_,rfl⟩
 rw [hz] at H ⊢
 clear h hl hb hlt hz
 go_enter Tryz.func164,Tryz.ntmps164
 go_wp2_with fail
 refine H.out.mono ?_
 rintro e w1 ⟨i,rfl,hi,b1⟩
 have B1:=qh b1
 clear b1
 go_wp2_with fail
 go_ret
 exact ⟨rfl,B1.out⟩
theorem trhas_any (w:World) (A:Option Addr) (R:List (Int×Int)) (c:Nat) (x:Int) (h:Lies w w.heap.size A (prC R)) (hl:R.length≤1000000) :
 Calls Tryz.prog 154 #[.slice A R.length c,.int .i64 x] w fun e w'=>e=.returned (.bool (hasR R x))∧Below w.heap.size w w':=by
 obtain ⟨z,hz⟩:∃ z,hasR R x=z:=⟨_,rfl⟩
 have HI:=qh (rgcontains_any (w.alloc (.cells #[.int .i64 x] 3)) A R c x w.heap.size (h.up (below_alloc w _)) hl ((Box.new w _ _).cell rfl) (by simp))
 rw [hz] at HI ⊢
 clear h hz
 go_enter Tryz.func154,Tryz.ntmps154
 go_wp2_with fail
 refine HI.out.mono ?_
 rintro e w1 ⟨rfl,b1⟩
 have B1:=qh (below_then (below_alloc w _) b1)
 clear b1
 go_wp2_with fail
 go_ret
 exact ⟨rfl,B1.out⟩
end
section
open Go.RowKit Go.Shelf Go.Sort
def sortRg_ren:Go.Shelf.Ren:=⟨fun | 6=>113 | 15=>134 | 14=>133 | 28=>151 | 29=>122 | 20=>143 | 21=>144 | 22=>145 | 23=>146 | 24=>147 | 25=>148 | 26=>149 | 27=>150 | 46=>155 | 47=>156 | 48=>157 | 49=>158 | 50=>159 | 57=>166 | n=>n,fun | 22=>22 | 24=>66 | 25=>132 | 3=>3 | 39=>140 | 0=>0 | 53=>138 | 55=>118 | 4=>4 | 46=>150 | 45=>149 | 50=>154 | 5=>5 | 9=>9 | 66=>159 | 70=>163 | 76=>167 | 77=>97 | n=>n,fun | n=>n⟩
theorem sortRg:Go.Proofs.SlLaysF0.n6 Tryz.prog sortRg_ren:={
 mixed:=by kernel_rfl
 f6:=⟨Tryz.f113.name,by decide,Tryz.func113.trans (congrArg some (by kernel_rfl))⟩
 f14:=⟨Tryz.f133.name,by decide,Tryz.func133.trans (congrArg some (by kernel_rfl))⟩
 f15:=Tryz.func134.trans (congrArg some (by kernel_rfl))
 f20:=⟨Tryz.f143.name,by decide,Tryz.func143.trans (congrArg some (by kernel_rfl))⟩
 f21:=⟨Tryz.f144.name,by decide,Tryz.func144.trans (congrArg some (by kernel_rfl))⟩
 f22:=⟨Tryz.f145.name,by decide,Tryz.func145.trans (congrArg some (by kernel_rfl))⟩
 f23:=⟨Tryz.f146.name,by decide,Tryz.func146.trans (congrArg some (by kernel_rfl))⟩
 f24:=⟨Tryz.f147.name,by decide,Tryz.func147.trans (congrArg some (by kernel_rfl))⟩
 f25:=⟨Tryz.f148.name,by decide,Tryz.func148.trans (congrArg some (by kernel_rfl))⟩
 f26:=⟨Tryz.f149.name,by decide,Tryz.func149.trans (congrArg some (by kernel_rfl))⟩
 f27:=⟨Tryz.f150.name,by decide,Tryz.func150.trans (congrArg some (by kernel_rfl))⟩
 f28:=Tryz.func151.trans (congrArg some (by kernel_rfl))
 f29:=Tryz.func122.trans (congrArg some (by kernel_rfl))
 f46:=⟨Tryz.f155.name,by decide,Tryz.func155.trans (congrArg some (by kernel_rfl))⟩
 f47:=Tryz.func156.trans (congrArg some (by kernel_rfl))
 f48:=Tryz.func157.trans (congrArg some (by kernel_rfl))
 f49:=⟨Tryz.f158.name,by decide,Tryz.func158.trans (congrArg some (by kernel_rfl))⟩
 f50:=⟨Tryz.f159.name,by decide,Tryz.func159.trans (congrArg some (by kernel_rfl))⟩
 f57:=⟨Tryz.f166.name,by decide,Tryz.func166.trans (congrArg some (by kernel_rfl))⟩
 t0:=Tryz.underlying0
 a0:=Tryz.isAgg0
 z0:=Tryz.sizeOf0
 v0:=Tryz.zeroValue0
 t3:=Tryz.underlying3
 a3:=Tryz.isAgg3
 z3:=Tryz.sizeOf3
 v3:=Tryz.zeroValue3
 t4:=Tryz.underlying4
 a4:=Tryz.isAgg4
 z4:=Tryz.sizeOf4
 v4:=Tryz.zeroValue4
 t5:=Tryz.underlying5
 a5:=Tryz.isAgg5
 z5:=Tryz.sizeOf5
 v5:=Tryz.zeroValue5
 t9:=Tryz.underlying9
 a9:=Tryz.isAgg9
 z9:=Tryz.sizeOf9
 v9:=Tryz.zeroValue9
 t22:=Tryz.underlying22
 a22:=Tryz.isAgg22
 z22:=Tryz.sizeOf22
 v22:=Tryz.zeroValue22
 t25:=Tryz.underlying132
 a25:=Tryz.isAgg132
 z25:=Tryz.sizeOf132
 v25:=Tryz.zeroValue132
 t39:=Tryz.underlying140
 a39:=Tryz.isAgg140
 z39:=Tryz.sizeOf140
 v39:=Tryz.zeroValue140
 t45:=Tryz.underlying149
 a45:=Tryz.isAgg149
 z45:=Tryz.sizeOf149
 v45:=Tryz.zeroValue149
 t46:=Tryz.underlying150
 a46:=Tryz.isAgg150
 z46:=Tryz.sizeOf150
 v46:=Tryz.zeroValue150
 t50:=Tryz.underlying154
 a50:=Tryz.isAgg154
 z50:=Tryz.sizeOf154
 v50:=Tryz.zeroValue154
 t53:=Tryz.underlying138
 a53:=Tryz.isAgg138
 z53:=Tryz.sizeOf138
 v53:=Tryz.zeroValue138
 t55:=Tryz.underlying118
 a55:=Tryz.isAgg118
 z55:=Tryz.sizeOf118
 v55:=Tryz.zeroValue118
 t66:=Tryz.underlying159
 a66:=Tryz.isAgg159
 z66:=Tryz.sizeOf159
 v66:=Tryz.zeroValue159
 t70:=Tryz.underlying163
 a70:=Tryz.isAgg163
 z70:=Tryz.sizeOf163
 v70:=Tryz.zeroValue163
 t76:=Tryz.underlying167
 a76:=Tryz.isAgg167
 z76:=Tryz.sizeOf167
 v76:=Tryz.zeroValue167
 t77:=Tryz.underlying97
 a77:=Tryz.isAgg97
 z77:=Tryz.sizeOf97
 v77:=Tryz.zeroValue97 }
end
section
open Go.RowKit Go.Shelf Go.Sort
def encP (x:Int×Int):List Value:=[.int .i64 x.1,.int .i64 x.2]
theorem lt_fst (x y:Int×Int):ltOf (fun x y:Int×Int=>Lib.compareInt x.1 y.1) x y=decide (x.1 < y.1):=by
 unfold ltOf Lib.compareInt
 by_cases h1:x.1 < y.1
 ·simp [h1]
 ·by_cases h2:y.1 < x.1 <;> simp [h1,h2]
theorem swo_fst:SWO (ltOf fun x y:Int×Int=>Lib.compareInt x.1 y.1) where
 irrefl x:=by rw [lt_fst];simp
 trans x y z h1 h2:=by rw [lt_fst] at *;simp at *;omega
 ntrans x y z h1 h2:=by rw [lt_fst] at *;simp at *;omega
theorem nan_any (x:Int) (w:World):Calls Tryz.prog 135 #[.int .i64 x] w fun e w'=>e=.returned (.bool false)∧w=w':=by
 have hn:(x != x)=false:=by simp
 go_enter Tryz.func135,Tryz.ntmps135
 go_wp2
 go_ret
 exact ⟨by first | rfl | simp,rfl⟩
theorem cmp_any (x y:Int) (w:World):Calls Tryz.prog 115 #[.int .i64 x,.int .i64 y] w fun e w'=>e=.returned (.int .i64 (Lib.compareInt x y))∧w=w':=by
 obtain ⟨z,hz⟩:∃ z,Lib.compareInt x y=z:=⟨_,rfl⟩
 have HZ:=qh hz
 rw [hz]
 clear hz
 rcases h1:decide (x < y) with _ | _
 ·rcases h2:decide (y < x) with _ | _
  ·have HF:Hid (z=0):=qh (by rw [← HZ.out,Lib.compareInt,if_neg (by simpa using h1),if_neg (by simpa using h2)])
   go_enter Tryz.func115,Tryz.ntmps115
   go_wp2_with fail
   refine (nan_any x w).mono ?_
   rintro e wq ⟨rfl,rfl⟩
   go_wp2_with fail
   refine (nan_any y w).mono ?_
   rintro e wq ⟨rfl,rfl⟩
   go_wp2
   go_ret
   exact ⟨ret_int HF.out.symm,rfl⟩
  ·have HF:Hid (z=1):=qh (by rw [← HZ.out,Lib.compareInt,if_neg (by simpa using h1),if_pos (by simpa using h2)])
   go_enter Tryz.func115,Tryz.ntmps115
   go_wp2_with fail
   refine (nan_any x w).mono ?_
   rintro e wq ⟨rfl,rfl⟩
   go_wp2_with fail
   refine (nan_any y w).mono ?_
   rintro e wq ⟨rfl,rfl⟩
   go_wp2
   go_ret
   exact ⟨ret_int HF.out.symm,rfl⟩
 ·have HF:Hid (z=-1):=qh (by rw [← HZ.out,Lib.compareInt,if_pos (by simpa using h1)])
  go_enter Tryz.func115,Tryz.ntmps115
  go_wp2_with fail
  refine (nan_any x w).mono ?_
  rintro e wq ⟨rfl,rfl⟩
  go_wp2_with fail
  refine (nan_any y w).mono ?_
  rintro e wq ⟨rfl,rfl⟩
  go_wp2
  go_ret
  exact ⟨ret_int HF.out.symm,rfl⟩
theorem rising1_any (x y:Int×Int) (w:World):Calls Tryz.prog 114 #[.agg #[.int .i64 x.1,.int .i64 x.2],.agg #[.int .i64 y.1,.int .i64 y.2]] w fun e w' =>
 e=.returned (.int .i64 (Lib.compareInt x.1 y.1))∧∃ q os',w'=grow (w.drewN q) os':=by
 have hcon:=fun u=>cmp_any x.1 y.1 u
 generalize Lib.compareInt x.1 y.1=r at hcon ⊢
 go_enter Tryz.func114,Tryz.ntmps114
 go_wp2_with (go_at_call 115;refine (hcon _).mono ?_;rintro e w' ⟨rfl,rfl⟩)
 go_ret
 exact ⟨rfl,0,_,by rw [alloc_eq_grow,alloc_eq_grow,grow_grow];rfl⟩
theorem flat_pairs (L:List (Int×Int)):flatK encP 2 L.toArray=(prC L).toArray:=by
 have hl:=prC_length L
 refine ext_get! (by simp [hl]) fun t ht=>?_
 have ht':t < L.length * 2:=by simpa using ht
 have hj:t / 2 < L.length:=by omega
 obtain ⟨h1,h2⟩:=prC_get L (t / 2) hj
 have e1:∀ u,(prC L)[t]?=some u→(prC L).toArray[t]! = u:=fun u hu=>by
  obtain ⟨hlt,rfl⟩:=List.getElem?_eq_some_iff.1 hu
  rw [getElem!_pos _ t (by simpa using hlt)];simp
 have e2:L.toArray[t / 2]! = L[t / 2]:=by rw [getElem!_pos _ _ (by simpa using hj)];simp
 rw [get_flatK _ _ _ _ (by simpa using ht'),e2]
 rcases Nat.mod_two_eq_zero_or_one t with hm | hm
 ·rw [show t / 2 * 2=t by omega] at h1
  rw [e1 _ h1,hm];rfl
 ·rw [show t / 2 * 2+1=t by omega] at h2
  rw [e1 _ h2,hm];rfl
theorem grown_sorted {w:World} {g n:Nat} {os:Array Obj} (F:Array Value):w.grownBy (grow (putRow id (Sort.ahead w n) g 0 F) os) (some g):=by
 refine ⟨rfl,rfl,rfl,by simp,fun k hk hne=>?_⟩
 rw [heap_grow_old _ _ (by simpa using hk)]
 have:g≠k:=fun e=>hne (by rw [e])
 simp [putRow,mapBlock,Sort.ahead,Array.getElem?_modify,this]
theorem sortRg_any (B:Nat) (v:Value) (L:List (Int×Int)) (w:World) (h:OwnN w B 66 2 v L.length (prC L)) (hl:L.length≤1000000) (hB:B≤w.heap.size) :
 Calls Tryz.prog 113 #[v,.func (.func 114) #[] #[]] w fun ed w'=>ed=.returned (.tuple #[]) ∧
  ∃ L':List (Int×Int),L'.Perm L∧L'.Pairwise (fun p q=>p.1≤q.1)∧(∃ A c,v=.slice A L.length c∧Lies w' w'.heap.size A (prC L'))∧Below B w w':=by
 rcases h.2 with ⟨rfl,hn⟩ | ⟨g,cap,cur,rfl,hbg,hh,hc,hm,hs,ht⟩
 ·have hL:L=[]:=List.eq_nil_of_length_eq_zero hn
  subst hL
  refine (AnyF.slices_SortFunc_none sortRg none 0 _ w).mono ?_
  rintro ed w' ⟨rfl,rfl⟩
  exact ⟨rfl,[],List.Perm.refl _,List.Pairwise.nil,⟨none,0,rfl,Lies.empty⟩,Below.refl _ _⟩
 ·have hg:g < w.heap.size:=(Array.getElem?_eq_some_iff.1 hh).1
  have hH:HoldsK encP 2 w g 0 L.toArray:=by
   unfold HoldsK
   rw [flat_pairs]
   intro j hj
   have hj':j < L.length * 2:=by simpa [prC_length] using hj
   have h1:=World.ownsRow.cellAt h j hj'
   refine ⟨?_,by rw [Nat.zero_add];exact World.ownsRow.frozenAt h j⟩
   rw [Nat.zero_add,h1,getElem!_pos _ j hj]
   simp [List.getElem?_eq_getElem (show j < (prC L).length by rw [prC_length];exact hj')]
  have eg:∀ args u,(callFunc 114 args).run Tryz.prog u=.ok (.enter 114 args) u:=enters_of Tryz.func114 (by kernel_rfl) rfl
  have hcon:=AnyQ.slices_SortFunc sortRg 2 Tryz.isAgg66 Tryz.sizeOf66 encP (fun _=>rfl) (fun x u hu=>by simp [encP] at hu;rcases hu with rfl | rfl <;> rfl) (fun x y=>Lib.compareInt x.1 y.1) swo_fst 114 #[] g 0 cap L.toArray w eg
   (fun _ _ _ _ x y=>rising1_any x y _) hH hg (by simp;omega)
  refine hcon.mono ?_
  rintro ed w' ⟨rfl,d',n,os,hp,hsd,rfl⟩
  have hsz:d'.size=L.length:=by simpa using hp.1
  have hK:HoldsK encP 2 (sortWorldK encP 2 w g 0 n d' os) g 0 d':=holdsK_sortWorldK_c encP 2 w g 0 L.toArray d' n os hH hg (by simpa using hsz)
  have hgr:w.grownBy (sortWorldK encP 2 w g 0 n d' os) (some g):=grown_sorted _
  refine ⟨rfl,d'.toList,?_,?_,⟨_,_,rfl,fun hne=>⟨_,rfl,Nat.lt_of_lt_of_le hg hgr.size,fun i u hu=>?_⟩⟩,?_⟩
  ·have:=hp.2.2
   rw [List.size_toArray] at this
   rw [show d'.extract 0 L.length=d' by rw [← hsz];simp,show L.toArray.extract 0 L.length=L.toArray by simp] at this
   simpa using this
  ·refine List.pairwise_iff_getElem.2 fun i j hi hj hij=>?_
   simp at hi hj
   have:=hsd i j (Nat.zero_le _) hij (by simpa [← hsz] using hj)
   rw [lt_fst,getElem!_pos d' j hj,getElem!_pos d' i hi] at this
   simp at this ⊢
   exact this
  ·have hd:flatK encP 2 d'=(prC d'.toList).toArray:=by rw [← flat_pairs]
   unfold HoldsK at hK
   rw [hd] at hK
   obtain ⟨hlt,rfl⟩:=List.getElem?_eq_some_iff.1 hu
   have:=(hK i (by simpa using hlt)).1
   rw [getElem!_pos _ i (by simpa using hlt)] at this
   simpa [add_plain] using this
  ·exact ⟨hgr.os,hgr.tape,hgr.output,hgr.size,fun k hk=>hgr.block k (by omega) (fun e=>by injection e with e;omega)⟩
end
section
open Go.RowKit
def RisenTo (w:World) (R:List (Int×Int)) (ed:Ending) (w':World):Prop:=∃ A c L,ed=.returned (.slice A L.length c)∧Lies w' w'.heap.size A (prC L)∧L.Perm (keepR R)∧L.Pairwise (fun p q=>p.1≤q.1)∧Below w.heap.size w w'
theorem rising_any (w:World) (A:Option Addr) (R:List (Int×Int)) (c:Nat) (h:Lies w w.heap.size A (prC R)) (hl:R.length≤1000000) :
 Calls Tryz.prog 95 #[.slice A R.length c] w (RisenTo w R):=by
 have HL:=qh h
 clear h
 go_enter Tryz.func95,Tryz.ntmps95
 go_wp2_with fail
 go_loopw [8,3] (fun iv ov wr=>∃ k:Nat,k≤R.length∧iv=.int .i64 k∧Hid (OwnN wr w.heap.size 66 2 ov (keepR (R.take k)).length (prC (keepR (R.take k))))∧Hid (Below w.heap.size w wr)) (fun iv _ _=>R.length - (intOf iv).toNat)
 case atStart=>exact ⟨0,by omega,rfl,qh (OwnN.empty _ _ _ _),qh (Below.refl _ _)⟩
 case round =>
  obtain ⟨k,hk,rfl,HO,HB⟩:=hrel
  have hkl:=keepR_len (R.take k)
  rw [List.length_take] at hkl
  by_cases hlt:k < R.length
  ·obtain ⟨g,off,rfl,-,c0,c1⟩:=prC_at (HL.out.below HB.out) hlt
   have k0:(0:Int)≤(k:Int):=by omega
   have k1:(k:Int) < (R.length:Int):=by omega
   have HNX:=qh (keepR_next hlt)
   obtain ⟨p,hp⟩:∃ p,R[k]=p:=⟨_,rfl⟩
   rw [hp] at c0 c1 HNX
   obtain ⟨lo,hi⟩:=p
   simp only at c0 c1 HNX
   obtain ⟨T,hT⟩:∃ T,keepR (R.take k)=T:=⟨_,rfl⟩
   rw [hT] at HNX HO hkl
   obtain ⟨n,hn⟩:∃ n,T.length=n:=⟨_,rfl⟩
   have HN:=qh hn
   rw [hn] at HO hkl
   obtain ⟨AO,co,rfl,-,-,-⟩:=HO.out.form
   clear hp hT hn
   by_cases hkp:max lo 0≤min hi 1114111
   ·have d1:decide (max lo 0≤min hi 1114111)=true:=decide_eq_true hkp
    have HN2:Hid (keepR (R.take (k+1))=T++[(max lo 0,min hi 1114111)]):=qh (by have:=HNX.out;rwa [if_pos hkp] at this)
    obtain ⟨a,ha⟩:∃ a,max lo 0=a:=⟨_,rfl⟩
    obtain ⟨z,hz⟩:∃ z,min hi 1114111=z:=⟨_,rfl⟩
    have e1:(if 0 > lo then (0:Int) else lo)=a:=by rw [← ha];split <;> omega
    have e2:(if 1114111 < hi then (1114111:Int) else hi)=z:=by rw [← hz];split <;> omega
    rw [ha,hz] at d1 HN2
    clear hkp
    have HZR:=qh (HB.out.size)
    go_wp2_with (first
     | (refine store_rg _ _ _ wr.heap.size lo hi a z rfl rfl rfl rfl rfl (Box.new wr _ _) ?_;intro wb xb q0 q1 gb;have XB:=qh xb;have GB:Hid (wr.grownBy wb none):=qh (grown_two (grown_new wr _ none) gb (Nat.le_refl _));clear xb gb)
     | (refine load_rg _ wr.heap.size a z rfl rfl rfl XB.out ?_)
     | (at_builtin;refine appN_at rgT wr _ w.heap.size _ _ _ (.slice AO n co) n 1 (prC T) (prC [(a,z)]) _ _ rfl rfl rfl rfl ((HO.out.keep GB.out (own_none _)).alloc _) (rg_lit wb (a,z)) rfl (prC_one _) ((below_row_none GB.out HZR.out).alloc (Nat.le_trans HZR.out GB.out.size) _) (by have:=GB.out.size;have:=HZR.out;simp;omega) (by unfold maxLen;omega) (by omega) ?_;intro v2 w2 o2 b2 _ _;have O2:Hid (OwnN w2 w.heap.size 66 2 v2 (T++[(a,z)]).length (prC (T++[(a,z)]))):=qh (by rw [prC_append,List.length_append,HN.out];exact o2);have B2:=qh (HB.out.trans b2);clear o2 b2)
     | fail)
    rw [← HN2.out] at O2
    go_roundw
    case rel=>exact ⟨k+1,by omega,by go_num,O2,B2⟩
    case measure=>simp [intOf];omega
   ·have d1:decide (max lo 0≤min hi 1114111)=false:=decide_eq_false hkp
    have HN2:Hid (keepR (R.take (k+1))=T):=qh (by have:=HNX.out;rwa [if_neg hkp,List.append_nil] at this)
    obtain ⟨a,ha⟩:∃ a,max lo 0=a:=⟨_,rfl⟩
    obtain ⟨z,hz⟩:∃ z,min hi 1114111=z:=⟨_,rfl⟩
    have e1:(if 0 > lo then (0:Int) else lo)=a:=by rw [← ha];split <;> omega
    have e2:(if 1114111 < hi then (1114111:Int) else hi)=z:=by rw [← hz];split <;> omega
    rw [ha,hz] at d1
    clear hkp
    have HZR:=qh (HB.out.size)
    go_wp2_with (first
     | (refine store_rg _ _ _ wr.heap.size lo hi a z rfl rfl rfl rfl rfl (Box.new wr _ _) ?_;intro wb xb q0 q1 gb;have XB:=qh xb;have GB:Hid (wr.grownBy wb none):=qh (grown_two (grown_new wr _ none) gb (Nat.le_refl _));clear xb gb)
     | fail)
    go_roundw
    case rel=>exact ⟨k+1,by omega,by go_num,qh (by rw [HN2.out,HN.out];exact HO.out.keep GB.out (own_none _)),qh (HB.out.trans (below_row_none GB.out HZR.out))⟩
    case measure=>simp [intOf];omega
  ·obtain rfl:k=R.length:=by omega
   rw [List.take_length] at HO hkl
   have HS:=qh (sortRg_any w.heap.size _ (keepR R) wr HO.out (by omega) HB.out.size)
   clear hkl
   go_wp2_with fail
   refine HS.out.mono ?_
   rintro e w1 ⟨rfl,L,hp,hs,⟨A',c',rfl,l⟩,b⟩
   have HX:Hid (L.Perm (keepR R)∧L.Pairwise (fun p q=>p.1≤q.1)):=qh ⟨hp,hs⟩
   have LL:=qh l
   have B1:=qh (HB.out.trans b)
   have hlen:L.length=(keepR R).length:=hp.length_eq
   have HLen:=qh hlen
   clear hp hs l b hlen
   go_wp2_with fail
   go_ret
   exact ⟨A',c',L,by rw [HLen.out];rfl,LL.out,HX.out.1,HX.out.2,B1.out⟩
theorem turned_any (w:World) (A:Option Addr) (S:List (Int×Int)) (c:Nat) (h:Lies w w.heap.size A (prC S)) (hl:S.length≤1000000) (hc:Canon 0 S) :
 Calls Tryz.prog 139 #[.slice A S.length c] w (RowedRg w (setP fun c=>!hasR S c)):=by
 have HL:=qh h
 obtain ⟨Z,hZ⟩:∃ Z,(setP fun c=>!hasR S c)=Z:=⟨_,rfl⟩
 have HZ:=qh hZ
 rw [hZ]
 have HCA:=qh (TurnAt.start hc)
 clear h hZ hc
 go_enter Tryz.func139,Tryz.ntmps139
 go_wp2_with fail
 go_loopw [9,4,3] (fun iv av ov wr=>∃ (i a:Nat) (T:List (Int×Int)),i≤S.length∧iv=.int .i64 i∧av=.int .i64 a∧Hid (TurnAt S a i T)∧Hid (OwnN wr w.heap.size 66 2 ov T.length (prC T))∧Hid (Below w.heap.size w wr)) (fun iv _ _ _=>S.length - (intOf iv).toNat)
 case atStart=>exact ⟨0,0,[],by omega,rfl,rfl,HCA,qh (OwnN.empty _ _ _ _),qh (Below.refl _ _)⟩
 case round =>
  obtain ⟨i,a,T,hi,rfl,rfl,HT,HO,HB⟩:=hrel
  have htn:T.length≤1000000:=by have:=HT.out.len;omega
  obtain ⟨AO,co,rfl,-,-,-⟩:=HO.out.form
  obtain ⟨nt,hnt⟩:∃ n,T.length=n:=⟨_,rfl⟩
  have HNT:=qh hnt
  rw [hnt] at HO htn ⊢
  clear hnt
  by_cases hlt:i < S.length
  ·obtain ⟨g,off,rfl,hgl,c0,c1'⟩:=prC_at (HL.out.below HB.out) hlt
   obtain ⟨lo,hlo⟩:∃ n:Nat,S[i].1=(n:Int)∧∃ m:Nat,S[i].2=(m:Int):=by
    have hcd:=HT.out.canon
    rw [List.drop_eq_getElem_cons hlt] at hcd
    have h1:=hcd.1;have h2:=hcd.2.1
    exact ⟨S[i].1.toNat,by omega,S[i].2.toNat,by omega⟩
   obtain ⟨hlo,hi2,hhi⟩:=hlo
   have he:S[i]=((lo:Int),(hi2:Int)):=Prod.ext hlo hhi
   obtain ⟨n1,n2,n3,hnx⟩:=HT.out.next hlt he
   rw [hlo] at c0
   rw [hhi] at c1'
   have k0:(0:Int)≤(i:Int):=by omega
   have k1:(i:Int) < (S.length:Int):=by omega
   have hw1:IntKind.i64.wrap ((lo:Int) - 1)=(lo:Int) - 1:=IntWalk.i64_in _ (by omega)
   have hw2:IntKind.i64.wrap ((hi2:Int)+1)=((hi2+1:Nat):Int):=by rw [IntWalk.i64_in _ (by omega)];omega
   have HNX:=qh hnx
   clear hnx he hlo hhi
   by_cases hal:a < lo
   ·have d1:decide ((a:Int) < (lo:Int))=true:=decide_eq_true (by omega)
    have d2:decide (a < lo)=true:=decide_eq_true hal
    have HN2:Hid (TurnAt S (hi2+1) (i+1) (T++[((a:Int),(lo:Int) - 1)])):=qh (by have:=HNX.out;rwa [if_pos hal] at this)
    have HBZ:Hid (w.heap.size≤wr.heap.size):=qh HB.out.size
    have HS2:Hid (∀ (o:Obj) (u:World),((wr.alloc (.cells #[.int .i64 (lo:Int),.int .i64 (hi2:Int)] 66)).alloc o).grownBy u (Value.slice AO nt co).ownBlock→u.cell? ⟨wr.heap.size,1,none⟩=some (.int .i64 (hi2:Int))):=qh fun o u hu =>
     (((Box.new wr _ _).kept (grown_new _ o none) (by simp)).kept hu (by intro e;have:=HO.out.inside _ e;omega)).cell rfl
    have HLIT:Hid (Lies ((wr.alloc (.cells #[.int .i64 (lo:Int),.int .i64 (hi2:Int)] 66)).alloc (.cells #[.int .i64 (a:Int),.int .i64 ((lo:Int) - 1)] 66)) (wr.heap.size+1+1) (some ⟨wr.heap.size+1,0,none⟩) (prC [((a:Int),(lo:Int) - 1)])):=by
     have:=rg_lit (wr.alloc (.cells #[.int .i64 (lo:Int),.int .i64 (hi2:Int)] 66)) ((a:Int),(lo:Int) - 1)
     rw [World.size_alloc] at this
     exact this
    clear hal
    go_wp2_with (first
     | (at_builtin;refine appN_at rgT wr _ w.heap.size _ _ _ (.slice AO nt co) nt 1 (prC T) (prC [((a:Int),(lo:Int) - 1)]) _ _ rfl rfl rfl rfl ((HO.out.alloc _).alloc _) HLIT.out rfl (prC_one _) (((Below.refl _ _).alloc HBZ.out _).alloc (by have:=HBZ.out;simp;omega) _) (by have:=HBZ.out;simp;omega) (by unfold maxLen;omega) (by omega) ?_;intro v2 w2 o2 b2 g2 _;have O2:Hid (OwnN w2 w.heap.size 66 2 v2 (T++[((a:Int),(lo:Int) - 1)]).length (prC (T++[((a:Int),(lo:Int) - 1)]))):=qh (by rw [prC_append,List.length_append,HNT.out];exact o2);have B2:=qh (HB.out.trans b2);have hc2:=HS2.out _ w2 g2;clear o2 b2 g2 c0 c1')
     | fail)
    go_roundw
    case rel=>exact ⟨i+1,hi2+1,_,by omega,by go_num,rfl,HN2,O2,B2⟩
    case measure=>simp [intOf];omega
   ·have d1:decide ((a:Int) < (lo:Int))=false:=decide_eq_false (by omega)
    have d2:decide (a < lo)=false:=decide_eq_false hal
    have HN2:Hid (TurnAt S (hi2+1) (i+1) T):=qh (by have:=HNX.out;rwa [if_neg hal] at this)
    clear hal
    go_wp2_with fail
    go_roundw
    case rel=>exact ⟨i+1,hi2+1,T,by omega,by go_num,rfl,HN2,by rw [HNT.out];exact qh (HO.out.alloc _),qh (HB.out.alloc HB.out.size _)⟩
    case measure=>simp [intOf];omega
  ·obtain rfl:i=S.length:=by omega
   have hdone:=HT.out.done
   rw [HZ.out] at hdone
   have hale:=HT.out.le
   by_cases hat:a≤1114111
   ·have d1:decide ((a:Int)≤1114111)=true:=decide_eq_true (by omega)
    have HD:Hid (T++[((a:Int),(1114111:Int))]=Z):=qh (by rwa [if_pos hat] at hdone)
    have HLIT:=qh (rg_lit wr ((a:Int),(1114111:Int)))
    have HBZ:Hid (w.heap.size≤wr.heap.size):=qh HB.out.size
    clear hat hdone
    go_wp2_with (first
     | (at_builtin;refine appN_at rgT wr _ w.heap.size _ _ _ (.slice AO nt co) nt 1 (prC T) (prC [((a:Int),(1114111:Int))]) _ _ rfl rfl rfl rfl (HO.out.alloc _) HLIT.out rfl (prC_one _) ((Below.refl _ _).alloc HBZ.out _) (by have:=HBZ.out;simp;omega) (by unfold maxLen;omega) (by omega) ?_;intro v2 w2 o2 b2 _ _;have O2:Hid (OwnN w2 w.heap.size 66 2 v2 (T++[((a:Int),(1114111:Int))]).length (prC (T++[((a:Int),(1114111:Int))]))):=qh (by rw [prC_append,List.length_append,HNT.out];exact o2);have B2:=qh (HB.out.trans b2);clear o2 b2)
     | fail)
    go_ret
    refine ⟨_,rfl,?_,B2.out⟩
    rw [← HD.out]
    exact O2.out
   ·have d1:decide ((a:Int)≤1114111)=false:=decide_eq_false (by omega)
    have HD:Hid (T=Z):=qh (by rwa [if_neg hat] at hdone)
    clear hat hdone
    go_wp2_with fail
    go_ret
    refine ⟨_,rfl,?_,HB.out⟩
    rw [← HD.out,HNT.out]
    exact HO.out
end
section
open Go.RowKit
theorem least_any (w:World) (A:Option Addr) (R:List (Int×Int)) (c:Nat) (h:Lies w w.heap.size A (prC R)) (hl:R.length≤1000000) :
 Calls Tryz.prog 79 #[.slice A R.length c] w (RowedRg w (setP (hasR R))):=by
 have HC:=qh (rising_any w A R c h hl)
 obtain ⟨Z,hZ⟩:∃ Z,setP (hasR R)=Z:=⟨_,rfl⟩
 have HZ:Hid (∀ {L T:List (Int×Int)},LeastAt L L.length T→L.Perm (keepR R)→T=Z):=qh (fun h1 h2=>by rw [← hZ,h1.done h2])
 rw [hZ]
 clear h hZ
 go_enter Tryz.func79,Tryz.ntmps79
 go_wp2_with fail
 refine HC.out.mono ?_
 rintro e w1 ⟨A1,c1,L,rfl,l1,hp,hs,b1⟩
 have hll:L.length≤1000000:=by rw [hp.length_eq];exact Nat.le_trans (keepR_len R) hl
 have HP:Hid (L.Perm (keepR R)):=qh hp
 have HIN:=qh (perm_in hp)
 have HSO:Hid (L.Pairwise fun p q=>p.1≤q.1):=qh hs
 have HL:=qh l1
 have HBW:=qh b1
 clear l1 hp hs b1
 go_wp2_with fail
 go_loopw [10,3] (fun iv ov wr=>∃ (k:Nat) (T:List (Int×Int)),k≤L.length∧iv=.int .i64 k∧Hid (LeastAt L k T)∧Hid (OwnN wr w1.heap.size 66 2 ov T.length (prC T))∧Hid (Below w1.heap.size w1 wr)) (fun iv _ _=>L.length - (intOf iv).toNat)
 case atStart=>exact ⟨0,[],by omega,rfl,qh (LeastAt.start L),qh (OwnN.empty _ _ _ _),qh (Below.refl _ _)⟩
 case round =>
  obtain ⟨k,T,hk,rfl,HT,HO,HB⟩:=hrel
  have htn:=HT.out.len
  by_cases hlt:k < L.length
  ·obtain ⟨g,off,rfl,hgl,c0,c1'⟩:=prC_at (HL.out.below HB.out) hlt
   have k0:(0:Int)≤(k:Int):=by omega
   have k1:(k:Int) < (L.length:Int):=by omega
   have hi:=HIN.out L[k] (List.getElem_mem hlt)
   have HBZ:Hid (w1.heap.size≤wr.heap.size):=qh HB.out.size
   unfold topR at hi
   obtain rfl | ⟨T',q,rfl⟩:T=[]∨∃ T' q,T=T'++[q]:=by
    rcases List.eq_nil_or_concat T with h | ⟨a,b,h⟩
    ·exact .inl h
    ·exact .inr ⟨a,b,by rw [h,List.concat_eq_append]⟩
   ·have HN2:=qh (HT.out.new HIN.out hlt (fun q hq=>by cases hq))
    obtain ⟨p,hp⟩:∃ p,L[k]=p:=⟨_,rfl⟩
    rw [hp] at c0 c1' hi HN2
    obtain ⟨lo,hi2⟩:=p
    simp only [List.nil_append] at c0 c1' hi HN2
    obtain ⟨A0,co,rfl,-,-,-⟩:=HO.out.form
    clear hp
    simp only [List.length_nil] at HO ⊢
    go_wp2_with fail
    go_quiet (fail)
    generalize hwd:World.drewN _ _=wd
    have HD:Hid (OwnN wd w1.heap.size 66 2 (.slice A0 0 co) 0 (prC [])∧Below w1.heap.size wr wd):=by subst hwd;exact qh ⟨(HO.out.alloc _).same rfl,below_drawn ((Below.refl _ _).alloc HBZ.out _) _⟩
    have HX:Hid (Box wd wr.heap.size #[.int .i64 lo,.int .i64 hi2] 66):=by subst hwd;exact qh (Box.same (Box.new wr _ _) rfl)
    clear hwd
    go_wp2_with (first
     | (refine load_rg _ wr.heap.size lo hi2 rfl rfl rfl HX.out ?_)
     | (at_builtin;refine appN_at rgT wr _ w1.heap.size _ _ _ (.slice A0 0 co) 0 1 (prC []) (prC [(lo,hi2)]) _ _ rfl rfl rfl rfl (HD.out.1.alloc _) (rg_lit wd (lo,hi2)) rfl (prC_one _) (HD.out.2.alloc (Nat.le_trans HBZ.out HD.out.2.size) _) (by have:=HD.out.2.size;have:=HBZ.out;simp;omega) (by unfold maxLen;omega) (by omega) ?_;intro v2 w2 o2 b2 _ _;have O2:Hid (OwnN w2 w1.heap.size 66 2 v2 1 (prC [(lo,hi2)])):=qh o2;have B2:=qh (HB.out.trans b2);clear o2 b2)
     | fail)
    go_roundw
    case rel=>exact ⟨k+1,_,by omega,by go_num,HN2,O2,B2⟩
    case measure=>simp [intOf];omega
   ·have hq:=canon_lastAt HT.out.canon
    have htl:(T'++[q]).length=T'.length+1:=by simp
    rw [htl] at HO
    unfold topR at hq
    have HNEW:=fun hn=>qh (HT.out.new HIN.out hlt hn)
    have HJOIN:=fun hn=>qh (HT.out.join HSO.out HIN.out hlt hn)
    obtain ⟨p,hp⟩:∃ p,L[k]=p:=⟨_,rfl⟩
    rw [hp] at c0 c1' hi HNEW HJOIN
    obtain ⟨lo,hi2⟩:=p
    obtain ⟨m,hm⟩:∃ m,T'.length=m:=⟨_,rfl⟩
    rw [hm] at HO htl
    have HM:=qh hm
    obtain ⟨go,co,rfl,hco,hgo1,hgo2,hcell⟩:=HO.out.block (by omega)
    have hx:=hcell (m * 2+1) (by omega)
    have hq2:(prC (T'++[q]))[m * 2+1]?=some (.int .i64 q.2):=by
     have:=(prC_get (T'++[q]) m (by simp;omega)).2
     rw [this]
     simp [← hm]
    rw [hq2] at hx
    obtain ⟨q1,q2⟩:=q
    simp only at c0 c1' hi hq HNEW HJOIN hx
    clear hp hcell hq2 hm
    have hw1:IntKind.i64.wrap (((m+1:Nat):Int) - 1)=(m:Int):=by rw [IntWalk.i64_in _ (by omega)];omega
    have hw1':IntKind.i64.wrap ((m:Int)+1 - 1)=(m:Int):=by rw [IntWalk.i64_in _ (by omega)];omega
    have hw2:IntKind.i64.wrap (q2+1)=q2+1:=IntWalk.i64_in _ (by omega)
    have m0:(0:Int)≤(m:Int):=by omega
    have m1:(m:Int) < ((m+1:Nat):Int):=by omega
    have m2:(m:Int) < (m:Int)+1:=by omega
    have HXA:=qh (fun (u:World) (hu:wr.grownBy u none)=>(HO.out.keep hu (own_none _):OwnN u w1.heap.size 66 2 _ (m+1) (prC (T'++[(q1,q2)]))))
    have hxa:(wr.alloc (.cells #[.int .i64 lo,.int .i64 hi2] 66)).cell? ⟨go,m * 2+1,none⟩=some (.int .i64 q2):=by
     rw [(below_alloc wr _).cell (p:=⟨go,m * 2+1,none⟩) hgo2];exact hx
    by_cases hj:lo≤q2+1
    ·have d1:decide (lo≤q2+1)=true:=decide_eq_true hj
     have HN2:=HJOIN hj
     obtain ⟨x,hmx⟩:∃ x,max q2 hi2=x:=⟨_,rfl⟩
     have e1:(if hi2 > q2 then hi2 else q2)=x:=by rw [← hmx];split <;> omega
     rw [hmx] at HN2
     have HSET:=qh (prC_setLast T' (q1,q2) m HM.out x)
     clear hj HNEW HJOIN
     go_wp2_with fail
     go_quiet (fail)
     generalize hwd:World.drewN _ _=wd
     have HX:Hid (Box wd wr.heap.size #[.int .i64 lo,.int .i64 hi2] 66):=by subst hwd;exact qh (Box.same (Box.new wr _ _) rfl)
     have HG:Hid (wr.grownBy wd none):=by subst hwd;exact qh (grown_draws (grown_new wr _ none) _)
     have q0:=(HX.out.cell (i:=1) rfl:wd.cell? ⟨wr.heap.size,1,none⟩=some (.int .i64 hi2))
     have hxd:wd.cell? ⟨go,m * 2+1,none⟩=some (.int .i64 q2):=by
      rw [World.cell?_of_block (HG.out.block go hgo2 (by simp))];exact hx
     clear hwd
     have HK:Hid (∀ u:World,u.heap=wd.heap→u.cell? ⟨go,m * 2+1,none⟩=some (.int .i64 q2)∧u.cell? ⟨wr.heap.size,1,none⟩=some (.int .i64 hi2)):=qh fun u hu=>by unfold World.cell? at *;rw [hu];exact ⟨hxd,q0⟩
     go_wp2_with fail
     refine wp_region_E (S:=fun u=>u.cell? ⟨go,m * 2+1,none⟩=some (.int .i64 q2)∧u.cell? ⟨wr.heap.size,1,none⟩=some (.int .i64 hi2)) [12] (by kernel_rfl) (HK.out _ rfl) (fun hHeld hZ=>?_)
     refine' eY 0 hHeld hZ fun hZ=>?_
     try simp only [Act.put,ZA,ZB,ZD,ZE,ZF]
     refine' eY 1 hHeld hZ fun hZ=>?_
     try simp only [Act.put,ZA,ZB,ZC,ZD,ZE,ZF]
     refine' eY 2 hHeld hZ fun hZ=>?_
     try simp only [Act.put,ZA,ZB,ZC,ZD,ZE,ZF]
     refine' eY 3 hHeld hZ fun hZ=>?_
     try simp only [Act.put,ZA,ZB,ZC,ZD,ZE,ZF]
     refine' eY 4 hHeld hZ fun hZ=>?_
     try simp only [Act.put,ZA,ZB,ZC,ZD,ZE,ZF]
     refine' eY 5 hHeld hZ fun hZ=>?_
     try simp only [Act.put,ZA,ZB,ZC,ZD,ZE,ZF]
     refine' eY 6 hHeld hZ fun hZ=>?_
     try simp only [Act.put,ZA,ZB,ZC,ZD,ZE,ZF]
     refine' eY 7 hHeld hZ fun hZ=>?_
     try simp only [Act.put,ZA,ZB,ZC,ZD,ZE,ZF]
     refine' eY 8 hHeld hZ fun hZ=>?_
     try simp only [Act.put,ZA,ZB,ZC,ZD,ZE,ZF]
     refine eA 9 fun K hK=>?_
     go_simp
     refine eB hK hZ (HK.out _ rfl) fun hHeld hZ=>?_
     clear hK K
     try simp only [Act.put,ZA,ZB,ZC,ZD,ZE,ZF]
     refine' eY 10 hHeld hZ fun hZ=>?_
     try simp only [Act.put,ZA,ZB,ZC,ZD,ZE,ZF]
     refine' eY 11 hHeld hZ fun hZ=>?_
     try simp only [Act.put,ZA,ZB,ZC,ZD,ZE,ZF]
     refine eA 12 fun K hK=>?_
     refine step_storeN wd.drew w1.heap.size (.tmp 41) (.tmp 39) go (m * 2+1) co (m+1) (.int .i64 x) _ rfl rfl rfl (by kernel_rfl) rfl rfl rfl (OwnN.same (HXA.out wd HG.out) rfl) (by omega) ?_
     intro w2 o2 g2
     have O2:Hid (OwnN w2 w1.heap.size 66 2 (.slice (some ⟨go,0,none⟩) (m+1) co) (T'++[(q1,x)]).length (prC (T'++[(q1,x)]))):=qh (by rw [← HSET.out,List.length_append,HM.out];exact o2)
     have B2:Hid (Below w1.heap.size w1 w2):=qh (HB.out.trans ((below_row_none HG.out HBZ.out).trans (below_then_drew (below_row g2 hgo1 (Nat.le_trans HBZ.out HG.out.size)))))
     clear o2 g2
     refine eE hK hZ fun hZ=>?_
     clear hK K
     try simp only [Act.put,ZA,ZB,ZC,ZD,ZE,ZF]
     refine wpAnyE_done (by kernel_rfl) ?_ _
     clear hZ
     go_wp2_with fail
     go_roundw
     case rel=>exact ⟨k+1,_,by omega,by go_num,HN2,O2,B2⟩
     case measure=>simp [intOf];omega
    ·have d1:decide (lo≤q2+1)=false:=decide_eq_false hj
     have HN2:=HNEW (fun s hs=>by
      have:(q1,q2)=s:=by simpa using hs
      subst this
      exact hj)
     clear hj HNEW HJOIN
     go_wp2_with fail
     go_quiet (fail)
     generalize hwd:World.drewN _ _=wd
     have HX:Hid (Box wd wr.heap.size #[.int .i64 lo,.int .i64 hi2] 66):=by subst hwd;exact qh (Box.same (Box.new wr _ _) rfl)
     have HG:Hid (wr.grownBy wd none):=by subst hwd;exact qh (grown_draws (grown_new wr _ none) _)
     clear hwd
     have HD:Hid (Below w1.heap.size wr wd):=qh (below_row_none HG.out HBZ.out)
     go_wp2_with (first
      | (refine load_rg _ wr.heap.size lo hi2 rfl rfl rfl HX.out ?_)
      | (at_builtin;refine appN_at rgT wr _ w1.heap.size _ _ _ (.slice (some ⟨go,0,none⟩) (m+1) co) (m+1) 1 (prC (T'++[(q1,q2)])) (prC [(lo,hi2)]) _ _ rfl rfl rfl rfl ((HXA.out wd HG.out).alloc _) (rg_lit wd (lo,hi2)) rfl (prC_one _) (HD.out.alloc (Nat.le_trans HBZ.out HD.out.size) _) (by have:=HD.out.size;have:=HBZ.out;simp;omega) (by unfold maxLen;omega) (by omega) ?_;intro v2 w2 o2 b2 _ _;have O2:Hid (OwnN w2 w1.heap.size 66 2 v2 (T'++[(q1,q2)]++[(lo,hi2)]).length (prC (T'++[(q1,q2)]++[(lo,hi2)]))):=qh (by rw [prC_append,List.length_append,List.length_append,HM.out];exact o2);have B2:=qh (HB.out.trans b2);clear o2 b2)
      | fail)
     go_roundw
     case rel=>exact ⟨k+1,_,by omega,by go_num,HN2,O2,B2⟩
     case measure=>simp [intOf];omega
  ·obtain rfl:k=L.length:=by omega
   have hz:=HZ.out HT.out HP.out
   have hz2:=qh hz
   clear hz
   go_wp2_with fail
   go_ret
   refine ⟨_,rfl,?_,below_then HBW.out HB.out⟩
   rw [← hz2.out]
   exact HO.out.weaken HBW.out.size
end
section
open Go.RowKit
theorem trset_any (w:World) (A:Option Addr) (R:List (Int×Int)) (c:Nat) (h:Lies w w.heap.size A (prC R)) :
 Calls Tryz.prog 61 #[.slice A R.length c] w (RowedRg w (setR R)):=by
 by_cases hl:500 < R.length
 ·have d1:decide (500 < (R.length:Int))=true:=decide_eq_true (by omega)
  have HZ:Hid (setR R=[]):=qh (by unfold setR;rw [if_pos hl])
  rw [HZ.out]
  clear hl h
  go_enter Tryz.func61,Tryz.ntmps61
  go_wp2_with fail
  go_ret
  exact ⟨_,rfl,OwnN.empty _ _ _ _,Below.refl _ _⟩
 ·have d1:decide (500 < (R.length:Int))=false:=decide_eq_false (by omega)
  have HC:=qh (least_any w A R c h (by omega))
  rw [← setR_small (by omega)] at HC
  obtain ⟨Z,hZ⟩:∃ Z,setR R=Z:=⟨_,rfl⟩
  rw [hZ] at HC ⊢
  clear hl h hZ
  go_enter Tryz.func61,Tryz.ntmps61
  go_wp2_with fail
  refine HC.out.mono ?_
  rintro e w1 ⟨v,rfl,o,b⟩
  have O:=qh o
  have B:=qh b
  clear o b
  go_wp2_with fail
  go_ret
  exact ⟨_,rfl,O.out,B.out⟩
end
end Go.Proofs.YtoeocodfndbebaaGreatDoor
