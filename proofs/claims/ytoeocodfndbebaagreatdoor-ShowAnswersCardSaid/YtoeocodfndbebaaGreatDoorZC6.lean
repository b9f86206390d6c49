/- Shared texts, shaken for one claim. -/
import Derived.Maps.RangeWalk
import Derived.Maps.Ext
import Derived.OwnWalk
import Derived.Deep.RegionHeld3
import Derived.Test.YtoeocodfndbebaaGreatDoorZC1
import Derived.Test.YtoeocodfndbebaaGreatDoorZC3
import Derived.Test.YtoeocodfndbebaaGreatDoorZC5
set_option maxRecDepth 20000
set_option maxHeartbeats 16000000
namespace Go.Proofs.YtoeocodfndbebaaGreatDoor
section
theorem fo_spec (c:Int):(65≤c∧c≤90∧fo c=c+32)∨(c=181∧fo c=c+775)∨(192≤c∧c≤214∧fo c=c+32)∨(216≤c∧c≤222∧fo c=c+32)∨(913≤c∧c≤929∧fo c=c+32) ∨
 (931≤c∧c≤937∧fo c=c+32)∨(c=962∧fo c=c+1)∨(1024≤c∧c≤1039∧fo c=c+80)∨(1040≤c∧c≤1071∧fo c=c+32)∨(c=7838∧fo c=c+-7615) ∨
 (¬ (65≤c∧c≤90)∧c≠181∧¬ (192≤c∧c≤214)∧¬ (216≤c∧c≤222)∧¬ (913≤c∧c≤929)∧¬ (931≤c∧c≤937)∧c≠962∧¬ (1024≤c∧c≤1071)∧c≠7838∧fo c=c):=by
 by_cases h1:65≤c∧c≤90
 ·exact .inl ⟨h1.1,h1.2,by unfold fo;rw [if_pos h1]⟩
 by_cases h2:181≤c∧c≤181
 ·exact .inr (.inl ⟨by omega,by unfold fo;rw [if_neg h1,if_pos h2]⟩)
 by_cases h3:192≤c∧c≤214
 ·exact .inr (.inr (.inl ⟨h3.1,h3.2,by unfold fo;rw [if_neg h1,if_neg h2,if_pos h3]⟩))
 by_cases h4:216≤c∧c≤222
 ·exact .inr (.inr (.inr (.inl ⟨h4.1,h4.2,by unfold fo;rw [if_neg h1,if_neg h2,if_neg h3,if_pos h4]⟩)))
 by_cases h5:913≤c∧c≤929
 ·exact .inr (.inr (.inr (.inr (.inl ⟨h5.1,h5.2,by unfold fo;rw [if_neg h1,if_neg h2,if_neg h3,if_neg h4,if_pos h5]⟩))))
 by_cases h6:931≤c∧c≤937
 ·exact .inr (.inr (.inr (.inr (.inr (.inl ⟨h6.1,h6.2,by unfold fo;rw [if_neg h1,if_neg h2,if_neg h3,if_neg h4,if_neg h5,if_pos h6]⟩)))))
 by_cases h7:962≤c∧c≤962
 ·exact .inr (.inr (.inr (.inr (.inr (.inr (.inl ⟨by omega,by unfold fo;rw [if_neg h1,if_neg h2,if_neg h3,if_neg h4,if_neg h5,if_neg h6,if_pos h7]⟩))))))
 by_cases h8:1024≤c∧c≤1039
 ·exact .inr (.inr (.inr (.inr (.inr (.inr (.inr (.inl ⟨h8.1,h8.2,by unfold fo;rw [if_neg h1,if_neg h2,if_neg h3,if_neg h4,if_neg h5,if_neg h6,if_neg h7,if_pos h8]⟩)))))))
 by_cases h9:1040≤c∧c≤1071
 ·exact .inr (.inr (.inr (.inr (.inr (.inr (.inr (.inr (.inl ⟨h9.1,h9.2,by unfold fo;rw [if_neg h1,if_neg h2,if_neg h3,if_neg h4,if_neg h5,if_neg h6,if_neg h7,if_neg h8,if_pos h9]⟩))))))))
 by_cases h10:7838≤c∧c≤7838
 ·exact .inr (.inr (.inr (.inr (.inr (.inr (.inr (.inr (.inr (.inl ⟨by omega,by unfold fo;rw [if_neg h1,if_neg h2,if_neg h3,if_neg h4,if_neg h5,if_neg h6,if_neg h7,if_neg h8,if_neg h9,if_pos h10]⟩)))))))))
 exact .inr (.inr (.inr (.inr (.inr (.inr (.inr (.inr (.inr (.inr ⟨h1,by omega,h3,h4,h5,h6,by omega,by omega,by omega,by unfold fo;rw [if_neg h1,if_neg h2,if_neg h3,if_neg h4,if_neg h5,if_neg h6,if_neg h7,if_neg h8,if_neg h9,if_neg h10]⟩)))))))))
theorem fo_twice (c:Int):fo (fo c)=fo c:=by
 have h1:=fo_spec c
 have h2:=fo_spec (fo c)
 omega
theorem fo_row:∀ r∈rws,∀ x,r.1≤x→x≤r.2.1→fo x=x+r.2.2∧r.2.2≠0:=by
 intro r hr x h1 h2
 have h:=fo_spec x
 simp only [rws,List.mem_cons,List.mem_nil_iff,or_false] at hr
 rcases hr with rfl | rfl | rfl | rfl | rfl | rfl | rfl | rfl | rfl | rfl
 all_goals (dsimp only at h1 h2 ⊢;omega)
theorem fo_rows (x:Int) (h:fo x≠x):∃ r∈rws,r.1≤x∧x≤r.2.1:=by
 have hs:=fo_spec x
 simp only [rws,List.mem_cons,List.mem_nil_iff,or_false,exists_eq_or_imp,exists_eq_left]
 omega
def I64 (c:Int):Prop:=-9223372036854775808≤c∧c≤9223372036854775807
theorem fo_i64 {c:Int} (h:I64 c):I64 (fo c):=by
 have:=fo_spec c
 unfold I64 at *
 omega
def from? (t:Int) (r:Int×Int×Int):Option Int:=if r.1≤t - r.2.2∧t - r.2.2≤r.2.1 then some (t - r.2.2) else none
def froms (t:Int):List Int:=rws.filterMap (from? t)
theorem mem_froms {t x:Int}:x∈froms t↔fo x=t∧x≠t:=by
 unfold froms
 rw [List.mem_filterMap]
 constructor
 ·rintro ⟨r,hr,he⟩
  unfold from? at he
  split at he
  ·rename_i h
   injection he with he
   have:=fo_row r hr x (by omega) (by omega)
   omega
  ·cases he
 ·rintro ⟨h,hne⟩
  obtain ⟨r,hr,h1,h2⟩:=fo_rows x (by omega)
  have:=fo_row r hr x h1 h2
  refine ⟨r,hr,?_⟩
  unfold from?
  rw [if_pos (by omega)]
  exact congrArg some (by omega)
theorem froms_few (t:Int):(froms t).length≤3:=by
 have hs:t < 97∨(97≤t∧t < 123)∨(123≤t∧t < 223)∨(223≤t∧t < 224)∨(224≤t∧t < 247)∨(247≤t∧t < 248)∨(248≤t∧t < 255)∨(255≤t∧t < 945)∨(945≤t∧t < 956)∨(956≤t∧t < 957) ∨
  (957≤t∧t < 962)∨(962≤t∧t < 963)∨(963≤t∧t < 964)∨(964≤t∧t < 970)∨(970≤t∧t < 1072)∨(1072≤t∧t < 1104)∨(1104≤t∧t < 1120)∨1120≤t:=by omega
 unfold froms rws
 rcases hs with hs | hs | hs | hs | hs | hs | hs | hs | hs | hs | hs | hs | hs | hs | hs | hs | hs | hs
 all_goals
  simp only [List.filterMap_cons,List.filterMap_nil,from?]
  repeat (first | rw [if_pos (by omega)] | rw [if_neg (by omega)])
  simp
def kin (t:Int):List Int:=(t :: froms t).mergeSort fun x y=>decide (x≤y)
theorem mem_kin {c x:Int}:x∈kin (fo c)↔fo x=fo c:=by
 unfold kin
 rw [List.mem_mergeSort,List.mem_cons,mem_froms]
 constructor
 ·rintro (rfl | h)
  ·exact fo_twice c
  ·exact h.1
 ·intro h
  by_cases e:x=fo c
  ·exact .inl e
  ·exact .inr ⟨h,e⟩
theorem kin_few (t:Int):(kin t).length≤4:=by
 unfold kin
 rw [List.length_mergeSort,List.length_cons]
 have:=froms_few t
 omega
end
section
open Go.RowKit
theorem intsT:SliceOf Tryz.prog 26 3 (.int .i64 0) 8:=⟨by kernel_rfl,by kernel_rfl,rfl⟩
theorem ints_yes (A A':Option Addr) (l:List Int) (c c':Nat) (B:Nat) (w:World) (h:Lies w B A (ints .i64 l)) (h':Lies w B A' (ints .i64 l)) (hl:l.length≤9223372036854775807) :
 Calls Tryz.prog 13 #[.slice A l.length c,.slice A' l.length c'] w fun e w'=>e=.returned (.bool true)∧∃ n,w'=w.drewN n:=by
 have H:=qh h
 have H':=qh h'
 clear h h'
 go_enter Tryz.func13,Tryz.ntmps13
 go_wp2
 go_loopw [5] (fun i wr=>∃ k n:Nat,k≤l.length∧i=.int .i64 k∧wr=w.drewN n) (fun i _=>l.length - (intOf i).toNat)
 case atStart=>exact ⟨0,0,by omega,rfl,rfl⟩
 case round =>
  obtain ⟨k,n,hk,rfl,rfl⟩:=hrel
  by_cases hlt:k < l.length
  ·obtain ⟨p,rfl,_,hc⟩:=H.out.int hlt
   obtain ⟨q,rfl,_,hd⟩:=H'.out.int hlt
   have b0:(0:Int)≤(k:Int):=by omega
   have b1:(k:Int) < (l.length:Int):=by omega
   go_wp2
   go_quiet (fail)
   go_wp2
   go_roundw
   case rel=>exact ⟨k+1,_,by omega,by go_num,rfl⟩
   case measure=>simp [intOf];omega
  ·go_wp2
   go_ret
   exact ⟨rfl,_,rfl⟩
theorem ints_ok (A A':Option Addr) (l:List Int) (c c':Nat) (w:World) (h:Lies w w.heap.size A (ints .i64 l)) (h':Lies w w.heap.size A' (ints .i64 l)) (hl:l.length≤9223372036854775807) :
 Calls Tryz.prog 13 #[.slice A l.length c,.slice A' l.length c'] w fun e w'=>e=.returned (.bool true)∧Below w.heap.size w w' :=
 (ints_yes A A' l c c' _ w h h' hl).mono fun _ _ ⟨he,n,hn⟩=>⟨he,hn▸below_drawn (Below.refl _ _) n⟩
end
section
open Go.RowKit
def turnedN (k:Nat):List Int:=((List.range k).map Int.ofNat).filter fun c=>decide (fo c≠c)
theorem turnedN_succ (k:Nat):turnedN (k+1)=turnedN k++(if fo (k:Int)≠(k:Int) then [(k:Int)] else []):=by
 unfold turnedN
 rw [List.range_succ,List.map_append,List.filter_append]
 congr 1
 by_cases h:fo (k:Int)≠(k:Int)
 ·rw [if_pos h];simp [h]
 ·rw [if_neg h];simp at h;simp [h]
theorem turnedN_len (k:Nat):(turnedN k).length≤k:=by
 have:=List.length_filter_le (fun c:Int=>decide (fo c≠c)) ((List.range k).map Int.ofNat)
 unfold turnedN
 simpa using this
theorem mem_turned {x:Int}:x∈turnedN 7936↔fo x≠x:=by
 unfold turnedN
 rw [List.mem_filter]
 constructor
 ·intro h;simpa using h.2
 ·intro h
  obtain ⟨r,hr,h1,h2⟩:=fo_rows x h
  have hb:∀ r∈rws,0≤r.1∧r.2.1 < 7936:=by decide
  have:=hb r hr
  exact ⟨List.mem_map.2 ⟨x.toNat,by rw [List.mem_range];omega,by show ((x.toNat:Nat):Int)=x;omega⟩,by simpa using h⟩
set_option maxRecDepth 100000 in
theorem turned_few:(turnedN 7936).length=131:=by decide +kernel
theorem rturned_any (w:World):Calls Tryz.prog 116 #[] w (Rowed w w.heap.size 3 (ints .i64 (turnedN 7936))):=by
 go_enter Tryz.func116,Tryz.ntmps116
 go_wp2_with fail
 go_loopw [2,1] (fun iv ov wr=>∃ k:Nat,k≤7936∧iv=.int .i64 k∧Hid (Own wr w.heap.size 3 ov (ints .i64 (turnedN k)))∧Hid (Below w.heap.size w wr)) (fun iv _ _=>7936 - (intOf iv).toNat)
 case atStart=>exact ⟨0,by omega,rfl,qh (Own.empty _ _ _),qh (Below.refl _ _)⟩
 case round =>
  obtain ⟨k,hk,rfl,HO,HB⟩:=hrel
  have HQ:=qh (turnedN_len k)
  by_cases hlt:k < 7936
  ·have d1:decide ((k:Int) < 7936)=true:=decide_eq_true (by omega)
   have k1:(k:Int) < 7936:=by omega
   have HF:=qh (rof_any (k:Int) wr)
   have HT:=qh (turnedN_succ k)
   obtain ⟨f,hf⟩:∃ f,fo (k:Int)=f:=⟨_,rfl⟩
   rw [hf] at HF HT
   clear hf
   rcases hx:(f != (k:Int)) with _ | _
   ·have HE:Hid (turnedN (k+1)=turnedN k):=qh (by rw [HT.out,if_neg (by simpa using hx),List.append_nil])
    go_wp2_with fail
    refine HF.out.mono ?_
    rintro e wq ⟨rfl,rfl⟩
    go_wp2_with fail
    go_roundw
    case rel=>exact ⟨k+1,by omega,by go_num,by rw [HE.out];exact HO,HB⟩
    case measure=>simp [intOf];omega
   ·have HE:Hid (ints .i64 (turnedN k)++[Value.int .i64 (k:Int)]=ints .i64 (turnedN (k+1))):=qh (by rw [HT.out,if_pos (by simpa using hx)];simp [ints])
    go_wp2_with fail
    refine HF.out.mono ?_
    rintro e wq ⟨rfl,rfl⟩
    go_wp2_with (first
     | (at_builtin;refine app_lit intsT w wr w.heap.size _ _ #[.int .i64 (k:Int)] 1 _ (ints .i64 (turnedN k)) rfl rfl rfl rfl HO.out (by simp [Value.oneCell']) HB.out HB.out.size (by have:=HQ.out;unfold maxLen;simp;omega) (by have:=HQ.out;simp;omega) ?_;intro v2 w2 o2 b2 _ _;have O2:Hid (Own w2 w.heap.size 3 v2 (ints .i64 (turnedN (k+1)))):=qh (by rw [← HE.out];exact o2);have B2:=qh b2;clear o2 b2)
     | fail)
    go_roundw
    case rel=>exact ⟨k+1,by omega,by go_num,O2,B2⟩
    case measure=>simp [intOf];omega
  ·obtain rfl:k=7936:=by omega
   go_wp2_with fail
   go_ret
   exact rowed_ret HO.out HB.out rfl
end
section
open Go.RowKit Go.Maps
theorem keyI:Keyed Tryz.prog 3:=int_keyed Tryz.underlying3
def Reads (D:DataW Unit) (M:Int→Option Int):Prop :=
 IsMap D∧∀ x,match M x with
  | some y=>∀ z,D.atKey (.int .i64 x) z=.lit (.int .i64 y)
  | none=>has D (.int .i64 x)=false
theorem reads_none:Reads (.map []) fun _=>none:=⟨⟨[],rfl⟩,fun _=>rfl⟩
theorem reads_put {D:DataW Unit} {M:Int→Option Int} (h:Reads D M) (k v:Int):Reads (D.put (.int .i64 k) (.lit (.int .i64 v))) (fun x=>if x=k then some v else M x):=by
 refine ⟨h.1.put _ _,fun x=>?_⟩
 have hx:=h.2 x
 by_cases e:x=k
 ·subst e
  simp only [if_true]
  exact fun z=>atKey_put_same h.1 (k:=.int .i64 x) trivial _ z
 ·have ne:(Lit.int .i64 x)≠.int .i64 k:=fun h=>e (by injection h)
  simp only [if_neg e]
  cases hM:M x with
  | none=>rw [hM] at hx;exact (has_put_other ne _).trans hx
  | some y=>rw [hM] at hx;exact fun z=>(atKey_put_other ne _ z).trans (hx z)
theorem Reads.has {D:DataW Unit} {M:Int→Option Int} (h:Reads D M) {x y:Int} (e:M x=some y):Maps.has D (.int .i64 x)=true:=by
 have:=h.2 x
 rw [e] at this
 exact has_true_of_atKey this
theorem Reads.eq {D:DataW Unit} {M:Int→Option Int} (h:Reads D M) {x y:Int} (e:∀ z,D.atKey (.int .i64 x) z=.lit (.int .i64 y)):M x=some y:=by
 have hx:=h.2 x
 cases hM:M x with
 | none=>rw [hM] at hx;exact absurd ((has_true_of_atKey e).symm.trans hx) (by simp)
 | some c =>
  rw [hM] at hx
  have:=(hx .nil).symm.trans (e .nil)
  injection this with this
  injection this with _ this
  rw [this]
def lkp:List (Int×Int)→Int→Option Int
 | [],_=>none
 | (a,b) :: r,x=>if x=a then some b else lkp r x
theorem lkp_mem:∀ {l:List (Int×Int)} {x y:Int},lkp l x=some y→(x,y)∈l
 | (a,b) :: r,x,y,h=>by
  unfold lkp at h
  split at h
  ·rename_i e;subst e;injection h with h;subst h;simp
  ·exact List.mem_cons_of_mem _ (lkp_mem h)
theorem lkp_append (l m:List (Int×Int)) (x:Int):lkp (l++m) x=(lkp l x).or (lkp m x):=by
 induction l with
 | nil=>rfl
 | cons p r ih=>obtain ⟨a,b⟩:=p;simp only [List.cons_append,lkp];split <;> simp [ih]
def MapAt (w:World) (b n:Nat) (M:Int→Option Int):Prop:=∃ D:DataW Unit,w.ownsMap Tryz.prog 3 (plainElem Tryz.prog 3) b n D∧Reads D M
section
variable {w w':World} {b n:Nat} {M M':Int→Option Int}
theorem MapAt.lt (h:MapAt w b n M):b < w.heap.size:=h.elim fun _ h=>h.1.lt
theorem MapAt.cong (h:MapAt w b n M) (e:∀ x,M x=M' x):MapAt w b n M':=(funext e:M=M')▸h
theorem MapAt.kept {row:Option Nat} (h:MapAt w b n M) (hg:w.grownBy w' row) (hb:some b≠row):MapAt w' b n M:=h.elim fun D h=>⟨D,h.1.kept hg hb,h.2⟩
theorem MapAt.alloc (h:MapAt w b n M) (o:Obj):MapAt (w.alloc o) b n M:=h.elim fun D h=>⟨D,h.1.alloc o,h.2⟩
theorem MapAt.below (h:MapAt w b n M) {B:Nat} (hb:Below B w w') (_hB:b < B) (hB':w.heap.size≤B):MapAt w' b n M:=by
 refine h.kept (row:=none) ⟨hb.os,hb.tape,hb.output,hb.size,fun k hk _=>hb.block k (by omega)⟩ (by simp)
theorem mapAt_made (w:World):MapAt (w.alloc (.map #[] 0)) w.heap.size 0 fun _=>none:=⟨_,World.ownsMap_made _ _ _ _,reads_none⟩
variable {ops:Array Oper} {rest:List Oper} {o:Oper} {a:Act} {Q:Exit→Act→World→Prop}
theorem insert_at (hg:o.guard=none) {t:TypeId} {m x v:Operand} (hop:o.op=Op.insert t m x v) (ht:Tryz.prog.underlying t=some (.map 3 3))
 (hm:a.eval m=.map (some b)) (h:MapAt w b n M) (hn:n < maxLen) {k y:Int} (hx:a.eval x=.int .i64 k) (hv:a.eval v=.int .i64 y) (hk:(Lit.int .i64 k).wf=true) (hy:(Lit.int .i64 y).wf=true)
 (hK:∀ w',MapAt w' b (n+1) (fun z=>if z=k then some y else M z)→w.grownBy w' (some b)→wpList Tryz.prog ops Q rest (a.put o.dst undef) w') :
 wpList Tryz.prog ops Q (o :: rest) a w:=by
 obtain ⟨D,hown,hR⟩:=h
 refine wpList_plain hg fun K' hK'=>?_
 obtain ⟨w',hrun,r1,r2⟩:=hown.update keyI ht hn (keyOf_int_mk Tryz.underlying3 hk) (plainElem_int Tryz.underlying3 hy)
 unfold Oper.wp
 simp [execOp,hop,hm,hx,hv,hrun,Result.andThen]
 exact hK' _ _ (hK w' ⟨_,r1,reads_put hR _ _⟩ r2)
theorem update_at (hg:o.guard=none) {t:TypeId} {m x v:Operand} (hop:o.op=Op.mapUpdate t m x v) (ht:Tryz.prog.underlying t=some (.map 3 3))
 (hm:a.eval m=.map (some b)) (h:MapAt w b n M) (hn:n < maxLen) {k y:Int} (hx:a.eval x=.int .i64 k) (hv:a.eval v=.int .i64 y) (hk:(Lit.int .i64 k).wf=true) (hy:(Lit.int .i64 y).wf=true)
 (hK:∀ w',MapAt w' b (n+1) (fun z=>if z=k then some y else M z)→w.grownBy w' (some b)→wpList Tryz.prog ops Q rest (a.put o.dst undef) w') :
 wpList Tryz.prog ops Q (o :: rest) a w:=by
 obtain ⟨D,hown,hR⟩:=h
 refine wpList_plain hg fun K' hK'=>?_
 obtain ⟨w',hrun,r1,r2⟩:=hown.update keyI ht hn (keyOf_int_mk Tryz.underlying3 hk) (plainElem_int Tryz.underlying3 hy)
 unfold Oper.wp
 simp [execOp,hop,hm,hx,hv,hrun,Result.andThen]
 exact hK' _ _ (hK w' ⟨_,r1,reads_put hR _ _⟩ r2)
def Ranging (w:World) (b r n:Nat) (M:Int→Option Int) (left:Int→Bool) (cnt:Nat):Prop :=
 ∃ (D:DataW Unit) (lf:Lit→Bool),w.ranges Tryz.prog 3 (plainElem Tryz.prog 3) b r n D lf cnt∧Reads D M∧∀ x,left x=lf (.int .i64 x)
theorem Ranging.left_eq {r cnt:Nat} {left:Int→Bool} (h:Ranging w b r n M left cnt):w.rangeLeft b r=cnt:=h.elim fun _ ⟨_,h,_⟩=>h.left_eq
theorem Ranging.kept {r cnt:Nat} {left:Int→Bool} {row:Option Nat} (h:Ranging w b r n M left cnt) (hg:w.grownBy w' row) (hb:some b≠row) (hr:some r≠row):Ranging w' b r n M left cnt:=by
 obtain ⟨D,lf,h1,h2,h3⟩:=h
 exact ⟨D,lf,h1.kept hg hb hr,h2,h3⟩
theorem Ranging.map {r cnt:Nat} {left:Int→Bool} (h:Ranging w b r n M left cnt):MapAt w b n M:=h.elim fun D ⟨_,h,hR,_⟩=>⟨D,h.owns,hR⟩
theorem range_at (hg:o.guard=none) {m:Operand} {t:TypeId} (hop:o.op=Op.range t m) (ht:Tryz.prog.underlying t=some (.map 3 3)) (hm:a.eval m=.map (some b)) (h:MapAt w b n M)
 (hK:∀ w' left cnt,Ranging w' b w.heap.size n M left cnt→(∀ x y,M x=some y→left x=true)→cnt≤n→w.grownBy w' none→w'.heap.size=w.heap.size+1→wpList Tryz.prog ops Q rest (a.put o.dst (.pointer (some ⟨w.heap.size,0,none⟩))) w') :
 wpList Tryz.prog ops Q (o :: rest) a w:=by
 obtain ⟨D,hown,hR⟩:=h
 refine wpList_range_own w hg m t hop 3 3 keyI ht _ b n D hm hown ?_
 intro w' h1 h2 h3
 exact hK w' (fun x=>Maps.has D (.int .i64 x)) _ ⟨D,_,h1,hR,fun _=>rfl⟩ (fun x y e=>hR.has e) hown.size_le h2 h3
theorem next_at {r cnt:Nat} {left:Int→Bool} (hg:o.guard=none) {it:Operand} (hop:o.op=Op.next it false) (hit:a.eval it=.pointer (some ⟨r,0,none⟩)) (h:Ranging w b r n M left cnt)
 (hDone:(∀ x,left x=false)→cnt=0→wpList Tryz.prog ops Q rest (a.put o.dst (.tuple #[.bool false])) w)
 (hMore:∀ (x y:Int) (w':World) (left':Int→Bool) (cnt':Nat),(Lit.int .i64 x).wf=true→(Lit.int .i64 y).wf=true→M x=some y→left x=true→left' x=false→(∀ z,z≠x→left' z=left z)→Ranging w' b r n M left' cnt'→cnt' < cnt →
  w.grownBy w' (some r)→w'.heap.size=w.heap.size→(Instr.entry (.pointer (some ⟨r,0,none⟩))).run Tryz.prog w'=.ok (.tuple #[.int .i64 x,.int .i64 y]) w'→wpList Tryz.prog ops Q rest (a.put o.dst (.tuple #[.bool true,.int .i64 x,.int .i64 y])) w') :
 wpList Tryz.prog ops Q (o :: rest) a w:=by
 obtain ⟨D,lf,h1,hR,hl⟩:=h
 refine wpList_next_ranges_ii w hg it hop 3 3 .i64 .i64 keyI Tryz.underlying3 Tryz.underlying3 b r n D lf cnt hit h1 (fun h0 h=>hDone (fun x=>(hl x).trans (h _)) h0) ?_
 intro x c w' cnt' hwx hwc hlx hat h2 hlt hgr hsz hen
 refine hMore x c w' (fun z=>lf (.int .i64 z) && !(Lit.int .i64 z).sameKey (.int .i64 x)) cnt' hwx hwc (hR.eq hat) ((hl x).trans hlx) ?_ ?_ ⟨D,_,h2,hR,fun _=>rfl⟩ hlt hgr hsz hen
 ·rw [WideAt.sameKey_self (a:=.int .i64 x) trivial];simp
 ·intro z hz
  rw [Maps.sameKey_ne (fun e=>hz (by injection e)),hl z]
  simp
end
end
section
open Go.RowKit Go.Maps
def othL:List (Int×Int)→Int→Int×Bool×Bool
 | [],_=>(0,false,false)
 | (a,b) :: r,c=>if c=a then (b,true,true) else if c=b then (a,false,true) else othL r c
theorem othL_none:∀ (l:List (Int×Int)) (c:Int),(∀ p∈l,c≠p.1∧c≠p.2)→othL l c=(0,false,false)
 | [],_,_=>rfl
 | (a,b) :: r,c,h=>by
  have h0:=h (a,b) (by simp)
  simp only [othL,if_neg h0.1,if_neg h0.2]
  exact othL_none r c fun p hp=>h p (by simp [hp])
def brs:List (Int×Int):=[(40,41),(91,93),(123,125),(9001,9002),(12296,12297),(12298,12299),(12300,12301),(12302,12303),(12304,12305)]
def sgn:List (Int×Int):=[(60,62),(171,187),(8804,8805),(8810,8811)]
def mrs:List (Int×Int):=brs++sgn
def Apart2 (l:List (Int×Int)):Prop:=∀ p∈l,othL l p.1=(p.2,true,true)∧othL l p.2=(p.1,false,true)
theorem mrs_apart:Apart2 mrs:=by unfold Apart2;decide +kernel
def HoldsL (M:Int→Option Int) (l:List (Int×Int)):Prop:=(∀ x y,M x=some y→(x,y)∈l)∧∀ p∈l,M p.1=some p.2
def brM:Int→Option Int:=lkp brs.reverse
def mrM:Int→Option Int:=fun x=>(lkp brs.reverse x).or (lkp sgn.reverse x)
theorem mrM_eq (x:Int):mrM x=lkp (brs.reverse++sgn.reverse) x:=(lkp_append _ _ x).symm
theorem mrM_holds:HoldsL mrM mrs:=by
 refine ⟨fun x y h=>?_,?_⟩
 ·rw [mrM_eq] at h
  have:=lkp_mem h
  rcases List.mem_append.1 this with h | h
  ·exact List.mem_append_left _ (List.mem_reverse.1 h)
  ·exact List.mem_append_right _ (List.mem_reverse.1 h)
 ·unfold mrM;decide +kernel
theorem ret_3 {a b:Int×Bool×Bool} (h:a=b):Ending.returned (.tuple #[.int .i64 a.1,.bool a.2.1,.bool a.2.2])=.returned (.tuple #[.int .i64 b.1,.bool b.2.1,.bool b.2.2]):=by rw [h]
theorem otherOf_any (l:List (Int×Int)) (hl:Apart2 l) (M:Int→Option Int) (hM:HoldsL M l) (b n:Nat) (c:Int) (w:World) (h:MapAt w b n M) :
 Calls Tryz.prog 169 #[.map (some b),.int .i64 c] w fun e w'=>e=.returned (.tuple #[.int .i64 (othL l c).1,.bool (othL l c).2.1,.bool (othL l c).2.2])∧Below w.heap.size w w':=by
 have H:=qh h
 have HL:=qh hl
 have HM:=qh hM
 have hlt:=h.lt
 clear h hl hM
 go_enter Tryz.func169,Tryz.ntmps169
 go_wp2_with (first
  | (at_range;refine range_at rfl rfl Tryz.underlying94 rfl H.out ?_;intro w0 left0 cnt0 hr0 hs0 _ hg0 hz0)
  | go_in)
 go_frame
 have HR0:=qh hr0
 have HS0:=qh hs0
 have HZ0:=qh hz0
 have hb0:=(Below.refl w.heap.size w).grown hg0 (Nat.le_refl _) (fun k hk=>by cases hk)
 have HB0:=qh hb0
 clear hr0 hs0 hg0 hb0 hz0
 go_loopw [7] (fun _ wr=>∃ (left:Int→Bool) (cnt:Nat),Ranging wr b w.heap.size n M left cnt∧Hid (∀ x y,M x=some y→left x=false→c≠x∧c≠y)∧Below w.heap.size w wr)
  (fun _ wr=>wr.rangeLeft b w.heap.size)
 case atStart=>exact ⟨_,_,HR0.out,fun x y e h=>absurd ((HS0.out x y e).symm.trans h) (by simp),HB0.out⟩
 case round =>
  obtain ⟨left,cnt,hrg,HN,hb⟩:=hrel
  have HR:=qh hrg
  have HB:=qh hb
  have hsz:=hb.size
  clear hrg hb
  go_wp2_with (first
   | (at_next;refine next_at rfl rfl rfl HR.out ?_ ?_)
   | go_in)
  ·intro hl0 _
   have HL0:=qh hl0
   clear hl0
   go_wp2
   go_ret3
   refine ⟨?_,HB.out⟩
   refine ret_3 (a:=(0,false,false)) (othL_none l c fun p hp=>?_).symm
   exact HN.out p.1 p.2 (HM.out.2 p hp) (HL0.out _)
  ·intro x y w1 left1 cnt1 hwx hwy hxy hlx hlx1 hlo hrg1 hlt1 hg1 hs1 hen
   have HXY:=qh hxy
   have HX1:=qh hlx1
   have HLO:=qh hlo
   have HR1:=qh hrg1
   have HB1:=qh (HB.out.grown hg1 hsz (fun k hk=>by cases hk;exact Nat.le_refl _))
   clear hxy hlx hlx1 hlo hrg1 hg1 hs1
   by_cases e1:c=x
   ·have hd1:(c == x)=true:=by simp [e1]
    have E1:=qh e1
    clear e1
    go_wp2
    go_ret3
    refine ⟨?_,HB1.out⟩
    have hm:=HM.out.1 x y HXY.out
    exact ret_3 (a:=(y,true,true)) (by rw [E1.out];exact (HL.out _ hm).1.symm)
   ·have hd1:(c == x)=false:=by simp [e1]
    by_cases e2:c=y
    ·have hd2:(c == y)=true:=by simp [e2]
     have E2:=qh e2
     clear e1 e2
     go_wp2
     go_ret3
     refine ⟨?_,HB1.out⟩
     have hm:=HM.out.1 x y HXY.out
     exact ret_3 (a:=(x,false,true)) (by rw [E2.out];exact (HL.out _ hm).2.symm)
    ·have hd2:(c == y)=false:=by simp [e2]
     have E1:=qh e1
     have E2:=qh e2
     clear e1 e2
     go_wp2
     go_roundw
     case rel =>
      refine ⟨left1,cnt1,HR1.out,?_,HB1.out⟩
      intro x' y' hm' hl'
      by_cases e:x'=x
      ·subst e
       have:y'=y:=Option.some.inj (hm'.symm.trans HXY.out)
       subst this
       exact ⟨E1.out,E2.out⟩
      ·exact HN.out x' y' hm' (by rw [← HLO.out x' e];exact hl')
     case measure=>rw [HR1.out.left_eq,HR.out.left_eq];exact hlt1
theorem ins_step {w w' w0:World} {b:Nat} (h:Below w0.heap.size w0 w) (hg:w.grownBy w' (some b)) (hb:w0.heap.size≤b):Below w0.heap.size w0 w':=h.grown hg h.size (fun k hk=>by cases hk;exact hb)
theorem brackets_any (w:World):Calls Tryz.prog 174 #[] w fun e w'=>e=.returned (.map (some w.heap.size))∧MapAt w' w.heap.size 9 brM∧Below w.heap.size w w':=by
 have hmm:=@run_makeMap Tryz.prog
 have HM:=qh (mapAt_made w)
 have HB:=qh (below_alloc w (.map #[] 0))
 go_enter Tryz.func174,Tryz.ntmps174
 go_wp2_with (refine insert_at rfl rfl Tryz.underlying94 rfl HM.out (by decide) rfl rfl (by decide) (by decide) ?_;intro w1 h1 g1;replace HM:=qh h1;replace HB:=qh (ins_step HB.out g1 (Nat.le_refl _));clear h1 g1;go_frame)
 go_ret
 exact ⟨rfl,HM.out,HB.out⟩
end
section
open Go.RowKit Go.Maps
theorem copy_any (d s nd ns:Nat) (M1 M2:Int→Option Int) (w:World) (B:Nat) (hB:B≤d) (h1:MapAt w d nd M1) (h2:MapAt w s ns M2) (hne:d≠s) (hn:nd+ns < 1000) :
 Calls Tryz.prog 173 #[.map (some d),.map (some s)] w fun e w'=>e=.returned (.tuple #[])∧MapAt w' d (nd+ns) (fun x=>(M2 x).or (M1 x))∧Below B w w':=by
 have H1:=qh h1
 have H2:=qh h2
 have hl1:=h1.lt
 have hl2:=h2.lt
 have HNE:=qh hne
 clear h1 h2 hne
 go_enter Tryz.func173,Tryz.ntmps173
 go_wp2_with (first
  | (at_range;refine range_at rfl rfl Tryz.underlying94 rfl H2.out ?_;intro w0 left0 cnt0 hr0 hs0 hc0 hg0 hz0)
  | go_in)
 go_frame
 have HR0:=qh hr0
 have HS0:=qh hs0
 have H10:=qh (H1.out.kept hg0 (by simp))
 have HB0:=qh ((Below.refl B w).grown hg0 (by omega) (fun k hk=>by cases hk))
 clear hr0 hs0 hg0 hz0
 go_loopw [4] (fun _ wr=>∃ (left:Int→Bool) (cnt:Nat),Ranging wr s w.heap.size ns M2 left cnt∧cnt≤ns∧MapAt wr d (nd+(ns - cnt)) (fun x=>if left x then M1 x else (M2 x).or (M1 x))∧Below B w wr)
  (fun _ wr=>wr.rangeLeft s w.heap.size)
 case atStart =>
  refine ⟨left0,cnt0,HR0.out,hc0,?_,HB0.out⟩
  have h:MapAt w0 d (nd+(ns - cnt0)) M1:=by
   obtain ⟨D,h,hR⟩:=H10.out
   exact ⟨D,h.mono (by omega),hR⟩
  refine h.cong fun x=>?_
  show M1 x=if left0 x=true then M1 x else (M2 x).or (M1 x)
  cases hl:left0 x with
  | true=>simp
  | false =>
   have:M2 x=none:=by
    cases hm:M2 x with
    | none=>rfl
    | some y=>exact absurd ((HS0.out x y hm).symm.trans hl) (by simp)
   simp [this]
 case round =>
  obtain ⟨left,cnt,hrg,hcn,hma,hb⟩:=hrel
  have HR:=qh hrg
  have HB:=qh hb
  have HMA:=qh hma
  have hsz:=hb.size
  clear hrg hb hma
  go_wp2_with (first
   | (at_next;refine next_at rfl rfl rfl HR.out ?_ ?_)
   | go_in)
  ·intro hl0 hc
   have HL0:=qh hl0
   have HC:=qh hc
   clear hl0 hc
   go_wp2
   go_end0
   refine ⟨rfl,?_,HB.out⟩
   have:=HMA.out
   rw [HC.out] at this
   exact this.cong fun x=>by rw [HL0.out x];simp
  ·intro x y w1 left1 cnt1 hwx hwy hxy hlx hlx1 hlo hrg1 hlt1 hg1 hs1 hen
   have HXY:=qh hxy
   have HX1:=qh hlx1
   have HLX:=qh hlx
   have HLO:=qh hlo
   have HR1:=qh hrg1
   have hnd:some d≠some w.heap.size:=by
    intro e;injection e with e;omega
   have HMA1:=qh (HMA.out.kept hg1 hnd)
   have HB1:=qh (HB.out.grown hg1 (by omega) (fun k hk=>by cases hk;omega))
   have hs1':w1.heap.size ≥ w.heap.size:=by have:=HB1.out.size;omega
   clear hxy hlx hlx1 hlo hrg1 hg1 hs1 hnd
   go_wp2_with (first
    | (at_mapUpdate;refine update_at rfl rfl Tryz.underlying94 rfl HMA1.out (by unfold maxLen;omega) rfl rfl hwx hwy ?_;intro w2 h2 g2;go_frame)
    | go_in)
   have HR2:=qh (HR1.out.kept g2 (fun e=>by injection e with e;exact HNE.out e.symm) (fun e=>by injection e with e;omega))
   have HB2:=qh (HB1.out.grown g2 (by omega) (fun k hk=>by cases hk;omega))
   have HM2:=qh h2
   clear h2 g2
   go_roundw
   case rel =>
    refine ⟨left1,cnt1,HR2.out,by omega,?_,HB2.out⟩
    obtain ⟨D,h,hR⟩:=HM2.out
    refine MapAt.cong ⟨D,h.mono (by omega),hR⟩ fun z=>?_
    show (if z=x then some y else if left z=true then M1 z else (M2 z).or (M1 z))=if left1 z=true then M1 z else (M2 z).or (M1 z)
    by_cases e:z=x
    ·subst e
     rw [if_pos rfl,HX1.out,HXY.out]
     rfl
    ·rw [if_neg e,HLO.out z e]
   case measure=>rw [HR2.out.left_eq,HR.out.left_eq];exact hlt1
theorem mirrors_any (w:World):Calls Tryz.prog 170 #[] w fun e w'=>e=.returned (.map (some w.heap.size))∧MapAt w' w.heap.size 13 mrM∧Below w.heap.size w w':=by
 have hmm:=@run_makeMap Tryz.prog
 have HM:=qh (mapAt_made w)
 have HB:=qh (below_alloc w (.map #[] 0))
 go_enter Tryz.func170,Tryz.ntmps170
 go_wp2_with (first
  | (refine insert_at rfl rfl Tryz.underlying94 rfl HM.out (by decide) rfl rfl (by decide) (by decide) ?_;intro w1 h1 g1;replace HM:=qh h1;replace HB:=qh (ins_step HB.out g1 (Nat.le_refl _));clear h1 g1;go_frame)
  | fail)
 refine (brackets_any _).mono ?_
 rintro e w2 ⟨rfl,hb2,bb2⟩
 have hlt:=HM.out.lt
 have HM2:=qh (HM.out.below bb2 hlt (Nat.le_refl _))
 have HB2:=qh (below_then HB.out bb2)
 have HBR:=qh hb2
 clear bb2 hb2
 go_wp2_with fail
 refine (copy_any _ _ _ _ _ _ _ w.heap.size (Nat.le_refl _) HM2.out HBR.out (by omega) (by decide)).mono ?_
 rintro e w3 ⟨rfl,hm3,b3⟩
 have HM3:=qh hm3
 have HB3:=qh (HB2.out.trans b3)
 clear hm3 b3
 go_wp2
 go_ret
 refine ⟨rfl,HM3.out.cong fun x=>?_,HB3.out⟩
 show (lkp brs.reverse x).or _=(lkp brs.reverse x).or (lkp sgn.reverse x)
 rfl
def othM (c:Int):Int×Bool×Bool:=othL mrs c
def mir (c:Int):Int:=if (othM c).2.2 then (othM c).1 else c
def isM (c:Int):Bool:=(othM c).2.2
theorem mirror_any (c:Int) (w:World):Calls Tryz.prog 163 #[.int .i64 c] w fun e w'=>e=.returned (.int .i64 (mir c))∧Below w.heap.size w w':=by
 obtain ⟨o,ho⟩:∃ o,othM c=o:=⟨_,rfl⟩
 obtain ⟨x,p,k⟩:=o
 have HO:=qh ho
 clear ho
 cases k
 all_goals
  go_enter Tryz.func163,Tryz.ntmps163
  go_wp2_with fail
  refine (mirrors_any w).mono ?_
  rintro e w1 ⟨rfl,h1,b1⟩
  have H1:=qh h1
  have B1:=qh b1
  clear h1 b1
  go_wp2_with fail
  refine (otherOf_any mrs mrs_apart mrM mrM_holds _ _ c w1 H1.out).mono ?_
  rintro e w2 ⟨rfl,b2⟩
  rw [show othL mrs c=_ from HO.out]
  have B2:=qh (below_then B1.out b2)
  clear b2
  go_wp2
  go_ret
  exact ⟨ret_int (by rw [mir,HO.out];rfl),B2.out⟩
end
section
open Go.RowKit
section
variable {P:Program} {ops:Array Oper} {o:Oper} {a:Act} {K:Act→World→Prop} {Q:Exit→Act→World→Prop} {E:Prop}
theorem step_app {t e:TypeId} {z:Value} {bytes:Nat} (T:SliceOf P t e z bytes) (w0 W:World) (B B':Nat) (s x:Operand) (v:Value) (xs ys:List Value) (A:Option Addr) (n c:Nat)
 (hgd:o.guard=none) (ho:o.op=.call { callee:=.builtin .append,args:=#[s,x],argTypes:=#[t,t] })
 (hs:a.eval s=v) (hx:a.eval x=.slice A n c) (hn:n=ys.length)
 (hown:Own W B e v xs) (hsrc:Lies W B' A ys) (h1:∀ u∈ys,u.oneCell'=true) (hb:Below B w0 W) (hB:B≤W.heap.size)
 (hlen:xs.length+ys.length≤maxLen) (hby:(xs.length+ys.length) * bytes≤140737488355328)
 (h:∀ v' w',Own w' B e v' (xs++ys)→Below B w0 w'→W.grownBy w' v.ownBlock→(v'.ownBlock=v.ownBlock∨∃ g,v'.ownBlock=some g∧W.heap.size≤g)→K (a.put o.dst v') w') :
 if Region.wanted o (yielded ops a.tmps)=true then Oper.wp P o a W K Q else E:=by
 subst hn
 have hw:Region.wanted o (yielded ops a.tmps)=true:=by simp [Region.wanted,hgd]
 rw [if_pos hw]
 obtain ⟨v',w',hr,h2,h3,h4⟩:=run_app_src T o.type W B B' v xs ys A c hown hsrc h1 hB hlen hby
 unfold Oper.wp execOp
 simp only [ho,resolve,invoke,builtin,Sem.run_bind,Sem.run_pure,Result.andThen_ok,List.map_toArray,List.map_cons,List.map_nil,hs,hx,hr]
 refine h v' w' h2 (hb.grown h3 hB (fun k hk=>(Own.inside hown k hk).1)) h3 ?_
 rcases h4 with h4 | h4
 ·exact .inl h4
 ·exact .inr ⟨_,h4,Nat.le_refl _⟩
end
end
section
open Go.RowKit Go.Maps
def flat:List (Int×Int)→List Int
 | []=>[]
 | (a,b) :: r=>a :: b :: flat r
theorem flat_at:∀ (l:List (Int×Int)) (j:Nat) (h:j < l.length),(flat l)[2 * j]?=some l[j].1∧(flat l)[2 * j+1]?=some l[j].2
 | (a,b) :: r,0,_=>⟨rfl,rfl⟩
 | (a,b) :: r,j+1,h=>by
  have:=flat_at r j (by simpa using h)
  rw [show 2 * (j+1)=2 * j+1+1 by omega]
  simpa [flat] using this
theorem othL_drop (l:List (Int×Int)) (j:Nat) (h:j < l.length) (c:Int):othL (l.drop j) c=if c=l[j].1 then (l[j].2,true,true) else if c=l[j].2 then (l[j].1,false,true) else othL (l.drop (j+1)) c:=by
 rw [List.drop_eq_getElem_cons h]
 rfl
theorem rbrackets_any (w:World):Calls Tryz.prog 136 #[] w (Rowed w w.heap.size 3 (ints .i64 (flat brs))):=by
 go_enter Tryz.func136,Tryz.ntmps136
 go_wp2
 go_ret
 exact rowed_ret (Own.ofLit (w:=w) (B:=w.heap.size) (e:=3) _ (Nat.le_refl _) (by simp [maxLen])) (below_alloc _ _) (by simp [ints,flat,brs])
def Stands (l:List (Int×Int)) (c:Int) (k:Nat):Prop:=∃ j,j≤l.length∧k=2 * j∧othL (l.drop j) c=othL l c
theorem Stands.step {l:List (Int×Int)} {c:Int} {k:Nat} (h:Stands l c k) (hk:k < 2 * l.length) :
 ∃ a b,(flat l)[k]?=some a∧(flat l)[k+1]?=some b∧k+2≤2 * l.length∧othL l c=if c=a then (b,true,true) else if c=b then (a,false,true) else othL (l.drop (k / 2+1)) c:=by
 obtain ⟨j,_,rfl,hd⟩:=h
 have hj:j < l.length:=by omega
 obtain ⟨f1,f2⟩:=flat_at l j hj
 refine ⟨_,_,f1,f2,by omega,?_⟩
 rw [← hd,othL_drop l j hj c,show 2 * j / 2+1=j+1 by omega]
theorem Stands.next {l:List (Int×Int)} {c a b:Int} {k:Nat} (h:Stands l c k) (hk:k < 2 * l.length) (e:othL l c=if c=a then (b,true,true) else if c=b then (a,false,true) else othL (l.drop (k / 2+1)) c) (h1:c≠a) (h2:c≠b):Stands l c (k+2):=by
 obtain ⟨j,_,rfl,hd⟩:=h
 rw [if_neg h1,if_neg h2,show 2 * j / 2+1=j+1 by omega] at e
 exact ⟨j+1,by omega,by omega,e.symm⟩
theorem Stands.done {l:List (Int×Int)} {c:Int} {k:Nat} (h:Stands l c k) (hk:¬ k < 2 * l.length):othL l c=(0,false,false):=by
 obtain ⟨j,hj,rfl,hd⟩:=h
 rw [← hd,List.drop_of_length_le (by omega)]
 rfl
theorem cells_of {w:World} {B:Nat} {A:Option Addr} {l:List Int} (h:Lies w B A (ints .i64 l)) {i:Nat} {x y:Int} (e:l[i]?=some x) (e':l[i+1]?=some y) :
 ∃ b off,A=some ⟨b,off,none⟩∧b < B∧w.cell? ⟨b,off+i,none⟩=some (.int .i64 x)∧w.cell? ⟨b,off+(i+1),none⟩=some (.int .i64 y):=by
 obtain ⟨hi,rfl⟩:=List.getElem?_eq_some_iff.1 e
 obtain ⟨hi',rfl⟩:=List.getElem?_eq_some_iff.1 e'
 obtain ⟨b,off,hA,hb,hc⟩:=h.plainInts (by omega)
 exact ⟨b,off,hA,hb,hc i hi,hc (i+1) hi'⟩
end
section
open Go.RowKit Go.Maps
theorem mir_of (c:Int):mir c=if (othL mrs c).2.2 then (othL mrs c).1 else c:=rfl
theorem rmirror_any (c:Int) (w:World):Calls Tryz.prog 120 #[.int .i64 c] w fun e w'=>e=.returned (.int .i64 (mir c))∧Below w.heap.size w w':=by
 have hbr:(ints .i64 (flat brs)).length=18:=by decide
 have HBR:=qh hbr
 clear hbr
 go_enter Tryz.func120,Tryz.ntmps120
 go_wp2_with fail
 refine (rbrackets_any w).mono ?_
 rintro e w1 ⟨v1,rfl,o1,b1⟩
 have O1:=qh o1
 have B1:=qh b1
 have hz:=b1.size
 clear o1 b1
 go_wp2_with (first
  | (at_builtin;refine app_lit intsT w _ w.heap.size _ _ _ _ _ _ rfl rfl rfl rfl O1.out (by simp [Value.oneCell']) B1.out hz (by rw [HBR.out];simp [maxLen]) (by rw [HBR.out];simp) ?_;intro v2 w2 o2 b2 _ _))
 have o2':Own w2 w.heap.size 3 v2 (ints .i64 (flat mrs)):=o2
 obtain ⟨A1,c1,rfl,l1,_,_⟩:=o2'.form
 have L1:=qh l1
 have B2:=qh b2
 have hlen:(ints .i64 (flat mrs)).length=26:=by decide
 rw [hlen]
 clear o2 o2' l1 b2 hlen hz
 go_wp2
 go_loopw [4] (fun i wr=>∃ (k:Nat),k≤26∧i=.int .i64 k∧Stands mrs c k∧wr=w2) (fun i _=>26 - (intOf i).toNat)
 case atStart=>exact ⟨0,by omega,rfl,⟨0,by decide,rfl,rfl⟩,rfl⟩
 case round =>
  obtain ⟨k,hk,rfl,hst,rfl⟩:=hrel
  have HST:=qh hst
  clear hst
  by_cases hlt:k < 26
  ·obtain ⟨a,b,f1,f2,hk2,hs⟩:=HST.out.step hlt
   obtain ⟨blk,off,rfl,_,hc1,hc2⟩:=cells_of L1.out f1 f2
   have HS:=qh hs
   have hk3:k+2≤26:=hk2
   have b0:(0:Int)≤(k:Int):=by omega
   have b1:(k:Int) < 26:=by omega
   have b2:(k:Int)+1 < 26:=by omega
   clear f1 f2 hs hk2
   by_cases e1:c=a
   ·have hd:(a == c)=true:=by simp [e1]
    have E1:=qh e1
    clear e1
    go_wp2
    go_ret
    exact ⟨ret_int (by rw [mir_of,HS.out,if_pos E1.out];rfl),B2.out⟩
   ·have hd:(a == c)=false:=by simp [Ne.symm e1]
    by_cases e2:c=b
    ·have hd2:(b == c)=true:=by simp [e2]
     have E1:=qh e1
     have E2:=qh e2
     clear e1 e2
     go_wp2
     go_ret
     exact ⟨ret_int (by rw [mir_of,HS.out,if_neg E1.out,if_pos E2.out];rfl),B2.out⟩
    ·have hd2:(b == c)=false:=by simp [Ne.symm e2]
     have E1:=qh e1
     have E2:=qh e2
     clear e1 e2
     go_wp2
     go_roundw
     case rel=>exact ⟨k+2,hk3,by go_num,HST.out.next hlt HS.out E1.out E2.out,by first | rfl | trivial⟩
     case measure=>simp [intOf];omega
  ·go_wp2
   go_ret
   exact ⟨ret_int (by rw [mir_of,HST.out.done hlt];rfl),B2.out⟩
theorem mrs_or (c:Int):othL mrs c=(0,false,false)∨∃ p∈mrs,c=p.1∨c=p.2:=by
 by_cases h:∀ p∈mrs,c≠p.1∧c≠p.2
 ·exact .inl (othL_none _ _ h)
 ·refine .inr ?_
  false_or_by_contra
  rename_i hn
  exact h fun p hp=>⟨fun e=>hn ⟨p,hp,.inl e⟩,fun e=>hn ⟨p,hp,.inr e⟩⟩
theorem all_mrs {Q:Int→Prop} (h0:∀ c,othL mrs c=(0,false,false)→Q c) (h1:∀ p∈mrs,Q p.1∧Q p.2) (c:Int):Q c:=by
 rcases mrs_or c with h | ⟨p,hp,rfl | rfl⟩
 ·exact h0 c h
 ·exact (h1 p hp).1
 ·exact (h1 p hp).2
theorem isM_ne (c:Int):(mir c != c)=isM c:=by
 refine all_mrs (Q:=fun c=>(mir c != c)=isM c) (fun c h=>?_) (by decide +kernel) c
 rw [mir,isM,othM,h];simp
theorem rmirrored_any (c:Int) (w:World):Calls Tryz.prog 119 #[.int .i64 c] w fun e w'=>e=.returned (.bool (isM c))∧Below w.heap.size w w':=by
 have HM:=qh (isM_ne c)
 go_enter Tryz.func119,Tryz.ntmps119
 go_wp2_with fail
 refine (rmirror_any c w).mono ?_
 rintro e w1 ⟨rfl,b1⟩
 have B1:=qh b1
 clear b1
 go_wp2
 go_ret
 exact ⟨ret_bool HM.out,B1.out⟩
end
section
open Go.RowKit Go.Maps
theorem mir_none {c:Int} (h:othL mrs c=(0,false,false)):mir c=c:=by rw [mir_of,h];simp
theorem mir_twice (c:Int):mir (mir c)=c:=by
 refine all_mrs (Q:=fun c=>mir (mir c)=c) (fun c h=>?_) (by decide +kernel) c
 rw [mir_none h,mir_none h]
end
end Go.Proofs.YtoeocodfndbebaaGreatDoor
