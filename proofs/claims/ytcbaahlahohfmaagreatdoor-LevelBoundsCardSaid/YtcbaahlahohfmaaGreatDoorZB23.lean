/- Shared texts, shaken for one claim. -/
import Derived.Test.YtcbaahlahohfmaaGreatDoorCards
import Derived.Test.YtcbaahlahohfmaaGreatDoorTie
import Derived.ProofKit
import Derived.OpenShut
import Derived.Deep.DeepHandedRow
import Derived.Lib.LaidTab
import Derived.Lib.LaidU8
import Derived.Carry
import Derived.Test.YtcbaahlahohfmaaGreatDoorZB1
import Derived.Test.YtcbaahlahohfmaaGreatDoorZB3
import Derived.Test.YtcbaahlahohfmaaGreatDoorZB11
namespace Go.Proofs.YtcbaahlahohfmaaGreatDoor
open Go.ChangeShapes Go.WideShapes Go.ChangeAt Go.RowKit
theorem own : ownKnob Tryz.prog.godebug = none := by kernel_rfl
theorem gNames : Tryz.prog.globalNamed "ductus/class.names" = some 0 := by kernel_rfl
theorem gNamesT : (Tryz.prog.globals[0]?).map (·.type) = some 119 := by kernel_rfl
theorem cStr : Tryz.prog.cellsOf 9 = 1 := by kernel_rfl
theorem names_data : (Rows.laid_ductus_class_names : DataW Unit) = .agg (clsWords.map fun s => .lit (.string s.data.toList)) := by kernel_rfl
abbrev laidList : List (String × DataW Unit) := [("ductus/class.names", Rows.laid_ductus_class_names)]
theorem tabs_of {W : World} (h : laidMetH Tryz.prog laidList W) : ClsTabs W := by
 have hm : laidMet Tryz.prog laidList W := h
 have h3 : Lib.VarReads Tryz.prog W "ductus/class.names" _ := Lib.laidMet.reads hm (d := Rows.laid_ductus_class_names) (by simp [laidList])
 rw [names_data] at h3
 obtain ⟨g, t, cs, fuel, p, hg, hty, hvar, hd⟩ := h3
 obtain rfl := Option.some.inj (gNames.symm.trans hg)
 obtain rfl := Option.some.inj (gNamesT.symm.trans hty)
 have c : ∀ i, i < 23 → W.cell? ⟨0, i, none⟩ = some (.string (wordOf i)) := fun i hi => by
  obtain ⟨fuel', d, q, hdi, he⟩ := Lib.array_elem Tryz.underlying119 hd i hi
  rw [cStr, Nat.mul_one] at he
  obtain ⟨s, hcs, hx, _⟩ := DataW.trod_string Tryz.underlying9 he
  have hn : i < clsWords.length := hi
  simp only [List.getElem?_map, List.getElem?_eq_getElem hn, Option.map_some, Option.some.injEq] at hdi
  simp only [Prod.mk.injEq] at hx
  have e : s = clsWords[i] := by
   have h1 := hdi.trans hx.1
   simp only [DataW.lit.injEq, Lit.string.injEq] at h1
   have h2 := Array.toList_inj.1 h1
   rcases hc : clsWords[i] with ⟨x⟩
   cases s
   rw [hc] at h2
   simp_all
  have h0 := congrArg (·[0]?) hcs
  simp only [List.getElem?_take, List.getElem?_drop] at h0
  rw [World.var?_cell hg hvar, ← Array.getElem?_toList, wordOf, if_pos (by omega)]
  simp [hn, ← e]
  simpa using h0
 exact ⟨World.block_lt_of_cell? W ⟨0, 0, none⟩ (c 0 (by omega)), c⟩
def withCells (cs : List Value) : Obj → Obj
 | .cells _ t frozen => .cells cs.toArray t frozen
 | o => o
noncomputable def laidWorld (os : Os) (args : Array Value) : World :=
 { World.holding Tryz.prog os ⟨#[], args, []⟩ with heap := (World.holding Tryz.prog os ⟨#[], args, []⟩).heap.modify 0 (withCells (clsWords.map .string)) }
theorem plainOf (name : String) (k : FuncId) (kf : Func) (hk : Tryz.prog.funcNamed name = some k) (hkf : Tryz.prog.funcs[k]? = some kf)
 (hl : false = Tryz.pinned.checked.prog.looks []) (hp : ∀ (j : Nat) t, kf.params[j]? = some t → Tryz.prog.wantsStandIn t = false)
 (f : FuncId) (fn : Func) (hf : Tryz.pinned.checked.prog.funcNamed name = some f) (hfn : Tryz.pinned.checked.prog.funcs[f]? = some fn) :
 false = Tryz.pinned.checked.prog.looks [] ∧ ∀ (j : Nat) t, fn.params[j]? = some t → Tryz.pinned.checked.prog.wantsStandIn t = false := by
 obtain rfl : f = k := (Option.some.inj (hk.symm.trans hf)).symm
 obtain rfl : fn = kf := (Option.some.inj (hkf.symm.trans hfn)).symm
 exact ⟨hl, hp⟩
end Go.Proofs.YtcbaahlahohfmaaGreatDoor
namespace Go.Proofs.YtcbaahlahohfmaaGreatDoor
open Go.ChangeShapes Go.WideShapes Go.ChangeAt Go.RowKit
section
variable {H : Type} {enc : TypeId × Value → H} {P : Program}
theorem trodAll_kept (hl : laidOutB P = true) {W W' : World} {sp : Nat → Bool} (hb : Below W.heap.size W W') :
 ∀ (ts : List TypeId) (vs : List Value) (ds : List (DataW H)) (ps : List MemPlace), (∀ t ∈ ts, P.readableRec t = true ∧ t < P.types.size) →
  DataW.TrodAll enc P W 0 (fun _ => true) true ts vs ds ps → (∀ x ∈ ps, x.block < W.heap.size) → (∀ x ∈ ps, sp x.block = true) → DataW.TrodAll enc P W' 0 sp true ts vs ds ps := by
 intro ts
 induction ts with
 | nil =>
  intro vs ds ps _ h _ _
  obtain ⟨rfl, rfl, rfl⟩ := trodAll_nil h
  exact trodAll_mk0
 | cons t ts ih =>
  intro vs ds ps ht h hlt hsp
  obtain ⟨v, vs', d, ds', p, q, rfl, rfl, rfl, h0, hr⟩ := trodAll_cons h
  obtain ⟨r1, r2⟩ := ht t (by simp)
  refine trodAll_cons_mk (WideElems.Trod_stays hl r1 r2 h0 (fun x hx => hb.same (hlt x (by simp [hx]))) (fun x hx => hsp x (by simp [hx]))) ?_
  exact ih vs' ds' q (fun t' h' => ht t' (by simp [h'])) hr (fun x hx => hlt x (by simp [hx])) (fun x hx => hsp x (by simp [hx]))
structure LawSpec (s : ChangeSpec) (n : Nat) : Prop where
 vars : s.vars = []
 says : ∀ (H : Type) (ds : List (DataW H)), ds.length = n → s.fn H ds = { results := [.lit (.bool true)], args := ds }
theorem trodAll_length : ∀ (ts : List TypeId) {W : World} {b : Nat} {sp : Nat → Bool} {hd : Bool} (vs : List Value) (ds : List (DataW H)) (ps : List MemPlace), DataW.TrodAll enc P W b sp hd ts vs ds ps → ds.length = ts.length := by
 intro ts
 induction ts with
 | nil => intro W b sp hd vs ds ps h; obtain ⟨_, rfl, _⟩ := trodAll_nil h; rfl
 | cons t ts ih =>
  intro W b sp hd vs ds ps h
  obtain ⟨v, vs', d, ds', p, q, rfl, rfl, rfl, _, hr⟩ := trodAll_cons h
  simp [ih _ _ _ hr]
theorem law_post {f : Func} {s : ChangeSpec} {n : Nat} {W W' : World} {args : Array Value} {ds gs : List (DataW H)} {before : List MemPlace} {tb : TypeId}
 (hs : LawSpec s n) (hn : f.params.toList.length = n) (hl : laidOutB P = true) (ht : ∀ t ∈ f.params.toList, P.readableRec t = true ∧ t < P.types.size)
 (hr : f.resultTypes = #[tb]) (hb : P.underlying tb = some .bool)
 (hW : DataW.Whole enc P f.params.toList s.vars false W args.toList ds gs before) (hbe : Below W.heap.size W W') :
 s.post enc P f false true false false W args (.bool true) W' := by
 have hlt := hW.lt
 have hW' := hW
 obtain ⟨p, q, hA, hV, rfl, _, _⟩ := hW
 rw [hs.vars] at hV
 obtain ⟨rfl, rfl⟩ := trodVars_none hV
 have e := hs.says H ds ((trodAll_length _ _ _ _ hA).trans hn)
 simp only [List.append_nil] at hW' hlt
 refine ⟨ds, [], p, [], p, [], hW', ?_, ?_, ?_, ?_, fun h => by cases h⟩
 ·rw [hr, List.append_nil, e]
  exact trodAll_cons_mk (shut_bool hb _) trodAll_mk0
 ·rw [List.append_nil, e]
  exact trodAll_kept hl hbe _ _ _ _ ht hA hlt (fun x hx => by simpa using hlt x hx)
 ·rw [hs.vars, List.append_nil, e]
  rfl
 ·exact World.keptBut_mono (fun x hx => hx) (hbe.frame _)
theorem open_list {t e : TypeId} {k : IntKind} {W : World} {v : Value} {d : DataW H} {ps : List MemPlace} (ht : P.underlying t = some (.slice e)) (he : P.underlying e = some (.int k)) (hc : P.cellsOf e = 1) {r : Reach} {b0 : Nat} (hval : Value.okWide P W r b0 t v)
 (h : DataW.Trod enc P W 0 (fun _ => true) true t v d ps) :
 ∃ (A : Option Addr) (l : List Int) (c : Nat), v = .slice A l.length c ∧ l.length ≤ c ∧ c ≤ maxLen ∧ Lies W W.heap.size A (ints k l) ∧ ∀ n ∈ l, (Lit.int k n).wf = true := by
 obtain ⟨a0, len0, cap0, rfl⟩ := okWide_slice ht hval
 obtain ⟨fuel, hf⟩ := h
 rcases open_ints ht he hc hf with ⟨hv, _⟩ | ⟨a, len, cap, zs, hv, _, hlc, hcm, hz, _, hcell, hwf⟩
 ·simp [Value.cells] at hv
  obtain ⟨rfl, rfl, rfl⟩ := hv
  exact ⟨none, [], 0, rfl, Nat.le_refl _, by unfold maxLen; omega, Lies.empty, fun n hn => by cases hn⟩
 ·simp [Value.cells] at hv
  obtain ⟨rfl, rfl, rfl⟩ := hv
  rw [if_pos rfl] at hz
  have hlen : (zs.take len0).length = len0 := by rw [List.length_take, hz]; omega
  refine ⟨some a, zs.take len0, cap0, by rw [hlen], by rw [hlen]; exact hlc, hcm, fun hne => ⟨a, rfl, ?_, fun i u hu => ?_⟩, fun n hn => hwf n (List.mem_of_mem_take hn)⟩
  ·have h0 : 0 < len0 := by
    rcases Nat.eq_zero_or_pos len0 with h0 | h0
    ·subst h0; simp at hne
    ·exact h0
   have := hcell 0 (by omega)
   exact (add_block a 0) ▸ World.block_lt_of_cell? W _ this
  ·rw [List.getElem?_map] at hu
   obtain ⟨x, hx, rfl⟩ := Option.map_eq_some_iff.1 hu
   rw [List.getElem?_take] at hx
   split at hx
   ·have hi : i < zs.length := (List.getElem?_eq_some_iff.1 hx).1
    rw [hcell i hi]
    simp [List.getD, hx]
   ·cases hx
end
end Go.Proofs.YtcbaahlahohfmaaGreatDoor
namespace Go.Proofs.YtcbaahlahohfmaaGreatDoor
open Go.RowKit Reckon
theorem base_plain {chars : List Int} {h : Int} (hh : h = 0 ∨ h = 1) (hall : ∀ c ∈ chars, cls c = h) (dir : Int) : baseI chars dir = if dir = 1 then 0 else if dir = 2 then 1 else if chars = [] then 0 else h := by
 unfold baseI level
 split
 ·rfl
 ·split
  ·rfl
  ·cases chars with
   | nil => rfl
   | cons x l =>
    rw [if_neg (by simp), clsL, List.map_cons, hall x (by simp), firstP]
    rcases hh with rfl | rfl
    ·rw [if_neg (by decide), if_neg (by decide), if_neg (by decide), if_pos (by decide)]
     decide
    ·rw [if_neg (by decide), if_neg (by decide), if_neg (by decide), if_pos (by decide)]
     decide
theorem all_at {l : List Int} {h : Int} (hall : ∀ k ∈ l, k = h) {q : Nat} (hq : q < l.length) : l.getD q 0 = h := by
 rw [getD_at hq]; exact hall _ (List.getElem_mem hq)
theorem emb_plain {first : List Int} {h base : Int} (hh : h = 0 ∨ h = 1) (hall : ∀ k ∈ first, k = h) (hb : base = 0 ∨ base = 1) {q : Nat} (hq : q < first.length) :
 (lvs first base).getD q 0 = base ∧ (xcls first base).getD q 0 = h := by
 have hpl : plainC h = true := by rcases hh with rfl | rfl <;> decide
 have hE := emb_of (fun k hk => by rw [hall k hk]; omega) hb (first := first)
 have hbb : (runX first base q).base = base := by
  rw [base_run]
  rcases hb with rfl | rfl <;> rfl
 have hst := plain_run first base q (fun j hj => by
  rw [show at0 first j = first.getD j 0 from rfl, all_at hall (by omega)]; exact hpl)
 obtain ⟨h1, h2⟩ := plain_tell hst (c := first[q]) (by rw [hall _ (List.getElem_mem hq)]; exact hpl)
 have hk := hall _ (List.getElem_mem hq)
 rw [getD_at (by rw [hE.ll]; exact hq), lvs_at first base q hq (by rw [hE.ll]; exact hq), h1, hbb, getD_at (by rw [hE.lc]; exact hq), xcls_at first base q hq (by rw [hE.lc]; exact hq)]
 refine ⟨rfl, ?_⟩
 rcases h2 with h2 | h2 | h2
 ·rw [h2, hk]
 ·omega
 ·omega
theorem pairs_plain (chars : List Int) {l : List Int} {h : Int} (hh : h = 0 ∨ h = 1) (hall : ∀ k ∈ l, k = h) : pairsI chars l = [] := by
 unfold pairsI
 split
 ·rename_i he
  cases hp : (pairsN chars l chars.length).out with
  | nil => rfl
  | cons p ps =>
   obtain ⟨a, b, -, h1, h2, h3, -⟩ := (pinv chars l chars.length).each p (by rw [hp]; simp)
   have : cAt l a = h := all_at hall (show a < l.length by omega)
   rw [this] at h3
   omega
 ·rfl
theorem seq_plain (chars : List Int) {xc : List Int} {s : Sq} {h : Int} (hh : h = 0 ∨ h = 1) (hall : ∀ k ∈ pickL xc s.pl, k = h) {k : Nat} (hk : k < s.pl.length) : (seqE chars xc s).getD k 0 = h := by
 have hw : ofI (pickL xc s.pl) s.sos = pickL xc s.pl := by
  rw [of_plain s.sos (fun k hk => by rw [hall k hk]; rcases hh with rfl | rfl <;> decide)]
  conv => rhs; rw [← List.map_id (pickL xc s.pl)]
  apply List.map_congr_left
  intro x hx
  rw [hall x hx]
  rcases hh with rfl | rfl <;> rfl
 have hb : ofB (pickL chars s.pl) (pickL xc s.pl) (pickL xc s.pl) s.lev s.sos = pickL xc s.pl := by
  unfold ofB
  rw [pairs_plain _ hh hall]
  split <;> rfl
 have hn : nofI (pickL xc s.pl) s.lev s.sos s.eos = pickL xc s.pl := nofI_same _ _ _ (fun i => by
  by_cases hi : i < (pickL xc s.pl).length
  ·rw [all_at hall hi]; rcases hh with rfl | rfl <;> decide
  ·rw [List.getD_eq_getElem?_getD, List.getElem?_eq_none (by omega)]; decide)
 rw [seqE, hw, hb, hn]
 exact all_at hall (by rw [pick_length]; exact hk)
theorem level_plain {chars : List Int} {h : Int} (hh : h = 0 ∨ h = 1) (hall : ∀ c ∈ chars, cls c = h) (dir : Int) {q : Nat} (hq : q < chars.length) : (levI chars dir).getD q 0 = nLevelI h (baseI chars dir) := by
 obtain ⟨f, hf⟩ : ∃ f, clsL chars = f := ⟨_, rfl⟩
 obtain ⟨b, hb⟩ : ∃ b, baseI chars dir = b := ⟨_, rfl⟩
 have hb2 : b = 0 ∨ b = 1 := hb ▸ base_two chars dir
 have hfall : ∀ k ∈ f, k = h := fun k hk => by
  rw [← hf] at hk
  obtain ⟨c, hc, rfl⟩ := List.mem_map.1 hk
  exact hall c hc
 have hE : Emb f b (lvs f b) (xcls f b) := emb_of (hf ▸ clsL_range chars) hb2
 have hfl : f.length = chars.length := by rw [← hf, clsL_length]
 have hout : isOut (f.getD q 0) = false := by rw [all_at hfall (by omega)]; rcases hh with rfl | rfl <;> decide
 have hfill : ∀ k, k ≤ f.length → ∀ l : List Int, fillN f b l k = l := fun k => by
  induction k with
  | zero => intro _ l; rfl
  | succ k ih =>
   intro hk l
   have : isOut (f.getD k 0) = false := by rw [all_at hfall (by omega)]; rcases hh with rfl | rfl <;> decide
   rw [fillN, this, if_neg (by simp), ih (by omega)]
 unfold levI
 rw [hf, hb, hfill _ (by omega)]
 unfold laidI
 rw [hf, hb]
 have hst : (lvs f b, xcls f b).1.length = (lvs f b, xcls f b).2.length := hE.ll.trans hE.lc.symm
 have hq1 : q < (lvs f b, xcls f b).1.length := by show q < (lvs f b).length; rw [hE.ll]; omega
 rcases layN_at chars (xcls f b) (seqsI f (lvs f b) b) (lvs f b, xcls f b) hst q hq1 _ (Nat.le_refl _) with ⟨h1, h2, h3⟩ | ⟨s, hs, k, hk, hp, he, hv⟩
 ·obtain ⟨m, hm, j, hj, hpl⟩ := place_of hE.ll.symm b (by omega) hout
  exact absurd (by rw [hpl]; simp) (h3 m hm hm j hj)
 ·have hpall : ∀ x ∈ pickL (xcls f b) s.pl, x = h := fun x hx => by
   obtain ⟨p, hp2, rfl⟩ := List.mem_map.1 hx
   obtain ⟨j, hj, rfl⟩ := List.mem_iff_getElem.1 hp2
   obtain ⟨q', h4, h5, -⟩ := place_in hE.ll.symm b hs hj
   rw [getD_at hj] at h4
   rw [h4, Int.toNat_natCast]
   exact (emb_plain hh hfall hb2 h5).2
  have hlev : s.lev = b := by
   obtain ⟨q', h4, h5, -⟩ := place_in hE.ll.symm b hs (show 0 < s.pl.length by omega)
   rw [seq_lev b hs, headI, h4, Int.toNat_natCast]
   exact (emb_plain hh hfall hb2 h5).1
  rw [hv, he, seq_plain chars hh hpall hk, hlev]
end Go.Proofs.YtcbaahlahohfmaaGreatDoor
namespace Go.Proofs.YtcbaahlahohfmaaGreatDoor.Tests
open Go Reckon
inductive TV where
 | atom (i : Nat)
 | lit (n : Int)
 | boo (b : Bool)
 | nil
 deriving DecidableEq
def TV.val (env : List Value) : TV → Value
 | .atom i => env.getD i undef
 | .lit n => .int .i64 n
 | .boo b => .bool b
 | .nil => undef
inductive Fact where
 | idx (t : TypeId) (x i r : TV)
 | load (t : TypeId) (x r : TV)
 | bin (op : BinOp) (t : TypeId) (x y r : TV)
 | call (f : Nat) (xs : List TV) (r : TV)
section
variable (P : Program) (env : List Value) (w : World)
def Fact.Ok : Fact → Prop
 | .idx t x i r => (Instr.indexAt t (x.val env) (i.val env)).run P w = .ok (r.val env) w
 | .load t x r => (Instr.loadAt t (x.val env)).run P w = .ok (r.val env) w
 | .bin op t x y r => (∀ X Y, (eqGuard op t X Y (x.val env) (y.val env)).run P w = .ok () w) ∧ (binOp op t (x.val env) (y.val env)).run P w = .ok (r.val env) w
 | .call f xs r => (∃ fn, P.funcs[f]? = some fn ∧ (fn.name == "runtime.NumGoroutine") = false ∧ fn.body.isNone = false) ∧ Calls P f (xs.map (TV.val env)).toArray w fun e w' => e = .returned (r.val env) ∧ w = w'
end
def findIdx (t : TypeId) (x i : TV) : List Fact → Option TV
 | [] => none
 | .idx t' x' i' r :: l => if t' = t ∧ x' = x ∧ i' = i then some r else findIdx t x i l
 | _ :: l => findIdx t x i l
def findLoad (t : TypeId) (x : TV) : List Fact → Option TV
 | [] => none
 | .load t' x' r :: l => if t' = t ∧ x' = x then some r else findLoad t x l
 | _ :: l => findLoad t x l
def findBin (op : BinOp) (t : TypeId) (x y : TV) : List Fact → Option TV
 | [] => none
 | .bin op' t' x' y' r :: l => if op' = op ∧ t' = t ∧ x' = x ∧ y' = y then some r else findBin op t x y l
 | _ :: l => findBin op t x y l
def findCall (f : Nat) (xs : List TV) : List Fact → Option TV
 | [] => none
 | .call f' xs' r :: l => if f' = f ∧ xs' = xs then some r else findCall f xs l
 | _ :: l => findCall f xs l
theorem findIdx_mem {t : TypeId} {x i r : TV} : ∀ {l : List Fact}, findIdx t x i l = some r → Fact.idx t x i r ∈ l
 | [], h => by cases h
 | f :: l, h => by
  cases f <;> simp only [findIdx] at h
  case idx =>
   split at h
   ·rename_i e; obtain ⟨rfl, rfl, rfl⟩ := e; injection h with h; subst h; simp
   ·exact List.mem_cons_of_mem _ (findIdx_mem h)
  all_goals exact List.mem_cons_of_mem _ (findIdx_mem h)
theorem findLoad_mem {t : TypeId} {x r : TV} : ∀ {l : List Fact}, findLoad t x l = some r → Fact.load t x r ∈ l
 | [], h => by cases h
 | f :: l, h => by
  cases f <;> simp only [findLoad] at h
  case load =>
   split at h
   ·rename_i e; obtain ⟨rfl, rfl⟩ := e; injection h with h; subst h; simp
   ·exact List.mem_cons_of_mem _ (findLoad_mem h)
  all_goals exact List.mem_cons_of_mem _ (findLoad_mem h)
theorem findBin_mem {op : BinOp} {t : TypeId} {x y r : TV} : ∀ {l : List Fact}, findBin op t x y l = some r → Fact.bin op t x y r ∈ l
 | [], h => by cases h
 | f :: l, h => by
  cases f <;> simp only [findBin] at h
  case bin =>
   split at h
   ·rename_i e; obtain ⟨rfl, rfl, rfl, rfl⟩ := e; injection h with h; subst h; simp
   ·exact List.mem_cons_of_mem _ (findBin_mem h)
  all_goals exact List.mem_cons_of_mem _ (findBin_mem h)
theorem findCall_mem {f : Nat} {xs : List TV} {r : TV} : ∀ {l : List Fact}, findCall f xs l = some r → Fact.call f xs r ∈ l
 | [], h => by cases h
 | g :: l, h => by
  cases g <;> simp only [findCall] at h
  case call =>
   split at h
   ·rename_i e; obtain ⟨rfl, rfl⟩ := e; injection h with h; subst h; simp
   ·exact List.mem_cons_of_mem _ (findCall_mem h)
  all_goals exact List.mem_cons_of_mem _ (findCall_mem h)
def plainBin (op : BinOp) : TV → TV → Option TV
 | .lit a, .lit b => match op with
  | .eql => some (.boo (a == b))
  | .neq => some (.boo (a != b))
  | .lss => some (.boo (decide (a < b)))
  | .leq => some (.boo (decide (a ≤ b)))
  | .gtr => some (.boo (decide (b < a)))
  | .geq => some (.boo (decide (b ≤ a)))
  | .add => some (.lit (IntKind.i64.wrap (a + b)))
  | .sub => some (.lit (IntKind.i64.wrap (a - b)))
  | _ => none
 | _, _ => none
theorem plainBin_ok {P : Program} {env : List Value} {w : World} {op : BinOp} {x y r : TV} (h : plainBin op x y = some r) (t : TypeId) :
 (∀ X Y, (eqGuard op t X Y (x.val env) (y.val env)).run P w = .ok () w) ∧ (binOp op t (x.val env) (y.val env)).run P w = .ok (r.val env) w := by
 unfold plainBin at h
 split at h
 ·rename_i a b
  constructor
  ·intro X Y; cases op <;> simp [eqGuard, TV.val]
  ·cases op <;> simp only at h <;> first | (cases h; done) | (obtain rfl := Option.some.inj h; simp [binOp, Op.intCmp, Op.intArith, TV.val])
 ·cases h
def evalT (st : List (Nat × TV)) : Operand → Option TV
 | .tmp t => Reckon.look st t
 | .const (.int .i64 n) => some (.lit n)
 | .const (.bool b) => some (.boo b)
 | _ => none
def evalTs (st : List (Nat × TV)) : List Operand → Option (List TV)
 | [] => some []
 | o :: r => match evalT st o, evalTs st r with
  | some v, some vs => some (v :: vs)
  | _, _ => none
def opT (fs : List Fact) (st : List (Nat × TV)) (o : Oper) : Option TV := match o.op with
 | .move x => evalT st x
 | .assign x => evalT st x
 | .pick t x y => match evalT st t with
  | some (.boo b) => if b then evalT st x else evalT st y
  | _ => none
 | .indexAddr t x i => match evalT st x, evalT st i with
  | some u, some v => findIdx t u v fs
  | _, _ => none
 | .load t x => match evalT st x with
  | some u => findLoad t u fs
  | none => none
 | .binOp op t x y _ => match evalT st x, evalT st y with
  | some u, some v => match findBin op t u v fs with
   | some r => some r
   | none => plainBin op u v
  | _, _ => none
 | .unOp .not _ x => match evalT st x with
  | some (.boo b) => some (.boo !b)
  | _ => none
 | .call { callee := .value (.func f), args := ays, argTypes := _ } => match evalTs st ays.toList with
  | some vs => findCall f vs fs
  | none => none
 | _ => none
def wantedT (ops : Array Oper) (st : List (Nat × TV)) (o : Oper) : Option Bool := match o.guard with
 | none => some true
 | some (j, want) => match (ops[j]?).bind (·.dst) with
  | some d => match Reckon.look st d with
   | some (.boo b) => some (b == want)
   | some .nil => some false
   | _ => none
  | none => none
def runT (fs : List Fact) (ops : Array Oper) : Nat → List Oper → List (Nat × TV) → Option (List TV)
 | _, [], _ => some []
 | s, o :: r, st => if o.dst = some s then match wantedT ops st o with
  | some true => match opT fs st o with
   | some v => (runT fs ops (s + 1) r ((s, v) :: st)).map (v :: ·)
   | none => none
  | some false => (runT fs ops (s + 1) r ((s, .nil) :: st)).map (.nil :: ·)
  | none => none
  else none
def Known (env : List Value) (st : List (Nat × TV)) (a : Act) : Prop := ∀ p ∈ st, a.tmps[p.1]? = some (p.2.val env)
section
variable {P : Program} {env : List Value} {w : World} {st : List (Nat × TV)} {a : Act}
theorem Known.get (h : Known env st a) {d : Nat} {v : TV} (e : Reckon.look st d = some v) : a.tmps[d]? = some (v.val env) := h _ (Reckon.look_mem e)
theorem evalT_ok (h : Known env st a) {o : Operand} {v : TV} (e : evalT st o = some v) : a.eval o = v.val env := by
 unfold evalT at e
 split at e
 ·have := h.get e
  simp [Act.eval, this]
 ·obtain rfl := Option.some.inj e; rfl
 ·obtain rfl := Option.some.inj e; rfl
 ·cases e
theorem evalTs_ok (h : Known env st a) : ∀ {os : List Operand} {vs : List TV}, evalTs st os = some vs → os.map a.eval = vs.map (TV.val env)
 | [], vs, e => by simp only [evalTs, Option.some.injEq] at e; subst e; rfl
 | o :: r, vs, e => by
  simp only [evalTs] at e
  split at e
  ·rename_i v vs' hv hvs
   simp only [Option.some.injEq] at e
   subst e
   simp [evalT_ok h hv, evalTs_ok h hvs]
  ·cases e
theorem wantedT_ok (h : Known env st a) {ops : Array Oper} {o : Oper} {b : Bool} (e : wantedT ops st o = some b) : Region.wanted o (yielded ops a.tmps) = b := by
 unfold wantedT at e
 split at e
 ·rename_i hg; obtain rfl := Option.some.inj e; simp [Region.wanted, hg]
 ·rename_i j want hg
  split at e
  ·rename_i d hd
   split at e
   ·rename_i x hx
    obtain rfl := Option.some.inj e
    have := h.get hx
    simp [Region.wanted, hg, yielded, hd, this, TV.val]
   ·rename_i hx
    obtain rfl := Option.some.inj e
    have := h.get hx
    simp [Region.wanted, hg, yielded, hd, this, TV.val, undef]
   ·cases e
  ·cases e
theorem opT_ok {fs : List Fact} (hF : ∀ f ∈ fs, f.Ok P env w) (h : Known env st a) {o : Oper} {v : TV} (e : opT fs st o = some v)
 {next : Act → World → Prop} {Q : Exit → Act → World → Prop} (k : next (a.put o.dst (v.val env)) w) : o.wp P a w next Q := by
 unfold opT at e
 split at e
 ·rename_i x ho
  unfold Oper.wp execOp
  simp only [ho, evalT_ok h e]
  exact k
 ·rename_i x ho
  unfold Oper.wp execOp
  simp only [ho, evalT_ok h e]
  exact k
 ·rename_i t x y ho
  split at e
  ·rename_i b hb
   have hb' := evalT_ok h hb
   unfold Oper.wp execOp
   simp only [ho, hb', TV.val, asBool, Sem.run_bind, Sem.run_pure, Result.andThen_ok]
   cases b
   ·simp only [Bool.false_eq_true, if_false] at e ⊢
    rw [evalT_ok h e]; exact k
   ·simp only [if_true] at e ⊢
    rw [evalT_ok h e]; exact k
  ·cases e
 ·rename_i t x i ho
  split at e
  ·rename_i u u' hu hu'
   have hf : (Instr.indexAt t (u.val env) (u'.val env)).run P w = .ok (v.val env) w := hF _ (findIdx_mem e)
   unfold Oper.wp execOp
   simp only [ho, evalT_ok h hu, evalT_ok h hu', Sem.run_bind, Sem.run_pure, Result.andThen_ok, hf]
   exact k
  ·cases e
 ·rename_i t x ho
  split at e
  ·rename_i u hu
   have hf : (Instr.loadAt t (u.val env)).run P w = .ok (v.val env) w := hF _ (findLoad_mem e)
   unfold Oper.wp execOp
   simp only [ho, evalT_ok h hu, Sem.run_bind, Sem.run_pure, Result.andThen_ok, hf]
   exact k
  ·cases e
 ·rename_i op t x y t' ho
  split at e
  ·rename_i u u' hu hu'
   have hb : (∀ X Y, (eqGuard op t X Y (u.val env) (u'.val env)).run P w = .ok () w) ∧ (binOp op t (u.val env) (u'.val env)).run P w = .ok (v.val env) w := by
    split at e
    ·rename_i r hr
     obtain rfl := Option.some.inj e
     exact hF _ (findBin_mem hr)
    ·exact plainBin_ok e t
   unfold Oper.wp execOp
   simp only [ho, evalT_ok h hu, evalT_ok h hu', Sem.run_bind, Sem.run_pure, Result.andThen_ok, hb.1, hb.2]
   exact k
  ·cases e
 ·rename_i t x ho
  split at e
  ·rename_i b hb
   obtain rfl := Option.some.inj e
   unfold Oper.wp execOp
   simp only [ho, evalT_ok h hb, TV.val, Op.unary, Sem.run_bind, Sem.run_pure, Result.andThen_ok]
   exact k
  ·cases e
 ·rename_i f ays ts ho
  split at e
  ·rename_i vs hvs
   obtain ⟨⟨fn, hf, hn, hb⟩, hcall⟩ : Fact.Ok P env w (.call f vs v) := hF _ (findCall_mem e)
   have hargs := evalTs_ok h hvs
   have hm : ays.map a.eval = (vs.map (TV.val env)).toArray := by
    rw [← hargs]; simp [← List.map_toArray]
   unfold Oper.wp execOp
   simp only [ho, resolve, Deferred.ofValue, invoke, callFunc, Act.eval, Sem.run_bind, Sem.run_pure, Result.andThen_ok]
   have hm' : (Array.map a.eval ays) = (vs.map (TV.val env)).toArray := hm
   simp only [run_program, Result.andThen_ok, hf, hn, hb, Bool.false_eq_true, if_false, Sem.run_pure, hm', Array.append_empty, Array.empty_append]
   refine hcall.mono ?_
   rintro ed w' ⟨rfl, rfl⟩
   exact k
  ·cases e
 ·cases e
theorem Known.put (h : Known env st a) {s : Nat} (hs : s < a.tmps.size) (hn : ∀ p ∈ st, p.1 ≠ s) (v : TV) : Known env ((s, v) :: st) (a.put (some s) (v.val env)) := fun p hp => by
 rcases List.mem_cons.1 hp with rfl | hp
 ·simp [Act.put, hs]
 ·rw [Act.put, Array.getElem?_setIfInBounds_ne (by have := hn p hp; omega)]
  exact h p hp
def laid (env : List Value) (a : Act) (s : Nat) (vs : List TV) : Act := ⟨(a.tmps.toList.take s ++ vs.map (TV.val env) ++ a.tmps.toList.drop (s + vs.length)).toArray, a.defers⟩
theorem laid_nil (s : Nat) : laid env a s [] = a := by
 cases a with | mk t d => simp [laid]
theorem laid_cons {s : Nat} (hs : s < a.tmps.size) (v : TV) (vs : List TV) : laid env (a.put (some s) (v.val env)) (s + 1) vs = laid env a s (v :: vs) := by
 unfold laid
 refine congrArg (fun x => (⟨List.toArray x, a.defers⟩ : Act)) ?_
 simp only [Act.put, Array.toList_setIfInBounds, List.map_cons, List.length_cons]
 rw [List.take_succ_eq_append_getElem (by simpa using hs), List.take_set_of_le (Nat.le_refl _), List.getElem_set_self, List.drop_set_of_lt (by omega)]
 simp [Nat.add_assoc, Nat.add_comm 1]
theorem runT_ok {fs : List Fact} (hF : ∀ f ∈ fs, f.Ok P env w) {ops : Array Oper} {Q : Exit → Act → World → Prop} : ∀ {l : List Oper} {s : Nat} {st : List (Nat × TV)} {vs : List TV} {a : Act}, runT fs ops s l st = some vs → Known env st a →
 (∀ p ∈ st, p.1 < s) → s + l.length ≤ a.tmps.size → Q .normal (laid env a s vs) w → wpList P ops Q l a w
 | [], s, st, vs, a, e, h, _, _, k => by
  simp only [runT, Option.some.injEq] at e; subst e
  rw [laid_nil] at k
  exact wpList_nil k
 | o :: r, s, st, vs, a, e, h, hs, hz, k => by
  simp only [runT] at e
  simp only [List.length_cons] at hz
  have hs1 : ∀ v : TV, ∀ p ∈ (s, v) :: st, p.1 < s + 1 := fun v p hp => by
   rcases List.mem_cons.1 hp with rfl | hp
   ·exact Nat.lt_succ_self _
   ·have := hs p hp; omega
  refine wpList_step fun K hK => ?_
  split at e
  ·rename_i hd
   split at e
   ·rename_i hw
    rw [if_pos (wantedT_ok h hw)]
    split at e
    ·rename_i v hv
     obtain ⟨ws, he, rfl⟩ := Option.map_eq_some_iff.1 e
     refine opT_ok hF h hv (hK _ _ ?_)
     rw [hd]
     refine runT_ok hF he (h.put (by omega) (fun p hp => by have := hs p hp; omega) v) (hs1 v) (by simp [Act.put]; omega) ?_
     rw [laid_cons (by omega)]
     exact k
    ·cases e
   ·rename_i hw
    rw [if_neg (by rw [wantedT_ok h hw]; simp)]
    obtain ⟨ws, he, rfl⟩ := Option.map_eq_some_iff.1 e
    refine hK _ _ ?_
    rw [hd, show undef = TV.val env .nil from rfl]
    refine runT_ok hF he (h.put (by omega) (fun p hp => by have := hs p hp; omega) .nil) (hs1 .nil) (by simp [Act.put]; omega) ?_
    rw [laid_cons (by omega)]
    exact k
   ·cases e
  ·cases e
end
end Go.Proofs.YtcbaahlahohfmaaGreatDoor.Tests
namespace Go.Proofs.YtcbaahlahohfmaaGreatDoor
open Go.RowKit Reckon
def ins (l : List Int) (k : Nat) (v : Int) : List Int := l.take k ++ v :: l.drop k
def sh (k i : Nat) : Nat := if i < k then i else i + 1
def shI (k : Nat) (x : Int) : Int := if x < (k : Int) then x else x + 1
theorem sh_lt {k i : Nat} (h : i < k) : sh k i = i := if_pos h
theorem sh_ge {k i : Nat} (h : k ≤ i) : sh k i = i + 1 := if_neg (by omega)
theorem shI_nat (k i : Nat) : shI k (i : Int) = (sh k i : Nat) := by
 unfold shI sh
 by_cases h : i < k
 ·rw [if_pos (by omega), if_pos h]
 ·rw [if_neg (by omega), if_neg h]; omega
theorem shI_neg (k : Nat) : shI k (-1) = -1 := by unfold shI; rw [if_pos (by omega)]
theorem sh_inj (k : Nat) {i j : Nat} (h : sh k i = sh k j) : i = j := by
 unfold sh at h
 split at h <;> split at h <;> omega
theorem shI_inj (k : Nat) {x y : Int} (h : shI k x = shI k y) : x = y := by
 unfold shI at h
 split at h <;> split at h <;> omega
theorem shI_eq (k : Nat) (x y : Int) : (shI k x == shI k y) = (x == y) := by
 by_cases h : x = y
 ·rw [h]; simp
 ·have : shI k x ≠ shI k y := fun e => h (shI_inj k e)
  rw [beq_eq_false_iff_ne.2 this, beq_eq_false_iff_ne.2 h]
theorem shI_toNat (k : Nat) {x : Int} (h : 0 ≤ x) : (shI k x).toNat = sh k x.toNat := by
 obtain ⟨n, rfl⟩ := Int.eq_ofNat_of_zero_le h
 rw [shI_nat]; rfl
theorem ins_length {l : List Int} {k : Nat} (hk : k ≤ l.length) (v : Int) : (ins l k v).length = l.length + 1 := by
 simp [ins]; omega
theorem ins_getD {l : List Int} {k : Nat} (hk : k ≤ l.length) (v : Int) (q : Nat) : (ins l k v).getD (sh k q) 0 = l.getD q 0 := by
 rw [List.getD_eq_getElem?_getD, List.getD_eq_getElem?_getD, ins]
 have e : (l.take k).length = k := by rw [List.length_take]; omega
 by_cases h : q < k
 ·rw [sh_lt h, List.getElem?_append_left (by omega), List.getElem?_take_of_lt h]
 ·rw [sh_ge (by omega), List.getElem?_append_right (by omega), e, show q + 1 - k = (q - k) + 1 by omega, List.getElem?_cons_succ, List.getElem?_drop, show k + (q - k) = q by omega]
theorem ins_new {l : List Int} {k : Nat} (hk : k ≤ l.length) (v : Int) : (ins l k v).getD k 0 = v := by
 rw [List.getD_eq_getElem?_getD, ins]
 have e : (l.take k).length = k := by rw [List.length_take]; omega
 rw [List.getElem?_append_right (by omega), e, Nat.sub_self]; rfl
theorem ins_cons (x : Int) (l : List Int) (k : Nat) (v : Int) : ins (x :: l) (k + 1) v = x :: ins l k v := rfl
theorem ins_zero (l : List Int) (v : Int) : ins l 0 v = v :: l := rfl
theorem ins_drop_lt (l : List Int) {k j : Nat} (hk : k ≤ l.length) (h : j ≤ k) (v : Int) : (ins l k v).drop j = ins (l.drop j) (k - j) v := by
 rw [ins, ins, List.drop_append_of_le_length (by rw [List.length_take]; omega), List.drop_take, List.drop_drop, show j + (k - j) = k by omega]
theorem ins_drop_ge (l : List Int) {k j : Nat} (hk : k ≤ l.length) (h : k ≤ j) (v : Int) : (ins l k v).drop (j + 1) = l.drop j := by
 have e : (l.take k).length = k := by rw [List.length_take]; omega
 rw [ins, List.drop_append, e, List.drop_of_length_le (by omega), List.nil_append, show j + 1 - k = (j - k) + 1 by omega, List.drop_succ_cons, List.drop_drop, show k + (j - k) = j by omega]
theorem map_ins (f : Int → Int) (l : List Int) (k : Nat) (v : Int) : (ins l k v).map f = ins (l.map f) k (f v) := by
 simp [ins, List.map_take, List.map_drop]
theorem firstP_nine (xs : List Int) (o : Nat) : firstP (9 :: xs) o = firstP xs o := by
 rw [firstP, if_neg (by decide), if_neg (by decide), if_neg (by decide), if_neg (by intro h; exact absurd h.2 (by decide))]
theorem firstP_ins : ∀ (xs : List Int) (k o : Nat), firstP (ins xs k 9) o = firstP xs o
 | xs, 0, o => by rw [ins_zero]; exact firstP_nine xs o
 | [], k + 1, o => by
  show firstP (List.take (k + 1) [] ++ 9 :: List.drop (k + 1) []) o = _
  simp only [List.take_nil, List.drop_nil, List.nil_append]
  exact firstP_nine [] o
 | x :: xs, k + 1, o => by
  rw [ins_cons, firstP, firstP]
  simp only [firstP_ins xs k]
theorem level_ins (l : List Int) (k : Nat) (dir : Int) : level (ins l k 9) dir = level l dir := by
 unfold level
 rw [firstP_ins]
def inT (xs : List Int) (d k o : Nat) : Int := firstP (xs.take (stopAt xs d k - k)) o
theorem stop_up : ∀ (xs : List Int) (d k : Nat), stopAt xs d (k + 1) = stopAt xs d k + 1
 | [], _, _ => rfl
 | x :: xs, d, k => by
  unfold stopAt
  split
  ·rfl
  ·split
   ·exact stop_up xs _ _
   ·split
    ·split
     ·rfl
     ·exact stop_up xs _ _
    ·exact stop_up xs _ _
theorem inT_up (xs : List Int) (d k o : Nat) : inT xs d (k + 1) o = inT xs d k o := by
 unfold inT
 rw [stop_up, show stopAt xs d k + 1 - (k + 1) = stopAt xs d k - k by omega]
theorem take_stop (x : Int) (xs : List Int) (d k : Nat) : (x :: xs).take (stopAt xs d (k + 1) - k) = x :: xs.take (stopAt xs d (k + 1) - (k + 1)) := by
 have := (stopAt_ge xs d (k + 1)).1
 rw [show stopAt xs d (k + 1) - k = stopAt xs d (k + 1) - (k + 1) + 1 by omega, List.take_succ_cons]
theorem inT_cons (x : Int) (xs : List Int) (d k o : Nat) : inT (x :: xs) d k o =
 if x = 10 then -1 else if isOpens x then inT xs (d + 1) k (o + 1) else if x = 22 then (if d ≤ 1 then -1 else inT xs (d - 1) k (o - 1)) else if o = 0 ∧ 0 ≤ side x then side x else inT xs d k o := by
 unfold inT
 rw [stopAt]
 by_cases h1 : x = 10
 ·rw [if_pos h1, if_pos h1, Nat.sub_self]; simp [firstP]
 ·rw [if_neg h1, if_neg h1]
  by_cases h2 : isOpens x = true
  ·rw [if_pos h2, if_pos h2, take_stop, firstP, if_neg h1, if_pos h2]
   exact inT_up xs (d + 1) k (o + 1)
  ·rw [if_neg h2, if_neg h2]
   by_cases h3 : x = 22
   ·rw [if_pos h3, if_pos h3]
    by_cases h4 : d ≤ 1
    ·rw [if_pos h4, if_pos h4, Nat.sub_self]; simp [firstP]
    ·rw [if_neg h4, if_neg h4, take_stop, firstP, if_neg h1, if_neg h2, if_pos h3]
     exact inT_up xs (d - 1) k (o - 1)
   ·rw [if_neg h3, if_neg h3, take_stop, firstP, if_neg h1, if_neg h2, if_neg h3]
    by_cases h5 : o = 0 ∧ 0 ≤ side x
    ·rw [if_pos h5, if_pos h5]
    ·rw [if_neg h5, if_neg h5]
     exact inT_up xs d k o
theorem inT_nine (xs : List Int) (d k o : Nat) : inT (9 :: xs) d k o = inT xs d k o := by
 rw [inT_cons, if_neg (by decide), if_neg (by decide), if_neg (by decide), if_neg (by intro h; exact absurd h.2 (by decide))]
theorem inT_ins : ∀ (xs : List Int) (j d k o : Nat), inT (ins xs j 9) d k o = inT xs d k o
 | xs, 0, d, k, o => by rw [ins_zero]; exact inT_nine xs d k o
 | [], j + 1, d, k, o => by
  show inT (List.take (j + 1) [] ++ 9 :: List.drop (j + 1) []) d k o = _
  simp only [List.take_nil, List.drop_nil, List.nil_append]
  exact inT_nine [] d k o
 | x :: xs, j + 1, d, k, o => by
  rw [ins_cons, inT_cons, inT_cons]
  simp only [inT_ins xs j]
theorem isolate_inT (l : List Int) (i : Nat) : isolate l (i : Int) = if l.length ≤ i then -1 else if at0 l i = 19 then 0 else if at0 l i = 20 then 1 else if at0 l i = 21 then max (inT (l.drop (i + 1)) 1 0 0) 0 else -1 := by
 have e : ∀ xs d k o, inT xs d k o = inT xs d 0 o := fun xs d k o => by
  induction k with
  | zero => rfl
  | succ k ih => rw [inT_up, ih]
 unfold isolate
 by_cases h : l.length ≤ i
 ·rw [if_pos (.inr (by omega)), if_pos h]
 ·rw [if_neg (by omega), if_neg h, Int.toNat_natCast, ← e (l.drop (i + 1)) 1 (i + 1) 0]
  rfl
theorem isolate_ins {l : List Int} {k : Nat} (hk : k ≤ l.length) (i : Nat) : isolate (ins l k 9) ((sh k i : Nat) : Int) = isolate l (i : Int) := by
 have ha : at0 (ins l k 9) (sh k i) = at0 l i := ins_getD hk 9 i
 have hl : ((ins l k 9).length ≤ sh k i) = (l.length ≤ i) := by
  rw [ins_length hk]
  unfold sh
  refine propext ⟨fun h => ?_, fun h => ?_⟩ <;> split at * <;> omega
 have hd : inT ((ins l k 9).drop (sh k i + 1)) 1 0 0 = inT (l.drop (i + 1)) 1 0 0 := by
  by_cases h : i < k
  ·rw [sh_lt h, ins_drop_lt l hk (by omega), inT_ins]
  ·rw [sh_ge (by omega), ins_drop_ge l hk (by omega)]
 rw [isolate_inT, isolate_inT, ha, hd]
 simp only [hl]
theorem step_ins {l : List Int} {k : Nat} (hk : k ≤ l.length) (p : P6) (i : Nat) (c : Int) : stepP p (ins l k 9) ((sh k i : Nat) : Int) c = stepP p l (i : Int) c := by
 unfold stepP isolateP
 rw [isolate_ins hk]
theorem step_nine (p : P6) (l : List Int) (i : Int) : stepP p l i 9 = p := by
 unfold stepP embedP
 rw [if_neg (by decide), if_pos (by decide), if_neg (by decide), if_neg (by decide), if_neg (by decide), if_neg (by decide), if_neg (by decide)]
theorem core_next (l : List Int) (base : Int) (i : Nat) : (runX l base (i + 1)).core = stepP (runX l base i).core l (i : Int) (at0 l i) := by
 obtain ⟨e, st, hst⟩ := (wf_run l base i).top
 rw [runX, core_step hst]
theorem core_ins {l : List Int} {k : Nat} (hk : k ≤ l.length) (base : Int) : ∀ i, (runX (ins l k 9) base (sh k i)).core = (runX l base i).core ∧ (k ≤ i → (runX (ins l k 9) base (sh k i)).core = (runX l base i).core)
 | 0 => by
  have h0 : (runX (ins l k 9) base (sh k 0)).core = (runX l base 0).core := by
   by_cases h : 0 < k
   ·rw [sh_lt h]; rfl
   ·obtain rfl : k = 0 := by omega
    rw [sh_ge (Nat.le_refl _), core_next]
    have : at0 (ins l 0 9) 0 = 9 := ins_new (Nat.zero_le _) 9
    rw [this, step_nine]; rfl
  exact ⟨h0, fun _ => h0⟩
 | i + 1 => by
  have ih := (core_ins hk base i).1
  have hs : (runX (ins l k 9) base (sh k i + 1)).core = (runX l base (i + 1)).core := by
   rw [core_next, core_next, ih, show at0 (ins l k 9) (sh k i) = at0 l i from ins_getD hk 9 i, step_ins hk]
  have h0 : (runX (ins l k 9) base (sh k (i + 1))).core = (runX l base (i + 1)).core := by
   by_cases h1 : i + 1 < k
   ·rw [sh_lt (by omega)] at hs
    rw [sh_lt h1]; exact hs
   ·by_cases h2 : i + 1 = k
    ·rw [sh_lt (by omega)] at hs
     rw [sh_ge (by omega), core_next, show at0 (ins l k 9) (i + 1) = 9 by rw [h2]; exact ins_new hk 9, step_nine]
     exact hs
    ·rw [sh_ge (by omega)] at hs
     rw [sh_ge (by omega)]; exact hs
  exact ⟨h0, fun _ => h0⟩
theorem told_ins {l : List Int} {k : Nat} (hk : k ≤ l.length) (base : Int) {q : Nat} (hq : q < l.length) :
 (lvs (ins l k 9) base).getD (sh k q) 0 = (lvs l base).getD q 0 ∧ (xcls (ins l k 9) base).getD (sh k q) 0 = (xcls l base).getD q 0 := by
 have hq' : sh k q < (ins l k 9).length := by rw [ins_length hk]; unfold sh; split <;> omega
 have h1 := run_get l base q l.length hq
 have h2 := run_get (ins l k 9) base (sh k q) (ins l k 9).length hq'
 rw [(core_ins hk base q).1, show at0 (ins l k 9) (sh k q) = at0 l q from ins_getD hk 9 q] at h2
 refine ⟨?_, ?_⟩
 ·rw [List.getD_eq_getElem?_getD, List.getD_eq_getElem?_getD]
  show ((runX (ins l k 9) base (ins l k 9).length).levels[sh k q]?).getD 0 = ((runX l base l.length).levels[q]?).getD 0
  rw [h2.1, h1.1]
 ·rw [List.getD_eq_getElem?_getD, List.getD_eq_getElem?_getD]
  show ((runX (ins l k 9) base (ins l k 9).length).classes[sh k q]?).getD 0 = ((runX l base l.length).classes[q]?).getD 0
  rw [h2.2, h1.2]
theorem mrun_nine (s : List Nat × (Nat → Int)) (i : Nat) : mStep s i 9 = (s.1, upd s.2 i (-1)) := by
 unfold mStep
 rw [if_neg (by decide), if_neg (by decide), if_neg (by decide)]
theorem upd_sh (k : Nat) (f f' : Nat → Int) (n i : Nat) (v : Int) (hf : ∀ j, j < n → f' (sh k j) = shI k (f j)) : ∀ j, j < n ∨ j = i → upd f' (sh k i) (shI k v) (sh k j) = shI k (upd f i v j) := fun j hj => by
 unfold upd
 by_cases h : j = i
 ·rw [if_pos (by rw [h]), if_pos h]
 ·rw [if_neg (fun e => h (sh_inj k e)), if_neg h]
  exact hf j (by omega)
structure Shd (k i : Nat) (s s' : List Nat × (Nat → Int)) : Prop where
 st : s'.1 = s.1.map (sh k)
 lt : ∀ p ∈ s.1, p < i
 fn : ∀ j, j < i → s'.2 (sh k j) = shI k (s.2 j)
theorem shd_step {k i : Nat} {s s' : List Nat × (Nat → Int)} (h : Shd k i s s') (x : Int) : Shd k (i + 1) (mStep s i x) (mStep s' (sh k i) x) := by
 have h1 : ∀ j, j < i + 1 → upd s'.2 (sh k i) (-1) (sh k j) = shI k (upd s.2 i (-1) j) := fun j hj => by
  have := upd_sh k s.2 s'.2 i i (-1) h.fn j (by omega)
  rwa [shI_neg] at this
 unfold mStep
 by_cases h10 : x = 10
 ·rw [if_pos h10, if_pos h10]
  exact ⟨rfl, fun p hp => (by cases hp), h1⟩
 ·rw [if_neg h10, if_neg h10]
  by_cases ho : isOpens x = true
  ·rw [if_pos ho, if_pos ho]
   exact ⟨by simp [h.st], fun p hp => (by rcases List.mem_cons.1 hp with rfl | hp; omega; have := h.lt p hp; omega), h1⟩
  ·rw [if_neg ho, if_neg ho]
   by_cases h22 : x = 22
   ·rw [if_pos h22, if_pos h22, h.st]
    cases hs : s.1 with
    | nil => exact ⟨rfl, fun p hp => (by cases hp), h1⟩
    | cons p st =>
     have hp : p < i := h.lt p (by rw [hs]; simp)
     refine ⟨rfl, fun q hq => (by have := h.lt q (by rw [hs]; exact List.mem_cons_of_mem _ hq); omega), fun j hj => ?_⟩
     show upd (upd (upd s'.2 (sh k i) (-1)) (sh k i) ((sh k p : Nat) : Int)) (sh k p) ((sh k i : Nat) : Int) (sh k j) = shI k (upd (upd (upd s.2 i (-1)) i (p : Int)) p (i : Int) j)
     have h2 := upd_sh k _ _ (i + 1) i (p : Int) h1
     have h3 := upd_sh k _ _ (i + 1) p (i : Int) (fun j hj => h2 j (.inl hj)) j (by omega)
     rw [shI_nat, shI_nat] at h3
     exact h3
   ·rw [if_neg h22, if_neg h22]
    exact ⟨h.st, fun p hp => (by have := h.lt p hp; omega), h1⟩
theorem shd_nine {k : Nat} {s s' : List Nat × (Nat → Int)} (h : Shd k k s s') : Shd k k s (mStep s' k 9) := by
 rw [mrun_nine]
 refine ⟨h.st, h.lt, fun j hj => ?_⟩
 show upd s'.2 k (-1) (sh k j) = _
 rw [upd, if_neg (by rw [sh_lt hj]; omega)]
 exact h.fn j hj
theorem mrun_ins {l : List Int} {k : Nat} (hk : k ≤ l.length) : ∀ i, Shd k i (mrun l i) (mrun (ins l k 9) (sh k i))
 | 0 => by
  by_cases h : 0 < k
  ·rw [sh_lt h]; exact ⟨rfl, fun p hp => (by cases hp), fun j hj => by omega⟩
  ·obtain rfl : k = 0 := by omega
   rw [sh_ge (Nat.le_refl _)]
   show Shd 0 0 _ (mStep (mrun (ins l 0 9) 0) 0 (at0 (ins l 0 9) 0))
   rw [show at0 (ins l 0 9) 0 = 9 from ins_new (Nat.zero_le _) 9]
   exact shd_nine ⟨rfl, fun p hp => (by cases hp), fun j hj => by omega⟩
 | i + 1 => by
  have ih := mrun_ins hk i
  have hs := shd_step ih (at0 l i)
  have hs' : Shd k (i + 1) (mrun l (i + 1)) (mrun (ins l k 9) (sh k i + 1)) := by
   show Shd k (i + 1) (mStep (mrun l i) i (at0 l i)) (mStep (mrun (ins l k 9) (sh k i)) (sh k i) (at0 (ins l k 9) (sh k i)))
   rw [show at0 (ins l k 9) (sh k i) = at0 l i from ins_getD hk 9 i]
   exact hs
  by_cases h1 : i + 1 < k
  ·rw [sh_lt (by omega)] at hs'
   rw [sh_lt h1]; exact hs'
  ·by_cases h2 : i + 1 = k
   ·subst h2
    rw [sh_lt (by omega)] at hs'
    rw [sh_ge (Nat.le_refl _)]
    show Shd (i + 1) (i + 1) _ (mStep (mrun (ins l (i + 1) 9) (i + 1)) (i + 1) (at0 (ins l (i + 1) 9) (i + 1)))
    rw [show at0 (ins l (i + 1) 9) (i + 1) = 9 from ins_new hk 9]
    exact shd_nine hs'
   ·rw [sh_ge (by omega)] at hs'
    rw [sh_ge (by omega)]; exact hs'
theorem mt_ins {l : List Int} {k : Nat} (hk : k ≤ l.length) {q : Nat} (hq : q < l.length) : (mt (ins l k 9)).getD (sh k q) 0 = shI k ((mt l).getD q 0) := by
 have hq' : sh k q < (ins l k 9).length := by rw [ins_length hk]; unfold sh; split <;> omega
 have h := (mrun_ins hk l.length).fn q hq
 rw [sh_ge hk] at h
 have e1 : (mt l).getD q 0 = (mrun l l.length).2 q := by
  rw [List.getD_eq_getElem?_getD, List.getElem?_eq_getElem (by simpa [mt] using hq), Option.getD_some]
  exact listOf_get _
 have e2 : (mt (ins l k 9)).getD (sh k q) 0 = (mrun (ins l k 9) (ins l k 9).length).2 (sh k q) := by
  rw [List.getD_eq_getElem?_getD, List.getElem?_eq_getElem (by simpa [mt] using hq'), Option.getD_some]
  exact listOf_get _
 rw [e1, e2, ins_length hk]
 exact h
end Go.Proofs.YtcbaahlahohfmaaGreatDoor
