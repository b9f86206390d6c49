/- Shared texts, shaken for one claim. -/
import Derived.Test.YtcbaahlahohfmaaGreatDoorCards
import Derived.Test.YtcbaahlahohfmaaGreatDoorTie
import Derived.ProofKit
import Derived.OpenShut
import Derived.Deep.DeepHandedRow
import Derived.Lib.LaidTab
import Derived.Lib.LaidU8
import Derived.Test.YtcbaahlahohfmaaGreatDoorZA1
import Derived.Test.YtcbaahlahohfmaaGreatDoorZA6
import Derived.Test.YtcbaahlahohfmaaGreatDoorZA21
import Derived.Test.YtcbaahlahohfmaaGreatDoorZA27
import Derived.Test.YtcbaahlahohfmaaGreatDoorZA34
namespace Go.Proofs.YtcbaahlahohfmaaGreatDoor
open Go.RowKit Reckon
theorem alive_lvA : levI [97, 32, 1488, 32, 49, 50, 40, 1489, 41, 8235, 33] 0 = [0, 0, 1, 1, 2, 2, 1, 1, 1, 1, 1] ∧ baseI [97, 32, 1488, 32, 49, 50, 40, 1489, 41, 8235, 33] 0 = 0 := by constructor <;> decide +kernel
theorem alive_lvB : levI [1488, 40, 97, 41] 2 = [1, 1, 2, 1] ∧ baseI [1488, 40, 97, 41] 2 = 1 := by constructor <;> decide +kernel
theorem alive_lvC : wholeI (levI [97, 98] 0) = true := by decide +kernel
theorem alive_lvD : wholeI (levI [97, 1488] 0) = false := by decide +kernel
theorem alive_lvE : mostI [0, 0, 1, 1, 2, 2, 1, 1, 1, 1, 1] = 2 := by decide +kernel
set_option maxRecDepth 20000 in
set_option maxHeartbeats 4000000 in
theorem lalive_any (w : World) (hT : ClsTabs w) : Calls Tryz.prog 8 #[] w fun e w' => e = .returned (.bool true) ∧ Below w.heap.size w w' := by
 have HT := Lib.hid hT
 clear hT
 go_enter Tryz.func8, Tryz.ntmps8
 go_wp2_with fail
 refine (lof_any _ [97, 32, 1488, 32, 49, 50, 40, 1489, 41, 8235, 33] _ 0 _ (HT.out.below (below_alloc _ _) HT.out.big) (Lies.litUp (w := w) (e := 3) #[.int .i64 97, .int .i64 32, .int .i64 1488, .int .i64 32, .int .i64 49, .int .i64 50, .int .i64 40, .int .i64 1489, .int .i64 41, .int .i64 8235, .int .i64 33]) (by decide)).mono ?_
 rintro e w1 ⟨v1, rfl, o1, b1⟩
 rw [alive_lvA.1] at o1
 rw [alive_lvA.2]
 obtain ⟨A1, c1, rfl, l1, -, -⟩ := o1.form
 have B1 := Lib.hid (below_then (below_alloc _ _) b1)
 have L1 := Lib.hid l1
 clear o1 b1 l1
 go_wp2_with fail
 refine (lof_any _ [1488, 40, 97, 41] _ 2 _ (HT.out.below (below_then B1.out (below_alloc _ _)) HT.out.big) (Lies.litUp (w := w1) (e := 3) #[.int .i64 1488, .int .i64 40, .int .i64 97, .int .i64 41]) (by decide)).mono ?_
 rintro e w2 ⟨v2, rfl, o2, b2⟩
 rw [alive_lvB.1] at o2
 rw [alive_lvB.2]
 obtain ⟨A2, c2, rfl, l2, -, -⟩ := o2.form
 have D2 := Lib.hid (below_then (below_alloc w1 (.cells #[.int .i64 1488, .int .i64 40, .int .i64 97, .int .i64 41] 3)) b2)
 have B2 := Lib.hid (below_then B1.out D2.out)
 have M1 := Lib.hid (L1.out.up D2.out)
 have L2 := Lib.hid l2
 clear o2 b2 l2
 go_wp2_with fail
 refine (ints_ok A1 _ [0, 0, 1, 1, 2, 2, 1, 1, 1, 1, 1] c1 _ _ (M1.out.up (below_alloc _ _)) (Lies.litUp #[.int .i64 0, .int .i64 0, .int .i64 1, .int .i64 1, .int .i64 2, .int .i64 2, .int .i64 1, .int .i64 1, .int .i64 1, .int .i64 1, .int .i64 1]) (by decide)).mono ?_
 rintro e w3 ⟨rfl, b3⟩
 have D3 := Lib.hid (below_then (below_alloc w2 (.cells #[.int .i64 0, .int .i64 0, .int .i64 1, .int .i64 1, .int .i64 2, .int .i64 2, .int .i64 1, .int .i64 1, .int .i64 1, .int .i64 1, .int .i64 1] 3)) b3)
 have B3 := Lib.hid (below_then B2.out D3.out)
 have N1 := Lib.hid (M1.out.up D3.out)
 have N2 := Lib.hid (L2.out.up D3.out)
 clear b3
 go_wp2_with fail
 refine (ints_ok A2 _ [1, 1, 2, 1] c2 _ _ (N2.out.up (below_alloc _ _)) (Lies.litUp #[.int .i64 1, .int .i64 1, .int .i64 2, .int .i64 1]) (by decide)).mono ?_
 rintro e w4 ⟨rfl, b4⟩
 have D4 := Lib.hid (below_then (below_alloc w3 (.cells #[.int .i64 1, .int .i64 1, .int .i64 2, .int .i64 1] 3)) b4)
 have B4 := Lib.hid (below_then B3.out D4.out)
 have P1 := Lib.hid (N1.out.up D4.out)
 clear b4
 go_wp2_with fail
 refine (lmost_any A1 [0, 0, 1, 1, 2, 2, 1, 1, 1, 1, 1] c1 w4 P1.out (by decide)).mono ?_
 rintro e w5 ⟨rfl, b5⟩
 rw [alive_lvE]
 have B5 := Lib.hid (below_then B4.out b5)
 clear b5
 go_wp2_with fail
 refine (lwhole_any _ [97, 98] _ 0 _ (HT.out.below (below_then B5.out (below_alloc _ _)) HT.out.big) (Lies.litUp (w := w5) (e := 3) #[.int .i64 97, .int .i64 98]) (by decide)).mono ?_
 rintro e w6 ⟨rfl, b6⟩
 rw [alive_lvC]
 have B6 := Lib.hid (below_then B5.out (below_then (below_alloc _ _) b6))
 clear b6
 go_wp2_with fail
 refine (lwhole_any _ [97, 1488] _ 0 _ (HT.out.below (below_then B6.out (below_alloc _ _)) HT.out.big) (Lies.litUp (w := w6) (e := 3) #[.int .i64 97, .int .i64 1488]) (by decide)).mono ?_
 rintro e w7 ⟨rfl, b7⟩
 rw [alive_lvD]
 have B7 := Lib.hid (below_then B6.out (below_then (below_alloc _ _) b7))
 clear b7
 go_wp2
 go_ret
 exact ⟨rfl, B7.out⟩
end Go.Proofs.YtcbaahlahohfmaaGreatDoor
namespace Go.Proofs.YtcbaahlahohfmaaGreatDoor
open Go.ChangeShapes Go.WideShapes Go.ChangeAt Go.RowKit
theorem own : ownKnob Tryz.prog.godebug = none := by kernel_rfl
theorem gNames : Tryz.prog.globalNamed "ductus/class.names" = some 0 := by kernel_rfl
theorem gNamesT : (Tryz.prog.globals[0]?).map (·.type) = some 119 := by kernel_rfl
theorem cStr : Tryz.prog.cellsOf 9 = 1 := by kernel_rfl
theorem names_data : (Rows.laid_ductus_class_names : DataW Unit) = .agg (clsWords.map fun s => .lit (.string s.data.toList)) := by kernel_rfl
abbrev laidList : List (String × DataW Unit) := [("ductus/class.names", Rows.laid_ductus_class_names)]
theorem tabs_of {W : World} (h : laidMetH Tryz.prog laidList W) : ClsTabs W := by
 have hm : laidMet Tryz.prog laidList W := h
 have h3 : Lib.VarReads Tryz.prog W "ductus/class.names" _ := Lib.laidMet.reads hm (d := Rows.laid_ductus_class_names) (by simp [laidList])
 rw [names_data] at h3
 obtain ⟨g, t, cs, fuel, p, hg, hty, hvar, hd⟩ := h3
 obtain rfl := Option.some.inj (gNames.symm.trans hg)
 obtain rfl := Option.some.inj (gNamesT.symm.trans hty)
 have c : ∀ i, i < 23 → W.cell? ⟨0, i, none⟩ = some (.string (wordOf i)) := fun i hi => by
  obtain ⟨fuel', d, q, hdi, he⟩ := Lib.array_elem Tryz.underlying119 hd i hi
  rw [cStr, Nat.mul_one] at he
  obtain ⟨s, hcs, hx, _⟩ := DataW.trod_string Tryz.underlying9 he
  have hn : i < clsWords.length := hi
  simp only [List.getElem?_map, List.getElem?_eq_getElem hn, Option.map_some, Option.some.injEq] at hdi
  simp only [Prod.mk.injEq] at hx
  have e : s = clsWords[i] := by
   have h1 := hdi.trans hx.1
   simp only [DataW.lit.injEq, Lit.string.injEq] at h1
   have h2 := Array.toList_inj.1 h1
   rcases hc : clsWords[i] with ⟨x⟩
   cases s
   rw [hc] at h2
   simp_all
  have h0 := congrArg (·[0]?) hcs
  simp only [List.getElem?_take, List.getElem?_drop] at h0
  rw [World.var?_cell hg hvar, ← Array.getElem?_toList, wordOf, if_pos (by omega)]
  simp [hn, ← e]
  simpa using h0
 exact ⟨World.block_lt_of_cell? W ⟨0, 0, none⟩ (c 0 (by omega)), c⟩
def withCells (cs : List Value) : Obj → Obj
 | .cells _ t frozen => .cells cs.toArray t frozen
 | o => o
noncomputable def laidWorld (os : Os) (args : Array Value) : World :=
 { World.holding Tryz.prog os ⟨#[], args, []⟩ with heap := (World.holding Tryz.prog os ⟨#[], args, []⟩).heap.modify 0 (withCells (clsWords.map .string)) }
theorem plainOf (name : String) (k : FuncId) (kf : Func) (hk : Tryz.prog.funcNamed name = some k) (hkf : Tryz.prog.funcs[k]? = some kf)
 (hl : false = Tryz.pinned.checked.prog.looks []) (hp : ∀ (j : Nat) t, kf.params[j]? = some t → Tryz.prog.wantsStandIn t = false)
 (f : FuncId) (fn : Func) (hf : Tryz.pinned.checked.prog.funcNamed name = some f) (hfn : Tryz.pinned.checked.prog.funcs[f]? = some fn) :
 false = Tryz.pinned.checked.prog.looks [] ∧ ∀ (j : Nat) t, fn.params[j]? = some t → Tryz.pinned.checked.prog.wantsStandIn t = false := by
 obtain rfl : f = k := (Option.some.inj (hk.symm.trans hf)).symm
 obtain rfl : fn = kf := (Option.some.inj (hkf.symm.trans hfn)).symm
 exact ⟨hl, hp⟩
end Go.Proofs.YtcbaahlahohfmaaGreatDoor
namespace Go.Proofs.YtcbaahlahohfmaaGreatDoor
open Go.RowKit
set_option maxRecDepth 20000 in
set_option maxHeartbeats 1000000 in
theorem rpick_any (A : Option Addr) (l : List Int) (c : Nat) (A' : Option Addr) (at_ : List Int) (c' : Nat) (w : World) (h : Lies w w.heap.size A (ints .i64 l)) (h' : Lies w w.heap.size A' (ints .i64 at_))
 (hp : ∀ x ∈ at_, 0 ≤ x ∧ x < (l.length : Int)) (_ : l.length ≤ 1000000) (hl' : at_.length ≤ 1000000) :
 Calls Tryz.prog 37 #[.slice A l.length c, .slice A' at_.length c'] w fun ed w' => Rowed w w.heap.size 3 (ints .i64 (pickL l at_)) ed w' := by
 have H := Lib.hid h
 have H' := Lib.hid h'
 have HP := Lib.hid hp
 clear h h' hp
 go_enter Tryz.func37, Tryz.ntmps37
 go_wp2_with fail
 go_loopw [6, 5] (fun iv ov wr => ∃ i : Nat, i ≤ at_.length ∧ iv = .int .i64 i ∧ Hid (Own wr w.heap.size 3 ov (ints .i64 (pickL l (at_.take i)))) ∧ Hid (Below w.heap.size w wr)) (fun iv _ _ => at_.length - (intOf iv).toNat)
 case atStart => exact ⟨0, by omega, rfl, Lib.hid (Own.empty _ _ _), Lib.hid (Below.refl _ _)⟩
 case round =>
  obtain ⟨i, hi, rfl, HO, HB⟩ := hrel
  by_cases hlt : i < at_.length
  ·obtain ⟨p', hp', _, hc'⟩ := (H'.out.up HB.out).int hlt
   subst hp'
   obtain ⟨k, hk, hkl⟩ : ∃ k : Nat, at_[i] = (k : Int) ∧ k < l.length := by
    have := HP.out _ (List.getElem_mem hlt)
    exact ⟨at_[i].toNat, by omega, by omega⟩
   obtain ⟨p, hp, _, hc⟩ := (H.out.up HB.out).int hkl
   subst hp
   have HS : Hid (pickL l (at_.take (i + 1)) = pickL l (at_.take i) ++ [l[k]]) := Lib.hid (by
    rw [take_snoc at_ i hlt, pickL, List.map_append, hk, List.map_cons, List.map_nil, Int.toNat_natCast, getD_at hkl]; rfl)
   rw [hk] at hc'
   obtain ⟨x, hx⟩ : ∃ x, l[k] = x := ⟨_, rfl⟩
   rw [hx] at hc HS
   have i0 : (0 : Int) ≤ (i : Int) := by omega
   have i1 : (i : Int) < (at_.length : Int) := by omega
   have k0 : (0 : Int) ≤ (k : Int) := by omega
   have k1 : (k : Int) < (l.length : Int) := by omega
   have HLT := Lib.hid hlt
   clear hx hk
   go_wp2_with (first
    | (at_builtin; refine app_lit intsT w wr w.heap.size _ _ #[.int .i64 x] 1 _ _ rfl rfl rfl rfl HO.out (by simp [Value.oneCell']) HB.out HB.out.size (by unfold maxLen; simp [ints, pickL]; omega) (by simp [ints, pickL]; omega) ?_; intro v9 w9 o9 b9 _ _; have O9 := Lib.hid o9; have B9 := Lib.hid b9; clear o9 b9)
    | fail)
   go_roundw
   case rel => exact ⟨i + 1, by omega, by go_num, Lib.hid (by rw [HS.out]; simpa [ints] using O9.out), B9⟩
   case measure => simp [intOf]; omega
  ·obtain rfl : i = at_.length := by omega
   go_wp2
   go_ret
   exact ⟨_, rfl, by have := HO.out; rw [List.take_length] at this; exact this, HB.out⟩
end Go.Proofs.YtcbaahlahohfmaaGreatDoor
namespace Go.Proofs.YtcbaahlahohfmaaGreatDoor
open Go.RowKit
def eK (p k : Int) (nx : Option Int) : Int := if k = 5 ∧ (p = 3 ∨ nx = some 3) then 3 else k
def eP : Int → List Int → List Int
 | _, [] => []
 | p, k :: l => eK p k l.head? :: eP (eK p k l.head?) l
theorem eP_length : ∀ (p : Int) (l : List Int), (eP p l).length = l.length
 | _, [] => rfl
 | p, k :: l => by rw [eP, List.length_cons, List.length_cons, eP_length]
theorem eP_at : ∀ (p : Int) (l : List Int) (k : Nat), k < l.length → eK ((p :: eP p l).getD k 0) (l.getD k 0) l[k + 1]? = (eP p l).getD k 0
 | _, [], k, h => by simp at h
 | p, x :: l, 0, _ => by
  show eK p x (x :: l)[0 + 1]? = _
  rw [Nat.zero_add, List.getElem?_cons_succ, ← List.head?_eq_getElem?]
  rfl
 | p, x :: l, k + 1, h => by
  have := eP_at (eK p x l.head?) l k (by simpa using h)
  rw [List.getElem?_cons_succ]
  exact this
theorem eK_other {p k : Int} {nx : Option Int} (h : k ≠ 5) : eK p k nx = k := by rw [eK, if_neg (fun e => h e.1)]
theorem eK_stay {p : Int} {nx : Option Int} (h1 : p ≠ 3) (h2 : nx ≠ some 3) : eK p 5 nx = 5 := by rw [eK, if_neg (by rintro ⟨_, h | h⟩ <;> contradiction)]
theorem eK_turn {p : Int} {nx : Option Int} (h : p = 3 ∨ nx = some 3) : eK p 5 nx = 3 := by rw [eK, if_pos ⟨rfl, h⟩]
theorem near_pass : ∀ (q : Int) (l : List Int), q ≠ 3 → nearEN (eP q l) = nearEN l
 | _, [], _ => rfl
 | q, x :: l, hq => by
  rw [eP, nearEN, nearEN]
  by_cases h5 : x = 5
  ·subst h5
   by_cases hh : l.head? = some 3
   ·rw [eK_turn (.inr hh)]
    cases l with
    | nil => simp at hh
    | cons y l =>
     have hy : y = 3 := by simpa using hh
     subst hy
     simp [nearEN]
   ·rw [eK_stay hq hh, near_pass 5 l (by decide)]
  ·rw [eK_other h5]
   have e : (x == 5) = false := by simp [h5]
   rw [e, Bool.false_and, Bool.false_and]
theorem same_close : ∀ (l : List Int) (p : Int) (b : Bool), (p = 3 → b = true) → rW5 b (eP p l) = rW5 b l
 | [], _, _, _ => rfl
 | k :: l, p, b, h => by
  rw [eP, rW5, rW5]
  by_cases h5 : k = 5
  ·subst h5
   by_cases ht : p = 3 ∨ l.head? = some 3
   ·have hb : (b || nearEN l) = true := by
     rcases ht with ht | ht
     ·rw [h ht, Bool.true_or]
     ·cases l with
      | nil => simp at ht
      | cons y l =>
       have hy : y = 3 := by simpa using ht
       subst hy
       simp [nearEN]
    rw [eK_turn ht, hb, if_neg (by rintro ⟨h, _⟩; exact absurd h (by decide)), if_pos ⟨rfl, rfl⟩]
    have := same_close l 3 true (fun _ => rfl)
    simpa using this
   ·have h3 : p ≠ 3 := fun e => ht (.inl e)
    rw [eK_stay h3 (fun e => ht (.inr e)), near_pass 5 l (by decide)]
    rw [same_close l 5 _ (fun e => absurd e (by decide))]
  ·rw [eK_other h5]
   have e : (k == 5) = false := by simp [h5]
   rw [if_neg (fun x => h5 x.1), if_neg (fun x => h5 x.1), e, Bool.false_and, Bool.or_false, Bool.false_and, Bool.or_false]
   rw [same_close l k (k == 3) (fun e => by simp [e])]
theorem near_none : ∀ l : List Int, eP 5 l = l → l.head? ≠ some 3 → nearEN l = false
 | [], _, _ => rfl
 | x :: l, h, hh => by
  have h3 : x ≠ 3 := by simpa using hh
  rw [eP] at h
  injection h with h1 h2
  rw [h1] at h2
  by_cases h5 : x = 5
  ·subst h5
   have hn : l.head? ≠ some 3 := fun e => by rw [eK_turn (.inr e)] at h1; exact absurd h1 (by decide)
   rw [nearEN, near_none l h2 hn]
   decide
  ·rw [nearEN]
   simp [h3, h5]
theorem fixed_close : ∀ (l : List Int) (p : Int) (b : Bool), (b = true → p = 3) → eP p l = l → rW5 b l = l
 | [], _, _, _, _ => rfl
 | k :: l, p, b, hb, h => by
  rw [eP] at h
  injection h with h1 h2
  rw [h1] at h2
  rw [rW5]
  by_cases h5 : k = 5
  ·subst h5
   have hp : p ≠ 3 := fun e => by rw [eK_turn (.inl e)] at h1; exact absurd h1 (by decide)
   have hh : l.head? ≠ some 3 := fun e => by rw [eK_turn (.inr e)] at h1; exact absurd h1 (by decide)
   have hbf : b = false := by cases b with
    | false => rfl
    | true => exact absurd (hb rfl) hp
   rw [hbf, near_none l h2 hh, if_neg (by rintro ⟨_, h⟩; exact absurd h (by decide))]
   have := fixed_close l 5 false (fun e => by cases e) h2
   simpa using this
  ·have e : (k == 5) = false := by simp [h5]
   rw [if_neg (fun x => h5 x.1), e, Bool.false_and, Bool.or_false, fixed_close l k (k == 3) (fun e => by simpa using e) h2]
theorem count_pass : ∀ (l : List Int) (p : Int), (eP p l).count 5 ≤ l.count 5 ∧ (eP p l ≠ l → (eP p l).count 5 < l.count 5)
 | [], _ => ⟨Nat.le_refl _, fun h => absurd rfl h⟩
 | k :: l, p => by
  obtain ⟨h1, h2⟩ := count_pass l (eK p k l.head?)
  rw [eP, List.count_cons, List.count_cons]
  by_cases ht : k = 5 ∧ (p = 3 ∨ l.head? = some 3)
  ·obtain ⟨rfl, ht⟩ := ht
   rw [eK_turn ht] at h1 h2 ⊢
   have e3 : ((3 : Int) == 5) = false := by decide
   have e5 : ((5 : Int) == 5) = true := by decide
   rw [e3, e5, if_neg (by decide), if_pos rfl]
   exact ⟨by omega, fun _ => by omega⟩
  ·have e : eK p k l.head? = k := by rw [eK, if_neg ht]
   rw [e] at h1 h2 ⊢
   exact ⟨by omega, fun hne => by
    have := h2 (fun e2 => hne (by rw [e2]))
    omega⟩
def ePass (l : List Int) : Nat → List Int
 | 0 => l
 | n + 1 => eP (-1) (ePass l n)
theorem eN_length (l : List Int) : ∀ n, (ePass l n).length = l.length
 | 0 => rfl
 | n + 1 => by rw [ePass, eP_length, eN_length]
theorem eN_close (l : List Int) : ∀ n, rW5 false (ePass l n) = rW5 false l
 | 0 => rfl
 | n + 1 => by rw [ePass, same_close _ _ _ (fun e => absurd e (by decide)), eN_close l n]
theorem eN_stop (l : List Int) : ∀ n, eP (-1) (ePass l n) = ePass l n ∨ (ePass l n).count 5 + n ≤ l.count 5
 | 0 => .inr (Nat.le_refl _)
 | n + 1 => by
  rcases eN_stop l n with h | h
  ·left; rw [ePass, h, h]
  ·by_cases he : eP (-1) (ePass l n) = ePass l n
   ·left; rw [ePass, he, he]
   ·right
    have := (count_pass (ePass l n) (-1)).2 he
    rw [ePass]
    omega
theorem ePass_all (l : List Int) : ePass l (l.length + 1) = rW5 false l := by
 have h : eP (-1) (ePass l (l.length + 1)) = ePass l (l.length + 1) := by
  rcases eN_stop l (l.length + 1) with h | h
  ·exact h
  ·have : l.count 5 ≤ l.length := List.count_le_length
   omega
 rw [← eN_close l (l.length + 1), fixed_close _ (-1) false (fun e => by cases e) h]
theorem ofI_plain (l : List Int) (sos : Int) : ofI (plainL l) sos = ofI l sos := by
 rw [(ofI_eq (plainL l) sos).1, (ofI_eq l sos).1, plainL_of (plainL_free l)]
end Go.Proofs.YtcbaahlahohfmaaGreatDoor
namespace Go.Proofs.YtcbaahlahohfmaaGreatDoor
open Go.RowKit
theorem rside09_any (s : Int) (w : World) : Calls Tryz.prog 113 #[.int .i64 s] w fun ed w' => ed = .returned (.int .i64 (sideK s)) ∧ w = w' := by
 rcases h : (s == 1) with _ | _
 ·have hz : sideK s = 0 := by rw [sideK, if_neg (by simpa using h)]
  rw [hz]
  go_enter Tryz.func113, Tryz.ntmps113
  go_wp2
  go_ret
  exact ⟨rfl, rfl⟩
 ·have hz : sideK s = 1 := by rw [sideK, if_pos (by simpa using h)]
  rw [hz]
  go_enter Tryz.func113, Tryz.ntmps113
  go_wp2
  go_ret
  exact ⟨rfl, rfl⟩
set_option maxRecDepth 20000 in
set_option maxHeartbeats 4000000 in
theorem rmarks09_any (s : Int) (hs01 : s = 0 ∨ s = 1) : Ruled 114 [.int .i64 s] (rW1 s) := by
 refine ruled_of (w1_length s) ?_ ?_
 ·intro A c w
  show Calls _ _ #[.slice A 0 c, .int .i64 s] _ _
  go_enter Tryz.func114, Tryz.ntmps114
  go_wp2_with fail
  go_loopw [4] (fun i wr => i = .int .i64 0 ∧ w = wr) (fun _ _ => 0)
  case atStart => exact ⟨rfl, rfl⟩
  case round =>
   obtain ⟨rfl, rfl⟩ := hrel
   go_wp2
   exact bodyPost_end (results_none rfl _ _ _) rfl ⟨rfl, rfl⟩
 ·intro B c g l w hpos hl hB hr
  show Calls _ _ #[.slice (some ⟨g, 0, none⟩) l.length c, .int .i64 s] _ _
  obtain ⟨L', hL'⟩ : ∃ x, rW1 s l = x := ⟨_, rfl⟩
  have HLL : Hid (L'.length = l.length) := Lib.hid (by rw [← hL', w1_length])
  have HAT : Hid (∀ k, k < l.length → w1K ((s :: L').getD k 0) (l.getD k 0) = L'.getD k 0) := Lib.hid fun k hk => by rw [← hL']; exact w1_at s l k hk
  rw [hL']
  have HR : Hid (Row w B 3 g c (ints .i64 (mixL l L' 0))) := Lib.hid (by rw [mixL_zero]; exact hr)
  clear hr hL' hB
  go_enter Tryz.func114, Tryz.ntmps114
  go_wp2_with fail
  go_loopw [4] (fun i wr => ∃ k : Nat, k ≤ l.length ∧ i = .int .i64 k ∧ Hid (Row wr B 3 g c (ints .i64 (mixL l L' k))) ∧ Hid (Below B w wr)) (fun i _ => l.length - (intOf i).toNat)
  case atStart => exact ⟨0, by omega, rfl, HR, Lib.hid (Below.refl _ _)⟩
  case round =>
   obtain ⟨k, hk, rfl, HRk, HB⟩ := hrel
   by_cases hlt : k < l.length
   ·obtain ⟨x, hx⟩ : ∃ x, l.getD k 0 = x := ⟨_, rfl⟩
    have hc : wr.cell? ⟨g, k, none⟩ = some (.int .i64 x) := row_int HRk.out (by rw [mix_at HLL.out hk (Nat.le_refl _), List.getElem?_eq_getElem hlt, ← getD_at hlt, hx])
    have hat := HAT.out k hlt
    rw [hx] at hat
    have HX := Lib.hid hx
    have k0 : (0 : Int) ≤ (k : Int) := by omega
    have k1 : (k : Int) < (l.length : Int) := by omega
    have hjl : k < (ints .i64 (mixL l L' k)).length := by rw [ints, List.length_map, mixL_all HLL.out]; exact hlt
    have HJL := Lib.hid hjl
    clear hjl hx
    rcases h8 : (x != 8) with _ | _
    ·obtain rfl : x = 8 := by simpa using h8
     rcases k with _ | j
     ·have HV : Hid (L'.getD 0 0 = s) := Lib.hid (by
       rw [← hat, List.getD_cons_zero, w1K, if_pos rfl, if_neg]
       rcases hs01 with rfl | rfl <;> decide)
      clear hat
      go_wp2_with (first
       | (refine store_row intsT wr B _ _ g 0 c .i64 s (ints .i64 (mixL l L' (0))) w rfl rfl rfl rfl rfl HRk.out HJL.out HB.out ?_; intro w5 r5 b5 g5; have R5 := Lib.hid r5; have B5 := Lib.hid b5; clear r5 b5 g5)
       | fail)
      go_roundw
      case rel => exact ⟨0 + 1, by omega, by go_num, Lib.hid (by have := R5.out; rw [ints_set, ← HV.out, mix_put HLL.out (by omega)] at this; exact this), B5⟩
      case measure => simp [intOf]; omega
     ·obtain ⟨y, hy⟩ : ∃ y, L'.getD j 0 = y := ⟨_, rfl⟩
      have hcy : wr.cell? ⟨g, j, none⟩ = some (.int .i64 y) := row_int HRk.out (by rw [mix_done HLL.out hk (by omega), hy])
      have hv : L'.getD (j + 1) 0 = if isOpens y ∨ y = 22 then 13 else y := by rw [← hat, List.getD_cons_succ, hy, w1K, if_pos rfl]
      have j0 : (0 : Int) ≤ (j : Int) := by omega
      have j1 : (j : Int) < (l.length : Int) := by omega
      clear hat hy
      rcases ho : isOpens y with _ | _
      ·have HO := Lib.hid ho
       rcases h2 : (y == 22) with _ | _
       ·have HV : Hid (L'.getD (j + 1) 0 = y) := Lib.hid (by rw [hv, ho, if_neg (by simpa using h2)])
        clear hv ho
        go_wp2_with fail
        refine (ropens_any y wr).mono ?_
        rintro e wq ⟨rfl, rfl⟩
        rw [HO.out]
        go_wp2_with (first
         | (refine store_row intsT wr B _ _ g (j + 1) c .i64 y (ints .i64 (mixL l L' ((j + 1)))) w rfl rfl rfl rfl rfl HRk.out HJL.out HB.out ?_; intro w5 r5 b5 g5; have R5 := Lib.hid r5; have B5 := Lib.hid b5; clear r5 b5 g5)
         | fail)
        go_roundw
        case rel => exact ⟨(j + 1) + 1, by omega, by go_num, Lib.hid (by have := R5.out; rw [ints_set, ← HV.out, mix_put HLL.out (by omega)] at this; exact this), B5⟩
        case measure => simp [intOf]; omega
       ·have HV : Hid (L'.getD (j + 1) 0 = 13) := Lib.hid (by rw [hv, if_pos (.inr (by simpa using h2))])
        clear hv ho
        go_wp2_with fail
        refine (ropens_any y wr).mono ?_
        rintro e wq ⟨rfl, rfl⟩
        rw [HO.out]
        go_wp2_with (first
         | (refine store_row intsT wr B _ _ g (j + 1) c .i64 13 (ints .i64 (mixL l L' ((j + 1)))) w rfl rfl rfl rfl rfl HRk.out HJL.out HB.out ?_; intro w5 r5 b5 g5; have R5 := Lib.hid r5; have B5 := Lib.hid b5; clear r5 b5 g5)
         | fail)
        go_roundw
        case rel => exact ⟨(j + 1) + 1, by omega, by go_num, Lib.hid (by have := R5.out; rw [ints_set, ← HV.out, mix_put HLL.out (by omega)] at this; exact this), B5⟩
        case measure => simp [intOf]; omega
      ·have HO := Lib.hid ho
       have HV : Hid (L'.getD (j + 1) 0 = 13) := Lib.hid (by rw [hv, if_pos (.inl ho)])
       clear hv ho
       go_wp2_with fail
       refine (ropens_any y wr).mono ?_
       rintro e wq ⟨rfl, rfl⟩
       rw [HO.out]
       go_wp2_with (first
        | (refine store_row intsT wr B _ _ g (j + 1) c .i64 13 (ints .i64 (mixL l L' ((j + 1)))) w rfl rfl rfl rfl rfl HRk.out HJL.out HB.out ?_; intro w5 r5 b5 g5; have R5 := Lib.hid r5; have B5 := Lib.hid b5; clear r5 b5 g5)
        | fail)
       go_roundw
       case rel => exact ⟨(j + 1) + 1, by omega, by go_num, Lib.hid (by have := R5.out; rw [ints_set, ← HV.out, mix_put HLL.out (by omega)] at this; exact this), B5⟩
       case measure => simp [intOf]; omega
    ·have HS : Hid (mixL l L' k = mixL l L' (k + 1)) := Lib.hid (mix_stay HLL.out hlt (by rw [← hat, HX.out, w1K, if_neg (by simpa using h8)]))
     clear hat
     go_wp2_with fail
     go_roundw
     case rel => exact ⟨k + 1, by omega, by go_num, by rw [← HS.out]; exact HRk, HB⟩
     case measure => simp [intOf]; omega
   ·obtain rfl : k = l.length := by omega
    go_wp2
    exact bodyPost_end (results_none rfl _ _ _) rfl ⟨rfl, by have := HRk.out; rw [mixL_end HLL.out (Nat.le_refl _)] at this; exact this, HB.out⟩
end Go.Proofs.YtcbaahlahohfmaaGreatDoor
namespace Go.Proofs.YtcbaahlahohfmaaGreatDoor
open Go.RowKit
def atL (l : List Int) (i : Int) : Int := if 0 ≤ i then (l[i.toNat]?).getD (-1) else -1
set_option maxHeartbeats 1000000 in
theorem rat09_any (A : Option Addr) (l : List Int) (c : Nat) (i : Int) (w : World) (h : Lies w w.heap.size A (ints .i64 l)) :
 Calls Tryz.prog 155 #[.slice A l.length c, .int .i64 i] w fun ed w' => ed = .returned (.int .i64 (atL l i)) ∧ w = w' := by
 have H := Lib.hid h
 clear h
 by_cases h0 : i < 0
 ·have hz : atL l i = -1 := by rw [atL, if_neg (by omega)]
  rw [hz]
  clear H
  go_enter Tryz.func155, Tryz.ntmps155
  go_wp2
  go_ret
  exact ⟨rfl, rfl⟩
 obtain ⟨n, rfl⟩ : ∃ n : Nat, i = n := ⟨i.toNat, by omega⟩
 clear h0
 by_cases hlt : n < l.length
 ·obtain ⟨p, rfl, _, hc⟩ := H.out.int hlt
  have hz : atL l n = l[n] := by rw [atL, if_pos (by omega), Int.toNat_natCast, List.getElem?_eq_getElem hlt, Option.getD_some]
  rw [hz]
  obtain ⟨x, hx⟩ : ∃ x, l[n] = x := ⟨_, rfl⟩
  rw [hx] at hc ⊢
  have b0 : (0 : Int) ≤ (n : Int) := by omega
  have b1 : (n : Int) < (l.length : Int) := by omega
  have b2 : decide ((l.length : Int) ≤ (n : Int)) = false := by simp; omega
  clear hx hz H
  go_enter Tryz.func155, Tryz.ntmps155
  go_wp2
  go_ret
  exact ⟨rfl, rfl⟩
 ·have hz : atL l n = -1 := by rw [atL, if_pos (by omega), Int.toNat_natCast, List.getElem?_eq_none (by omega)]; rfl
  rw [hz]
  clear H hz
  go_enter Tryz.func155, Tryz.ntmps155
  go_wp2
  go_ret
  exact ⟨rfl, rfl⟩
theorem at_next {l l' : List Int} (hl : l'.length = l.length) {k : Nat} (hk : k ≤ l.length) : atL (mixL l l' k) ((k : Int) + 1) = (l[k + 1]?).getD (-1) := by
 rw [atL, if_pos (by omega), show ((k : Int) + 1).toNat = k + 1 by omega, mix_at hl hk (by omega)]
theorem at_prev {l l' : List Int} (hl : l'.length = l.length) {k : Nat} (hk : k ≤ l.length) : atL (mixL l l' k) ((k : Int) - 1) = ((-1 : Int) :: l').getD k 0 := by
 cases k with
 | zero => rfl
 | succ j => rw [atL, if_pos (by omega), show (((j + 1 : Nat) : Int) - 1).toNat = j by omega, mix_done hl hk (by omega), Option.getD_some, List.getD_cons_succ]
theorem nx_some {nx : Option Int} {m : Int} (hm : m ≠ -1) : nx = some m ↔ nx.getD (-1) = m := by
 cases nx with
 | none => simp; omega
 | some x => simp
theorem w4_by (p x : Int) (nx : Option Int) : w4K p x nx = if (x = 4 ∧ p = 3 ∧ nx.getD (-1) = 3) ∨ (x = 7 ∧ p = nx.getD (-1) ∧ (p = 3 ∨ p = 6)) then p else x := by
 have e : ((x = 4 ∧ p = 3 ∧ nx = some 3) ∨ (x = 7 ∧ (p = 3 ∨ p = 6) ∧ nx = some p)) ↔ ((x = 4 ∧ p = 3 ∧ nx.getD (-1) = 3) ∨ (x = 7 ∧ p = nx.getD (-1) ∧ (p = 3 ∨ p = 6))) := by
  rw [nx_some (m := 3) (by decide)]
  constructor
  ·rintro (h | ⟨h1, h2, h3⟩)
   ·exact .inl h
   ·exact .inr ⟨h1, ((nx_some (by omega)).1 h3).symm, h2⟩
  ·rintro (h | ⟨h1, h2, h3⟩)
   ·exact .inl h
   ·exact .inr ⟨h1, h3, (nx_some (by omega)).2 h2.symm⟩
 rw [w4K]
 by_cases hq : (x = 4 ∧ p = 3 ∧ nx.getD (-1) = 3) ∨ (x = 7 ∧ p = nx.getD (-1) ∧ (p = 3 ∨ p = 6))
 ·rw [if_pos (e.2 hq), if_pos hq]
 ·rw [if_neg (fun h => hq (e.1 h)), if_neg hq]
theorem e_by (p x : Int) (nx : Option Int) : eK p x nx = if x = 5 ∧ (p = 3 ∨ nx.getD (-1) = 3) then 3 else x := by
 have e : (x = 5 ∧ (p = 3 ∨ nx = some 3)) ↔ (x = 5 ∧ (p = 3 ∨ nx.getD (-1) = 3)) := by rw [nx_some (m := 3) (by decide)]
 rw [eK]
 by_cases hq : x = 5 ∧ (p = 3 ∨ nx.getD (-1) = 3)
 ·rw [if_pos (e.2 hq), if_pos hq]
 ·rw [if_neg (fun h => hq (e.1 h)), if_neg hq]
set_option maxRecDepth 20000 in
set_option maxHeartbeats 4000000 in
theorem rparts09_any : Ruled 115 [] (rW4 (-1)) := by
 refine ruled_of (w4_length (-1)) ?_ ?_
 ·intro A c w
  show Calls _ _ #[.slice A 0 c] _ _
  go_enter Tryz.func115, Tryz.ntmps115
  go_wp2_with fail
  go_loopw [2] (fun i wr => i = .int .i64 0 ∧ w = wr) (fun _ _ => 0)
  case atStart => exact ⟨rfl, rfl⟩
  case round =>
   obtain ⟨rfl, rfl⟩ := hrel
   go_wp2
   exact bodyPost_end (results_none rfl _ _ _) rfl ⟨rfl, rfl⟩
 ·intro B c g l w hpos hl hB hr
  show Calls _ _ #[.slice (some ⟨g, 0, none⟩) l.length c] _ _
  obtain ⟨L', hL'⟩ : ∃ x, rW4 (-1) l = x := ⟨_, rfl⟩
  have HLL : Hid (L'.length = l.length) := Lib.hid (by rw [← hL', w4_length])
  have HAT : Hid (∀ k, k < l.length → w4K (((-1) :: L').getD k 0) (l.getD k 0) l[k + 1]? = L'.getD k 0) := Lib.hid fun k hk => by rw [← hL']; exact w4_at (-1) l k hk
  rw [hL']
  have HR : Hid (Row w B 3 g c (ints .i64 (mixL l L' 0))) := Lib.hid (by rw [mixL_zero]; exact hr)
  clear hr hL' hB
  go_enter Tryz.func115, Tryz.ntmps115
  go_wp2_with fail
  go_loopw [2] (fun i wr => ∃ k : Nat, k ≤ l.length ∧ i = .int .i64 k ∧ Hid (Row wr B 3 g c (ints .i64 (mixL l L' k))) ∧ Hid (Below B w wr)) (fun i _ => l.length - (intOf i).toNat)
  case atStart => exact ⟨0, by omega, rfl, HR, Lib.hid (Below.refl _ _)⟩
  case round =>
   obtain ⟨k, hk, rfl, HRk, HB⟩ := hrel
   by_cases hlt : k < l.length
   ·obtain ⟨x, hx⟩ : ∃ x, l.getD k 0 = x := ⟨_, rfl⟩
    have hc : wr.cell? ⟨g, k, none⟩ = some (.int .i64 x) := row_int HRk.out (by rw [mix_at HLL.out hk (Nat.le_refl _), List.getElem?_eq_getElem hlt, ← getD_at hlt, hx])
    have hat := HAT.out k hlt
    rw [hx, w4_by] at hat
    have HX := Lib.hid hx
    have k0 : (0 : Int) ≤ (k : Int) := by omega
    have k1 : (k : Int) < (l.length : Int) := by omega
    have hml : (mixL l L' k).length = l.length := mixL_all HLL.out k
    have HJL : Hid (k < (ints .i64 (mixL l L' k)).length) := Lib.hid (by rw [ints, List.length_map, hml]; exact hlt)
    have HATC : Hid (∀ i : Int, Calls Tryz.prog 155 #[.slice (some ⟨g, 0, none⟩) l.length c, .int .i64 i] wr fun ed w' => ed = .returned (.int .i64 (atL (mixL l L' k) i)) ∧ wr = w') := Lib.hid fun i => by
     have := rat09_any (some ⟨g, 0, none⟩) (mixL l L' k) c i wr (row_lies HRk.out)
     rw [hml] at this
     exact this
    obtain ⟨p, hp⟩ : ∃ p, ((-1 : Int) :: L').getD k 0 = p := ⟨_, rfl⟩
    obtain ⟨b, hb⟩ : ∃ b, (l[k + 1]?).getD (-1) = b := ⟨_, rfl⟩
    rw [hp, hb] at hat
    have HP : Hid (atL (mixL l L' k) ((k : Int) - 1) = p) := Lib.hid (by rw [at_prev HLL.out hk, hp])
    have HN : Hid (atL (mixL l L' k) ((k : Int) + 1) = b) := Lib.hid (by rw [at_next HLL.out hk, hb])
    have HAT2 := Lib.hid hat
    have hw1 : IntKind.i64.wrap ((k : Int) - 1) = (k : Int) - 1 := IntWalk.i64_in _ (by omega)
    have hw2 : IntKind.i64.wrap ((k : Int) + 1) = (k : Int) + 1 := IntWalk.i64_in _ (by omega)
    clear hx hml hp hb hat
    go_wp2_with fail
    refine (HATC.out ((k : Int) - 1)).mono ?_
    rintro e wq ⟨rfl, rfl⟩
    rw [HP.out]
    go_wp2_with fail
    refine (HATC.out ((k : Int) + 1)).mono ?_
    rintro e wq ⟨rfl, rfl⟩
    rw [HN.out]
    rcases e4 : (x == 4) with _ | _
    ·rcases e7 : (x == 7) with _ | _
     ·have HV : Hid (L'.getD k 0 = l.getD k 0) := Lib.hid (by rw [← HAT2.out, HX.out, if_neg]; simp only [beq_eq_false_iff_ne] at e4 e7; rintro (⟨h, _⟩ | ⟨h, _⟩) <;> contradiction)
      go_wp2_with fail
      go_roundw
      case rel => exact ⟨k + 1, by omega, by go_num, by rw [← mix_stay HLL.out (by omega) HV.out]; exact HRk, HB⟩
      case measure => simp [intOf]; omega
     ·rcases epb : (p == b) with _ | _
      ·have HV : Hid (L'.getD k 0 = l.getD k 0) := Lib.hid (by rw [← HAT2.out, HX.out, if_neg]; simp only [beq_eq_false_iff_ne] at e4 epb; rintro (⟨h, _⟩ | ⟨_, h, _⟩) <;> contradiction)
       go_wp2_with fail
       go_roundw
       case rel => exact ⟨k + 1, by omega, by go_num, by rw [← mix_stay HLL.out (by omega) HV.out]; exact HRk, HB⟩
       case measure => simp [intOf]; omega
      ·rcases e3 : (p == 3) with _ | _
       ·rcases e6 : (p == 6) with _ | _
        ·have HV : Hid (L'.getD k 0 = l.getD k 0) := Lib.hid (by rw [← HAT2.out, HX.out, if_neg]; simp only [beq_eq_false_iff_ne] at e4 e3 e6; rintro (⟨h, _⟩ | ⟨_, _, h | h⟩) <;> contradiction)
         go_wp2_with fail
         go_roundw
         case rel => exact ⟨k + 1, by omega, by go_num, by rw [← mix_stay HLL.out (by omega) HV.out]; exact HRk, HB⟩
         case measure => simp [intOf]; omega
        ·have HV : Hid (L'.getD k 0 = p) := Lib.hid (by rw [← HAT2.out, if_pos]; exact .inr ⟨by simpa using e7, by simpa using epb, .inr (by simpa using e6)⟩)
         go_wp2_with (first
          | (refine store_row intsT wr B _ _ g k c .i64 p (ints .i64 (mixL l L' (k))) w rfl rfl rfl rfl rfl HRk.out HJL.out HB.out ?_; intro w5 r5 b5 g5; have R5 := Lib.hid r5; have B5 := Lib.hid b5; clear r5 b5 g5)
          | fail)
         go_roundw
         case rel => exact ⟨k + 1, by omega, by go_num, Lib.hid (by have := R5.out; rw [ints_set, ← HV.out, mix_put HLL.out (by omega)] at this; exact this), B5⟩
         case measure => simp [intOf]; omega
       ·have HV : Hid (L'.getD k 0 = p) := Lib.hid (by rw [← HAT2.out, if_pos]; exact .inr ⟨by simpa using e7, by simpa using epb, .inl (by simpa using e3)⟩)
        go_wp2_with (first
         | (refine store_row intsT wr B _ _ g k c .i64 p (ints .i64 (mixL l L' (k))) w rfl rfl rfl rfl rfl HRk.out HJL.out HB.out ?_; intro w5 r5 b5 g5; have R5 := Lib.hid r5; have B5 := Lib.hid b5; clear r5 b5 g5)
         | fail)
        go_roundw
        case rel => exact ⟨k + 1, by omega, by go_num, Lib.hid (by have := R5.out; rw [ints_set, ← HV.out, mix_put HLL.out (by omega)] at this; exact this), B5⟩
        case measure => simp [intOf]; omega
    ·have e7 : (x == 7) = false := by simp only [beq_iff_eq] at e4; simp [e4]
     rcases e3 : (p == 3) with _ | _
     ·have HV : Hid (L'.getD k 0 = l.getD k 0) := Lib.hid (by rw [← HAT2.out, HX.out, if_neg]; simp only [beq_eq_false_iff_ne] at e7 e3; rintro (⟨_, h, _⟩ | ⟨h, _⟩) <;> contradiction)
      go_wp2_with fail
      go_roundw
      case rel => exact ⟨k + 1, by omega, by go_num, by rw [← mix_stay HLL.out (by omega) HV.out]; exact HRk, HB⟩
      case measure => simp [intOf]; omega
     ·rcases eb : (b == 3) with _ | _
      ·have HV : Hid (L'.getD k 0 = l.getD k 0) := Lib.hid (by rw [← HAT2.out, HX.out, if_neg]; simp only [beq_eq_false_iff_ne] at e7 eb; rintro (⟨_, _, h⟩ | ⟨h, _⟩) <;> contradiction)
       go_wp2_with fail
       go_roundw
       case rel => exact ⟨k + 1, by omega, by go_num, by rw [← mix_stay HLL.out (by omega) HV.out]; exact HRk, HB⟩
       case measure => simp [intOf]; omega
      ·have HV : Hid (L'.getD k 0 = p) := Lib.hid (by rw [← HAT2.out, if_pos]; exact .inl ⟨by simpa using e4, by simpa using e3, by simpa using eb⟩)
       go_wp2_with (first
        | (refine store_row intsT wr B _ _ g k c .i64 p (ints .i64 (mixL l L' (k))) w rfl rfl rfl rfl rfl HRk.out HJL.out HB.out ?_; intro w5 r5 b5 g5; have R5 := Lib.hid r5; have B5 := Lib.hid b5; clear r5 b5 g5)
        | fail)
       go_roundw
       case rel => exact ⟨k + 1, by omega, by go_num, Lib.hid (by have := R5.out; rw [ints_set, ← HV.out, mix_put HLL.out (by omega)] at this; exact this), B5⟩
       case measure => simp [intOf]; omega
   ·obtain rfl : k = l.length := by omega
    go_wp2
    exact bodyPost_end (results_none rfl _ _ _) rfl ⟨rfl, by have := HRk.out; rw [mixL_end HLL.out (Nat.le_refl _)] at this; exact this, HB.out⟩
set_option maxRecDepth 20000 in
set_option maxHeartbeats 4000000 in
theorem rends09_any : Ruled 116 [] (rW5 false) := by
 refine ruled_of (w5_length false) ?_ ?_
 ·intro A c w
  show Calls _ _ #[.slice A 0 c] _ _
  go_enter Tryz.func116, Tryz.ntmps116
  go_wp2_with fail
  go_loopw [2] (fun nv wr => ∃ n : Nat, n ≤ 1 ∧ nv = .int .i64 n ∧ w = wr) (fun nv _ => 1 - (intOf nv).toNat)
  case atStart => exact ⟨0, by omega, rfl, rfl⟩
  case round =>
   obtain ⟨n, hn, rfl, rfl⟩ := hrel
   rcases n with _ | n
   ·go_wp2_with fail
    go_loopw [3] (fun i wx => i = .int .i64 0 ∧ w = wx) (fun _ _ => 0)
    case atStart => exact ⟨rfl, rfl⟩
    case round =>
     obtain ⟨rfl, rfl⟩ := hrel
     go_wp2_with fail
     go_roundw
     case rel => exact ⟨1, by omega, rfl, by first | rfl | trivial⟩
     case measure => simp [intOf]
   ·obtain rfl : n = 0 := by omega
    go_wp2
    exact bodyPost_end (results_none rfl _ _ _) rfl ⟨rfl, rfl⟩
 ·intro B c g l w hpos hl hB hr
  show Calls _ _ #[.slice (some ⟨g, 0, none⟩) l.length c] _ _
  have HR : Hid (Row w B 3 g c (ints .i64 (ePass l 0))) := Lib.hid hr
  clear hr hB
  go_enter Tryz.func116, Tryz.ntmps116
  go_wp2_with fail
  go_loopw [2] (fun nv wr => ∃ n : Nat, n ≤ l.length + 1 ∧ nv = .int .i64 n ∧ Hid (Row wr B 3 g c (ints .i64 (ePass l n))) ∧ Hid (Below B w wr)) (fun nv _ => l.length + 1 - (intOf nv).toNat)
  case atStart => exact ⟨0, by omega, rfl, HR, Lib.hid (Below.refl _ _)⟩
  case round =>
   obtain ⟨n, hn, rfl, HRn, HBn⟩ := hrel
   by_cases hnl : n ≤ l.length
   ·have n1 : (n : Int) ≤ (l.length : Int) := by omega
    obtain ⟨X, hX⟩ : ∃ X, ePass l n = X := ⟨_, rfl⟩
    obtain ⟨L', hL'⟩ : ∃ x, eP (-1) X = x := ⟨_, rfl⟩
    have HXL : Hid (X.length = l.length) := Lib.hid (by rw [← hX, eN_length])
    have HLL : Hid (L'.length = X.length) := Lib.hid (by rw [← hL', eP_length])
    have HAT : Hid (∀ k, k < X.length → eK (((-1) :: L').getD k 0) (X.getD k 0) X[k + 1]? = L'.getD k 0) := Lib.hid fun k hk => by rw [← hL']; exact eP_at (-1) X k hk
    have HNX : Hid (ePass l (n + 1) = L') := Lib.hid (by rw [ePass, hX, hL'])
    have HR0 : Hid (Row wr B 3 g c (ints .i64 (mixL X L' 0))) := Lib.hid (by rw [mixL_zero, ← hX]; exact HRn.out)
    clear hX hL'
    go_wp2_with fail
    go_loopw [3] (fun i wx => ∃ k : Nat, k ≤ l.length ∧ i = .int .i64 k ∧ Hid (Row wx B 3 g c (ints .i64 (mixL X L' k))) ∧ Hid (Below B w wx)) (fun i _ => l.length - (intOf i).toNat)
    case atStart => exact ⟨0, by omega, rfl, HR0, HBn⟩
    case round =>
     rename World => wx
     obtain ⟨k, hk, rfl, HRk, HB⟩ := hrel
     by_cases hlt : k < l.length
     ·have hkX : k < X.length := by rw [HXL.out]; exact hlt
      have hkX' : k ≤ X.length := by omega
      obtain ⟨x, hx⟩ : ∃ x, X.getD k 0 = x := ⟨_, rfl⟩
      have hc : wx.cell? ⟨g, k, none⟩ = some (.int .i64 x) := row_int HRk.out (by rw [mix_at HLL.out hkX' (Nat.le_refl _), List.getElem?_eq_getElem hkX, ← getD_at hkX, hx])
      have hat := HAT.out k hkX
      rw [hx, e_by] at hat
      have HX := Lib.hid hx
      have HKX := Lib.hid hkX
      have k0 : (0 : Int) ≤ (k : Int) := by omega
      have k1 : (k : Int) < (l.length : Int) := by omega
      have hml : (mixL X L' k).length = l.length := by rw [mixL_all HLL.out k, HXL.out]
      have HJL : Hid (k < (ints .i64 (mixL X L' k)).length) := Lib.hid (by rw [ints, List.length_map, hml]; exact hlt)
      have HATC : Hid (∀ i : Int, Calls Tryz.prog 155 #[.slice (some ⟨g, 0, none⟩) l.length c, .int .i64 i] wx fun ed w' => ed = .returned (.int .i64 (atL (mixL X L' k) i)) ∧ wx = w') := Lib.hid fun i => by
       have := rat09_any (some ⟨g, 0, none⟩) (mixL X L' k) c i wx (row_lies HRk.out)
       rw [hml] at this
       exact this
      obtain ⟨p, hp⟩ : ∃ p, ((-1 : Int) :: L').getD k 0 = p := ⟨_, rfl⟩
      obtain ⟨b, hb⟩ : ∃ b, (X[k + 1]?).getD (-1) = b := ⟨_, rfl⟩
      rw [hp, hb] at hat
      have HP : Hid (atL (mixL X L' k) ((k : Int) - 1) = p) := Lib.hid (by rw [at_prev HLL.out hkX', hp])
      have HN : Hid (atL (mixL X L' k) ((k : Int) + 1) = b) := Lib.hid (by rw [at_next HLL.out hkX', hb])
      have HAT2 := Lib.hid hat
      have hw1 : IntKind.i64.wrap ((k : Int) - 1) = (k : Int) - 1 := IntWalk.i64_in _ (by omega)
      have hw2 : IntKind.i64.wrap ((k : Int) + 1) = (k : Int) + 1 := IntWalk.i64_in _ (by omega)
      clear hx hml hp hb hat hkX hkX'
      rcases e5 : (x == 5) with _ | _
      ·have HV : Hid (L'.getD k 0 = X.getD k 0) := Lib.hid (by rw [← HAT2.out, HX.out, if_neg]; simp only [beq_eq_false_iff_ne] at e5; rintro ⟨h, _⟩; contradiction)
       go_wp2_with fail
       go_roundw
       case rel => exact ⟨k + 1, by omega, by go_num, by rw [← mix_stay HLL.out HKX.out HV.out]; exact HRk, HB⟩
       case measure => simp [intOf]; omega
      ·rcases e3 : (p == 3) with _ | _
       ·rcases eb : (b == 3) with _ | _
        ·have HV : Hid (L'.getD k 0 = X.getD k 0) := Lib.hid (by rw [← HAT2.out, HX.out, if_neg]; simp only [beq_eq_false_iff_ne] at e3 eb; rintro ⟨_, h | h⟩ <;> contradiction)
         go_wp2_with fail
         refine (HATC.out ((k : Int) - 1)).mono ?_
         rintro e wq ⟨rfl, rfl⟩
         rw [HP.out]
         go_wp2_with fail
         refine (HATC.out ((k : Int) + 1)).mono ?_
         rintro e wq ⟨rfl, rfl⟩
         rw [HN.out]
         go_wp2_with fail
         go_roundw
         case rel => exact ⟨k + 1, by omega, by go_num, by rw [← mix_stay HLL.out HKX.out HV.out]; exact HRk, HB⟩
         case measure => simp [intOf]; omega
        ·have HV : Hid (L'.getD k 0 = 3) := Lib.hid (by rw [← HAT2.out, if_pos]; exact ⟨by simpa using e5, .inr (by simpa using eb)⟩)
         go_wp2_with fail
         refine (HATC.out ((k : Int) - 1)).mono ?_
         rintro e wq ⟨rfl, rfl⟩
         rw [HP.out]
         go_wp2_with fail
         refine (HATC.out ((k : Int) + 1)).mono ?_
         rintro e wq ⟨rfl, rfl⟩
         rw [HN.out]
         go_wp2_with (first
          | (refine store_row intsT wx B _ _ g k c .i64 3 (ints .i64 (mixL X L' (k))) w rfl rfl rfl rfl rfl HRk.out HJL.out HB.out ?_; intro w5 r5 b5 g5; have R5 := Lib.hid r5; have B5 := Lib.hid b5; clear r5 b5 g5)
          | fail)
         go_roundw
         case rel => exact ⟨k + 1, by omega, by go_num, Lib.hid (by have := R5.out; rw [ints_set, ← HV.out, mix_put HLL.out HKX.out] at this; exact this), B5⟩
         case measure => simp [intOf]; omega
       ·have HV : Hid (L'.getD k 0 = 3) := Lib.hid (by rw [← HAT2.out, if_pos]; exact ⟨by simpa using e5, .inl (by simpa using e3)⟩)
        go_wp2_with fail
        refine (HATC.out ((k : Int) - 1)).mono ?_
        rintro e wq ⟨rfl, rfl⟩
        rw [HP.out]
        go_wp2_with (first
         | (refine store_row intsT wx B _ _ g k c .i64 3 (ints .i64 (mixL X L' (k))) w rfl rfl rfl rfl rfl HRk.out HJL.out HB.out ?_; intro w5 r5 b5 g5; have R5 := Lib.hid r5; have B5 := Lib.hid b5; clear r5 b5 g5)
         | fail)
        go_roundw
        case rel => exact ⟨k + 1, by omega, by go_num, Lib.hid (by have := R5.out; rw [ints_set, ← HV.out, mix_put HLL.out HKX.out] at this; exact this), B5⟩
        case measure => simp [intOf]; omega
     ·obtain rfl : k = l.length := by omega
      go_wp2_with fail
      go_roundw
      case rel => exact ⟨n + 1, by omega, by go_num, Lib.hid (by have := HRk.out; rw [mixL_end HLL.out (by rw [HXL.out]; exact Nat.le_refl _), ← HNX.out] at this; exact this), HB⟩
      case measure => simp [intOf]; omega
   ·obtain rfl : n = l.length + 1 := by omega
    go_wp2
    exact bodyPost_end (results_none rfl _ _ _) rfl ⟨rfl, by have := HRn.out; rw [ePass_all] at this; exact this, HBn.out⟩
end Go.Proofs.YtcbaahlahohfmaaGreatDoor
