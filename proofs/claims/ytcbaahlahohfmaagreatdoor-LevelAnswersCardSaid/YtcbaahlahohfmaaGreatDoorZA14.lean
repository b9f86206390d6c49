/- Shared texts, shaken for one claim. -/
import Derived.Deep.RegionHeld3
import Derived.Deep.LoopGhost
import Derived.Deep.DeepCutAuto
import Derived.Test.YtcbaahlahohfmaaGreatDoorZA1
import Derived.Test.YtcbaahlahohfmaaGreatDoorZA2
import Derived.Test.YtcbaahlahohfmaaGreatDoorZA13
namespace Go.Proofs.YtcbaahlahohfmaaGreatDoor
open Go.RowKit
theorem Own.asN {w : World} {B : Nat} {e : TypeId} {v : Value} {xs : List Value} (h : Own w B e v xs) : OwnN w B e 1 v xs.length xs := h
theorem Own.unlike {w : World} {B B' : Nat} {e e' : TypeId} {v v' : Value} {xs xs' : List Value} (h : Own w B e v xs) (h' : Own w B' e' v' xs') (he : e ≠ e') : v.ownBlock = none ∨ v.ownBlock ≠ v'.ownBlock :=
 OwnN.unlike h.asN h'.asN he
theorem Own.store {w : World} {B : Nat} {e : TypeId} {g c : Nat} {xs : List Value} (h : Row w B e g c xs) (j : Nat) (u : Value) : Row (w.setCell ⟨g, j, none⟩ u) B e g c (xs.set j u) := h.set j u
structure Nest (w : World) (B : Nat) (eo ei : TypeId) (v : Value) (es : List Value) (L : List (List Value)) : Prop where
 outer : Own w B eo v es
 len : es.length = L.length
 inner : ∀ (j : Nat) (h1 : j < es.length) (h2 : j < L.length), Own w B ei es[j] L[j]
 apart : ∀ (i j : Nat) (hi : i < es.length) (hj : j < es.length), i ≠ j → Apart es[i] es[j]
section
variable {w w' w'' : World} {B : Nat} {eo ei : TypeId} {v : Value} {es : List Value} {L : List (List Value)}
theorem Nest.empty (w : World) (B : Nat) (eo ei : TypeId) : Nest w B eo ei (.slice none 0 0) [] [] :=
 ⟨Own.empty _ _ _, rfl, fun j h => by simp at h, fun i j h => by simp at h⟩
theorem Nest.below (h : Nest w B eo ei v es L) {C : Nat} (hb : Below C w w') (hC : w.heap.size ≤ C) : Nest w' B eo ei v es L :=
 ⟨h.outer.below hb hC, h.len, fun j h1 h2 => (h.inner j h1 h2).below hb hC, h.apart⟩
theorem Nest.alloc (h : Nest w B eo ei v es L) (o : Obj) : Nest (w.alloc o) B eo ei v es L := h.below (below_alloc w o) (Nat.le_refl _)
theorem Nest.far (h : Nest w B eo ei v es L) (he : eo ≠ ei) (j : Nat) (h1 : j < es.length) : es[j].ownBlock = none ∨ es[j].ownBlock ≠ v.ownBlock :=
 (h.inner j h1 (by rw [← h.len]; exact h1)).unlike h.outer he.symm
theorem Nest.pushNil {v' : Value} (h : Nest w B eo ei v es L) (he : eo ≠ ei) (ho : Own w' B eo v' (es ++ [.slice none 0 0])) (hg : w.grownBy w' v.ownBlock) : Nest w' B eo ei v' (es ++ [.slice none 0 0]) (L ++ [[]]) := by
 have hl := h.len
 refine ⟨ho, by simp [hl], fun j h1 h2 => ?_, fun i j hi hj hij => ?_⟩
 ·by_cases hj : j < es.length
  ·rw [List.getElem_append_left hj, List.getElem_append_left (by omega)]
   exact (h.inner j hj (by omega)).keep hg (h.far he j hj)
  ·have : j = es.length := by simp at h1; omega
   subst this
   rw [List.getElem_append_right (Nat.le_refl _), List.getElem_append_right (by omega)]
   simp only [Nat.sub_self, List.getElem_cons_zero, hl]
   exact Own.empty _ _ _
 ·by_cases h1 : i < es.length
  ·rw [List.getElem_append_left h1]
   by_cases h2 : j < es.length
   ·rw [List.getElem_append_left h2]; exact h.apart i j h1 h2 hij
   ·rw [List.getElem_append_right (by omega)]
    have : j - es.length = 0 := by simp at hj; omega
    simp only [this, List.getElem_cons_zero]
    exact Apart.nil_right
  ·rw [List.getElem_append_right (by omega)]
   have : i - es.length = 0 := by simp at hi; omega
   simp only [this, List.getElem_cons_zero]
   exact Apart.nil_left
theorem Nest.grow {g c : Nat} {u : Value} {xs : List Value} (h : Nest w B eo ei (.slice (some ⟨g, 0, none⟩) es.length c) es L) (he : eo ≠ ei) {j : Nat} (hj : j < es.length)
 (hu : Own w' B ei u xs) (hg : w.grownBy w' es[j].ownBlock) (hn : u.ownBlock = es[j].ownBlock ∨ ∃ q, u.ownBlock = some q ∧ w.heap.size ≤ q)
 (ho : Own w'' B eo (.slice (some ⟨g, 0, none⟩) (es.set j u).length c) (es.set j u)) (hg2 : w'.grownBy w'' (some g)) :
 Nest w'' B eo ei (.slice (some ⟨g, 0, none⟩) (es.set j u).length c) (es.set j u) (L.set j xs) := by
 have hl := h.len
 have hgin : g < w.heap.size := (h.outer.inside g rfl).2
 have hug : u.ownBlock ≠ some g := by
  rcases hn with hn | ⟨q, hn, hq⟩
  ·rw [hn]
   rcases h.far he j hj with h1 | h1
   ·rw [h1]; simp
   ·exact h1
  ·rw [hn]; intro e; injection e with e; omega
 have hfar : ∀ i (hi : i < es.length), i ≠ j → Own w'' B ei es[i] (L[i]'(by omega)) := fun i hi hij => by
  have h1 := (h.inner i hi (by omega)).keep hg (h.apart i j hi hj hij)
  refine h1.keep hg2 ?_
  rcases h.far he i hi with h2 | h2
  ·exact .inl h2
  ·exact .inr h2
 refine ⟨ho, by simp [hl], fun i h1 h2 => ?_, fun a b ha hb hab => ?_⟩
 ·by_cases hij : i = j
  ·subst hij
   rw [List.getElem_set_self, List.getElem_set_self]
   exact hu.keep hg2 (.inr hug)
  ·rw [List.getElem_set_ne (fun e => hij e.symm), List.getElem_set_ne (fun e => hij e.symm)]
   exact hfar i (by simpa using h1) hij
 ·have ha' : a < es.length := by simpa using ha
  have hb' : b < es.length := by simpa using hb
  have key : ∀ i (hi : i < es.length), i ≠ j → Apart u es[i] := fun i hi hij => by
   rcases hn with hn | ⟨q, hn, hq⟩
   ·have := h.apart j i hj hi (fun e => hij e.symm)
    unfold Apart at *
    rw [hn]; exact this
   ·refine .inr fun e => ?_
    have := ((h.inner i hi (by omega)).inside q (by rw [← e, hn])).2
    omega
  by_cases h1 : a = j
  ·subst h1
   rw [List.getElem_set_self, List.getElem_set_ne hab]
   exact key b hb' (fun e => hab e.symm)
  ·by_cases h2 : b = j
   ·subst h2
    rw [List.getElem_set_self, List.getElem_set_ne (fun e => h1 e.symm)]
    exact (key a ha' h1).symm
   ·rw [List.getElem_set_ne (fun e => h1 e.symm), List.getElem_set_ne (fun e => h2 e.symm)]
    exact h.apart a b ha' hb' hab
end
end Go.Proofs.YtcbaahlahohfmaaGreatDoor
namespace Go.Proofs.YtcbaahlahohfmaaGreatDoor
open Go.RowKit
section
variable {P : Program} {ops : Array Oper} {o : Oper} {a : Act} {K : Act → World → Prop} {Q : Exit → Act → World → Prop} {E : Prop}
theorem step_app {t e : TypeId} {z : Value} {bytes : Nat} (T : SliceOf P t e z bytes) (w0 W : World) (B B' : Nat) (s x : Operand) (v : Value) (xs ys : List Value) (A : Option Addr) (n c : Nat)
 (hgd : o.guard = none) (ho : o.op = .call { callee := .builtin .append, args := #[s, x], argTypes := #[t, t] })
 (hs : a.eval s = v) (hx : a.eval x = .slice A n c) (hn : n = ys.length)
 (hown : Own W B e v xs) (hsrc : Lies W B' A ys) (h1 : ∀ u ∈ ys, u.oneCell' = true) (hb : Below B w0 W) (hB : B ≤ W.heap.size)
 (hlen : xs.length + ys.length ≤ maxLen) (hby : (xs.length + ys.length) * bytes ≤ 140737488355328)
 (h : ∀ v' w', Own w' B e v' (xs ++ ys) → Below B w0 w' → W.grownBy w' v.ownBlock → (v'.ownBlock = v.ownBlock ∨ ∃ g, v'.ownBlock = some g ∧ W.heap.size ≤ g) → K (a.put o.dst v') w') :
 if Region.wanted o (yielded ops a.tmps) = true then Oper.wp P o a W K Q else E := by
 subst hn
 have hw : Region.wanted o (yielded ops a.tmps) = true := by simp [Region.wanted, hgd]
 rw [if_pos hw]
 obtain ⟨v', w', hr, h2, h3, h4⟩ := run_app_src T o.type W B B' v xs ys A c hown hsrc h1 hB hlen hby
 unfold Oper.wp execOp
 simp only [ho, resolve, invoke, builtin, Sem.run_bind, Sem.run_pure, Result.andThen_ok, List.map_toArray, List.map_cons, List.map_nil, hs, hx, hr]
 refine h v' w' h2 (hb.grown h3 hB (fun k hk => (Own.inside hown k hk).1)) h3 ?_
 rcases h4 with h4 | h4
 ·exact .inl h4
 ·exact .inr ⟨_, h4, Nat.le_refl _⟩
end
end Go.Proofs.YtcbaahlahohfmaaGreatDoor
namespace Go.Proofs.YtcbaahlahohfmaaGreatDoor
open Go.RowKit
theorem Lies.short {w : World} {B : Nat} {A : Option Addr} {l : List Int} (h : Lies w B A (ints .i64 l)) (k : Nat) : Lies w B A (ints .i64 (l.take k)) := by
 intro hne
 have hl : ints .i64 l ≠ [] := by
  intro e
  apply hne
  have : l = [] := by simpa [ints] using e
  subst this; simp [ints]
 obtain ⟨p, hA, hp, hc⟩ := h hl
 refine ⟨p, hA, hp, fun i u hu => hc i u ?_⟩
 rw [ints, List.map_take] at hu
 rw [List.getElem?_take] at hu
 split at hu
 ·exact hu
 ·cases hu
section
variable {P : Program} {ops : Array Oper} {rest : List Oper} {o : Oper} {a : Act} {Q : Exit → Act → World → Prop}
end
end Go.Proofs.YtcbaahlahohfmaaGreatDoor
namespace Go.Proofs.YtcbaahlahohfmaaGreatDoor
open Go.RowKit
def addLast (L : List (List Int)) (p : Int) : List (List Int) := L.set (L.length - 1) (L.getD (L.length - 1) [] ++ [p])
def freshAt (cl lv s : List Int) (k : Nat) : Bool := k == 0 || (lv.getD (s.getD k 0).toNat 0 != lv.getD (s.getD (k - 1) 0).toNat 0 || cl.getD (s.getD (k - 1) 0).toNat 0 == 10)
def listsN (cl lv s : List Int) : Nat → List (List Int)
 | 0 => []
 | k + 1 => addLast (if freshAt cl lv s k then listsN cl lv s k ++ [[]] else listsN cl lv s k) (s.getD k 0)
def listsI (cl lv : List Int) : List (List Int) := if cl.length = lv.length then listsN cl lv (seenI cl) (seenI cl).length else []
theorem addLast_length (L : List (List Int)) (p : Int) : (addLast L p).length = L.length := by simp [addLast]
theorem listsN_le (cl lv s : List Int) : ∀ k, (listsN cl lv s k).length ≤ k ∧ (0 < k → 0 < (listsN cl lv s k).length) := by
 intro k
 induction k with
 | zero => exact ⟨by simp [listsN], fun h => absurd h (by omega)⟩
 | succ k ih =>
  rw [listsN, addLast_length]
  split
  ·simp; omega
  ·rename_i h
   refine ⟨by omega, fun _ => ih.2 ?_⟩
   cases k with
   | zero => simp [freshAt] at h
   | succ k => omega
theorem addLast_mem {L : List (List Int)} {p : Int} {n : Nat} (h : ∀ l ∈ L, l.length ≤ n) : ∀ l ∈ addLast L p, l.length ≤ n + 1 := by
 intro l hl
 unfold addLast at hl
 obtain ⟨i, hi, rfl⟩ := List.mem_iff_getElem.1 hl
 rw [List.length_set] at hi
 by_cases he : L.length - 1 = i
 ·subst he
  rw [List.getElem_set_self]
  have h2 : L.getD (L.length - 1) [] = L[L.length - 1] := by simp [hi]
  have := h _ (List.getElem_mem hi)
  rw [h2]; simp; omega
 ·rw [List.getElem_set_ne he]
  have := h _ (List.getElem_mem hi)
  omega
theorem listsN_mem (cl lv s : List Int) : ∀ k, ∀ l ∈ listsN cl lv s k, l.length ≤ k := by
 intro k
 induction k with
 | zero => intro l hl; simp [listsN] at hl
 | succ k ih =>
  rw [listsN]
  refine addLast_mem ?_
  split
  ·intro l hl
   rcases List.mem_append.1 hl with h | h
   ·exact ih l h
   ·rw [List.mem_singleton.1 h]; simp
  ·exact ih
theorem seenN_at (l : List Int) : ∀ k j (h : j < (seenN l k).length), ∃ q : Nat, (seenN l k)[j] = (q : Int) ∧ q < k := by
 intro k j h
 have hm : (seenN l k)[j] ∈ seenN l k := List.getElem_mem h
 unfold seenN at hm
 obtain ⟨q, hq, he⟩ := List.mem_map.1 hm
 have := List.mem_range.1 (List.mem_filter.1 hq).1
 exact ⟨q, he.symm, this⟩
end Go.Proofs.YtcbaahlahohfmaaGreatDoor
namespace Go.Proofs.YtcbaahlahohfmaaGreatDoor
open Go.RowKit
theorem nestT : SliceOf Tryz.prog 61 22 (.slice none 0 0) 24 := ⟨by kernel_rfl, by kernel_rfl, rfl⟩
theorem Nest.same {w w' : World} {B : Nat} {eo ei : TypeId} {v : Value} {es : List Value} {L : List (List Value)} (h : Nest w B eo ei v es L) (hh : w'.heap = w.heap) : Nest w' B eo ei v es L :=
 ⟨h.outer.same hh, h.len, fun j h1 h2 => (h.inner j h1 h2).same hh, h.apart⟩
theorem Nest.weaken {w : World} {B B' : Nat} {eo ei : TypeId} {v : Value} {es : List Value} {L : List (List Value)} (h : Nest w B eo ei v es L) (hB : B' ≤ B) : Nest w B' eo ei v es L :=
 ⟨h.outer.weaken hB, h.len, fun j h1 h2 => (h.inner j h1 h2).weaken hB, h.apart⟩
theorem addLast_map {L : List (List Int)} {t : Nat} {xs : List Int} {q : Int} (ht : L.length - 1 = t) (htl : t < L.length) (hx : L[t] = xs) : (L.map (ints .i64)).set t (ints .i64 xs ++ [Value.int .i64 q]) = (addLast L q).map (ints .i64) := by
 subst ht hx
 unfold addLast
 rw [List.map_set]
 congr 1
 simp [htl]
set_option maxRecDepth 20000 in
set_option maxHeartbeats 8000000 in
theorem rlists_any (A : Option Addr) (cl : List Int) (c : Nat) (A' : Option Addr) (lv : List Int) (c' : Nat) (w : World) (h : Lies w w.heap.size A (ints .i64 cl)) (h' : Lies w w.heap.size A' (ints .i64 lv)) (hl : cl.length ≤ 1000000) (he : cl.length = lv.length) :
 Calls Tryz.prog 62 #[.slice A cl.length c, .slice A' lv.length c'] w fun ed w' => ∃ v es, ed = .returned v ∧ Nest w' w.heap.size 22 3 v es ((listsN cl lv (seenI cl) (seenI cl).length).map (ints .i64)) ∧ Below w.heap.size w w' := by
 have H := Lib.hid h
 have H' := Lib.hid h'
 obtain ⟨s, hs⟩ : ∃ s, seenI cl = s := ⟨_, rfl⟩
 have HS := Lib.hid hs
 have HSL : Hid (s.length ≤ cl.length) := Lib.hid (by rw [← hs]; exact seenN_le cl cl.length)
 have HSA : Hid (∀ j (h : j < s.length), ∃ q : Nat, s[j] = (q : Int) ∧ q < cl.length) := Lib.hid (by subst hs; exact seenN_at cl cl.length)
 have hne : ((cl.length : Int) != (lv.length : Int)) = false := by rw [he]; simp
 have HE := Lib.hid he
 have hs6 : s.length ≤ 1000000 := by have := HSL.out; omega
 rw [hs]
 clear h h' hs he
 go_enter Tryz.func62, Tryz.ntmps62
 go_wp2_with fail
 refine (rseen8_any A cl c w H.out hl).mono ?_
 rintro e w1 ⟨v1, rfl, o1, b1⟩
 rw [HS.out] at o1
 obtain ⟨A1, c1, rfl, l1, _, _⟩ := o1.form
 have L1 := Lib.hid l1
 have B1 := Lib.hid b1
 simp only [ints, List.length_map]
 clear o1 b1 l1 hne
 go_wp2_with fail
 go_loopg [7, 5] s.length (fun m iv ov wr => ∃ (k : Nat) (es : List Value), k + m = s.length ∧ iv = .int .i64 k ∧ Nest wr w1.heap.size 22 3 ov es ((listsN cl lv s k).map (ints .i64)) ∧ Below w1.heap.size w1 wr)
 case atStart => exact ⟨0, [], by omega, rfl, Nest.empty _ _ _ _, Below.refl _ _⟩
 case round =>
  obtain ⟨k, es, hkm, rfl, hn, hb⟩ := hrel
  have HN := Lib.hid hn
  have HB := Lib.hid hb
  clear hn hb
  by_cases hlt : k < s.length
  ·obtain ⟨Ao, co, rfl, _, _, _⟩ := HN.out.outer.form
   obtain ⟨q, hq1, hq2⟩ := HSA.out k hlt
   obtain ⟨ps, rfl, _, hcs⟩ := (L1.out.below HB.out).int hlt
   rw [hq1] at hcs
   obtain ⟨pv, rfl, _, hcv⟩ := ((H'.out.up B1.out).below HB.out).int (show q < lv.length by have := HE.out; omega)
   obtain ⟨pc, rfl, _, _⟩ := ((H.out.up B1.out).below HB.out).int hq2
   have b0 : (0 : Int) ≤ (k : Int) := by omega
   have b1 : (k : Int) < (s.length : Int) := by omega
   have b2 : (0 : Int) ≤ (q : Int) := by omega
   have b3 : (q : Int) < (lv.length : Int) := by have := HE.out; omega
   have hsk : s.getD k 0 = (q : Int) := by simp [hlt, hq1]
   obtain ⟨x, hx⟩ : ∃ x, lv[q]'(by have := HE.out; omega) = x := ⟨_, rfl⟩
   have hxg : lv.getD q 0 = x := by have := HE.out; simp [show q < lv.length by omega, hx]
   rw [hx] at hcv
   have HKQ := Lib.hid (And.intro hsk hxg)
   obtain ⟨fr, hfr⟩ : ∃ f, freshAt cl lv s k = f := ⟨_, rfl⟩
   have HFR := Lib.hid hfr
   clear hx hsk hxg hq1 hfr
   go_upto_region 8 with fail
   go_cut [51] (fun v wx => v = .bool fr ∧ wx.heap = wr.heap ∧ Below w1.heap.size w1 wx)
   case first =>
    by_cases hk0 : k = 0
    ·subst hk0
     have HF1 : Hid (true = fr) := Lib.hid (by rw [← HFR.out]; simp [freshAt])
     go_wp2_with fail
     refine wp_region_held_drew (S := fun _ => True) (by kernel_rfl) (trivial) (fun hHeld => ?_)
     refine' hY 0 ?_
     try simp only [Act.put,ZA,ZB,ZD,ZE,ZF]
     refine' hY 1 ?_
     try simp only [Act.put,ZA,ZB,ZC,ZD,ZE,ZF]
     refine' hY 2 ?_
     try simp only [Act.put,ZA,ZB,ZC,ZD,ZE,ZF]
     refine' hN 3 ?_
     try simp only [Act.put,ZA,ZB,ZC,ZD,ZE,ZF]
     refine' hN 4 ?_
     try simp only [Act.put,ZA,ZB,ZC,ZD,ZE,ZF]
     refine' hN 5 ?_
     try simp only [Act.put,ZA,ZB,ZC,ZD,ZE,ZF]
     refine' hN 6 ?_
     try simp only [Act.put,ZA,ZB,ZC,ZD,ZE,ZF]
     refine' hN 7 ?_
     try simp only [Act.put,ZA,ZB,ZC,ZD,ZE,ZF]
     refine' hN 8 ?_
     try simp only [Act.put,ZA,ZB,ZC,ZD,ZE,ZF]
     refine' hN 9 ?_
     try simp only [Act.put,ZA,ZB,ZC,ZD,ZE,ZF]
     refine' hN 10 ?_
     try simp only [Act.put,ZA,ZB,ZC,ZD,ZE,ZF]
     refine' hN 11 ?_
     try simp only [Act.put,ZA,ZB,ZC,ZD,ZE,ZF]
     refine' hN 12 ?_
     try simp only [Act.put,ZA,ZB,ZC,ZD,ZE,ZF]
     refine' hN 13 ?_
     try simp only [Act.put,ZA,ZB,ZC,ZD,ZE,ZF]
     refine' hN 14 ?_
     try simp only [Act.put,ZA,ZB,ZC,ZD,ZE,ZF]
     refine' hN 15 ?_
     try simp only [Act.put,ZA,ZB,ZC,ZD,ZE,ZF]
     refine' hN 16 ?_
     try simp only [Act.put,ZA,ZB,ZC,ZD,ZE,ZF]
     refine' hN 17 ?_
     try simp only [Act.put,ZA,ZB,ZC,ZD,ZE,ZF]
     refine' hN 18 ?_
     try simp only [Act.put,ZA,ZB,ZC,ZD,ZE,ZF]
     refine' hY 19 ?_
     try simp only [Act.put,ZA,ZB,ZC,ZD,ZE,ZF]
     refine' hY 20 ?_
     try simp only [Act.put,ZA,ZB,ZC,ZD,ZE,ZF]
     refine' hN 21 ?_
     try simp only [Act.put,ZA,ZB,ZC,ZD,ZE,ZF]
     refine' hN 22 ?_
     try simp only [Act.put,ZA,ZB,ZC,ZD,ZE,ZF]
     refine' hN 23 ?_
     try simp only [Act.put,ZA,ZB,ZC,ZD,ZE,ZF]
     refine' hN 24 ?_
     try simp only [Act.put,ZA,ZB,ZC,ZD,ZE,ZF]
     refine' hN 25 ?_
     try simp only [Act.put,ZA,ZB,ZC,ZD,ZE,ZF]
     refine' hN 26 ?_
     try simp only [Act.put,ZA,ZB,ZC,ZD,ZE,ZF]
     refine' hN 27 ?_
     try simp only [Act.put,ZA,ZB,ZC,ZD,ZE,ZF]
     refine' hN 28 ?_
     try simp only [Act.put,ZA,ZB,ZC,ZD,ZE,ZF]
     refine' hN 29 ?_
     try simp only [Act.put,ZA,ZB,ZC,ZD,ZE,ZF]
     refine' hY 30 ?_
     try simp only [Act.put,ZA,ZB,ZC,ZD,ZE,ZF]
     refine wpAnyH_done (by kernel_rfl) ?_ _
     go_wp2_with fail
     go_meet
     exact ⟨by rw [HF1.out], rfl, below_drawn HB.out 1⟩
    ·obtain ⟨k', hk'⟩ : ∃ k', k - 1 = k' := ⟨_, rfl⟩
     have hk1 : k' < s.length := by omega
     obtain ⟨q', hq1', hq2'⟩ := HSA.out k' hk1
     obtain ⟨ps', hps', _, hcs'⟩ := (L1.out.below HB.out).int hk1
     injection hps' with hps'
     subst hps'
     rw [hq1'] at hcs'
     have hqv : q' < lv.length := by have := HE.out; omega
     obtain ⟨pv', hpv', _, hcv'⟩ := ((H'.out.up B1.out).below HB.out).int hqv
     injection hpv' with hpv'
     subst hpv'
     obtain ⟨pc', hpc', _, hcc'⟩ := ((H.out.up B1.out).below HB.out).int hq2'
     injection hpc' with hpc'
     subst hpc'
     have hsk' : s.getD k' 0 = (q' : Int) := by simp [hk1, hq1']
     obtain ⟨y, hy⟩ : ∃ y, lv[q'] = y := ⟨_, rfl⟩
     obtain ⟨z, hz⟩ : ∃ y, cl[q'] = y := ⟨_, rfl⟩
     have hyg : lv.getD q' 0 = y := by simp [hqv, hy]
     have hzg : cl.getD q' 0 = z := by simp [hq2', hz]
     have HFE : Hid ((x != y || z == 10) = fr) := Lib.hid (by
      rw [← HFR.out, freshAt, hk', HKQ.out.1, hsk', Int.toNat_natCast, Int.toNat_natCast, HKQ.out.2, hyg, hzg]
      rw [show (k == 0) = false by simpa using hk0]; rfl)
     rw [hy] at hcv'
     rw [hz] at hcc'
     have hkb : ((k : Int) == 0) = false := by simp; omega
     have hwk : IntKind.i64.wrap ((k : Int) - 1) = (k' : Int) := by rw [IntWalk.i64_in _ (by omega)]; omega
     have c0 : (0 : Int) ≤ (k' : Int) := by omega
     have c1 : (k' : Int) < (s.length : Int) := by omega
     have c2 : (0 : Int) ≤ (q' : Int) := by omega
     have c3 : (q' : Int) < (lv.length : Int) := by omega
     have c4 : (q' : Int) < (cl.length : Int) := by omega
     have hcr : wr.drew.cell? (ps.add k) = some (.int .i64 q) ∧ wr.drew.cell? (pv.add q) = some (.int .i64 x) ∧ wr.drew.cell? (ps.add k') = some (.int .i64 q') ∧ wr.drew.cell? (pv.add q') = some (.int .i64 y) ∧ wr.drew.cell? (pc.add q') = some (.int .i64 z) := ⟨hcs, hcv, hcs', hcv', hcc'⟩
     clear hk' hq1' hsk' hy hz hyg hzg hk0
     rcases hxy : (x != y) with _ | _
     ·rcases hz10 : (z == 10) with _ | _
      ·have HF1 : Hid (false = fr) := Lib.hid (by rw [← HFE.out, hxy, hz10]; rfl)
       go_wp2_with fail
       clear hcs hcv hcs' hcv' hcc'
       refine wp_region_held_drew (S := fun w' => w'.cell? (ps.add k) = some (.int .i64 q) ∧ w'.cell? (pv.add q) = some (.int .i64 x) ∧ w'.cell? (ps.add k') = some (.int .i64 q') ∧ w'.cell? (pv.add q') = some (.int .i64 y) ∧ w'.cell? (pc.add q') = some (.int .i64 z)) (by kernel_rfl) (hcr) (fun hHeld => ?_)
       refine' hY 0 ?_
       try simp only [Act.put,ZA,ZB,ZD,ZE,ZF]
       refine' hY 1 ?_
       try simp only [Act.put,ZA,ZB,ZC,ZD,ZE,ZF]
       refine' hY 2 ?_
       try simp only [Act.put,ZA,ZB,ZC,ZD,ZE,ZF]
       refine' hY 3 ?_
       try simp only [Act.put,ZA,ZB,ZC,ZD,ZE,ZF]
       refine' hY 4 ?_
       try simp only [Act.put,ZA,ZB,ZC,ZD,ZE,ZF]
       refine' hY 5 ?_
       try simp only [Act.put,ZA,ZB,ZC,ZD,ZE,ZF]
       refine' hY 6 ?_
       try simp only [Act.put,ZA,ZB,ZC,ZD,ZE,ZF]
       refine' hY 7 ?_
       try simp only [Act.put,ZA,ZB,ZC,ZD,ZE,ZF]
       refine' hY 8 ?_
       try simp only [Act.put,ZA,ZB,ZC,ZD,ZE,ZF]
       refine' hY 9 ?_
       try simp only [Act.put,ZA,ZB,ZC,ZD,ZE,ZF]
       refine' hY 10 ?_
       try simp only [Act.put,ZA,ZB,ZC,ZD,ZE,ZF]
       refine' hY 11 ?_
       try simp only [Act.put,ZA,ZB,ZC,ZD,ZE,ZF]
       refine' hY 12 ?_
       try simp only [Act.put,ZA,ZB,ZC,ZD,ZE,ZF]
       refine' hY 13 ?_
       try simp only [Act.put,ZA,ZB,ZC,ZD,ZE,ZF]
       refine' hY 14 ?_
       try simp only [Act.put,ZA,ZB,ZC,ZD,ZE,ZF]
       refine' hY 15 ?_
       try simp only [Act.put,ZA,ZB,ZC,ZD,ZE,ZF]
       refine' hY 16 ?_
       try simp only [Act.put,ZA,ZB,ZC,ZD,ZE,ZF]
       refine' hY 17 ?_
       try simp only [Act.put,ZA,ZB,ZC,ZD,ZE,ZF]
       refine' hY 18 ?_
       try simp only [Act.put,ZA,ZB,ZC,ZD,ZE,ZF]
       refine' hY 19 ?_
       try simp only [Act.put,ZA,ZB,ZC,ZD,ZE,ZF]
       refine' hY 20 ?_
       try simp only [Act.put,ZA,ZB,ZC,ZD,ZE,ZF]
       refine' hY 21 ?_
       try simp only [Act.put,ZA,ZB,ZC,ZD,ZE,ZF]
       refine' hY 22 ?_
       try simp only [Act.put,ZA,ZB,ZC,ZD,ZE,ZF]
       refine' hY 23 ?_
       try simp only [Act.put,ZA,ZB,ZC,ZD,ZE,ZF]
       refine' hY 24 ?_
       try simp only [Act.put,ZA,ZB,ZC,ZD,ZE,ZF]
       refine' hY 25 ?_
       try simp only [Act.put,ZA,ZB,ZC,ZD,ZE,ZF]
       refine' hY 26 ?_
       try simp only [Act.put,ZA,ZB,ZC,ZD,ZE,ZF]
       refine' hY 27 ?_
       try simp only [Act.put,ZA,ZB,ZC,ZD,ZE,ZF]
       refine' hY 28 ?_
       try simp only [Act.put,ZA,ZB,ZC,ZD,ZE,ZF]
       refine' hY 29 ?_
       try simp only [Act.put,ZA,ZB,ZC,ZD,ZE,ZF]
       refine' hY 30 ?_
       try simp only [Act.put,ZA,ZB,ZC,ZD,ZE,ZF]
       refine wpAnyH_done (by kernel_rfl) ?_ _
       go_wp2_with fail
       go_meet
       exact ⟨by rw [HF1.out], rfl, below_drawn HB.out 1⟩
      ·have HF1 : Hid (true = fr) := Lib.hid (by rw [← HFE.out, hxy, hz10]; rfl)
       go_wp2_with fail
       clear hcs hcv hcs' hcv' hcc'
       refine wp_region_held_drew (S := fun w' => w'.cell? (ps.add k) = some (.int .i64 q) ∧ w'.cell? (pv.add q) = some (.int .i64 x) ∧ w'.cell? (ps.add k') = some (.int .i64 q') ∧ w'.cell? (pv.add q') = some (.int .i64 y) ∧ w'.cell? (pc.add q') = some (.int .i64 z)) (by kernel_rfl) (hcr) (fun hHeld => ?_)
       refine' hY 0 ?_
       try simp only [Act.put,ZA,ZB,ZD,ZE,ZF]
       refine' hY 1 ?_
       try simp only [Act.put,ZA,ZB,ZC,ZD,ZE,ZF]
       refine' hY 2 ?_
       try simp only [Act.put,ZA,ZB,ZC,ZD,ZE,ZF]
       refine' hY 3 ?_
       try simp only [Act.put,ZA,ZB,ZC,ZD,ZE,ZF]
       refine' hY 4 ?_
       try simp only [Act.put,ZA,ZB,ZC,ZD,ZE,ZF]
       refine' hY 5 ?_
       try simp only [Act.put,ZA,ZB,ZC,ZD,ZE,ZF]
       refine' hY 6 ?_
       try simp only [Act.put,ZA,ZB,ZC,ZD,ZE,ZF]
       refine' hY 7 ?_
       try simp only [Act.put,ZA,ZB,ZC,ZD,ZE,ZF]
       refine' hY 8 ?_
       try simp only [Act.put,ZA,ZB,ZC,ZD,ZE,ZF]
       refine' hY 9 ?_
       try simp only [Act.put,ZA,ZB,ZC,ZD,ZE,ZF]
       refine' hY 10 ?_
       try simp only [Act.put,ZA,ZB,ZC,ZD,ZE,ZF]
       refine' hY 11 ?_
       try simp only [Act.put,ZA,ZB,ZC,ZD,ZE,ZF]
       refine' hY 12 ?_
       try simp only [Act.put,ZA,ZB,ZC,ZD,ZE,ZF]
       refine' hY 13 ?_
       try simp only [Act.put,ZA,ZB,ZC,ZD,ZE,ZF]
       refine' hY 14 ?_
       try simp only [Act.put,ZA,ZB,ZC,ZD,ZE,ZF]
       refine' hY 15 ?_
       try simp only [Act.put,ZA,ZB,ZC,ZD,ZE,ZF]
       refine' hY 16 ?_
       try simp only [Act.put,ZA,ZB,ZC,ZD,ZE,ZF]
       refine' hY 17 ?_
       try simp only [Act.put,ZA,ZB,ZC,ZD,ZE,ZF]
       refine' hY 18 ?_
       try simp only [Act.put,ZA,ZB,ZC,ZD,ZE,ZF]
       refine' hY 19 ?_
       try simp only [Act.put,ZA,ZB,ZC,ZD,ZE,ZF]
       refine' hY 20 ?_
       try simp only [Act.put,ZA,ZB,ZC,ZD,ZE,ZF]
       refine' hY 21 ?_
       try simp only [Act.put,ZA,ZB,ZC,ZD,ZE,ZF]
       refine' hY 22 ?_
       try simp only [Act.put,ZA,ZB,ZC,ZD,ZE,ZF]
       refine' hY 23 ?_
       try simp only [Act.put,ZA,ZB,ZC,ZD,ZE,ZF]
       refine' hY 24 ?_
       try simp only [Act.put,ZA,ZB,ZC,ZD,ZE,ZF]
       refine' hY 25 ?_
       try simp only [Act.put,ZA,ZB,ZC,ZD,ZE,ZF]
       refine' hY 26 ?_
       try simp only [Act.put,ZA,ZB,ZC,ZD,ZE,ZF]
       refine' hY 27 ?_
       try simp only [Act.put,ZA,ZB,ZC,ZD,ZE,ZF]
       refine' hY 28 ?_
       try simp only [Act.put,ZA,ZB,ZC,ZD,ZE,ZF]
       refine' hY 29 ?_
       try simp only [Act.put,ZA,ZB,ZC,ZD,ZE,ZF]
       refine' hY 30 ?_
       try simp only [Act.put,ZA,ZB,ZC,ZD,ZE,ZF]
       refine wpAnyH_done (by kernel_rfl) ?_ _
       go_wp2_with fail
       go_meet
       exact ⟨by rw [HF1.out], rfl, below_drawn HB.out 1⟩
     ·have HF1 : Hid (true = fr) := Lib.hid (by rw [← HFE.out, hxy]; rfl)
      go_wp2_with fail
      clear hcs hcv hcs' hcv' hcc'
      refine wp_region_held_drew (S := fun w' => w'.cell? (ps.add k) = some (.int .i64 q) ∧ w'.cell? (pv.add q) = some (.int .i64 x) ∧ w'.cell? (ps.add k') = some (.int .i64 q') ∧ w'.cell? (pv.add q') = some (.int .i64 y) ∧ w'.cell? (pc.add q') = some (.int .i64 z)) (by kernel_rfl) (hcr) (fun hHeld => ?_)
      refine' hY 0 ?_
      try simp only [Act.put,ZA,ZB,ZD,ZE,ZF]
      refine' hY 1 ?_
      try simp only [Act.put,ZA,ZB,ZC,ZD,ZE,ZF]
      refine' hY 2 ?_
      try simp only [Act.put,ZA,ZB,ZC,ZD,ZE,ZF]
      refine' hY 3 ?_
      try simp only [Act.put,ZA,ZB,ZC,ZD,ZE,ZF]
      refine' hY 4 ?_
      try simp only [Act.put,ZA,ZB,ZC,ZD,ZE,ZF]
      refine' hY 5 ?_
      try simp only [Act.put,ZA,ZB,ZC,ZD,ZE,ZF]
      refine' hY 6 ?_
      try simp only [Act.put,ZA,ZB,ZC,ZD,ZE,ZF]
      refine' hY 7 ?_
      try simp only [Act.put,ZA,ZB,ZC,ZD,ZE,ZF]
      refine' hY 8 ?_
      try simp only [Act.put,ZA,ZB,ZC,ZD,ZE,ZF]
      refine' hY 9 ?_
      try simp only [Act.put,ZA,ZB,ZC,ZD,ZE,ZF]
      refine' hY 10 ?_
      try simp only [Act.put,ZA,ZB,ZC,ZD,ZE,ZF]
      refine' hY 11 ?_
      try simp only [Act.put,ZA,ZB,ZC,ZD,ZE,ZF]
      refine' hY 12 ?_
      try simp only [Act.put,ZA,ZB,ZC,ZD,ZE,ZF]
      refine' hY 13 ?_
      try simp only [Act.put,ZA,ZB,ZC,ZD,ZE,ZF]
      refine' hY 14 ?_
      try simp only [Act.put,ZA,ZB,ZC,ZD,ZE,ZF]
      refine' hY 15 ?_
      try simp only [Act.put,ZA,ZB,ZC,ZD,ZE,ZF]
      refine' hY 16 ?_
      try simp only [Act.put,ZA,ZB,ZC,ZD,ZE,ZF]
      refine' hY 17 ?_
      try simp only [Act.put,ZA,ZB,ZC,ZD,ZE,ZF]
      refine' hY 18 ?_
      try simp only [Act.put,ZA,ZB,ZC,ZD,ZE,ZF]
      refine' hY 19 ?_
      try simp only [Act.put,ZA,ZB,ZC,ZD,ZE,ZF]
      refine' hY 20 ?_
      try simp only [Act.put,ZA,ZB,ZC,ZD,ZE,ZF]
      refine' hN 21 ?_
      try simp only [Act.put,ZA,ZB,ZC,ZD,ZE,ZF]
      refine' hN 22 ?_
      try simp only [Act.put,ZA,ZB,ZC,ZD,ZE,ZF]
      refine' hN 23 ?_
      try simp only [Act.put,ZA,ZB,ZC,ZD,ZE,ZF]
      refine' hN 24 ?_
      try simp only [Act.put,ZA,ZB,ZC,ZD,ZE,ZF]
      refine' hN 25 ?_
      try simp only [Act.put,ZA,ZB,ZC,ZD,ZE,ZF]
      refine' hN 26 ?_
      try simp only [Act.put,ZA,ZB,ZC,ZD,ZE,ZF]
      refine' hN 27 ?_
      try simp only [Act.put,ZA,ZB,ZC,ZD,ZE,ZF]
      refine' hN 28 ?_
      try simp only [Act.put,ZA,ZB,ZC,ZD,ZE,ZF]
      refine' hN 29 ?_
      try simp only [Act.put,ZA,ZB,ZC,ZD,ZE,ZF]
      refine' hY 30 ?_
      try simp only [Act.put,ZA,ZB,ZC,ZD,ZE,ZF]
      refine wpAnyH_done (by kernel_rfl) ?_ _
      go_wp2_with fail
      go_meet
      exact ⟨by rw [HF1.out], rfl, below_drawn HB.out 1⟩
   case rest =>
    obtain ⟨rfl, hheap, hbx⟩ := hcut
    have NX := Lib.hid (HN.out.same hheap)
    have BX := Lib.hid hbx
    have hll := (listsN_le cl lv s k).1
    have hesl : es.length ≤ 1000000 := by have := NX.out.len; rw [List.length_map] at this; omega
    clear hheap hbx
    go_upto_if 51 with fail
    go_cut [5] (fun v wx => ∃ es2, Nest wx w1.heap.size 22 3 v es2 ((if fr then listsN cl lv s k ++ [[]] else listsN cl lv s k).map (ints .i64)) ∧ Below w1.heap.size w1 wx)
    case first =>
     rcases fr with _ | _
     ·go_wp2_with fail
      go_meet
      exact ⟨es, NX.out, BX.out⟩
     ·go_wp2_with (first
       | (at_builtin; refine app_lit nestT w1 wc w1.heap.size _ _ #[.slice none 0 0] 1 _ es rfl rfl rfl rfl NX.out.outer (by simp [Value.oneCell']) BX.out BX.out.size (by unfold maxLen; simp; omega) (by simp; omega) ?_; intro v2 w2 o2 b2 g2 _; have N2 := Lib.hid (NX.out.pushNil (by decide) o2 g2); have B2 := Lib.hid b2; clear o2 b2 g2)
       | fail)
      go_meet
      exact ⟨_, by simpa [ints] using N2.out, B2.out⟩
    case rest =>
     obtain ⟨es2, hn2, hb2⟩ := hcut
     obtain ⟨L2, hL2⟩ : ∃ L, (if fr then listsN cl lv s k ++ [[]] else listsN cl lv s k) = L := ⟨_, rfl⟩
     rw [hL2] at hn2
     have HL2 : Hid (listsN cl lv s (k + 1) = addLast L2 q) := Lib.hid (by rw [listsN, HFR.out, hL2, HKQ.out.1])
     have hpos : 0 < L2.length := by have := (listsN_le cl lv s (k + 1)).2 (by omega); rw [HL2.out, addLast_length] at this; exact this
     have hl6 : L2.length ≤ 1000001 := by have := (listsN_le cl lv s (k + 1)).1; rw [HL2.out, addLast_length] at this; omega
     have hlen : es2.length = L2.length := by have := hn2.len; rwa [List.length_map] at this
     obtain ⟨g, co2, hv2, hrow⟩ := hn2.outer.inRow (by omega)
     subst hv2
     obtain ⟨t, ht⟩ : ∃ t, es2.length - 1 = t := ⟨_, rfl⟩
     have htl : t < es2.length := by omega
     have htL : t < L2.length := by omega
     have hin := hn2.inner t htl (by rw [List.length_map]; omega)
     rw [List.getElem_map] at hin
     obtain ⟨xs, hxs⟩ : ∃ xs, L2[t] = xs := ⟨_, rfl⟩
     rw [hxs] at hin
     obtain ⟨m, hm⟩ : ∃ m, xs.length = m := ⟨_, rfl⟩
     have hm6 : m ≤ 1000000 := by
      have hmem : xs ∈ L2 := by rw [← hxs]; exact List.getElem_mem htL
      rw [← hL2] at hmem
      rw [← hm]
      have hbd := listsN_mem cl lv s k
      cases fr with
      | false => exact Nat.le_trans (hbd xs (by simpa using hmem)) (by omega)
      | true =>
       rcases List.mem_append.1 (by simpa using hmem : xs ∈ listsN cl lv s k ++ [[]]) with h1 | h1
       ·exact Nat.le_trans (hbd xs h1) (by omega)
       ·rw [List.mem_singleton.1 h1]; simp
     obtain ⟨Ae, ce, hev, _, _, _⟩ := hin.form
     rw [List.length_map, hm] at hev
     have hco := hrow.cell htl
     rw [hev] at hco
     obtain ⟨ps', hps', hpb, hcs2⟩ := (L1.out.below hb2).int hlt
     injection hps' with hps'
     subst hps'
     have hsq : s[k] = (q : Int) := by have := HKQ.out.1; simpa [hlt] using this
     rw [hsq] at hcs2
     have hw1 : IntKind.i64.wrap ((es2.length : Int) - 1) = (t : Int) := by rw [IntWalk.i64_in _ (by omega)]; omega
     have d0 : (0 : Int) ≤ (t : Int) := by omega
     have d1 : (t : Int) < (es2.length : Int) := by omega
     have hgin := hrow.inside
     have SK : Hid (∀ w', Below wc.heap.size wc w' → w'.cell? ⟨g, t, none⟩ = some (.slice Ae m ce) ∧ w'.cell? (ps.add k) = some (.int .i64 q)) := Lib.hid fun w' hb => ⟨by rw [hb.cell (show g < wc.heap.size by omega)]; exact hco, by rw [hb.cell (World.block_lt_of_cell? wc _ hcs2)]; exact hcs2⟩
     have hk0 := SK.out wc.drew (by exact below_same (Below.refl _ _) rfl rfl rfl rfl)
     have N2 := Lib.hid ((hn2.same (w' := wc.drew) rfl).alloc (.cells #[.int .i64 q] 3))
     have BZ := Lib.hid hb2
     have OI := Lib.hid (show Own (wc.drew.alloc (.cells #[.int .i64 q] 3)) w1.heap.size 3 (.slice Ae m ce) (ints .i64 xs) from hev ▸ (hin.same (w' := wc.drew) rfl).alloc _)
     have HEV := Lib.hid hev
     have HT := Lib.hid ht
     have HM := Lib.hid hm
     have HLN := Lib.hid hlen
     have HXS := Lib.hid hxs
     clear hn2 hrow hin hev hco hcs2 hsq ht hm hlen hxs hL2
     go_wp2_with fail
     refine wp_region_E (S := fun w' => w'.cell? ⟨g, t, none⟩ = some (.slice Ae m ce) ∧ w'.cell? (ps.add k) = some (.int .i64 q)) [17] (by kernel_rfl) (hk0) (fun hHeld hZ => ?_)
     refine' eY 0 hHeld hZ fun hZ => ?_
     try simp only [Act.put,ZA,ZB,ZD,ZE,ZF]
     refine' eY 1 hHeld hZ fun hZ => ?_
     try simp only [Act.put,ZA,ZB,ZC,ZD,ZE,ZF]
     refine' eY 2 hHeld hZ fun hZ => ?_
     try simp only [Act.put,ZA,ZB,ZC,ZD,ZE,ZF]
     refine' eY 3 hHeld hZ fun hZ => ?_
     try simp only [Act.put,ZA,ZB,ZC,ZD,ZE,ZF]
     refine' eY 4 hHeld hZ fun hZ => ?_
     try simp only [Act.put,ZA,ZB,ZC,ZD,ZE,ZF]
     refine' eY 5 hHeld hZ fun hZ => ?_
     try simp only [Act.put,ZA,ZB,ZC,ZD,ZE,ZF]
     refine' eY 6 hHeld hZ fun hZ => ?_
     try simp only [Act.put,ZA,ZB,ZC,ZD,ZE,ZF]
     refine' eY 7 hHeld hZ fun hZ => ?_
     try simp only [Act.put,ZA,ZB,ZC,ZD,ZE,ZF]
     refine' eY 8 hHeld hZ fun hZ => ?_
     try simp only [Act.put,ZA,ZB,ZC,ZD,ZE,ZF]
     refine' eY 9 hHeld hZ fun hZ => ?_
     try simp only [Act.put,ZA,ZB,ZC,ZD,ZE,ZF]
     refine' eY 10 hHeld hZ fun hZ => ?_
     try simp only [Act.put,ZA,ZB,ZC,ZD,ZE,ZF]
     refine' eY 11 hHeld hZ fun hZ => ?_
     try simp only [Act.put,ZA,ZB,ZC,ZD,ZE,ZF]
     refine' eY 12 hHeld hZ fun hZ => ?_
     try simp only [Act.put,ZA,ZB,ZC,ZD,ZE,ZF]
     refine' eY 13 hHeld hZ fun hZ => ?_
     try simp only [Act.put,ZA,ZB,ZC,ZD,ZE,ZF]
     refine eA 14 fun K hK => ?_
     go_simp
     refine eB hK hZ (SK.out _ (by exact below_same (below_alloc wc _) rfl rfl rfl rfl)) fun hHeld hZ => ?_
     clear hK K
     try simp only [Act.put,ZA,ZB,ZC,ZD,ZE,ZF]
     refine eA 15 fun K hK => ?_
     refine step_app intsT wc _ w1.heap.size _ (.tmp 64) (.tmp 69) (.slice Ae m ce) (ints .i64 xs) [.int .i64 q] _ _ _ rfl rfl rfl rfl rfl (Own.same OI.out rfl) (Lies.sameHeap (Lies.lit (w := wc.drew) (e := 3) #[.int .i64 q]) rfl) (by simp [Value.oneCell']) (by exact below_same ((below_alloc wc _).mono BZ.out.size) rfl rfl rfl rfl) (by have := BZ.out.size; simp; omega) (by have := HM.out; unfold maxLen; simp; omega) (by have := HM.out; simp; omega) ?_
     intro v2 w2 o2 b2 g2 e2
     have O2 := Lib.hid o2
     have B2 := Lib.hid b2
     have G2 := Lib.hid g2
     have E2 := Lib.hid e2
     obtain ⟨A2, c2, rfl, _, _, _⟩ := o2.form
     clear o2 b2 g2 e2
     have OUT := Lib.hid (N2.out.outer.keep G2.out (.inr (fun e => by
      rw [← HEV.out] at e
      rcases N2.out.far (by decide) t htl with h1 | h1
      ·rw [h1] at e; cases e
      ·exact h1 e.symm)))
     have SK2 : w2.cell? ⟨g, t, none⟩ = some (.slice Ae m ce) ∧ w2.cell? (ps.add k) = some (.int .i64 q) := ⟨by
      have h1 := Row.cell (show Row w2 w1.heap.size 22 g co2 es2 from OUT.out) htl
      rw [h1, HEV.out], by rw [B2.out.cell (by rw [add_block]; exact hpb)]; exact (SK.out wc (Below.refl _ _)).2⟩
     refine eB hK hZ (SK2) fun hHeld hZ => ?_
     clear hK K
     try simp only [Act.put,ZA,ZB,ZC,ZD,ZE,ZF]
     refine' eX 16 hZ fun hZ => ?_
     try simp only [Act.put,ZA,ZB,ZC,ZD,ZE,ZF]
     refine eA 17 fun K hK => ?_
     refine step_store (e := 22) w2 w1.heap.size (.tmp 71) (.tmp 70) g t co2 (.slice A2 (ints .i64 xs ++ [Value.int .i64 (q : Int)]).length c2) es2 w2 rfl rfl rfl (by kernel_rfl) rfl rfl rfl OUT.out.asN htl (Below.refl _ _) ?_
     intro w3 r3 b3 g3
     have R3 := Lib.hid r3
     have B3 := Lib.hid b3
     have G3 := Lib.hid g3
     clear r3 b3 g3
     refine eE hK hZ fun hZ => ?_
     clear hK K
     try simp only [Act.put,ZA,ZB,ZC,ZD,ZE,ZF]
     refine wpAnyE_done (by kernel_rfl) ?_ _
     clear hZ
     go_wp2_with fail
     go_roundg (s.length - (k + 1))
     case measure => omega
     case rel =>
      have hn3 := N2.out.grow (by decide) htl O2.out (by rw [HEV.out]; exact G2.out) (by rw [HEV.out]; exact E2.out) (by unfold Own; rw [List.length_set]; exact R3.out) G3.out
      rw [List.length_set, addLast_map (by have := HLN.out; have := HT.out; omega) htL HXS.out, ← HL2.out] at hn3
      exact ⟨k + 1, _, by omega, by go_num, hn3, (BZ.out.trans B2.out).trans B3.out⟩
  ·obtain rfl : k = s.length := by omega
   go_wp2
   go_ret
   exact ⟨_, es, rfl, HN.out.weaken B1.out.size, B1.out.trans (HB.out.mono B1.out.size)⟩
end Go.Proofs.YtcbaahlahohfmaaGreatDoor
namespace Go.Proofs.YtcbaahlahohfmaaGreatDoor
open Go.RowKit
theorem rlists_all (A : Option Addr) (cl : List Int) (c : Nat) (A' : Option Addr) (lv : List Int) (c' : Nat) (w : World) (h : Lies w w.heap.size A (ints .i64 cl)) (h' : Lies w w.heap.size A' (ints .i64 lv)) (hl : cl.length ≤ 1000000) :
 Calls Tryz.prog 62 #[.slice A cl.length c, .slice A' lv.length c'] w fun ed w' => ∃ v es, ed = .returned v ∧ Nest w' w.heap.size 22 3 v es ((listsI cl lv).map (ints .i64)) ∧ Below w.heap.size w w' := by
 by_cases he : cl.length = lv.length
 ·have hL : listsI cl lv = listsN cl lv (seenI cl) (seenI cl).length := by rw [listsI, if_pos he]
  rw [hL]
  exact rlists_any A cl c A' lv c' w h h' hl he
 ·have hL : listsI cl lv = [] := by rw [listsI, if_neg he]
  rw [hL]
  have hne : ((cl.length : Int) != (lv.length : Int)) = true := by simp; omega
  go_enter Tryz.func62, Tryz.ntmps62
  go_wp2_with fail
  go_ret
  exact ⟨_, [], rfl, Nest.empty _ _ _ _, Below.refl _ _⟩
theorem addLast_ne {L : List (List Int)} {p : Int} (h : ∀ j (hj : j < L.length), j + 1 < L.length → L[j] ≠ []) : ∀ l ∈ addLast L p, l ≠ [] := by
 intro l hl
 unfold addLast at hl
 obtain ⟨i, hi, rfl⟩ := List.mem_iff_getElem.1 hl
 rw [List.length_set] at hi
 by_cases he : L.length - 1 = i
 ·subst he
  rw [List.getElem_set_self]; simp
 ·rw [List.getElem_set_ne he]
  exact h i hi (by omega)
theorem listsN_ne (cl lv s : List Int) : ∀ k, ∀ l ∈ listsN cl lv s k, l ≠ [] := by
 intro k
 induction k with
 | zero => intro l hl; simp [listsN] at hl
 | succ k ih =>
  rw [listsN]
  refine addLast_ne ?_
  split
  ·intro j hj hj2
   rw [List.length_append, List.length_singleton] at hj2
   rw [List.getElem_append_left (by omega)]
   exact ih _ (List.getElem_mem _)
  ·intro j hj _
   exact ih _ (List.getElem_mem _)
theorem listsI_ne (cl lv : List Int) : ∀ l ∈ listsI cl lv, l ≠ [] := by
 unfold listsI
 split
 ·exact listsN_ne _ _ _ _
 ·intro l hl; simp at hl
theorem listsI_le (cl lv : List Int) : (listsI cl lv).length ≤ cl.length ∧ ∀ l ∈ listsI cl lv, l.length ≤ cl.length := by
 have h1 := seenN_le cl cl.length
 unfold listsI
 split
 ·have h2 := (listsN_le cl lv (seenI cl) (seenI cl).length).1
  have h3 := listsN_mem cl lv (seenI cl) (seenI cl).length
  unfold seenI at *
  exact ⟨by omega, fun l hl => Nat.le_trans (h3 l hl) h1⟩
 ·simp
def headI (r : List Int) : Int := r.getD 0 0
def lastI (r : List Int) : Int := r.getD (r.length - 1) 0
def pairsOf (L : List (List Int)) : List Value := L.flatMap fun r => [.int .i64 (headI r), .int .i64 (lastI r)]
structure Shown (w : World) (B : Nat) (p : Addr) (k : Nat) (r : List Int) where
 b : Nat
 off : Nat
 c : Nat
 lt : b < B
 outer : p.block < B
 cell : w.cell? (p.add k) = some (.slice (some ⟨b, off, none⟩) r.length c)
 cells : ∀ i (hi : i < r.length), w.cell? ⟨b, off + i, none⟩ = some (.int .i64 r[i])
theorem Nest.shown {w w1 : World} {B : Nat} {eo ei : TypeId} {A : Option Addr} {n c : Nat} {es : List Value} {L : List (List Int)} (h : Nest w B eo ei (.slice A n c) es (L.map (ints .i64))) (hb : Below w.heap.size w w1) {k : Nat} (hk : k < L.length) (hne : L[k] ≠ []) :
 ∃ p, A = some p ∧ Nonempty (Shown w1 w.heap.size p k L[k]) := by
 obtain ⟨A1, c1, hv, hl, _, _⟩ := h.outer.form
 injection hv with hA _ _
 subst hA
 have hlen := h.len
 rw [List.length_map] at hlen
 obtain ⟨p, rfl, hpb, hcell⟩ := (hl.below hb).cellAt (i := k) (by omega)
 have hin := h.inner k (by omega) (by rw [List.length_map]; exact hk)
 rw [List.getElem_map] at hin
 obtain ⟨Ai, ci, hev, hli, _, _⟩ := hin.form
 obtain ⟨b, off, rfl, hbb, hcs⟩ := (hli.below hb).plainInts (List.length_pos_iff.2 hne)
 rw [hev, List.length_map] at hcell
 exact ⟨p, rfl, ⟨⟨b, off, ci, hbb, hpb, hcell, hcs⟩⟩⟩
end Go.Proofs.YtcbaahlahohfmaaGreatDoor
