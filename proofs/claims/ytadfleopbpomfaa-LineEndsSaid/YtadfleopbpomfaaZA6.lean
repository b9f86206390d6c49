/- Shared texts, shaken for one claim. -/
import Derived.RangeFuncNested
import Derived.RangeFuncBound
import Derived.RangeFuncCalls
import Derived.RangeFuncLeaves
import Derived.RangeFuncBox
import Derived.Shelf.Abstract
import Derived.Shelf.RegionOpen
import Derived.OwnWalkIn
import Derived.TacticsInMore
import Derived.LoopNIn
import Derived.LoopIn
import Derived.Laws.StructEq
import Derived.Test.YtadfleopbpomfaaZA1
import Derived.Test.YtadfleopbpomfaaZA4
import Derived.Test.YtadfleopbpomfaaZA5
namespace Go.Proofs.Ytadfleopbpomfaa
open Go.RowKit
attribute [local go_sem] Oper.semAt_some
def sepK (k : Int) : Bool := k == 11 || k == 10
theorem sep_dark (k : Int) (h : lightK k = true) : sepK k = false := by
 cases hs : sepK k with
 | false => rfl
 | true =>
  have : k = 11 ∨ k = 10 := by simpa [sepK] using hs
  rcases this with rfl | rfl
  ·exact absurd h (by decide)
  ·exact absurd h (by decide)
theorem base_end (chars : List Int) {t : Nat} (ht : t ≤ chars.length) : baseAt chars t t = true := by
 rw [baseAt, stopL_at ht (.inl (Nat.le_refl _))]; simp
theorem base_step {chars : List Int} {t k : Nat} (ht : t ≤ chars.length) (hk : k < t) :
 baseAt chars t k = (sepK (cls (chars.getD k 0)) || (baseAt chars t (k + 1) && lightK (cls (chars.getD k 0)))) := by
 cases hl : lightK (cls (chars.getD k 0)) with
 | true =>
  rw [sep_dark _ hl, Bool.false_or, Bool.and_true, baseAt, baseAt, stopL_step ht hk hl]
 | false =>
  rw [Bool.and_false, Bool.or_false, baseAt, stopL_at ht (.inr hl)]
  have : (k == t) = false := by simp; omega
  rw [this, Bool.false_or, sepK]
def stepB (base : Int) (s : Bool × List Int) (x : Nat × Int) : Bool × List Int :=
 let b := sepK (cls x.2) || (s.1 && lightK (cls x.2))
 (b, if b then s.2.set x.1 base else s.2)
def runB (base : Int) (M : List Int) (pre : List (Nat × Int)) : Bool × List Int := pre.foldl (stepB base) (true, M)
theorem runB_snoc (base : Int) (M : List Int) (pre : List (Nat × Int)) (x : Nat × Int) : runB base M (pre ++ [x]) = stepB base (runB base M pre) x := by simp [runB, List.foldl_append]
theorem runB_length (base : Int) (M : List Int) (pre : List (Nat × Int)) : (runB base M pre).2.length = M.length := by
 unfold runB
 suffices h : ∀ (pre : List (Nat × Int)) (s : Bool × List Int), (pre.foldl (stepB base) s).2.length = s.2.length from h pre _
 intro pre
 induction pre with
 | nil => intro s; rfl
 | cons x pre ih =>
  intro s
  rw [List.foldl_cons, ih]
  unfold stepB
  dsimp only
  split <;> simp
theorem mix_back {l l' : List Int} (hl : l'.length = l.length) {k : Nat} (hk : k < l.length) : (mixL l l' (k + 1)).set k (l.getD k 0) = mixL l l' k := by
 unfold mixL
 have h1 : l'.take (k + 1) = l'.take k ++ [l'[k]] := take_snoc l' k (by omega)
 rw [h1, List.append_assoc, List.set_append_right _ _ (by rw [List.length_take]; omega), List.length_take, show k - min k l'.length = 0 by omega]
 rw [List.singleton_append, List.set_cons_zero, getD_at hk, ← List.drop_eq_getElem_cons hk]
theorem runB_at {chars levels : List Int} (base : Int) {f t : Nat} (hft : f ≤ t) (ht : t ≤ chars.length) (htl : t ≤ levels.length) : ∀ j, j ≤ t - f →
 runB base ((levels.drop f).take (t - f)) (bwTo ((chars.drop f).take (t - f)) j) = (baseAt chars t (t - j), mixL (lineL chars levels base f t) ((levels.drop f).take (t - f)) (t - f - j))
 | 0, _ => by
  show (true, _) = _
  rw [Nat.sub_zero, Nat.sub_zero, base_end chars ht, mixL_end (by rw [cut_length htl, lineL_length]) (by rw [lineL_length]; exact Nat.le_refl _)]
 | j + 1, hj => by
  have hcl : ((chars.drop f).take (t - f)).length = t - f := cut_length ht
  have hkt : t - f - 1 - j < t - f := by omega
  have e1 : bwAt ((chars.drop f).take (t - f)) j = (t - f - 1 - j, chars.getD (t - (j + 1)) 0) := by
   rw [bwAt, hcl, cut_at ht hkt, show f + (t - f - 1 - j) = t - (j + 1) by omega]
  rw [bwTo_succ, runB_snoc, runB_at base hft ht htl j (by omega), e1]
  have e2 := base_step ht (k := t - (j + 1)) (by omega)
  rw [show t - (j + 1) + 1 = t - j by omega] at e2
  unfold stepB
  dsimp only
  rw [← e2]
  have hlen : ((levels.drop f).take (t - f)).length = (lineL chars levels base f t).length := by rw [cut_length htl, lineL_length]
  have e3 := lineL_at chars levels base (f := f) (t := t) hkt
  rw [show f + (t - f - 1 - j) = t - (j + 1) by omega] at e3
  have e4 := cut_at htl hkt (levels := levels)
  rw [show f + (t - f - 1 - j) = t - (j + 1) by omega] at e4
  have hk2 : t - f - 1 - j < (lineL chars levels base f t).length := by rw [lineL_length]; exact hkt
  rw [show t - f - j = t - f - 1 - j + 1 by omega, show t - f - (j + 1) = t - f - 1 - j by omega]
  cases hb : baseAt chars t (t - (j + 1)) with
  | true =>
   rw [hb, if_pos rfl] at e3
   have := mix_back hlen hk2
   rw [e3] at this
   rw [if_pos rfl, this]
  | false =>
   rw [hb] at e3
   rw [if_neg (by simp), ← mix_stay hlen hk2 (by rw [e3, e4, if_neg (by simp)])]
theorem Own.under {u u' : World} {B C : Nat} {e : TypeId} {v : Value} {xs : List Value} (h : Own u B e v xs) (hb : Below C u u') (hv : ∀ g, v.ownBlock = some g → g < C) : Own u' B e v xs := by
 refine ⟨h.1, ?_⟩
 rcases h.2 with h2 | ⟨g, cap, cur, rfl, hg, h3, r⟩
 ·exact .inl h2
 ·exact .inr ⟨g, cap, cur, rfl, hg, by rw [hb.block g (hv g rfl)]; exact h3, r⟩
structure LnI (a q B : Nat) (base : Int) (v : Value) (CU : List Int) (w w5 : World) (pre : List (Nat × Int)) (u : World) : Prop where
 size : w5.heap.size ≤ u.heap.size
 old : Below w.heap.size w u
 cb : u.cell? ⟨a, 0, none⟩ = some (.int .i64 base)
 co : u.cell? ⟨q, 0, none⟩ = some v
 ce : Boxed u (q + 1) 4 (.bool (runB base CU pre).1)
 row : Own u B 3 v (ints .i64 (runB base CU pre).2)
theorem LnI.under {a q B : Nat} {base : Int} {v : Value} {CU : List Int} {w w5 : World} {pre : List (Nat × Int)} {u u' : World} {C : Nat} (h : LnI a q B base v CU w w5 pre u) (hb : Below C u u') (hq : q + 1 < C) (ha : a < C) (hw : w.heap.size ≤ C) (hv : ∀ g, v.ownBlock = some g → g < C) : LnI a q B base v CU w w5 pre u' :=
 ⟨Nat.le_trans h.size hb.size, h.old.trans (hb.mono hw), (hb.cell (p := ⟨a, 0, none⟩) ha).trans h.cb, (hb.cell (p := ⟨q, 0, none⟩) (by show q < C; omega)).trans h.co, (hb.block _ hq).trans h.ce, h.row.under hb hv⟩
theorem lnI_from {a q B : Nat} {base : Int} {v : Value} {CU : List Int} {w w5 : World} {α : Type} {g : α → List (Nat × Int)} (hq : q + 1 < w5.heap.size) (ha : a < w5.heap.size) (hw : w.heap.size ≤ w5.heap.size) (hv : ∀ g, v.ownBlock = some g → g < w5.heap.size) :
 OwnFrom w5.heap.size (fun (pre : α) u => LnI a q B base v CU w w5 (g pre) u) := fun _ _ _ _ hs hg hr =>
 hs.under ((Below.refl _ _).grown hg hs.size (fun k e => (hr k e).1)) hq ha hw hv
theorem LnI.mark {a q B : Nat} {base : Int} {v : Value} {CU : List Int} {w w5 : World} {pre : List (Nat × Int)} {u : World} (h : LnI a q B base v CU w w5 pre u) (hq : w.heap.size ≤ q) (ha : a < q) (hv : ∀ g, v.ownBlock = some g → g < q) (x : Nat × Int) (b : Bool)
 (hst : stepB base (runB base CU pre) x = (b, (runB base CU pre).2)) : LnI a q B base v CU w w5 (pre ++ [x]) (u.setCell ⟨q + 1, 0, none⟩ (.bool b)) := by
 have h1 : Below (q + 1) u (u.setCell ⟨q + 1, 0, none⟩ (.bool b)) := (Below.refl _ _).setCell (p := ⟨q + 1, 0, none⟩) (Nat.le_refl _) _
 refine ⟨Nat.le_trans h.size h1.size, h.old.trans (h1.mono (by omega)), (h1.cell (p := ⟨a, 0, none⟩) (by show a < q + 1; omega)).trans h.cb, (h1.cell (p := ⟨q, 0, none⟩) (by show q < q + 1; omega)).trans h.co, ?_, ?_⟩
 ·rw [runB_snoc, hst]; exact h.ce.set _
 ·rw [runB_snoc, hst]; exact h.row.under h1 fun g hg => by have := hv g hg; omega
theorem LnI.put {a q B : Nat} {base : Int} {n c g z : Nat} {CU M : List Int} {w w5 : World} {pre : List (Nat × Int)} {u : World} (h : LnI a q B base (.slice (some ⟨g, 0, none⟩) z c) CU w w5 pre u) (hq : w.heap.size ≤ q) (ha : a < q) (hg : g < q) (hag : a < g) (hwg : w.heap.size ≤ g) (hM : (runB base CU pre).2 = M) (hz : M.length = z) (x : Nat × Int)
 (hst : stepB base (runB base CU pre) x = (true, M.set n base)) : LnI a q B base (.slice (some ⟨g, 0, none⟩) z c) CU w w5 (pre ++ [x]) ((u.setCell ⟨q + 1, 0, none⟩ (.bool true)).setCell ⟨g, n, none⟩ (.int .i64 base)) := by
 subst hz
 have h1 : Below (q + 1) u (u.setCell ⟨q + 1, 0, none⟩ (.bool true)) := (Below.refl _ _).setCell (p := ⟨q + 1, 0, none⟩) (Nat.le_refl _) _
 have h2 : Below g (u.setCell ⟨q + 1, 0, none⟩ (.bool true)) ((u.setCell ⟨q + 1, 0, none⟩ (.bool true)).setCell ⟨g, n, none⟩ (.int .i64 base)) := (Below.refl _ _).setCell (p := ⟨g, n, none⟩) (Nat.le_refl _) _
 have h3 : ∀ k, k ≠ g → ((u.setCell ⟨q + 1, 0, none⟩ (.bool true)).setCell ⟨g, n, none⟩ (.int .i64 base)).heap[k]? = (u.setCell ⟨q + 1, 0, none⟩ (.bool true)).heap[k]? := fun k hk => Below.heap_setCell _ _ _ _ hk
 have hr := h.row
 rw [hM] at hr
 have hr1 : Row (u.setCell ⟨q + 1, 0, none⟩ (.bool true)) B 3 g c (ints .i64 M) := by
  have := hr.under h1 fun g' e => by cases e; show g < q + 1; omega
  unfold Row
  rw [show (ints IntKind.i64 M).length = M.length by simp [ints]]
  exact this
 refine ⟨Nat.le_trans h.size (Nat.le_trans h1.size h2.size), (h.old.trans (h1.mono (by omega))).trans (h2.mono hwg), ?_, ?_, ?_, ?_⟩
 ·exact (h2.cell (p := ⟨a, 0, none⟩) hag).trans ((h1.cell (p := ⟨a, 0, none⟩) (by show a < q + 1; omega)).trans h.cb)
 ·exact (World.cell?_of_block (a := ⟨q, 0, none⟩) (h3 q (by omega))).trans ((h1.cell (p := ⟨q, 0, none⟩) (by show q < q + 1; omega)).trans h.co)
 ·rw [runB_snoc, hst]; exact (h3 (q + 1) (by omega)).trans (h.ce.set _)
 ·rw [runB_snoc, hst]
  have := hr1.set n (.int .i64 base)
  rw [ints_set] at this
  have hl : (ints IntKind.i64 (M.set n base)).length = M.length := by simp [ints]
  unfold Row at this
  rw [hl] at this
  exact this
theorem cut_lies {A : Option Addr} {l : List Int} {c f n B : Nat} {u : World} (hc : l.length ≤ c) (h : Lies u B A (ints .i64 l)) : Lies u B (if c = f then A else Option.map (fun x => x.add f) A) (ints .i64 ((l.drop f).take n)) := by
 refine Lies.short ?_ _
 by_cases hfl : f < l.length
 ·have h1 := h.dropIf f c hc
  obtain ⟨b, off, hA, _, _⟩ := h.plainInts (by omega)
  rw [if_neg (by omega)] at h1 ⊢
  rw [hA] at h1 ⊢
  show Lies u B (some ((⟨b, off, none⟩ : Addr).add f)) _
  rw [add_plain]
  exact h1
 ·rw [List.drop_of_length_le (by omega)]
  exact Lies.empty
set_option maxRecDepth 100000 in
set_option maxHeartbeats 4000000 in
theorem nlevels13_ok (A : Option Addr) (chars : List Int) (c : Nat) (A' : Option Addr) (levels : List Int) (c' : Nat) (base : Int) (f t : Nat) (w : World) (h : Lies w w.heap.size A (ints .i64 chars)) (h' : Lies w w.heap.size A' (ints .i64 levels))
 (he : chars.length = levels.length) (hl : chars.length ≤ 1000) (hcc : chars.length ≤ c) (hc : levels.length ≤ c') (hft : f ≤ t) (ht : t ≤ chars.length) :
 Calls Try.prog 18 #[.slice A chars.length c, .slice A' levels.length c', .int .i64 base, .agg #[.int .i64 (f : Int), .int .i64 (t : Int)]] w fun ed w' => Rowed w w.heap.size 3 (ints .i64 (lineL chars levels base f t)) ed w' := by
 obtain ⟨wa, hwa⟩ : ∃ u, w.alloc (.cells #[.int .i64 base] 3) = u := ⟨_, rfl⟩
 obtain ⟨w0, hw0⟩ : ∃ u, wa.alloc (.cells #[.int .i64 (f : Int), .int .i64 (t : Int)] 29) = u := ⟨_, rfl⟩
 have hsz : wa.heap.size = w.heap.size + 1 := by rw [← hwa]; simp
 have hsz0 : w0.heap.size = w.heap.size + 2 := by rw [← hw0]; simp [hsz]
 have BA : Below w.heap.size w wa := hwa ▸ below_alloc w _
 have DA : Below wa.heap.size wa w0 := hw0 ▸ below_alloc wa _
 have B0 : Hid (Below w.heap.size w w0) := Lib.hid (below_then BA DA)
 have SA : Hid (∀ u, Below w0.heap.size w0 u → u.cell? ⟨w.heap.size, 0, none⟩ = some (.int .i64 base)) := Lib.hid fun u hu => boxed (hwa ▸ below_then DA hu) rfl
 have SB : Hid (∀ u, Below w0.heap.size w0 u → u.cell? ⟨w.heap.size + 1, 0, none⟩ = some (.int .i64 (f : Int)) ∧ u.cell? ⟨w.heap.size + 1, 1, none⟩ = some (.int .i64 (t : Int))) := Lib.hid fun u hu => by
  rw [← hsz]
  exact ⟨boxed (hw0 ▸ hu) rfl, boxed (hw0 ▸ hu) rfl⟩
 have HW0 := Lib.hid hw0
 have HWA := Lib.hid hwa
 have H := Lib.hid (h.up B0.out)
 have H' := Lib.hid (h'.up B0.out)
 have HT := Lib.hid ht
 have HE := Lib.hid he
 have HSZ := Lib.hid hsz0
 have hne : ((levels.length : Int) != (chars.length : Int)) = false := by simp [he]
 have hw : withinL (f : Int) (t : Int) (chars.length : Int) = true := by simp [withinL]; omega
 obtain ⟨s0, s1⟩ := SB.out w0 (Below.refl _ _)
 have s2 := SA.out w0 (Below.refl _ _)
 have hll : levels.length ≤ 1000 := by omega
 have htl : t ≤ levels.length := by omega
 have f0 : (0 : Int) ≤ (f : Int) := by omega
 have f1 : (f : Int) ≤ (t : Int) := by omega
 have t1 : (t : Int) ≤ (c' : Int) := by omega
 have t2 : (t : Int) ≤ (c : Int) := by omega
 have t0 : (0 : Int) ≤ (t : Int) := by omega
 clear h h' hw0 hwa ht he BA DA hsz hsz0
 refine (callsIn_wide (n := 3)).1 ?_
 refine callsIn_of_wp_marks Try.func18 rfl trivial ?_ rfl
 simp only [Try.ntmps18, List.size_toArray, List.length_cons, List.length_nil, Nat.reduceAdd, Nat.reduceSub, Array.replicate_succ, Array.replicate_zero, List.push_toArray, List.append_toArray, List.nil_append, List.cons_append]
 obtain ⟨AD, hAD⟩ : ∃ x, (if c' = f then A' else Option.map (fun x => x.add f) A') = x := ⟨_, rfl⟩
 have HD : Hid (Lies w0 w0.heap.size AD (ints .i64 ((levels.drop f).take (t - f)))) := Lib.hid (by
  rw [← hAD]
  exact cut_lies hc H'.out)
 obtain ⟨AC, hAC⟩ : ∃ x, (if c = f then A else Option.map (fun x => x.add f) A) = x := ⟨_, rfl⟩
 have HC : Hid (Lies w0 w0.heap.size AC (ints .i64 ((chars.drop f).take (t - f)))) := Lib.hid (by
  rw [← hAC]
  exact cut_lies hcc H.out)
 have HCT : Hid (((levels.drop f).take (t - f)).length = t - f) := Lib.hid (cut_length htl)
 have HCC : Hid (((chars.drop f).take (t - f)).length = t - f) := Lib.hid (cut_length HT.out)
 have d4 : decide (levels.length < t) = false := by simp; omega
 have d5 : decide (t < f) = false := by simp; omega
 have d6 : decide (chars.length < t) = false := by have := HT.out; simp; omega
 have g1 : ¬ t < f := by omega
 have g2 : ¬ c' < t := by omega
 have g3 : ¬ c < t := by omega
 gi_wp2_with (refine ⟨trivial, ?_⟩; gi_at_call 26; refine (callsIn_wide.2 (nwithin_any (f : Int) (t : Int) (chars.length : Int) _)).mono ?_; rintro e w1 ⟨rfl, b1⟩; rw [hw]; rw [HWA.out, HW0.out] at b1; have B1 := Lib.hid b1; obtain ⟨s3, s4⟩ := SB.out w1 b1; clear b1)
 have hcl := clone_any AD ((levels.drop f).take (t - f)) (c' - f) w1 (HD.out.up B1.out) (by rw [HCT.out]; omega)
 rw [HCT.out] at hcl
 have HCL := Lib.hid hcl
 clear hcl
 gi_wp2_with (refine ⟨trivial, ?_⟩; gi_at_call 27; refine (callsIn_wide.2 HCL.out).mono ?_; rintro e w2 ⟨v2, rfl, o2, b2⟩; obtain ⟨A2, c2, hv2, -, -, -⟩ := o2.form; rw [ints, List.length_map, HCT.out] at hv2; subst hv2; have O2 := Lib.hid o2; have B2 := Lib.hid b2; have B12 := Lib.hid (below_then B1.out b2); obtain ⟨s5, s6⟩ := SB.out w2 B12.out; have D4 : Below w2.heap.size w2 ((w2.alloc (.cells #[.slice A2 (t - f) c2] 22)).alloc (.cells #[.bool true] 4)) := ((Below.refl _ _).alloc (Nat.le_refl _) _).alloc (by simp) _; obtain ⟨s7, s8⟩ := SB.out _ (B12.out.trans (D4.mono B12.out.size)); clear o2 b2 s0 s1 s2 s3 s4 hAD d4 g2 D4)
 have BK := Lib.hid (Own.inside O2.out)
 obtain ⟨q, hq⟩ : ∃ q, w2.heap.size = q := ⟨_, rfl⟩
 obtain ⟨w4, hw4⟩ : ∃ z, (w2.alloc (.cells #[.slice A2 (t - f) c2] 22)).alloc (.cells #[.bool true] 4) = z := ⟨_, rfl⟩
 obtain ⟨w5, hw5⟩ : ∃ z, w4.alloc (.cells #[.slice AC (t - f) (c - f)] 22) = z := ⟨_, rfl⟩
 have hs4 : w4.heap.size = q + 2 := by rw [← hw4, ← hq]; simp
 have hs5 : w5.heap.size = q + 3 := by rw [← hw5]; simp [hs4]
 have D4 : Below w2.heap.size w2 w4 := by rw [← hw4]; exact ((Below.refl _ _).alloc (Nat.le_refl _) _).alloc (by simp) _
 have D5 : Below w4.heap.size w4 w5 := hw5 ▸ below_alloc w4 _
 have b5c := (Boxed.new w4 22 (.slice AC (t - f) (c - f)))
 rw [hw5, hs4] at b5c
 have b4c : Boxed w4 (q + 1) 4 (.bool true) := by
  have := Boxed.new (w2.alloc (.cells #[.slice A2 (t - f) c2] 22)) 4 (.bool true)
  rw [World.size_alloc, hw4, hq] at this
  exact this
 have b3c : w5.cell? ⟨q, 0, none⟩ = some (.slice A2 (t - f) c2) := by
  have h3 := ((Boxed.new w2 22 (.slice A2 (t - f) c2)).alloc (.cells #[.bool true] 4)).alloc (.cells #[.slice AC (t - f) (c - f)] 22)
  rw [hw4, hw5, hq] at h3
  exact h3.cell
 have b4d : Boxed w5 (q + 1) 4 (.bool true) := by rw [← hw5]; exact b4c.alloc _
 have D25 : Below w2.heap.size w2 w5 := D4.trans (D5.mono D4.size)
 have B5 : Below w0.heap.size w0 w5 := B12.out.trans (D25.mono B12.out.size)
 have sb := SA.out w5 B5
 have hq0 : w.heap.size + 2 ≤ q := by have := HSZ.out; have := B12.out.size; omega
 have hO5 : Own w5 w1.heap.size 3 (.slice A2 (t - f) c2) (ints .i64 ((levels.drop f).take (t - f))) := O2.out.below D25 (Nat.le_refl _)
 have hBW : Below w.heap.size w w5 := below_then B0.out B5
 have hS : SeqStopsK Fence.wide 2 Try.prog 34 #[.pointer (some ⟨q + 2, 0, none⟩)] (fun x : {x : Nat × Int // x.1 < t - f} => #[Value.int .i64 (x.1.1 : Int), Value.int .i64 x.1.2]) (KB w0.heap.size (q + 2)) (fun ys => ys.map Subtype.val = bwTo ((chars.drop f).take (t - f)) (t - f))
  (fun pre => ∃ j, j ≤ t - f ∧ pre.map Subtype.val = bwTo ((chars.drop f).take (t - f)) j) (t - f) w5 := by
  have := bwK_stops (fun x : Nat × Int => x.1 < t - f) Fence.wide 2 trivial rfl (by omega) (q + 2) w0.heap.size (c - f) AC ((chars.drop f).take (t - f)) (by rw [HCC.out]; omega) w5 (by omega) B5.size (by rw [HCC.out]; exact b5c.cell) (HC.out.below B5)
   (fun k hk => by rw [HCC.out] at hk; show ((chars.drop f).take (t - f)).length - 1 - k < t - f; rw [HCC.out]; omega)
  rw [HCC.out] at this
  exact this
 rw [hw4, hq]
 gi_wp2_with (refine ⟨trivial, ?_⟩; gi_at_call 28; refine (bw_in Fence.wide _ trivial rfl _ _ _ _).mono ?_; rintro e w' ⟨rfl, rfl⟩; rw [hs4, hw5])
 obtain ⟨CU, hCU⟩ : ∃ x, (levels.drop f).take (t - f) = x := ⟨_, rfl⟩
 have HBW := Lib.hid hBW
 have HB5 := Lib.hid B5
 have HS5 := Lib.hid hs5
 have HQ0 := Lib.hid hq0
 have hCL : CU.length = t - f := by rw [← hCU]; exact HCT.out
 have HCL := Lib.hid hCL
 rw [hCU] at hO5
 have HCU := Lib.hid hCU
 have BK' : Hid (∀ g, (Value.slice A2 (t - f) c2).ownBlock = some g → w1.heap.size ≤ g ∧ g < q) := Lib.hid fun g hg => by have := BK.out g hg; omega
 have HB1 : Hid (w0.heap.size ≤ w1.heap.size) := Lib.hid B1.out.size
 clear hCU hCL
 refine wpIn_rangeFunc_ownG rfl (by omega) (gf := 34) (lb := #[.pointer (some ⟨q + 2, 0, none⟩)]) rfl trivial (enters_of Try.func34 (by kernel_rfl) rfl)
  hS kb_t (kb_b B5.size (by omega)) (Below.refl _ _) (fun _ => rfl)
  (fun pre u => LnI w.heap.size q w1.heap.size base (.slice A2 (t - f) c2) CU w w5 (pre.map Subtype.val) u)
  (fun _ _ _ => False)
  (lnI_from (by omega) (by omega) (by omega) (fun g hg => by have := (BK.out g hg).2; omega)) (fun _ _ _ _ _ h _ _ => h.elim)
  ⟨Nat.le_refl _, hBW, sb, b3c, b4d, hO5⟩
  (fun x => { tmps := #[.slice A chars.length c, .slice A' levels.length c', .int .i64 base, .agg #[.int .i64 (f : Int), .int .i64 (t : Int)], undef, undef, .pointer (some ⟨w.heap.size, 0, none⟩), .pointer (some ⟨w.heap.size + 1, 0, none⟩), .slice none 0 0,
   .pointer (some ⟨q, 0, none⟩), .pointer (some ⟨q + 1, 0, none⟩), .int .i64 (x.1.1 : Int), .int .i64 x.1.2, undef, .slice A' levels.length c', .int .i64 (levels.length : Int), .slice A chars.length c, .int .i64 (chars.length : Int), .bool false, .bool false,
   .agg #[.int .i64 (f : Int), .int .i64 (t : Int)], .slice A chars.length c, .int .i64 (chars.length : Int), .bool true, .bool false, .bool false, .slice A' levels.length c', .pointer (some ⟨w.heap.size + 1, 0, none⟩), .int .i64 (f : Int), .pointer (some ⟨w.heap.size + 1, 1, none⟩), .int .i64 (t : Int),
   .slice AD (t - f) (c' - f), .slice A2 (t - f) c2, .slice A chars.length c, .pointer (some ⟨w.heap.size + 1, 0, none⟩), .int .i64 (f : Int), .pointer (some ⟨w.heap.size + 1, 1, none⟩), .int .i64 (t : Int), .slice AC (t - f) (c - f),
   .func (.func 34) #[] #[.pointer (some ⟨q + 2, 0, none⟩)], .int .i64 (x.1.1 : Int), .int .i64 x.1.2, undef, undef, undef, undef, undef, undef, undef, undef, undef, undef, undef, undef, undef, undef, undef, undef, undef], defers := [] }) ?assign ?body ?done ?stop
 case assign =>
  intro l x W K hK
  gi_wp2
  exact hK
 case body =>
  rintro l0 pre ⟨⟨n, y⟩, hx⟩ u HI _
  clear hS D4 D5 D25 b3c b4c b4d b5c hO5 hs4 hs5 hBW B5 sb hq hw4 hw5 s5 s6 s7 s8 hq0 d5 d6 g1 g3 t1 t2 f0 f1 t0 hne hw hAC hll htl
  have hx' : n < t - f := hx
  obtain ⟨P, hP⟩ : ∃ P, pre.map Subtype.val = P := ⟨_, rfl⟩
  have HPE : Hid ((pre ++ [(⟨(n, y), hx⟩ : {x : Nat × Int // x.1 < t - f})]).map Subtype.val = P ++ [(n, y)]) := Lib.hid (by rw [List.map_append, hP]; rfl)
  rw [hP] at HI
  have hRL : (runB base CU P).2.length = t - f := by rw [runB_length, HCL.out]
  obtain ⟨e, he⟩ : ∃ e, (runB base CU P).1 = e := ⟨_, rfl⟩
  obtain ⟨M, hM⟩ : ∃ M, (runB base CU P).2 = M := ⟨_, rfl⟩
  rw [hM] at hRL
  have hrow := HI.row
  rw [hM] at hrow
  obtain ⟨g, c3, hv, R⟩ := hrow.inRow (by rw [ints, List.length_map, hRL]; omega)
  have hg := BK'.out g (by rw [hv]; rfl)
  injection hv with hvA hvn hvc
  clear hvn
  subst hvA
  subst hvc
  have hcb := HI.cb
  have hco := HI.co
  have hce := HI.ce.cell
  have hfe := HI.ce.frozen
  rw [he] at hce
  obtain ⟨k, hk⟩ : ∃ k, cls y = k := ⟨_, rfl⟩
  have HK := Lib.hid hk
  have HST : Hid (stepB base (runB base CU P) (n, y) = (sepK k || (e && lightK k), if (sepK k || (e && lightK k)) = true then M.set n base else M)) := Lib.hid (by rw [stepB, hk, he, hM])
  have HM := Lib.hid hM
  have HLI := Lib.hid HI
  have HR := Lib.hid R
  have HG := Lib.hid hg
  have HRL := Lib.hid hRL
  have he' := he
  clear hP hM he hk hrow R hg hRL HI
  have n0 : (0 : Int) ≤ (n : Int) := by omega
  have n1 : (n : Int) < ((t - f : Nat) : Int) := by omega
  have HST1 : Hid ((runB base CU P).1 = e) := Lib.hid he'
  have HQW : Hid (w.heap.size + 2 ≤ w1.heap.size) := Lib.hid (by have := HSZ.out; have := HB1.out; omega)
  have HU : Hid (q + 3 ≤ u.heap.size) := Lib.hid (by have := HLI.out.size; have := HS5.out; omega)
  -- what a later world that is still in this round's state reads
  have HFX : Hid (∀ z : World, LnI w.heap.size q w1.heap.size base (.slice (some ⟨g, 0, none⟩) (t - f) c2) CU w w5 P z →
   z.cell? ⟨w.heap.size, 0, none⟩ = some (.int .i64 base) ∧ z.cell? ⟨q, 0, none⟩ = some (.slice (some ⟨g, 0, none⟩) (t - f) c2) ∧ z.cell? ⟨q + 1, 0, none⟩ = some (.bool e) ∧ z.frozen? ⟨q + 1, 0, none⟩ = false ∧
   (z.setCell ⟨q + 1, 0, none⟩ (.bool true)).cell? ⟨g, n, none⟩ = some (.int .i64 (M.getD n 0)) ∧ z.frozen? ⟨g, n, none⟩ = false ∧
   (z.setCell ⟨q + 1, 0, none⟩ (.bool true)).cell? ⟨w.heap.size, 0, none⟩ = some (.int .i64 base) ∧ (z.setCell ⟨q + 1, 0, none⟩ (.bool true)).cell? ⟨q, 0, none⟩ = some (.slice (some ⟨g, 0, none⟩) (t - f) c2)) := Lib.hid fun z hz => by
   have hr := hz.row
   rw [HM.out] at hr
   have hr2 : Row z w1.heap.size 3 g c2 (ints .i64 M) := by
    unfold Row
    rw [show (ints IntKind.i64 M).length = t - f by rw [ints, List.length_map, HRL.out]]
    exact hr
   have h1 : Below (q + 1) z (z.setCell ⟨q + 1, 0, none⟩ (.bool true)) := (Below.refl _ _).setCell (p := ⟨q + 1, 0, none⟩) (Nat.le_refl _) _
   refine ⟨hz.cb, hz.co, by rw [← HST1.out]; exact hz.ce.cell, hz.ce.frozen, ?_, hr2.free n, (h1.cell (p := ⟨w.heap.size, 0, none⟩) (by have := HQ0.out; show w.heap.size < q + 1; omega)).trans hz.cb, (h1.cell (p := ⟨q, 0, none⟩) (by show q < q + 1; omega)).trans hz.co⟩
   rw [h1.cell (p := ⟨g, n, none⟩) (by have := HG.out; show g < q + 1; omega), hr2.cell (j := n) (by rw [ints, List.length_map, HRL.out]; omega), getD_at (by rw [HRL.out]; omega)]
   simp [ints]
  have HLX : Hid (∀ z : World, Below u.heap.size u z → LnI w.heap.size q w1.heap.size base (.slice (some ⟨g, 0, none⟩) (t - f) c2) CU w w5 P z) := Lib.hid fun z hz =>
   HLI.out.under hz (by have := HU.out; omega) (by have := HU.out; have := HQ0.out; omega) (by have := HU.out; have := HQ0.out; omega) (fun g' hg' => by have := HU.out; have := (BK'.out g' hg').2; omega)
  have BLK : Hid (∀ (z : World) (v1 : Value), (z.setCell ⟨q + 1, 0, none⟩ v1).heap[q + 2]? = z.heap[q + 2]? ∧ ∀ v2 : Value, ((z.setCell ⟨q + 1, 0, none⟩ v1).setCell ⟨g, n, none⟩ v2).heap[q + 2]? = z.heap[q + 2]?) := Lib.hid fun z v1 =>
   ⟨Below.heap_setCell _ _ _ _ (by show q + 2 ≠ q + 1; omega), fun v2 => (Below.heap_setCell _ _ _ _ (by have := HG.out; show q + 2 ≠ g; omega)).trans (Below.heap_setCell _ _ _ _ (by show q + 2 ≠ q + 1; omega))⟩
  have BW : Hid (∀ (z : World) (v1 : Value), Below w0.heap.size z (z.setCell ⟨q + 1, 0, none⟩ v1) ∧ ∀ v2 : Value, Below w0.heap.size z ((z.setCell ⟨q + 1, 0, none⟩ v1).setCell ⟨g, n, none⟩ v2)) := Lib.hid fun z v1 => by
   have h1 : Below w0.heap.size z (z.setCell ⟨q + 1, 0, none⟩ v1) := (Below.refl _ _).setCell (p := ⟨q + 1, 0, none⟩) (by have := HB1.out; have := HG.out; show w0.heap.size ≤ q + 1; omega) _
   exact ⟨h1, fun v2 => h1.setCell (p := ⟨g, n, none⟩) (by have := HB1.out; have := HG.out; show w0.heap.size ≤ g; omega) _⟩
  -- the two ways a round ends
  have FM : Hid (∀ (z : World) (b : Bool), LnI w.heap.size q w1.heap.size base (.slice (some ⟨g, 0, none⟩) (t - f) c2) CU w w5 P z → stepB base (runB base CU P) (n, y) = (b, M) → LnI w.heap.size q w1.heap.size base (.slice (some ⟨g, 0, none⟩) (t - f) c2) CU w w5 (P ++ [(n, y)]) (z.setCell ⟨q + 1, 0, none⟩ (.bool b))) := Lib.hid fun z b hz hb =>
   hz.mark (by have := HQ0.out; omega) (by have := HQ0.out; omega) (fun g' hg' => (BK'.out g' hg').2) (n, y) b (by rw [HM.out]; exact hb)
  have FP : Hid (∀ z : World, LnI w.heap.size q w1.heap.size base (.slice (some ⟨g, 0, none⟩) (t - f) c2) CU w w5 P z → stepB base (runB base CU P) (n, y) = (true, M.set n base) → LnI w.heap.size q w1.heap.size base (.slice (some ⟨g, 0, none⟩) (t - f) c2) CU w w5 (P ++ [(n, y)]) ((z.setCell ⟨q + 1, 0, none⟩ (.bool true)).setCell ⟨g, n, none⟩ (.int .i64 base))) := Lib.hid fun z hz hb =>
   hz.put (by have := HQ0.out; omega) (by have := HQ0.out; omega) HG.out.2 (by have := HG.out; have := HQW.out; omega) (by have := HG.out; have := HQW.out; omega) HM.out HRL.out (n, y) hb
  clear he' hcb hco hce hfe
  obtain ⟨hcb, hco, hce, hfe, hcg, hfg, hcb3, hco3⟩ := HFX.out u HLI.out
  rcases hs : sepK k with _ | _
  ·rcases e with _ | _
   ·have HS2 : Hid (stepB base (runB base CU P) (n, y) = (false, M)) := Lib.hid (by rw [HST.out, hs]; rfl)
    gi_wp2_with (refine ⟨trivial, ?_⟩; gi_at_call 29; refine (CallsIn.inRound l0 (callsIn_wide.2 (of_any y u))).mono ?_; rintro e w' ⟨rfl, rfl⟩; rw [HK.out])
    gi_wp2_with (refine ⟨trivial, ?_⟩; gi_at_call 30; refine (CallsIn.inRound l0 (callsIn_wide.2 (nseparates_any k u))).mono ?_; rintro e w' ⟨rfl, rfl⟩; rw [show (k == 11 || k == 10) = false from hs])
    refine ⟨trivial, ?_⟩
    gi_wp2
    refine ⟨(KeepsOthers.setCell _ _ _).from _, ⟨(BW.out _ _).1, (BLK.out _ _).1⟩, ?_⟩
    dsimp only
    rw [HPE.out]
    exact FM.out _ _ HLI.out HS2.out
   ·rcases hlk : lightK k with _ | _
    ·have HS2 : Hid (stepB base (runB base CU P) (n, y) = (false, M)) := Lib.hid (by rw [HST.out, hs, hlk]; rfl)
     gi_wp2_with (refine ⟨trivial, ?_⟩; gi_at_call 29; refine (CallsIn.inRound l0 (callsIn_wide.2 (of_any y u))).mono ?_; rintro e w' ⟨rfl, rfl⟩; rw [HK.out])
     gi_wp2_with (refine ⟨trivial, ?_⟩; gi_at_call 30; refine (CallsIn.inRound l0 (callsIn_wide.2 (nseparates_any k u))).mono ?_; rintro e w' ⟨rfl, rfl⟩; rw [show (k == 11 || k == 10) = false from hs])
     gi_wp2_with (refine ⟨trivial, ?_⟩; gi_at_call 31; refine (CallsIn.inRound l0 (callsIn_wide.2 (nwhite_any k u))).mono ?_; rintro e u1 ⟨rfl, b1⟩; rw [hlk]; have X1 := Lib.hid (HLX.out u1 b1); have B1u := Lib.hid b1; obtain ⟨hcb1, hco1, hce1, hfe1, hcg1, hfg1, hcb2, hco2⟩ := HFX.out u1 X1.out; clear b1)
     refine ⟨(KeepsFrom.of_grownBy (grown_of_below B1u.out none) (by simp)).trans ((KeepsOthers.setCell _ _ _).from _), ⟨(B1u.out.mono (by have := HU.out; have := HB1.out; have := HG.out; omega)).trans (BW.out _ _).1, ((BLK.out _ _).1).trans (B1u.out.block _ (by have := HU.out; omega))⟩, ?_⟩
     dsimp only
     rw [HPE.out]
     exact FM.out _ _ X1.out HS2.out
    ·have HS2 : Hid (stepB base (runB base CU P) (n, y) = (true, M.set n base)) := Lib.hid (by rw [HST.out, hs, hlk]; rfl)
     gi_wp2_with (refine ⟨trivial, ?_⟩; gi_at_call 29; refine (CallsIn.inRound l0 (callsIn_wide.2 (of_any y u))).mono ?_; rintro e w' ⟨rfl, rfl⟩; rw [HK.out])
     gi_wp2_with (refine ⟨trivial, ?_⟩; gi_at_call 30; refine (CallsIn.inRound l0 (callsIn_wide.2 (nseparates_any k u))).mono ?_; rintro e w' ⟨rfl, rfl⟩; rw [show (k == 11 || k == 10) = false from hs])
     gi_wp2_with (refine ⟨trivial, ?_⟩; gi_at_call 31; refine (CallsIn.inRound l0 (callsIn_wide.2 (nwhite_any k u))).mono ?_; rintro e u1 ⟨rfl, b1⟩; rw [hlk]; have X1 := Lib.hid (HLX.out u1 b1); have B1u := Lib.hid b1; obtain ⟨hcb1, hco1, hce1, hfe1, hcg1, hfg1, hcb2, hco2⟩ := HFX.out u1 X1.out; clear b1)
     refine ⟨((KeepsFrom.of_grownBy (grown_of_below B1u.out none) (by simp)).trans ((KeepsOthers.setCell _ _ _).from _)).trans ((KeepsOthers.setCell _ _ _).from _), ⟨(B1u.out.mono (by have := HU.out; have := HB1.out; have := HG.out; omega)).trans ((BW.out _ _).2 _), ((BLK.out _ _).2 _).trans (B1u.out.block _ (by have := HU.out; omega))⟩, ?_⟩
     dsimp only
     rw [HPE.out]
     exact FP.out _ X1.out HS2.out
  ·have HS2 : Hid (stepB base (runB base CU P) (n, y) = (true, M.set n base)) := Lib.hid (by rw [HST.out, hs]; rfl)
   gi_wp2_with (refine ⟨trivial, ?_⟩; gi_at_call 29; refine (CallsIn.inRound l0 (callsIn_wide.2 (of_any y u))).mono ?_; rintro e w' ⟨rfl, rfl⟩; rw [HK.out])
   gi_wp2_with (refine ⟨trivial, ?_⟩; gi_at_call 30; refine (CallsIn.inRound l0 (callsIn_wide.2 (nseparates_any k u))).mono ?_; rintro e w' ⟨rfl, rfl⟩; rw [show (k == 11 || k == 10) = true from hs])
   ·rename_i b h1 h2
    exact absurd (Option.some.inj h1) (by unfold undef; exact Value.noConfusion)
   all_goals
    refine ⟨trivial, ?_⟩
    gi_wp2
    refine ⟨((KeepsOthers.setCell _ _ _).from _).trans ((KeepsOthers.setCell _ _ _).from _), ⟨(BW.out _ _).2 _, (BLK.out _ _).2 _⟩, ?_⟩
    dsimp only
    rw [HPE.out]
    exact FP.out _ HLI.out HS2.out
 case done =>
  rintro D ys u hD hys HI hK
  rw [hys] at HI
  have HLI := Lib.hid HI
  have HK := Lib.hid hK
  have HD := Lib.hid hD
  have hco := HI.co
  clear HI hK hD hS D4 D5 D25 b3c b4c b4d b5c hO5 hs4 hs5 hBW B5 sb hq hw4 hw5 s5 s6 s7 s8 hq0 d5 d6 g1 g3 t1 t2 f0 f1 t0 hne hw hAC hys
  gi_wp2
  have hD5 := HD.out
  have hbd : Below w5.heap.size u (u.putObj D (.deferred none)) := belowK_b (w := w5) (Nat.le_refl _) u D _ _ (by have := HS5.out; omega) HK.out rfl rfl
  have hrow := HLI.out.row.under hbd fun g' hg' => by have := (BK'.out g' hg').2; have := HS5.out; omega
  have hfin := runB_at (chars := chars) (levels := levels) base hft HT.out (by have := HE.out; have := HT.out; omega) (t - f) (Nat.le_refl _)
  rw [HCU.out, Nat.sub_self, mixL_zero] at hfin
  rw [hfin] at hrow
  refine ⟨by simp, .inl ⟨_, _, rfl, run_takeDeferred HK.out, ?_⟩⟩
  refine ⟨.slice A2 (t - f) c2, ?_, ⟨_, rfl, hrow.weaken (by have := HSZ.out; have := HB1.out; omega), HLI.out.old.trans (hbd.mono (by have := HS5.out; have := HQ0.out; omega))⟩⟩
  simp [results, Try.f18, go_sem]
 case stop =>
  rintro D c0 pre u hD _ hf
  exact hf.elim
set_option maxHeartbeats 2000000 in
theorem nlevels13_any (A : Option Addr) (chars : List Int) (c : Nat) (A' : Option Addr) (levels : List Int) (c' : Nat) (base F T : Int) (w : World) (h : Lies w w.heap.size A (ints .i64 chars)) (h' : Lies w w.heap.size A' (ints .i64 levels))
 (hl : chars.length ≤ 1000) (hcc : chars.length ≤ c) (hc : levels.length ≤ c') :
 Calls Try.prog 18 #[.slice A chars.length c, .slice A' levels.length c', .int .i64 base, .agg #[.int .i64 F, .int .i64 T]] w fun ed w' => Rowed w w.heap.size 3 (ints .i64 (levelsL chars levels base F T)) ed w' := by
 by_cases hok : chars.length = levels.length ∧ 0 ≤ F ∧ F ≤ T ∧ T ≤ (chars.length : Int)
 ·rw [levelsL, if_pos hok]
  obtain ⟨he, h0, hft, ht⟩ := hok
  obtain ⟨f, rfl⟩ : ∃ f : Nat, F = (f : Int) := ⟨F.toNat, by omega⟩
  obtain ⟨t, rfl⟩ : ∃ t : Nat, T = (t : Int) := ⟨T.toNat, by omega⟩
  exact nlevels13_ok A chars c A' levels c' base f t w h h' he hl hcc hc (by omega) (by omega)
 ·rw [levelsL, if_neg hok]
  obtain ⟨wa, hwa⟩ : ∃ u, w.alloc (.cells #[.int .i64 base] 3) = u := ⟨_, rfl⟩
  obtain ⟨w0, hw0⟩ : ∃ u, wa.alloc (.cells #[.int .i64 F, .int .i64 T] 29) = u := ⟨_, rfl⟩
  have hsz : wa.heap.size = w.heap.size + 1 := by rw [← hwa]; simp
  have BA : Below w.heap.size w wa := hwa ▸ below_alloc w _
  have DA : Below wa.heap.size wa w0 := hw0 ▸ below_alloc wa _
  have B0 : Hid (Below w.heap.size w w0) := Lib.hid (below_then BA DA)
  have s0 : w0.cell? ⟨w.heap.size + 1, 0, none⟩ = some (.int .i64 F) := by rw [← hsz]; exact hw0 ▸ boxed (Below.refl _ _) rfl
  have s1 : w0.cell? ⟨w.heap.size + 1, 1, none⟩ = some (.int .i64 T) := by rw [← hsz]; exact hw0 ▸ boxed (Below.refl _ _) rfl
  have HW := Lib.hid hw0
  have HWA := Lib.hid hwa
  have HOK := Lib.hid hok
  clear h h' hw0 hwa hok BA DA hsz
  rcases hne : ((levels.length : Int) != (chars.length : Int)) with _ | _
  ·have hw : Hid (withinL F T (chars.length : Int) = false) := Lib.hid (by
    have := HOK.out
    cases hq : withinL F T (chars.length : Int) with
    | false => rfl
    | true =>
     simp [withinL] at hq
     simp at hne
     exact absurd ⟨by omega, hq.1, hq.2.1, hq.2.2⟩ this)
   go_enter Try.func18, Try.ntmps18
   go_upto_region 1 with fail
   rw [HWA.out, HW.out]
   go_wp2_with fail
   refine (nwithin_any F T (chars.length : Int) w0).mono ?_
   rintro e w1 ⟨rfl, b1⟩
   have B1 := Lib.hid (below_then B0.out b1)
   rw [hw.out]
   clear b1
   go_wp2
   go_ret
   exact ⟨_, rfl, Own.empty _ _ _, B1.out⟩
  ·go_enter Try.func18, Try.ntmps18
   go_upto_region 1 with fail
   rw [HWA.out, HW.out]
   go_wp2
   go_ret
   exact ⟨_, rfl, Own.empty _ _ _, B0.out⟩
end Go.Proofs.Ytadfleopbpomfaa
namespace Go.Proofs.Ytadfleopbpomfaa
open Go.RowKit
theorem eq_sp (x y : Int) (w : World) : (Op.equalIn 10000 29 (.agg #[.int .i64 x, .int .i64 y]) (.agg #[.int .i64 x, .int .i64 y])).run Try.prog w = .ok true w := by
 have u3 := Try.underlying3
 have a3 := Try.isAgg3
 have z3 := Try.sizeOf3
 rw [show (10000 : Nat) = 9998 + 1 + 1 from rfl, run_equalIn_struct w (9998 + 1) 29 _ _ (by kernel_rfl) (by kernel_rfl)]
 have hu := Try.underlying29
 simp only [Program.fieldsOf, hu]
 go_simp
theorem alive_le13 : linesE [2, 5] 5 = [(0, 2), (2, 5)] := by decide +kernel
theorem alive_lr13 : linesR [2, 5] 5 = 0 := by decide +kernel
theorem alive_nr13 : linesR [2, 2] 2 = 3 := by decide +kernel
theorem alive_lv13 : levelsL [0x5d0, 32, 9, 32, 0x2069] [1, 1, 1, 1, 1] 0 0 5 = [1, 0, 0, 0, 0] := by decide +kernel
theorem alive_of13 : lineOf [2, 5] 2 = 1 := by decide +kernel
theorem alive_wr13 : wrapI 5 2 = [2, 4, 5] := by decide +kernel
theorem alive_ri13 : rightI [] 0 = true := by decide +kernel
set_option maxRecDepth 20000 in
set_option maxHeartbeats 4000000 in
theorem lnalive_any (w : World) : Calls Try.prog 8 #[] w fun e w' => e = .returned (.bool true) ∧ Below w.heap.size w w' := by
 go_enter Try.func8, Try.ntmps8
 go_wp2_with fail
 refine (nlines13_any _ [2, 5] _ 5 _ (Lies.litUp (w := w) (e := 3) #[.int .i64 2, .int .i64 5]) (by decide)).mono ?_
 rintro e w1 ⟨v1, rfl, o1, b1⟩
 rw [alive_le13] at o1
 rw [alive_lr13]
 obtain ⟨A1, c1, rfl, l1, -, -⟩ := o1.form
 have B1 := Lib.hid (below_then (below_alloc _ _) b1)
 obtain ⟨g, off, rfl, hg, p0, p1⟩ := prC_at (j := 1) l1 (by decide)
 have PC : Hid (∀ u, Below w1.heap.size w1 u → u.cell? ⟨g, off + 2, none⟩ = some (.int .i64 2) ∧ u.cell? ⟨g, off + 3, none⟩ = some (.int .i64 5)) :=
  Lib.hid fun u hu => ⟨by rw [hu.cell hg]; simpa using p0, by rw [hu.cell hg]; simpa using p1⟩
 clear o1 b1 l1 p0 p1
 go_wp2_with fail
 refine (nlines13_any _ [2, 2] _ 2 _ (Lies.litUp (w := w1) (e := 3) #[.int .i64 2, .int .i64 2]) (by decide)).mono ?_
 rintro e w2 ⟨v2, rfl, o2, b2⟩
 rw [alive_nr13]
 have D2 := Lib.hid (below_then (below_alloc w1 (.cells #[.int .i64 2, .int .i64 2] 3)) b2)
 have B2 := Lib.hid (below_then B1.out D2.out)
 obtain ⟨q0, q1⟩ := PC.out w2 D2.out
 clear o2 b2
 go_wp2_with fail
 obtain ⟨wa, hwa⟩ : ∃ u, w2.alloc (.cells #[.int .i64 1488, .int .i64 32, .int .i64 9, .int .i64 32, .int .i64 8297] 3) = u := ⟨_, rfl⟩
 have LA : Lies wa wa.heap.size (some ⟨w2.heap.size, 0, none⟩) (ints .i64 [1488, 32, 9, 32, 8297]) := hwa ▸ Lies.litUp (w := w2) (e := 3) #[.int .i64 1488, .int .i64 32, .int .i64 9, .int .i64 32, .int .i64 8297]
 have BA : Below w2.heap.size w2 wa := hwa ▸ below_alloc w2 _
 rw [hwa]
 have hsz : w2.heap.size + 1 = wa.heap.size := by rw [← hwa]; simp
 rw [hsz]
 refine (nlevels13_any _ [1488, 32, 9, 32, 8297] _ _ [1, 1, 1, 1, 1] 5 0 0 5 _ (LA.up (below_alloc _ _)) (Lies.litUp (w := wa) (e := 3) #[.int .i64 1, .int .i64 1, .int .i64 1, .int .i64 1, .int .i64 1]) (by decide) (by decide) (by decide)).mono ?_
 rintro e w3 ⟨v3, rfl, o3, b3⟩
 rw [alive_lv13] at o3
 obtain ⟨A3, c3, rfl, l3, -, -⟩ := o3.form
 have D3 := Lib.hid (below_then BA (below_then (below_alloc _ _) b3))
 have B3 := Lib.hid (below_then B2.out D3.out)
 have L3 := Lib.hid l3
 have E2 : w2.heap.size ≤ w3.heap.size := D3.out.size
 obtain ⟨q0, q1⟩ := PC.out w3 (below_then D2.out D3.out)
 have heq := fun u => eq_sp 2 5 u
 clear hwa LA BA hsz o3 b3 l3
 go_wp2_with fail
 clear q0 q1 heq
 refine (ints_ok A3 _ [1, 0, 0, 0, 0] c3 _ _ (L3.out.up (below_alloc _ _)) (Lies.litUp #[.int .i64 1, .int .i64 0, .int .i64 0, .int .i64 0, .int .i64 0]) (by decide)).mono ?_
 rintro e w4 ⟨rfl, b4⟩
 have B4 := Lib.hid (below_then B3.out (below_then (below_alloc w3 (.cells #[.int .i64 1, .int .i64 0, .int .i64 0, .int .i64 0, .int .i64 0] 3)) b4))
 clear b4
 go_wp2_with fail
 refine (nof13_any _ [2, 5] _ 2 _ (Lies.litUp (w := w4) (e := 3) #[.int .i64 2, .int .i64 5]) (by decide) (by decide)).mono ?_
 rintro e w5 ⟨rfl, b5⟩
 rw [alive_of13]
 have B5 := Lib.hid (below_then B4.out (below_then (below_alloc w4 (.cells #[.int .i64 2, .int .i64 5] 3)) b5))
 clear b5
 go_wp2_with fail
 refine (nwrap13_any 5 2 w5).mono ?_
 rintro e w6 ⟨v6, rfl, o6, b6⟩
 rw [alive_wr13] at o6
 obtain ⟨A6, c6, rfl, l6, -, -⟩ := o6.form
 have B6 := Lib.hid (below_then B5.out b6)
 have L6 := Lib.hid l6
 clear o6 b6 l6
 go_wp2_with fail
 refine (ints_ok A6 _ [2, 4, 5] c6 _ _ (L6.out.up (below_alloc _ _)) (Lies.litUp #[.int .i64 2, .int .i64 4, .int .i64 5]) (by decide)).mono ?_
 rintro e w7 ⟨rfl, b7⟩
 have B7 := Lib.hid (below_then B6.out (below_then (below_alloc w6 (.cells #[.int .i64 2, .int .i64 4, .int .i64 5] 3)) b7))
 clear b7
 go_wp2_with fail
 refine (nright13_any none [] 0 0 w7 Lies.empty (by decide)).mono ?_
 rintro e w8 ⟨rfl, b8⟩
 rw [alive_ri13]
 have B8 := Lib.hid (below_then B7.out b8)
 clear b8
 go_wp2
 go_ret
 exact ⟨rfl, B8.out⟩
end Go.Proofs.Ytadfleopbpomfaa
namespace Go.Proofs.Ytadfleopbpomfaa
open Go.RowKit
def mulB (v j : Nat) : List Int := (List.range j).map fun i => (((i + 1) * v : Nat) : Int)
theorem mul_snoc (v j : Nat) : mulB v (j + 1) = mulB v j ++ [(((j + 1) * v : Nat) : Int)] := by simp [mulB, List.range_succ]
theorem wrap_mul (m v : Nat) (hv : 1 ≤ v) : ∀ j, j * v < m → wrapN m v (j * v) = mulB v j
 | 0, _ => by rw [Nat.zero_mul]; rfl
 | j + 1, h => by
  have h' : j * v < m := Nat.lt_of_le_of_lt (Nat.mul_le_mul_right _ (Nat.le_succ j)) h
  rw [wrapN_mul m v j hv h, wrap_mul m v hv j h', mul_snoc]
theorem div_facts (m v : Nat) (hm : 1 ≤ m) (hv : 1 ≤ v) : (m - 1) / v * v < m ∧ m ≤ ((m - 1) / v + 1) * v := by
 have h1 := Nat.div_mul_le_self (m - 1) v
 have h2 := Nat.lt_div_mul_add (a := m - 1) (b := v) (by omega)
 rw [Nat.add_mul, Nat.one_mul]
 omega
theorem wrap_form (m v : Nat) (hm : 1 ≤ m) (hm4 : m ≤ 4000) (hv : 1 ≤ v) : wrapI m v = mulB v ((m - 1) / v) ++ [(m : Int)] := by
 obtain ⟨h1, h2⟩ := div_facts m v hm hv
 rw [wrapI, if_neg (by omega), Int.toNat_natCast, wrapN_last m v _ h1 h2, wrap_mul m v hv _ h1]
theorem rises_mulB (v : Nat) (hv : 1 ≤ v) : ∀ j, risesFrom 0 (mulB v j) = true ∧ lastB (mulB v j) 0 = ((j * v : Nat) : Int)
 | 0 => ⟨rfl, by rw [Nat.zero_mul]; rfl⟩
 | j + 1 => by
  obtain ⟨h1, h2⟩ := rises_mulB v hv j
  rw [mul_snoc, rises_snoc, h1, h2, lastB_snoc]
  refine ⟨?_, rfl⟩
  rw [Bool.true_and]
  refine decide_eq_true ?_
  rw [Nat.add_mul]
  omega
theorem wrap_right (m v : Nat) (hm : 1 ≤ m) (hm4 : m ≤ 4000) (hv : 1 ≤ v) : rightI (wrapI m v) m = true := by
 obtain ⟨h1, -⟩ := div_facts m v hm hv
 obtain ⟨h3, h4⟩ := rises_mulB v hv ((m - 1) / v)
 rw [wrap_form m v hm hm4 hv, rightI, rises_snoc, h3, h4, lastB_snoc]
 simp only [Bool.true_and, Bool.and_eq_true, decide_eq_true_eq, beq_self_eq_true, and_true]
 omega
theorem begin_nonneg {l : List Int} (h : risesFrom 0 l = true) : ∀ k, k ≤ l.length → 0 ≤ beginI l k
 | 0, _ => by rw [beginI, if_pos rfl]; exact Int.le_refl _
 | k + 1, hk => by
  have h1 := begin_nonneg h k (by omega)
  have h2 := begin_lt h (k := k) (by omega)
  rw [begin_succ]
  omega
theorem right_span {l : List Int} {n : Int} (h : rightI l n = true) {k : Nat} (hk : k < l.length) : ∃ a x : Nat, beginI l k = (a : Int) ∧ l.getD k 0 = (x : Int) ∧ a < x ∧ (x : Int) ≤ n := by
 rw [rightI, Bool.and_eq_true] at h
 have h0 := begin_nonneg h.1 k (by omega)
 have h1 := begin_lt h.1 hk
 have h2 := breaks_le h.1 (i := k) (j := l.length - 1) (by omega) (by omega)
 have h3 : lastB l 0 = n := by simpa using h.2
 rw [← last_get, h3] at h2
 exact ⟨(beginI l k).toNat, (l.getD k 0).toNat, by omega, by omega, by omega, by omega⟩
theorem wrap_right0 (m v : Nat) (hm4 : m ≤ 4000) (hv : 1 ≤ v) : rightI (wrapI m v) m = true := by
 by_cases h : m = 0
 ·subst h; rw [wrapI, if_pos (.inl (by decide))]; rfl
 ·exact wrap_right m v (by omega) hm4 hv
theorem wrap_le (m v : Nat) : (wrapI m v).length ≤ m := by
 rw [wrapI]
 split
 ·exact Nat.zero_le _
 ·rw [Int.toNat_natCast]; exact wrapN_le _ _ _
end Go.Proofs.Ytadfleopbpomfaa
