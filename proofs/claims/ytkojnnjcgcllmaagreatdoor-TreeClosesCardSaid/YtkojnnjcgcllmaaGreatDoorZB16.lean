/- Shared texts, shaken for one claim. -/
import Derived.Test.YtkojnnjcgcllmaaGreatDoorZB15
namespace Go.Proofs.YtkojnnjcgcllmaaGreatDoor
open Go.RowKit
structure KidsAt (w : World) (lo : Nat) (ov : Value) (ks : List Nd) : Prop where
 ex : ∃ vs : List (Array Value), vs.length = ks.length ∧ OwnN w lo 35 5 ov ks.length (vs.flatMap Array.toList) ∧ ∀ (i : Nat) (h1 : i < vs.length) (h2 : i < ks.length), Treed w (fun x => lo ≤ x ∧ x < w.heap.size ∧ ov.ownBlock ≠ some x) ks[i] vs[i]
section
variable {w w1 w' : World} {lo b : Nat} {ov v' : Value} {ks : List Nd} {n : Nd} {v : Array Value}
theorem KidsAt.empty (w : World) (lo : Nat) : KidsAt w lo (.slice none 0 0) [] := ⟨[], rfl, OwnN.empty _ _ _ _, fun i h1 => by simp at h1⟩
theorem KidsAt.grown (h : KidsAt w lo ov ks) {row : Option Nat} (hg : w.grownBy w' row) (hr : ∀ g, row = some g → g < lo) : KidsAt w' lo ov ks := by
 obtain ⟨vs, h0, ho, hk⟩ := h.ex
 refine ⟨vs, h0, ho.keep hg ?_, fun i h1 h2 => ((hk i h1 h2).grown hg ?_).mono ?_⟩
 ·rcases hv : ov.ownBlock with _ | g
  ·exact .inl rfl
  ·refine .inr fun e => ?_
   have := (ho.inside g hv).1
   have := hr g e.symm
   omega
 ·intro x hx e
  have := hr x e
  omega
 ·intro x hx
  exact ⟨hx.1, Nat.lt_of_lt_of_le hx.2.1 hg.size, hx.2.2⟩
theorem KidsAt.push {vs : List (Array Value)} {lit : Obj} (h0 : vs.length = ks.length) (ho : OwnN w lo 35 5 ov ks.length (vs.flatMap Array.toList)) (hk : ∀ (i : Nat) (h1 : i < vs.length) (h2 : i < ks.length), Treed w1 (fun x => lo ≤ x ∧ x < w1.heap.size ∧ ov.ownBlock ≠ some x) ks[i] vs[i])
 (_ : w.heap.size ≤ w1.heap.size) (hlo : lo ≤ w.heap.size) (t : Treed w1 (Fresh w w1) n v) (o : OwnN w' lo 35 5 v' (ks.length + 1) (vs.flatMap Array.toList ++ v.toList)) (g : (w1.alloc lit).grownBy w' ov.ownBlock) (e : v'.ownBlock = ov.ownBlock ∨ ∃ q, v'.ownBlock = some q ∧ (w1.alloc lit).heap.size ≤ q) : KidsAt w' lo v' (ks ++ [n]) := by
 have hsz : w1.heap.size ≤ w'.heap.size := by have := g.size; simp at this; omega
 have hne : ∀ x, x < w1.heap.size → ov.ownBlock ≠ some x → v'.ownBlock ≠ some x := fun x hx hne => by
  rcases e with e | ⟨q, e, hq⟩
  ·rw [e]; exact hne
  ·rw [e]; intro e2; injection e2 with e2; simp at hq; omega
 have hnew : ∀ x, w.heap.size ≤ x → ov.ownBlock ≠ some x := fun x hx e2 => by
  have := (ho.inside x e2).2
  omega
 refine ⟨vs ++ [v], by simp [h0], by simpa using o, fun i h1 h2 => ?_⟩
 by_cases hi : i < vs.length
 ·rw [List.getElem_append_left hi, List.getElem_append_left (by omega)]
  refine (((hk i hi (by omega)).grown (grown_new w1 lit none) (fun x _ e => by cases e)).grown g fun x hx e2 => hx.2.2 e2).mono fun x hx => ⟨hx.1, by omega, hne x hx.2.1 hx.2.2⟩
 ·have : i = vs.length := by simp at h1; omega
  subst this
  rw [List.getElem_append_right (Nat.le_refl _), List.getElem_append_right (by omega)]
  simp only [Nat.sub_self, List.getElem_cons_zero, h0]
  refine ((t.grown (grown_new w1 lit none) (fun x _ e => by cases e)).grown g fun x hx e2 => hnew x hx.1 e2).mono fun x hx => ⟨Nat.le_trans hlo hx.1, Nat.lt_of_lt_of_le hx.2 hsz, hne x hx.2 (hnew x hx.1)⟩
theorem KidsAt.tree (h : KidsAt w lo ov ks) (kind : Int) : ∃ A c, ov = .slice A ks.length c ∧ Treed w (fun x => lo ≤ x ∧ x < w.heap.size) (.mk kind 0 0 [] ks) #[.int .i64 kind, .slice none 0 0, .int .i64 0, .int .i64 0, .slice A ks.length c] := by
 obtain ⟨vs, h0, ho, hk⟩ := h.ex
 obtain ⟨A, c, hv, hc, hl⟩ := LiesP.own (P := fun x => lo ≤ x ∧ x < w.heap.size) ho (fun x h1 h2 _ => ⟨h1, h2⟩)
 exact ⟨A, c, hv, .mk (rs := []) vs LiesP.none (by decide) h0 hl hc fun i h1 h2 => (hk i h1 h2).mono fun x hx => ⟨hx.1, hx.2.1⟩⟩
end
def TogTo (w : World) (lo : Nat) (n : Nd) (ed : Ending) (w' : World) : Prop :=
 ∃ v, ed = .returned (.agg v) ∧ Treed w' (fun x => lo ≤ x ∧ x < w'.heap.size) n v ∧ w.grownBy w' none
set_option maxRecDepth 20000 in
set_option maxHeartbeats 4000000 in
theorem together_any (w : World) (lo : Nat) (kind : Int) (ov : Value) (ks : List Nd) (h : KidsAt w lo ov ks) (_ : lo ≤ w.heap.size) :
 Calls Tryz.prog 48 #[.int .i64 kind, ov] w (TogTo w lo (togT kind ks)) := by
 obtain ⟨A, c, rfl, ht⟩ := h.tree kind
 have HT := Lib.hid ht
 obtain ⟨w0, hw0⟩ : ∃ u, w.alloc (.cells #[.int .i64 0, .slice none 0 0, .int .i64 0, .int .i64 0, .slice none 0 0] 35) = u := ⟨_, rfl⟩
 have G0 : Hid (w.grownBy w0 none) := Lib.hid (hw0 ▸ grown_new w _ none)
 have X0 : Hid (Box w0 w.heap.size ndZero 35) := Lib.hid (hw0 ▸ Box.new w _ _)
 have HFIN : Hid (∀ (w1 : World) (n : Nd) (v : Array Value), Treed w (fun x => lo ≤ x ∧ x < w.heap.size) n v → w0.grownBy w1 (some w.heap.size) → Treed w1 (fun x => lo ≤ x ∧ x < w1.heap.size) n v ∧ w.grownBy w1 none) := Lib.hid fun w1 n v t g => by
  refine ⟨((t.grown G0.out (fun x _ e => by cases e)).grown g (fun x hx e => by injection e with e; omega)).mono fun x hx => ⟨hx.1, Nat.lt_of_lt_of_le hx.2 (Nat.le_trans G0.out.size g.size)⟩, grown_two G0.out g (Nat.le_refl _)⟩
 subst hw0
 clear ht
 rcases ks with _ | ⟨n, _ | ⟨m, ns⟩⟩
 ·have HE : Hid (Treed w (fun x => lo ≤ x ∧ x < w.heap.size) (.mk 1 0 0 [] []) #[.int .i64 1, .slice none 0 0, .int .i64 0, .int .i64 0, .slice none 0 0]) := Lib.hid (.mk (rs := []) (ks := []) [] LiesP.none (by decide) rfl LiesP.none (by decide) fun i h1 => by simp at h1)
  clear h
  go_enter Tryz.func48, Tryz.ntmps48
  go_wp2_with (first
   | (refine store_nd _ _ _ w.heap.size ndZero #[.int .i64 1, .slice none 0 0, .int .i64 0, .int .i64 0, .slice none 0 0] rfl rfl rfl rfl rfl X0.out rfl rfl (by simp [Value.oneCell']) ?_; intro w1 x1 g1; have X1 := Lib.hid x1; have F1 := Lib.hid (HFIN.out w1 _ _ HE.out g1); clear x1 g1)
   | fail)
  (try simp only [Exit.inBlock, Exit.then])
  exact bodyPost_ret (v := .agg _) (ret_nd rfl _ _ w.heap.size _ rfl rfl X1.out) rfl ⟨_, rfl, F1.out.1, F1.out.2⟩
 ·obtain ⟨vs, h0, ho, hk⟩ := h.ex
  obtain ⟨v, rfl⟩ : ∃ v, vs = [v] := by
   rcases vs with _ | ⟨v, _ | ⟨v', vs⟩⟩
   ·simp at h0
   ·exact ⟨v, rfl⟩
   ·simp at h0
  have hn := hk 0 (by simp) (by simp)
  simp only [List.getElem_cons_zero] at hn
  have HN : Hid (Treed w (fun x => lo ≤ x ∧ x < w.heap.size) n v) := Lib.hid (hn.mono fun x hx => ⟨hx.1, hx.2.1⟩)
  obtain ⟨k1, Ar, nr, cr, lo1, hi1, Ak, nk, ck, rfl⟩ := hn.form
  obtain ⟨g, c', hv, -, -, hgl, hcell⟩ := ho.block (by simp)
  injection hv with hA _ _
  subst hA
  have hkc : ∀ i, (w.alloc (.cells #[.int .i64 0, .slice none 0 0, .int .i64 0, .int .i64 0, .slice none 0 0] 35)).cell? ⟨g, i, none⟩ = w.cell? ⟨g, i, none⟩ := fun i => World.cell?_of_block (a := ⟨g, i, none⟩) (G0.out.block g hgl (by simp))
  have q0 := (hkc 0).trans (hcell 0 (by simp))
  have q1 := (hkc 1).trans (hcell 1 (by simp))
  have q2 := (hkc 2).trans (hcell 2 (by simp))
  have q3 := (hkc 3).trans (hcell 3 (by simp))
  have q4 := (hkc 4).trans (hcell 4 (by simp))
  simp only [List.flatMap_cons, List.flatMap_nil, List.append_nil, List.getElem?_cons_zero, List.getElem?_cons_succ] at q0 q1 q2 q3 q4
  clear h ho hk hn hcell hkc h0
  show Calls Tryz.prog 48 #[.int .i64 kind, .slice (some ⟨g, 0, none⟩) 1 c] w (TogTo w lo n)
  go_enter Tryz.func48, Tryz.ntmps48
  go_wp2_with (first
   | (refine store_nd _ _ _ w.heap.size ndZero #[.int .i64 k1, .slice Ar nr cr, .int .i64 lo1, .int .i64 hi1, .slice Ak nk ck] rfl rfl rfl rfl rfl X0.out rfl rfl (by simp [Value.oneCell']) ?_; intro w1 x1 g1; have X1 := Lib.hid x1; have F1 := Lib.hid (HFIN.out w1 _ _ HN.out g1); clear x1 g1)
   | fail)
  (try simp only [Exit.inBlock, Exit.then])
  exact bodyPost_ret (v := .agg _) (ret_nd rfl _ _ w.heap.size _ rfl rfl X1.out) rfl ⟨_, rfl, F1.out.1, F1.out.2⟩
 ·have hl : (n :: m :: ns).length = ns.length + 2 := rfl
  rw [hl] at HT ⊢
  obtain ⟨z, hz⟩ : ∃ z, ns.length + 2 = z := ⟨_, rfl⟩
  rw [hz] at HT ⊢
  have d0 : ((z : Int) == 0) = false := by simp; omega
  have d1 : ((z : Int) == 1) = false := by simp; omega
  have d2 : (z == 0) = false := by simp; omega
  have d3 : (z == 1) = false := by simp; omega
  clear h hz hl
  show Calls Tryz.prog 48 #[.int .i64 kind, .slice A z c] w (TogTo w lo (.mk kind 0 0 [] (n :: m :: ns)))
  go_enter Tryz.func48, Tryz.ntmps48
  go_wp2_with (first
   | (refine store_nd _ _ _ w.heap.size ndZero #[.int .i64 kind, .slice none 0 0, .int .i64 0, .int .i64 0, .slice A z c] rfl rfl rfl rfl rfl X0.out rfl rfl (by simp [Value.oneCell']) ?_; intro w1 x1 g1; have X1 := Lib.hid x1; have F1 := Lib.hid (HFIN.out w1 _ _ HT.out g1); clear x1 g1)
   | fail)
  (try simp only [Exit.inBlock, Exit.then])
  exact bodyPost_ret (v := .agg _) (ret_nd rfl _ _ w.heap.size _ rfl rfl X1.out) rfl ⟨_, rfl, F1.out.1, F1.out.2⟩
end Go.Proofs.YtkojnnjcgcllmaaGreatDoor
namespace Go.Proofs.YtkojnnjcgcllmaaGreatDoor
open Go.RowKit
theorem grown_below {a b c : World} {row : Option Nat} {B : Nat} (h : a.grownBy b row) (hb : Below B b c) (hB : a.heap.size ≤ B) : a.grownBy c row :=
 ⟨hb.os.trans h.os, hb.tape.trans h.tape, hb.output.trans h.output, Nat.le_trans h.size hb.size, fun k hk hr => (hb.block k (by omega)).trans (h.block k hk hr)⟩
theorem IsT.below {w w' : World} {b B : Nat} {T : List Tok} {f : Int} (h : IsT w b T f) (hb : Below B w w') (hB : b < B) : IsT w' b T f := by
 obtain ⟨A, c, hx, hl, hc⟩ := h.box
 exact ⟨⟨A, c, hx.below hb hB, hl.same (fun q hq => hb.cell (by omega)), hc⟩, h.few⟩
def Shr (pat : List Tok → PR) : Prop := ∀ (T : List Tok) (n : Nd) (R : List Tok), pat T = some (n, R) → R.length ≤ T.length
theorem oneT_shr {pat : List Tok → PR} (hp : Shr pat) {f : Int} {T : List Tok} {n : Nd} {R : List Tok} (h : oneT pat f T = some (n, R)) : R.length < T.length := by
 rcases T with _ | ⟨t, T⟩
 ·cases h
 ·unfold oneT at h
  simp only at h
  by_cases h3 : t.k = 3
  ·rw [if_pos h3] at h
   rcases hq : pat T with _ | ⟨n', R'⟩
   ·rw [hq] at h; cases h
   ·rw [hq] at h
    injection h with h
    injection h with h1 h2
    subst h1 h2
    have h4 := hp T _ _ hq
    have h5 := dropIs_len R' [4]
    simp; omega
  ·rw [if_neg h3] at h
   by_cases h1 : t.k = 1
   ·rw [if_pos h1] at h
    injection h with h
    injection h with e1 e2
    subst e1 e2
    simp
   ·rw [if_neg h1] at h; cases h
theorem rpT_shr {pat : List Tok → PR} (hp : Shr pat) {f : Int} {T : List Tok} {n : Nd} {R : List Tok} (h : rpT pat f T = some (n, R)) : R.length < T.length := by
 obtain ⟨m, S, ho, hf⟩ := rpT_form h
 have h1 := oneT_shr hp ho
 rcases hf with ⟨-, -, rfl⟩ | ⟨t, R', rfl, -, -, rfl⟩
 ·have := dropIs_len S [13]; omega
 ·have := dropIs_len R' [13]; simp at h1; omega
theorem joinL_step {pat : List Tok → PR} {f : Int} {k : Nat} {T : List Tok} {ns : List Nd} {R : List Tok} (h : joinL pat f k T = some (ns, R)) :
 ((T = [] ∨ kindIs T [5, 4] = true) ∧ ns = [] ∧ R = T) ∨ (T ≠ [] ∧ kindIs T [5, 4] = false ∧ ∃ k' n S ms, rpT pat f T = some (n, S) ∧ joinL pat f k' S = some (ms, R) ∧ ns = n :: ms) := by
 rcases k with _ | k
 ·cases h
 ·rw [joinL] at h
  by_cases hc : T = [] ∨ kindIs T [5, 4] = true
  ·rw [if_pos hc] at h
   injection h with h
   injection h with h1 h2
   exact .inl ⟨hc, h1.symm, h2.symm⟩
  ·rw [if_neg hc] at h
   refine .inr ⟨fun e => hc (.inl e), by simpa using fun e => hc (.inr e), ?_⟩
   rcases hr : rpT pat f T with _ | ⟨n, S⟩
   ·rw [hr] at h; cases h
   ·rw [hr] at h
    simp only at h
    rcases hj : joinL pat f k S with _ | ⟨ms, R'⟩
    ·rw [hj] at h; cases h
    ·rw [hj] at h
     injection h with h
     injection h with h1 h2
     subst h2
     exact ⟨k, n, S, ms, rfl, hj, h1.symm⟩
theorem joinL_shr {pat : List Tok → PR} (hp : Shr pat) {f : Int} : ∀ (m : Nat) {k : Nat} {T : List Tok} {ns : List Nd} {R : List Tok}, T.length ≤ m → joinL pat f k T = some (ns, R) → R.length ≤ T.length := by
 intro m
 induction m with
 | zero =>
  intro k T ns R hm h
  rcases joinL_step h with ⟨-, -, rfl⟩ | ⟨hne, -⟩
  ·exact Nat.le_refl _
  ·exact absurd (List.eq_nil_of_length_eq_zero (by omega)) hne
 | succ m ih =>
  intro k T ns R hm h
  rcases joinL_step h with ⟨-, -, rfl⟩ | ⟨-, -, k', n, S, ms, hr, hj, -⟩
  ·exact Nat.le_refl _
  ·have h1 := rpT_shr hp hr
   have h2 := ih (by omega) hj
   omega
theorem orL_step {pat : List Tok → PR} {f : Int} {q k : Nat} {T : List Tok} {ns : List Nd} {R : List Tok} (h : orL pat f q k T = some (ns, R)) :
 (kindIs T [5] = false ∧ ns = [] ∧ R = T) ∨ (kindIs T [5] = true ∧ ∃ k' js S ms, joinL pat f q T.tail = some (js, S) ∧ orL pat f q k' S = some (ms, R) ∧ ns = togT 3 js :: ms) := by
 rcases k with _ | k
 ·cases h
 ·rw [orL] at h
  by_cases hc : kindIs T [5] = true
  ·rw [if_pos hc] at h
   refine .inr ⟨hc, ?_⟩
   unfold joinT at h
   rcases hj : joinL pat f q T.tail with _ | ⟨js, S⟩
   ·rw [hj] at h; cases h
   ·rw [hj] at h
    simp only at h
    rcases ho : orL pat f q k S with _ | ⟨ms, R'⟩
    ·rw [ho] at h; cases h
    ·rw [ho] at h
     injection h with h
     injection h with h1 h2
     subst h2
     exact ⟨k, js, S, ms, rfl, ho, h1.symm⟩
  ·rw [if_neg hc] at h
   injection h with h
   injection h with h1 h2
   exact .inl ⟨by simpa using hc, h1.symm, h2.symm⟩
theorem orL_shr {pat : List Tok → PR} (hp : Shr pat) {f : Int} {q : Nat} : ∀ (m : Nat) {k : Nat} {T : List Tok} {ns : List Nd} {R : List Tok}, T.length ≤ m → orL pat f q k T = some (ns, R) → R.length ≤ T.length := by
 intro m
 induction m with
 | zero =>
  intro k T ns R hm h
  rcases orL_step h with ⟨-, -, rfl⟩ | ⟨hk, -⟩
  ·exact Nat.le_refl _
  ·have : T = [] := List.eq_nil_of_length_eq_zero (by omega)
   rw [this] at hk; cases hk
 | succ m ih =>
  intro k T ns R hm h
  rcases orL_step h with ⟨-, -, rfl⟩ | ⟨hk, k', js, S, ms, hj, ho, -⟩
  ·exact Nat.le_refl _
  ·have h1 := joinL_shr hp _ (Nat.le_refl _) hj
   rcases T with _ | ⟨t, T⟩
   ·cases hk
   ·simp only [List.tail_cons, List.length_cons] at h1 hm ⊢
    have h2 := ih (by omega) ho
    omega
theorem patT_form {f : Int} {q d : Nat} {T : List Tok} {n : Nd} {R : List Tok} (h : patT f q (d + 1) T = some (n, R)) : ∃ js S ms, joinL (patT f q d) f q T = some (js, S) ∧ orL (patT f q d) f q q S = some (ms, R) ∧ n = togT 4 (togT 3 js :: ms) := by
 rw [patT] at h
 unfold joinT at h
 rcases hj : joinL (patT f q d) f q T with _ | ⟨js, S⟩
 ·rw [hj] at h; cases h
 ·rw [hj] at h
  simp only at h
  rcases ho : orL (patT f q d) f q q S with _ | ⟨ms, R'⟩
  ·rw [ho] at h; cases h
  ·rw [ho] at h
   injection h with h
   injection h with h1 h2
   subst h2
   exact ⟨js, S, ms, rfl, ho, h1.symm⟩
theorem patT_shr (f : Int) (q : Nat) : ∀ d, Shr (patT f q d)
 | 0 => fun T n R h => by cases h
 | d + 1 => fun T n R h => by
  obtain ⟨js, S, ms, hj, ho, -⟩ := patT_form h
  have h1 := joinL_shr (patT_shr f q d) _ (Nat.le_refl _) hj
  have h2 := orL_shr (patT_shr f q d) _ (Nat.le_refl _) ho
  omega
set_option maxRecDepth 20000 in
set_option maxHeartbeats 8000000 in
theorem join_any {pat : List Tok → PR} {b : Nat} {f : Int} (HP : PatOk b f pat) (hs : Shr pat) (hgb : 0 < b) (w : World) (T : List Tok) (ns : List Nd) (R : List Tok) (q : Nat) (hT : FoTabs w) (hR : IsT w b T f) (h : joinL pat f q T = some (ns, R)) :
 Calls Tryz.prog 46 #[.pointer (some ⟨b, 0, none⟩)] w (NdTo w b f (togT 3 ns) R) := by
 have HJ0 := Lib.hid h
 have HREP := Lib.hid (fun (u : World) (T : List Tok) (n : Nd) (S : List Tok) h1 h2 h3 => rep_any HP hgb u T n S h1 h2 h3)
 have HSH := Lib.hid (fun (T : List Tok) (n : Nd) (S : List Tok) (h : rpT pat f T = some (n, S)) => rpT_shr hs h)
 have HFEW := Lib.hid hR.few
 have HT := Lib.hid hT
 have HLT := Lib.hid hR.lt
 obtain ⟨w0, hw0⟩ : ∃ u, w.alloc (.cells #[.int .i64 0, .slice none 0 0, .int .i64 0, .int .i64 0, .slice none 0 0] 35) = u := ⟨_, rfl⟩
 have G0 : Hid (w.grownBy w0 none) := Lib.hid (hw0 ▸ grown_new w _ none)
 have X0 : Hid (Box w0 w.heap.size ndZero 35) := Lib.hid (hw0 ▸ Box.new w _ _)
 have HZ0 : Hid (w0.heap.size = w.heap.size + 1) := Lib.hid (by rw [← hw0]; simp)
 have R0 := Lib.hid (hR.up G0.out)
 have HW0 := Lib.hid hw0
 clear hw0 hT hR
 clear HP hs h
 go_enter Tryz.func46, Tryz.ntmps46
 go_wp2_with fail
 rw [HW0.out]
 go_loopw [3] (fun ov wr => ∃ (k : Nat) (T' : List Tok) (ks ns' : List Nd), Hid (joinL pat f k T' = some (ns', R)) ∧ Hid (ks ++ ns' = ns) ∧ Hid (KidsAt wr (w.heap.size + 1) ov ks) ∧ Hid (IsT wr b T' f) ∧ Hid (w.grownBy wr (some b)) ∧ Hid (Box wr w.heap.size ndZero 35) ∧ Hid (w.heap.size + 1 ≤ wr.heap.size) ∧ Hid (ks.length + T'.length ≤ 1000)) (fun _ wr => leftAt b wr)
 case atStart => exact ⟨q, T, [], ns, HJ0, Lib.hid rfl, Lib.hid (KidsAt.empty _ _), R0, Lib.hid (grownBy_none G0.out (some b)), X0, Lib.hid (by have := HZ0.out; omega), Lib.hid (by have := HFEW.out; simp; omega)⟩
 case round =>
  obtain ⟨k, T', ks, ns', HJ, HE, K, Rr, G, X, Z, KL⟩ := hrel
  obtain ⟨A0, c0, hbx, -, -⟩ := Rr.out.box
  have b0 := (hbx.cell (i := 0) rfl : wr.cell? ⟨b, 0, none⟩ = some (.slice A0 T'.length c0))
  clear hbx
  rcases T' with _ | ⟨t, T'⟩
  ·rcases joinL_step HJ.out with ⟨-, rfl, rfl⟩ | ⟨hne, -⟩
   ·have HE2 : Hid (ks = ns) := Lib.hid (by have := HE.out; rwa [List.append_nil] at this)
    have hes := HE2.out
    subst hes
    have HTG := Lib.hid (together_any wr (w.heap.size + 1) 3 _ ks K.out Z.out)
    go_wp2_with fail
    refine HTG.out.mono ?_
    rintro e w8 ⟨v8, rfl, t8, g8⟩
    have h5 := t8.size
    have h51 := t8.one
    have T8 := Lib.hid t8
    have X8 := Lib.hid (X.out.kept g8 (by simp))
    have R8 := Lib.hid (Rr.out.up g8)
    have G8 := Lib.hid (G.out.trans (grownBy_none g8 (some b)))
    clear t8 g8
    go_wp2_with (first
     | (refine store_nd w8 _ _ w.heap.size ndZero v8 rfl rfl rfl rfl rfl X8.out rfl h5 h51 ?_; intro w9 x9 g9; have X9 := Lib.hid x9; have R9 := Lib.hid (R8.out.grown g9 (fun g e => by injection e with e; have := HLT.out; omega)); have G9 := Lib.hid (grown_two G8.out g9 (Nat.le_refl _)); have T9 := Lib.hid (T8.out.grown g9 (fun x hx e => by injection e with e; have := hx.1; omega)); have HZ9 := Lib.hid g9.size; clear x9 g9)
     | fail)
    (try simp only [Exit.inBlock, Exit.then])
    exact bodyPost_ret (v := .agg _) (ret_nd rfl _ _ w.heap.size _ h5 rfl X9.out) rfl ⟨_, rfl, T9.out.mono fun x hx => ⟨by have := hx.1; omega, Nat.lt_of_lt_of_le hx.2 HZ9.out⟩, R9.out, G9.out⟩
   ·exact absurd rfl hne
  ·have hlen : (t :: T').length = T'.length + 1 := rfl
   obtain ⟨nt, hnt⟩ : ∃ nt, (t :: T').length = nt := ⟨_, rfl⟩
   have p0 : (0 : Int) < (nt : Int) := by omega
   have p1 : decide ((0 : Int) < (nt : Int)) = true := decide_eq_true p0
   have p2 : decide (0 < nt) = true := decide_eq_true (by omega)
   rw [hnt] at b0
   have M : wr.grownBy (wr.alloc (.cells #[.int .i64 5, .int .i64 4] 3)) none := grown_new _ _ none
   have HSE := Lib.hid (sees_any (wr.alloc (.cells #[.int .i64 5, .int .i64 4] 3)) b (t :: T') f _ (some ⟨wr.heap.size, 0, none⟩) [5, 4] 2 (Rr.out.up M) (litI wr [5, 4]) (by decide) (by simp))
   have HM := Lib.hid M
   clear M
   rcases joinL_step HJ.out with ⟨hk, rfl, rfl⟩ | ⟨-, hk, k', n, S, ms, hrp, hj, rfl⟩
   ·have hk : kindIs (t :: T') [5, 4] = true := by
     rcases hk with e | e
     ·cases e
     ·exact e
    rw [hk] at HSE
    have HE2 : Hid (ks = ns) := Lib.hid (by have := HE.out; rwa [List.append_nil] at this)
    have hes := HE2.out
    subst hes
    clear hk hnt hlen
    go_wp2_with fail
    refine HSE.out.mono ?_
    rintro e w7 ⟨rfl, g7⟩
    have N7 := Lib.hid (HM.out.trans g7)
    have K := Lib.hid (K.out.grown N7.out (fun g e => by cases e))
    have Rr := Lib.hid (Rr.out.up N7.out)
    have G := Lib.hid (G.out.trans (grownBy_none N7.out (some b)))
    have X := Lib.hid (X.out.kept N7.out (by simp))
    have Z := Lib.hid (Nat.le_trans Z.out N7.out.size)
    clear g7
    have HTG := Lib.hid (together_any w7 (w.heap.size + 1) 3 _ ks K.out Z.out)
    go_wp2_with fail
    refine HTG.out.mono ?_
    rintro e w8 ⟨v8, rfl, t8, g8⟩
    have h5 := t8.size
    have h51 := t8.one
    have T8 := Lib.hid t8
    have X8 := Lib.hid (X.out.kept g8 (by simp))
    have R8 := Lib.hid (Rr.out.up g8)
    have G8 := Lib.hid (G.out.trans (grownBy_none g8 (some b)))
    clear t8 g8
    go_wp2_with (first
     | (refine store_nd w8 _ _ w.heap.size ndZero v8 rfl rfl rfl rfl rfl X8.out rfl h5 h51 ?_; intro w9 x9 g9; have X9 := Lib.hid x9; have R9 := Lib.hid (R8.out.grown g9 (fun g e => by injection e with e; have := HLT.out; omega)); have G9 := Lib.hid (grown_two G8.out g9 (Nat.le_refl _)); have T9 := Lib.hid (T8.out.grown g9 (fun x hx e => by injection e with e; have := hx.1; omega)); have HZ9 := Lib.hid g9.size; clear x9 g9)
     | fail)
    (try simp only [Exit.inBlock, Exit.then])
    exact bodyPost_ret (v := .agg _) (ret_nd rfl _ _ w.heap.size _ h5 rfl X9.out) rfl ⟨_, rfl, T9.out.mono fun x hx => ⟨by have := hx.1; omega, Nat.lt_of_lt_of_le hx.2 HZ9.out⟩, R9.out, G9.out⟩
   ·rw [hk] at HSE
    have HSR := Lib.hid (HSH.out _ _ _ hrp)
    have HRPE := Lib.hid (fun u h1 h2 => HREP.out u (t :: T') n S h1 h2 hrp)
    have HJ2 := Lib.hid hj
    have HEE : Hid ((ks ++ [n]) ++ ms = ns) := Lib.hid (by rw [← HE.out]; simp)
    have HLF : Hid (leftAt b wr = nt) := Lib.hid (by rw [Rr.out.left, hnt])
    have HNT := Lib.hid hnt
    clear hk hrp hj hlen hnt
    go_wp2_with fail
    refine HSE.out.mono ?_
    rintro e w7 ⟨rfl, g7⟩
    have N7 := Lib.hid (HM.out.trans g7)
    have K := Lib.hid (K.out.grown N7.out (fun g e => by cases e))
    have Rr := Lib.hid (Rr.out.up N7.out)
    have G := Lib.hid (G.out.trans (grownBy_none N7.out (some b)))
    have X := Lib.hid (X.out.kept N7.out (by simp))
    have Z := Lib.hid (Nat.le_trans Z.out N7.out.size)
    have HRX := Lib.hid (HRPE.out w7 (HT.out.grown G.out (by omega)) Rr.out)
    clear g7
    go_wp2_with fail
    refine HRX.out.mono ?_
    rintro e w1 ⟨v1, rfl, t1, r1, g1⟩
    obtain ⟨k1, Ar, nr, cr, lo1, hi1, Ak, nk, ck, rfl⟩ := t1.form
    obtain ⟨vs, h0, ho, hk⟩ := K.out.ex
    have HVS : Hid (∀ v ∈ vs, v.size = 5) := Lib.hid fun v hv => by
     obtain ⟨i, hi, rfl⟩ := List.getElem_of_mem hv
     exact (hk i hi (by omega)).size
    have HO1 := Lib.hid (ho.keep g1 (by
     rcases hv : u3.ownBlock with _ | g
     ·exact .inl rfl
     ·exact .inr fun e => by have := (ho.inside g hv).1; have := HLT.out; injection e with e; omega))
    have HK1 := Lib.hid (fun (i : Nat) (h1 : i < vs.length) (h2 : i < ks.length) => ((hk i h1 h2).grown g1 (fun x hx e => by have := hx.1; have := HLT.out; injection e with e; omega)).mono (P' := fun x => w.heap.size + 1 ≤ x ∧ x < w1.heap.size ∧ u3.ownBlock ≠ some x) fun x hx => ⟨hx.1, Nat.lt_of_lt_of_le hx.2.1 g1.size, hx.2.2⟩)
    have HPU := Lib.hid (fun (lit : Obj) (v' : Value) (w' : World) o g e => KidsAt.push (lit := lit) (v' := v') (w' := w') h0 ho HK1.out g1.size Z.out t1 o g e)
    have ZW := Lib.hid (Nat.le_trans Z.out g1.size)
    have R1 := Lib.hid r1
    have G1 := Lib.hid (G.out.trans g1)
    have X1 := Lib.hid (X.out.kept g1 (by have := HLT.out; simp; omega))
    obtain ⟨nn, hnn⟩ : ∃ nn, ks.length = nn := ⟨_, rfl⟩
    rw [hnn] at HO1 HPU
    have hnl : nn ≤ 1001 := by have := KL.out; simp at this; omega
    obtain ⟨A3, c3, hv3, -, -, -⟩ := HO1.out.form
    subst hv3
    clear t1 g1 r1 h0 ho hk hnn HK1
    go_wp2_with (first
     | (at_builtin; refine appN_at ndT w1 _ (w.heap.size + 1) _ _ _ (.slice A3 nn c3) nn 1 (vs.flatMap Array.toList) [.int .i64 k1, .slice Ar nr cr, .int .i64 lo1, .int .i64 hi1, .slice Ak nk ck] _ _ rfl rfl rfl rfl (HO1.out.alloc _) (Lies.lit (w := w1) (e := 35) #[.int .i64 k1, .slice Ar nr cr, .int .i64 lo1, .int .i64 hi1, .slice Ak nk ck]) rfl (by simp [Value.oneCell']) ((Below.refl _ _).alloc ZW.out _) (by have := ZW.out; simp; omega) (by unfold maxLen; omega) (by omega) ?_; intro v2 w2 o2 b2 g2 e2; have K2 := Lib.hid (HPU.out _ v2 w2 o2 g2 e2); have G2 := Lib.hid (grown_below G1.out b2 (Nat.le_succ _)); have X2 := Lib.hid (X1.out.below b2 (Nat.lt_succ_self _)); have R2 := Lib.hid (R1.out.below b2 (by have := HLT.out; omega)); have Z2 := Lib.hid (Nat.le_trans ZW.out b2.size); clear o2 b2 g2 e2)
     | fail)
    go_roundw
    case rel => exact ⟨k', S, ks ++ [n], ms, HJ2, HEE, K2, R2, G2, X2, Z2, Lib.hid (by have := KL.out; have := HSR.out; simp at *; omega)⟩
    case measure => have h1 := R2.out.left; have h2 := HLF.out; have h3 := HSR.out; have h4 := HNT.out; omega
theorem KidsAt.lit {w1 : World} {lo : Nat} {n : Nd} {k1 : Int} {Ar : Option Addr} {nr cr : Nat} {lo1 hi1 : Int} {Ak : Option Addr} {nk ck : Nat} (t : Treed w1 (fun x => lo ≤ x ∧ x < w1.heap.size) n #[.int .i64 k1, .slice Ar nr cr, .int .i64 lo1, .int .i64 hi1, .slice Ak nk ck]) (hlo : lo ≤ w1.heap.size) :
 KidsAt (w1.alloc (.cells #[.int .i64 k1, .slice Ar nr cr, .int .i64 lo1, .int .i64 hi1, .slice Ak nk ck] 35)) lo (.slice (some ⟨w1.heap.size, 0, none⟩) 1 1) [n] := by
 refine ⟨[#[.int .i64 k1, .slice Ar nr cr, .int .i64 lo1, .int .i64 hi1, .slice Ak nk ck]], rfl, OwnN.ofLit (n := 1) _ hlo (by decide) rfl, fun i h1 h2 => ?_⟩
 simp only [List.length_cons, List.length_nil] at h1
 obtain rfl : i = 0 := by omega
 refine (t.grown (grown_new w1 _ none) (fun x _ e => by cases e)).mono fun x hx => ⟨hx.1, by simp; omega, fun e => ?_⟩
 have e : w1.heap.size = x := by simpa [Value.ownBlock] using e
 omega
set_option maxRecDepth 20000 in
set_option maxHeartbeats 8000000 in
theorem pattern_step {pat : List Tok → PR} {b : Nat} {f : Int} (HP : PatOk b f pat) (hs : Shr pat) (hgb : 0 < b) (w : World) (T S0 : List Tok) (js ms : List Nd) (R : List Tok) (q q2 : Nat) (hT : FoTabs w) (hR : IsT w b T f) (hj : joinL pat f q T = some (js, S0)) (h : orL pat f q q2 S0 = some (ms, R)) :
 Calls Tryz.prog 35 #[.pointer (some ⟨b, 0, none⟩)] w (NdTo w b f (togT 4 (togT 3 js :: ms)) R) := by
 have HJ0 := Lib.hid h
 have HJN := Lib.hid (fun (u : World) (T : List Tok) (ns : List Nd) (S : List Tok) h1 h2 h3 => join_any HP hs hgb u T ns S q h1 h2 h3)
 have HSH := Lib.hid (fun (T : List Tok) (ns : List Nd) (S : List Tok) (h : joinL pat f q T = some (ns, S)) => joinL_shr hs _ (Nat.le_refl _) h)
 have HS0 := Lib.hid (Nat.le_trans (HSH.out T js S0 hj) hR.few)
 obtain ⟨n0, hn0⟩ : ∃ n0, togT 3 js = n0 := ⟨_, rfl⟩
 have HJJ := Lib.hid hj
 have HN0 := Lib.hid hn0
 rw [hn0]
 obtain ⟨al, hal⟩ : ∃ al, n0 :: ms = al := ⟨_, rfl⟩
 have HAL := Lib.hid hal
 rw [hal]
 clear hj hn0 hal
 have HT := Lib.hid hT
 have HLT := Lib.hid hR.lt
 obtain ⟨w0, hw0⟩ : ∃ u, w.alloc (.cells #[.int .i64 0, .slice none 0 0, .int .i64 0, .int .i64 0, .slice none 0 0] 35) = u := ⟨_, rfl⟩
 have G0 : Hid (w.grownBy w0 none) := Lib.hid (hw0 ▸ grown_new w _ none)
 have X0 : Hid (Box w0 w.heap.size ndZero 35) := Lib.hid (hw0 ▸ Box.new w _ _)
 have HZ0 : Hid (w0.heap.size = w.heap.size + 1) := Lib.hid (by rw [← hw0]; simp)
 have R0 := Lib.hid (hR.up G0.out)
 have HW0 := Lib.hid hw0
 clear hw0 hT hR
 have HJC := Lib.hid (HJN.out w0 T js S0 (HT.out.grown0 G0.out) R0.out HJJ.out)
 rw [HN0.out] at HJC
 clear HP hs h
 go_enter Tryz.func35, Tryz.ntmps35
 go_wp2_with fail
 rw [HW0.out]
 refine HJC.out.mono ?_
 rintro e wj ⟨vj, rfl, tj, rj, gj⟩
 obtain ⟨k1, Ar, nr, cr, lo1, hi1, Ak, nk, ck, rfl⟩ := tj.form
 have ZJ : Hid (w.heap.size + 1 ≤ wj.heap.size) := Lib.hid (by have := gj.size; have := HZ0.out; omega)
 have KJ := Lib.hid (KidsAt.lit (lo := w.heap.size + 1) (tj.mono fun x hx => ⟨by have := hx.1; have := HZ0.out; omega, hx.2⟩) ZJ.out)
 have MJ : wj.grownBy (wj.alloc (.cells #[.int .i64 k1, .slice Ar nr cr, .int .i64 lo1, .int .i64 hi1, .slice Ak nk ck] 35)) none := grown_new _ _ none
 have RJ := Lib.hid (IsT.up rj MJ)
 have GJ := Lib.hid (((grownBy_none G0.out (some b)).trans gj).trans (grownBy_none MJ (some b)))
 have XJ := Lib.hid ((X0.out.kept gj (by have := HLT.out; simp; omega)).kept MJ (by simp))
 have ZJ2 := Lib.hid (Nat.le_trans ZJ.out MJ.size)
 clear tj rj gj MJ
 go_wp2_with fail
 go_loopw [3] (fun ov wr => ∃ (k : Nat) (T' : List Tok) (ks ns' : List Nd), Hid (orL pat f q k T' = some (ns', R)) ∧ Hid (ks ++ ns' = al) ∧ Hid (KidsAt wr (w.heap.size + 1) ov ks) ∧ Hid (IsT wr b T' f) ∧ Hid (w.grownBy wr (some b)) ∧ Hid (Box wr w.heap.size ndZero 35) ∧ Hid (w.heap.size + 1 ≤ wr.heap.size) ∧ Hid (ks.length + T'.length ≤ 1001)) (fun _ wr => leftAt b wr)
 case atStart => exact ⟨q2, S0, [n0], ms, HJ0, HAL, KJ, RJ, GJ, XJ, ZJ2, Lib.hid (by have := HS0.out; simp; omega)⟩
 case round =>
  obtain ⟨k, T', ks, ns', HJ, HE, K, Rr, G, X, Z, KL⟩ := hrel
  have M : wr.grownBy (wr.alloc (.cells #[.int .i64 5] 3)) none := grown_new _ _ none
  have HTK := Lib.hid (takes_any (wr.alloc (.cells #[.int .i64 5] 3)) b T' f _ (some ⟨wr.heap.size, 0, none⟩) [5] 1 (Rr.out.up M) (litI wr [5]) (by decide) (by simp))
  have HLF : Hid (leftAt b wr = T'.length) := Lib.hid Rr.out.left
  have K := Lib.hid (K.out.grown M (fun g e => by cases e))
  have G := Lib.hid (G.out.trans (grownBy_none M (some b)))
  have X := Lib.hid (X.out.kept M (by simp))
  have Z := Lib.hid (Nat.le_trans Z.out M.size)
  clear M Rr
  go_wp2_with fail
  refine HTK.out.mono ?_
  rintro e w7 ⟨rfl, r7, g7⟩
  have K := Lib.hid (K.out.grown g7 (fun g e => by injection e with e; have := HLT.out; omega))
  have Rr := Lib.hid r7
  have G := Lib.hid (G.out.trans g7)
  have X := Lib.hid (X.out.kept g7 (by have := HLT.out; simp; omega))
  have Z := Lib.hid (Nat.le_trans Z.out g7.size)
  clear r7 g7
  rcases orL_step HJ.out with ⟨hk, rfl, rfl⟩ | ⟨hk, k', js', S, ms', hj, ho, rfl⟩
  ·have hd : dropIs R [5] = R := by unfold dropIs; rw [hk]; rfl
   rw [hd] at Rr
   rw [hk]
   have HE2 : Hid (ks = al) := Lib.hid (by have := HE.out; rwa [List.append_nil] at this)
   have hes := HE2.out
   subst hes
   clear hk hd
   have HTG := Lib.hid (together_any w7 (w.heap.size + 1) 4 _ ks K.out Z.out)
   go_wp2_with fail
   refine HTG.out.mono ?_
   rintro e w8 ⟨v8, rfl, t8, g8⟩
   have h5 := t8.size
   have h51 := t8.one
   have T8 := Lib.hid t8
   have X8 := Lib.hid (X.out.kept g8 (by simp))
   have R8 := Lib.hid (Rr.out.up g8)
   have G8 := Lib.hid (G.out.trans (grownBy_none g8 (some b)))
   clear t8 g8
   go_wp2_with (first
    | (refine store_nd w8 _ _ w.heap.size ndZero v8 rfl rfl rfl rfl rfl X8.out rfl h5 h51 ?_; intro w9 x9 g9; have X9 := Lib.hid x9; have R9 := Lib.hid (R8.out.grown g9 (fun g e => by injection e with e; have := HLT.out; omega)); have G9 := Lib.hid (grown_two G8.out g9 (Nat.le_refl _)); have T9 := Lib.hid (T8.out.grown g9 (fun x hx e => by injection e with e; have := hx.1; omega)); have HZ9 := Lib.hid g9.size; clear x9 g9)
    | fail)
   (try simp only [Exit.inBlock, Exit.then])
   exact bodyPost_ret (v := .agg _) (ret_nd rfl _ _ w.heap.size _ h5 rfl X9.out) rfl ⟨_, rfl, T9.out.mono fun x hx => ⟨by have := hx.1; omega, Nat.lt_of_lt_of_le hx.2 HZ9.out⟩, R9.out, G9.out⟩
  ·obtain ⟨t, T2, rfl, hd⟩ := kindIs_tail hk
   rw [hd] at Rr
   rw [hk]
   have hj : joinL pat f q T2 = some (js', S) := hj
   have HSR := Lib.hid (HSH.out _ _ _ hj)
   have HJC2 := Lib.hid (HJN.out w7 T2 js' S (HT.out.grown G.out (by omega)) Rr.out hj)
   have HJ2 := Lib.hid ho
   have HEE : Hid ((ks ++ [togT 3 js']) ++ ms' = al) := Lib.hid (by rw [← HE.out]; simp)
   clear hk hd hj ho
   go_wp2_with fail
   refine HJC2.out.mono ?_
   rintro e w1 ⟨v1, rfl, t1, r1, g1⟩
   obtain ⟨k1, Ar, nr, cr, lo1, hi1, Ak, nk, ck, rfl⟩ := t1.form
   obtain ⟨vs, h0, ho, hk⟩ := K.out.ex
   have HVS : Hid (∀ v ∈ vs, v.size = 5) := Lib.hid fun v hv => by
    obtain ⟨i, hi, rfl⟩ := List.getElem_of_mem hv
    exact (hk i hi (by omega)).size
   have HO1 := Lib.hid (ho.keep g1 (by
    rcases hv : u3.ownBlock with _ | g
    ·exact .inl rfl
    ·exact .inr fun e => by have := (ho.inside g hv).1; have := HLT.out; injection e with e; omega))
   have HK1 := Lib.hid (fun (i : Nat) (h1 : i < vs.length) (h2 : i < ks.length) => ((hk i h1 h2).grown g1 (fun x hx e => by have := hx.1; have := HLT.out; injection e with e; omega)).mono (P' := fun x => w.heap.size + 1 ≤ x ∧ x < w1.heap.size ∧ u3.ownBlock ≠ some x) fun x hx => ⟨hx.1, Nat.lt_of_lt_of_le hx.2.1 g1.size, hx.2.2⟩)
   have HPU := Lib.hid (fun (lit : Obj) (v' : Value) (w' : World) o g e => KidsAt.push (lit := lit) (v' := v') (w' := w') h0 ho HK1.out g1.size Z.out t1 o g e)
   have ZW := Lib.hid (Nat.le_trans Z.out g1.size)
   have R1 := Lib.hid r1
   have G1 := Lib.hid (G.out.trans g1)
   have X1 := Lib.hid (X.out.kept g1 (by have := HLT.out; simp; omega))
   obtain ⟨nn, hnn⟩ : ∃ nn, ks.length = nn := ⟨_, rfl⟩
   rw [hnn] at HO1 HPU
   have hnl : nn ≤ 1001 := by have := KL.out; simp at this; omega
   obtain ⟨A3, c3, hv3, -, -, -⟩ := HO1.out.form
   subst hv3
   clear t1 g1 r1 h0 ho hk hnn HK1
   go_wp2_with (first
    | (at_builtin; refine appN_at ndT w1 _ (w.heap.size + 1) _ _ _ (.slice A3 nn c3) nn 1 (vs.flatMap Array.toList) [.int .i64 k1, .slice Ar nr cr, .int .i64 lo1, .int .i64 hi1, .slice Ak nk ck] _ _ rfl rfl rfl rfl (HO1.out.alloc _) (Lies.lit (w := w1) (e := 35) #[.int .i64 k1, .slice Ar nr cr, .int .i64 lo1, .int .i64 hi1, .slice Ak nk ck]) rfl (by simp [Value.oneCell']) ((Below.refl _ _).alloc ZW.out _) (by have := ZW.out; simp; omega) (by unfold maxLen; omega) (by omega) ?_; intro v2 w2 o2 b2 g2 e2; have K2 := Lib.hid (HPU.out _ v2 w2 o2 g2 e2); have G2 := Lib.hid (grown_below G1.out b2 (Nat.le_succ _)); have X2 := Lib.hid (X1.out.below b2 (Nat.lt_succ_self _)); have R2 := Lib.hid (R1.out.below b2 (by have := HLT.out; omega)); have Z2 := Lib.hid (Nat.le_trans ZW.out b2.size); clear o2 b2 g2 e2)
    | fail)
   go_roundw
   case rel => exact ⟨k', S, ks ++ [togT 3 js'], ms', HJ2, HEE, K2, R2, G2, X2, Z2, Lib.hid (by have := KL.out; have := HSR.out; simp at *; omega)⟩
   case measure => have h1 := R2.out.left; have h2 := HLF.out; have h3 := HSR.out; simp at h2; omega
theorem pat_ok (b : Nat) (f : Int) (q : Nat) (hgb : 0 < b) : ∀ d, PatOk b f (patT f q d)
 | 0 => fun u T n R _ _ h => by cases h
 | d + 1 => fun u T n R hT hR h => by
  obtain ⟨js, S, ms, hj, ho, rfl⟩ := patT_form h
  exact pattern_step (pat_ok b f q hgb d) (patT_shr f q d) hgb u T S js ms R q q hT hR hj ho
end Go.Proofs.YtkojnnjcgcllmaaGreatDoor
