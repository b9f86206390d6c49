/- Rows of one's own, more: cut short (l[:n]), stored into, what stays of a row behind an append. -/
import Derived.Test.YtbaaaadjabjfbaaFill
import Derived.Laws.Slices
namespace Go.Proofs.Ytbaaaadjabjfbaa
open Go.RowKit

section
variable {w w' W : World} {B : Nat} {e : TypeId} {v : Value} {xs : List Value}
/-- a row's beginning is a row -/
theorem Own.short (h : Own w B e v xs) {j : Nat} (hj : j ≤ xs.length) : ∃ A c, v = .slice A xs.length c ∧ xs.length ≤ c ∧ Own w B e (.slice A j c) (xs.take j) := by
  rcases h.2 with ⟨rfl, hn⟩ | ⟨g, cap, cur, rfl, hg, hh, hc, hm, hs, ht⟩
  · refine ⟨none, 0, by rw [hn], by omega, ?_⟩
    obtain rfl : j = 0 := by omega
    exact Own.empty _ _ _
  · refine ⟨_, cap, rfl, hc, ?_⟩
    unfold Own
    rw [List.length_take, Nat.min_eq_left hj]
    refine ⟨by simp; omega, .inr ⟨g, cap, cur, rfl, hg, hh, by omega, hm, hs, ?_⟩⟩
    rw [← ht, List.take_take, Nat.min_eq_left (by omega), Nat.mul_one]

variable {P : Program} {ops : Array Oper} {rest : List Oper} {o : Oper} {a : Act} {Q : Exit → Act → World → Prop}
/-- l[:n] of a row of one's own -/
theorem short_own {t : TypeId} {z : Value} {bytes : Nat} (T : SliceOf P t e z bytes) (W : World) (B : Nat) (x y : Operand) (k : IntKind) (j : Int) (v : Value) (xs : List Value)
    (hgd : o.guard = none) (ho : o.op = .slice t x none (some y) none) (hx : a.eval x = v) (hy : a.eval y = .int k j) (h0 : 0 ≤ j) (hown : Own W B e v xs) (hj : j.toNat ≤ xs.length)
    (h : ∀ v', Own W B e v' (xs.take j.toNat) → v'.ownBlock = v.ownBlock → wpList P ops Q rest (a.put o.dst v') W) :
    wpList P ops Q (o :: rest) a W := by
  obtain ⟨i, hi, hz0, hz1, hz2⟩ := info_parts T.elem
  obtain ⟨A, c, rfl, hlc, hown'⟩ := hown.short hj
  have he : P.elem t = e := by simp [Program.elem, T.slice]
  have hrun := run_slice_h (P := P) (w := W) t A xs.length c (by rw [T.slice, he]) k j h0 (by omega)
  refine wpList_plain hgd fun K' hK' => ?_
  unfold Oper.wp
  simp [execOp, ho, hx, hy, run_sliceAt_slice, T.slice, he, hrun, Result.andThen, sizeOf, typeInfo, hi, hz1, sliced]
  refine hK' _ _ ?_
  have e0 : (if c = 0 then A else Option.map (fun x : Addr => x.add 0) A) = A := by cases A <;> simp [Addr.add]
  rw [e0]
  exact h _ hown' (by cases A <;> rfl)

/-- a store into a row of one's own -/
theorem store_row {t : TypeId} {z : Value} {bytes : Nat} (T : SliceOf P t e z bytes) (W : World) (B : Nat) (x y : Operand) (g j c : Nat) (k : IntKind) (n : Int) (xs : List Value) (w0 : World)
    (hgd : o.guard = none) (hd : o.dst = none) (ho : o.op = .store e x y) (hx : a.eval x = .pointer (some ⟨g, j, none⟩)) (hy : a.eval y = .int k n) (hr : Row W B e g c xs) (hj : j < xs.length) (hb : Below B w0 W)
    (h : ∀ w', Row w' B e g c (xs.set j (.int k n)) → Below B w0 w' → W.grownBy w' (some g) → wpList P ops Q rest a w') :
    wpList P ops Q (o :: rest) a W := by
  have hcell := hr.cell hj
  have hfree := hr.free j
  refine wpList_plain hgd fun K' hK' => ?_
  unfold Oper.wp
  obtain ⟨i, hi, hz0, hz1, hz2⟩ := info_parts T.elem
  simp [execOp, ho, hx, hy, Instr.storeAt, Instr.sureAddr]
  go_simp
  simp only [sizeOf, typeInfo, Sem.run_bind, Sem.run_pure]
  go_simp
  obtain ⟨dst, op, ty, pos, after, guard⟩ := o
  obtain rfl : dst = none := hd
  exact hK' _ _ (h _ (hr.set j _) (Row.setB hb hr j _) (hr.setG j _))
end
/-- a row that is not empty lies in a block of its own -/
theorem Own.inRow {w : World} {B : Nat} {e : TypeId} {v : Value} {xs : List Value} (h : Own w B e v xs) (hn : 0 < xs.length) : ∃ g c, v = .slice (some ⟨g, 0, none⟩) xs.length c ∧ Row w B e g c xs := by
  obtain ⟨g, c, hv, _, _⟩ := World.ownsRow.form h hn
  subst hv
  exact ⟨g, c, rfl, h⟩
theorem Row.drewN {w : World} {B : Nat} {e : TypeId} {g c : Nat} {xs : List Value} (h : Row w B e g c xs) (n : Nat) : Row (w.drewN n) B e g c xs := h
theorem Row.keep {w w' : World} {B : Nat} {e : TypeId} {g c : Nat} {xs : List Value} {row : Option Nat} (h : Row w B e g c xs) (hg : w.grownBy w' row) (hr : row ≠ some g) : Row w' B e g c xs :=
  Own.keep h hg (.inr fun e => hr e.symm)
theorem Own.keepRow {w w' : World} {B : Nat} {e : TypeId} {v : Value} {xs : List Value} {g : Nat} (h : Own w B e v xs) (hg : w.grownBy w' (some g)) (hr : v.ownBlock ≠ some g) : Own w' B e v xs :=
  Own.keep h hg (.inr hr)
theorem ints_set (k : IntKind) (l : List Int) (i : Nat) (n : Int) : (ints k l).set i (.int k n) = ints k (l.set i n) := by
  rw [ints, ints, List.map_set]
/-- a fresh block is none of the old ones -/
theorem fresh_ne {v v' : Value} {W : World} {g : Nat} (h : v.ownBlock ≠ some g) (hg : g < W.heap.size) (hv : v'.ownBlock = v.ownBlock ∨ ∃ q, v'.ownBlock = some q ∧ W.heap.size ≤ q) : v'.ownBlock ≠ some g := by
  rcases hv with hv | ⟨q, hv, hq⟩
  · rw [hv]; exact h
  · rw [hv]; intro e; injection e with e; omega

section
variable {P : Program}
/-- append: either in place, or nothing that lay there has turned -/
theorem run_app_kept {t e : TypeId} {z : Value} {bytes : Nat} (T : SliceOf P t e z bytes) (ty : TypeId) (W : World) (B B' : Nat) (v : Value) (xs ys : List Value) (A : Option Addr) (c : Nat)
    (hown : Own W B e v xs) (hsrc : Lies W B' A ys) (h1 : ∀ u ∈ ys, u.oneCell' = true) (hB : B ≤ W.heap.size)
    (hlen : xs.length + ys.length ≤ maxLen) (hby : (xs.length + ys.length) * bytes ≤ 140737488355328) :
    ∃ v' w', (Builtin.append_ #[t, t] ty #[v, .slice A ys.length c]).run P W = .ok v' w' ∧ Own w' B e v' (xs ++ ys) ∧ W.grownBy w' v.ownBlock ∧ (v'.ownBlock = v.ownBlock ∨ W.grownBy w' none) := by
  obtain ⟨v', w', hr, ho, hg, he⟩ := run_app_src T ty W B B' v xs ys A c hown hsrc h1 hB hlen hby
  refine ⟨v', w', hr, ho, hg, ?_⟩
  rcases hown.2 with ⟨hv, hn⟩ | ⟨g, cap, cur, hv, hbg, hgg, hnc, hcm, hcs, ht⟩
  · subst hv; exact .inr hg
  · rcases A with _ | p
    · rcases ys with _ | ⟨y, ys⟩
      · subst hv
        obtain ⟨i, hi, hz0, hz1, hz2⟩ := info_parts T.elem
        have hr2 : (Builtin.append_ #[t, t] ty #[.slice (some ⟨g, 0, none⟩) xs.length cap, .slice none 0 c]).run P W = .ok (.slice (some ⟨g, 0, none⟩) xs.length cap) W := by
          simp [Builtin.append_, run_underlying T.slice, sizeOf, typeInfo, hi, Builtin.lenOf, Builtin.firstCells, hnc, storeCells]
        rw [List.length_nil, hr2] at hr
        injection hr with h3 h4
        subst h3
        exact .inl rfl
      · obtain ⟨q, hq, _⟩ := hsrc (by simp)
        cases hq
    · obtain ⟨i, hi, hz0, hz1, hz2⟩ := info_parts T.elem
      have hcells : ∀ j u, ys[j]? = some u → W.cell? (p.add j) = some u := by
        intro j u hu
        obtain ⟨q, hq, _, hc⟩ := hsrc (by intro e; subst e; simp at hu)
        injection hq with hq
        subst hq
        exact hc j u hu
      subst hv
      by_cases hroom : xs.length + ys.length ≤ cap
      · obtain ⟨w2, hr2, _, _⟩ := run_append_fits (P := P) W B t ty e i 1 T.slice hi hz1 g xs.length cap xs hown p ys.length c ys (by simp) hcells h1 hroom
        rw [hr2] at hr
        injection hr with h3 h4
        subst h3
        exact .inl rfl
      · have holds : ∀ j u, xs[j]? = some u → W.cell? ((⟨g, 0, none⟩ : Addr).add j) = some u := World.ownsRow.cells hown (g := g) rfl
        have hr2 := run_append_grow (P := P) W t ty e i z T.slice hi hz0 ⟨g, 0, none⟩ xs.length cap xs (by rw [hz1]; simp) holds p ys.length c ys (by rw [hz1]; simp) hcells (by omega) (by unfold maxLen at hlen; omega) (growslice_fits (by omega) (by rw [hz2]; exact hby))
        rw [hr2] at hr
        injection hr with h3 h4
        subst h4
        exact .inr ⟨rfl, rfl, rfl, by simp, fun k hk _ => (World.grownBy_alloc W.drew _ none).block k hk (by simp)⟩
variable {ops : Array Oper} {rest : List Oper} {o : Oper} {a : Act} {Q : Exit → Act → World → Prop}
/-- append of a slice that is read, what was there stays readable -/
theorem app_kept {t e : TypeId} {z : Value} {bytes : Nat} (T : SliceOf P t e z bytes) (w0 W : World) (B B' : Nat) (s x : Operand) (A0 : Option Addr) (n0 c0 : Nat) (xs ys : List Value) (A : Option Addr) (n c : Nat)
    (hw : Region.wanted o (yielded ops a.tmps) = true) (ho : o.op = .call { callee := .builtin .append, args := #[s, x], argTypes := #[t, t] })
    (hs : a.eval s = .slice A0 n0 c0) (hx : a.eval x = .slice A n c) (hn : n = ys.length)
    (hown : Own W B e (.slice A0 n0 c0) xs) (hsrc : Lies W B' A ys) (h1 : ∀ u ∈ ys, u.oneCell' = true) (hb : Below B w0 W) (hB : B ≤ W.heap.size)
    (hlen : xs.length + ys.length ≤ maxLen) (hby : (xs.length + ys.length) * bytes ≤ 140737488355328)
    (h : ∀ v' w', Own w' B e v' (xs ++ ys) → Below B w0 w' → W.grownBy w' (Value.slice A0 n0 c0).ownBlock → Lies w' w'.heap.size A0 xs → wpList P ops Q rest (a.put o.dst v') w') :
    wpList P ops Q (o :: rest) a W := by
  subst hn
  refine wpList_step fun K hK => ?_
  rw [if_pos hw]
  obtain ⟨v', w', hr, h2, h3, h4⟩ := run_app_kept T o.type W B B' _ xs ys A c hown hsrc h1 hB hlen hby
  unfold Oper.wp execOp
  simp only [ho, resolve, invoke, builtin, Sem.run_bind, Sem.run_pure, Result.andThen_ok, List.map_toArray, List.map_cons, List.map_nil, hs, hx, hr]
  refine hK _ _ (h v' w' h2 (hb.grown h3 hB (fun k hk => (Own.inside hown k hk).1)) h3 ?_)
  obtain ⟨A1, c1, hv1, hl1, _⟩ := Own.form hown
  injection hv1 with hA _ _
  subst hA
  rcases h4 with h4 | h4
  · intro hne
    rcases hown.2 with ⟨hv, hn⟩ | ⟨g, cap, cur, hv, hbg, hgg, hnc, hcm, hcs, ht⟩
    · exact absurd (List.eq_nil_of_length_eq_zero hn) hne
    · injection hv with hA _ _
      subst hA
      obtain ⟨A2, c2, hv2, hl2, _⟩ := Own.form h2
      subst hv2
      obtain ⟨q, hq, hqb, hc⟩ := hl2 (by simp [hne])
      subst hq
      rcases h2.2 with ⟨hv, hn⟩ | ⟨g2, cap2, cur2, hv2, _⟩
      · cases hv
      · injection hv2 with hq _ _
        injection hq with hq
        subst hq
        have : g2 = g := by simpa [Value.ownBlock] using h4
        subst this
        refine ⟨_, rfl, hqb, fun i u hu => hc i u ?_⟩
        rw [List.getElem?_append_left (List.getElem?_eq_some_iff.1 hu).1]
        exact hu
  · exact (hl1.grown h4 (Nat.le_refl _) (fun g hg => by cases hg)).wider h4.size
end
end Go.Proofs.Ytbaaaadjabjfbaa
