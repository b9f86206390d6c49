/- Words for memory, more: an append of a slice that came from anywhere, under a guard or not. -/
import Derived.Test.YtpllklikjnndcaaMem
namespace Go.Proofs.Ytpllklikjnndcaa
open Go.RowKit

theorem Own.ofLit {w : World} {B : Nat} {e : TypeId} (cs : Array Value) (hB : B ≤ w.heap.size) (hm : cs.size ≤ maxLen) :
    Own (w.alloc (.cells cs e)) B e (.slice (some ⟨w.heap.size, 0, none⟩) cs.size cs.size) cs.toList := by
  have := World.ownsRow_lit (base := B) (e := e) (size := 1) w cs cs.size hB hm (by simp)
  unfold Own
  rw [Array.length_toList]
  exact this

section
variable {P : Program}
theorem run_app_src {t e : TypeId} {z : Value} {bytes : Nat} (T : SliceOf P t e z bytes) (ty : TypeId) (W : World) (B B' : Nat) (v : Value) (xs ys : List Value) (A : Option Addr) (c : Nat)
    (hown : Own W B e v xs) (hsrc : Lies W B' A ys) (h1 : ∀ u ∈ ys, u.oneCell' = true) (hB : B ≤ W.heap.size)
    (hlen : xs.length + ys.length ≤ maxLen) (hby : (xs.length + ys.length) * bytes ≤ 140737488355328) :
    ∃ v' w', (Builtin.append_ #[t, t] ty #[v, .slice A ys.length c]).run P W = .ok v' w' ∧ Own w' B e v' (xs ++ ys) ∧ W.grownBy w' v.ownBlock ∧ (v'.ownBlock = v.ownBlock ∨ v'.ownBlock = some W.heap.size) := by
  obtain ⟨i, hi, hz0, hz1, hz2⟩ := info_parts T.elem
  rcases A with _ | p
  · have hy : ys = [] := by
      rcases ys with _ | ⟨y, ys⟩
      · rfl
      · obtain ⟨q, hq, _⟩ := hsrc (by simp)
        cases hq
    subst hy
    refine ⟨v, W, ?_, by simpa using hown, World.grownBy.refl W _, .inl rfl⟩
    rcases hown.2 with ⟨rfl, _⟩ | ⟨g, cap, cur, rfl, _, _, hnc, _⟩
    · simp [Builtin.append_, run_underlying T.slice, sizeOf, typeInfo, hi, Builtin.lenOf, Builtin.firstCells]
    · simp [Builtin.append_, run_underlying T.slice, sizeOf, typeInfo, hi, Builtin.lenOf, Builtin.firstCells, hnc, storeCells]
  · have hcells : ∀ j u, ys[j]? = some u → W.cell? (p.add j) = some u := by
      intro j u hu
      obtain ⟨q, hq, _, hc⟩ := hsrc (by intro e; subst e; simp at hu)
      injection hq with hq
      subst hq
      exact hc j u hu
    obtain ⟨v', w', hr, h2, h3, _, h5⟩ := run_append_own_at (P := P) W B t ty e i z 1 bytes T.slice hi hz0 hz1 hz2 T.one (by omega) v xs.length xs hown p ys.length c ys (by simp) hcells h1 hlen hby hB
    exact ⟨v', w', hr, by unfold Own; rw [List.length_append]; exact h2, h3, h5⟩

variable {ops : Array Oper} {rest : List Oper} {o : Oper} {a : Act} {Q : Exit → Act → World → Prop}
/-- append of a slice that is read -/
theorem app_src {t e : TypeId} {z : Value} {bytes : Nat} (T : SliceOf P t e z bytes) (w0 W : World) (B B' : Nat) (s x : Operand) (v : Value) (xs ys : List Value) (A : Option Addr) (n c : Nat)
    (hw : Region.wanted o (yielded ops a.tmps) = true) (ho : o.op = .call { callee := .builtin .append, args := #[s, x], argTypes := #[t, t] })
    (hs : a.eval s = v) (hx : a.eval x = .slice A n c) (hn : n = ys.length)
    (hown : Own W B e v xs) (hsrc : Lies W B' A ys) (h1 : ∀ u ∈ ys, u.oneCell' = true) (hb : Below B w0 W) (hB : B ≤ W.heap.size)
    (hlen : xs.length + ys.length ≤ maxLen) (hby : (xs.length + ys.length) * bytes ≤ 140737488355328)
    (h : ∀ v' w', Own w' B e v' (xs ++ ys) → Below B w0 w' → W.grownBy w' v.ownBlock → (v'.ownBlock = v.ownBlock ∨ ∃ g, v'.ownBlock = some g ∧ W.heap.size ≤ g) → wpList P ops Q rest (a.put o.dst v') w') :
    wpList P ops Q (o :: rest) a W := by
  subst hn
  refine wpList_step fun K hK => ?_
  rw [if_pos hw]
  obtain ⟨v', w', hr, h2, h3, h4⟩ := run_app_src T o.type W B B' v xs ys A c hown hsrc h1 hB hlen hby
  unfold Oper.wp execOp
  simp only [ho, resolve, invoke, builtin, Sem.run_bind, Sem.run_pure, Result.andThen_ok, List.map_toArray, List.map_cons, List.map_nil, hs, hx, hr]
  refine hK _ _ (h v' w' h2 (hb.grown h3 hB (fun k hk => (Own.inside hown k hk).1)) h3 ?_)
  rcases h4 with h4 | h4
  · exact .inl h4
  · exact .inr ⟨_, h4, Nat.le_refl _⟩
end
theorem ints_one (k : IntKind) (l : List Int) : ∀ u ∈ ints k l, u.oneCell' = true := by
  intro u hu
  obtain ⟨n, _, rfl⟩ := List.mem_map.1 hu
  rfl
end Go.Proofs.Ytpllklikjnndcaa
