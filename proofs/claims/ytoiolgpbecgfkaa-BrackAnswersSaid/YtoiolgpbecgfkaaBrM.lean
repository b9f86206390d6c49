/- Layer 10: plain facts of pairs: they are brackets that belong together, within one another, or apart. -/
import Derived.Test.YtoiolgpbecgfkaaBrC
namespace Go.Proofs.Ytoiolgpbecgfkaa
open Go.RowKit

/-- the class (or character) at a place -/
def cAt (l : List Int) (i : Nat) : Int := l.getD i 0
structure PS where
  out : List (Int × Int)
  waits : List Nat
  ended : Bool
/-- the last one that waits and is the same bracket: it, and those that go on waiting -/
def findW (chars : List Int) (o : Int) : List Nat → Option (Nat × List Nat)
  | [] => none
  | w :: ws => if sameB (cAt chars w) o then some (w, ws) else findW chars o ws
def pStep (chars classes : List Int) (st : PS) (i : Nat) : PS :=
  if st.ended then st
  else if (oth (cAt chars i)).2.2 = false ∨ cAt classes i ≠ 13 then st
  else if (oth (cAt chars i)).2.1 then (if st.waits.length = 63 then { st with ended := true } else { st with waits := i :: st.waits })
  else match findW chars (oth (cAt chars i)).1 st.waits with
    | none => st
    | some (w, ws) => { st with out := putP st.out ((w : Int), (i : Int)), waits := ws }
def pairsN (chars classes : List Int) : Nat → PS
  | 0 => ⟨[], [], false⟩
  | k + 1 => pStep chars classes (pairsN chars classes k) k
def pairsI (chars classes : List Int) : List (Int × Int) := if chars.length = classes.length then (pairsN chars classes chars.length).out else []
theorem findW_some (chars : List Int) (o : Int) : ∀ (W : List Nat) w ws, findW chars o W = some (w, ws) → sameB (cAt chars w) o = true ∧ w ∈ W ∧ (∀ x ∈ ws, x ∈ W) ∧ (W.Pairwise (· > ·) → ws.Pairwise (· > ·) ∧ ∀ x ∈ ws, x < w) := by
  intro W
  induction W with
  | nil => intro w ws h; cases h
  | cons v W ih =>
    intro w ws h
    unfold findW at h
    split at h
    · rename_i hs
      injection h with h
      injection h with h1 h2
      subst h1 h2
      exact ⟨hs, List.mem_cons_self, fun x hx => List.mem_cons_of_mem _ hx, fun hp => ⟨(List.pairwise_cons.1 hp).2, fun x hx => (List.pairwise_cons.1 hp).1 x hx⟩⟩
    · obtain ⟨h1, h2, h3, h4⟩ := ih w ws h
      exact ⟨h1, List.mem_cons_of_mem _ h2, fun x hx => List.mem_cons_of_mem _ (h3 x hx), fun hp => h4 (List.pairwise_cons.1 hp).2⟩

/-- two pairs, the first one ahead: they don't cross -/
def Beside (p q : Int × Int) : Prop := p.1 < q.1 ∧ ¬ (q.1 < p.2 ∧ p.2 < q.2) ∧ p.2 ≠ q.1 ∧ p.2 ≠ q.2
structure PInv (chars classes : List Int) (k : Nat) (st : PS) : Prop where
  falls : st.waits.Pairwise (· > ·)
  wait : ∀ w ∈ st.waits, w < k ∧ cAt classes w = 13 ∧ (oth (cAt chars w)).2.1 = true ∧ (oth (cAt chars w)).2.2 = true
  each : ∀ p ∈ st.out, ∃ a b : Nat, p = ((a : Int), (b : Int)) ∧ a < b ∧ b < k ∧ cAt classes a = 13 ∧ cAt classes b = 13 ∧ (oth (cAt chars a)).2.1 = true ∧ (oth (cAt chars a)).2.2 = true ∧ sameB (oth (cAt chars a)).1 (cAt chars b) = true
  apart : ∀ p ∈ st.out, ∀ w ∈ st.waits, (w : Int) ≠ p.1 ∧ (w : Int) ≠ p.2 ∧ ¬ (p.1 < w ∧ (w : Int) < p.2)
  order : st.out.Pairwise Beside
theorem mem_putP {L : List (Int × Int)} {p q : Int × Int} : q ∈ putP L p ↔ q ∈ L ∨ q = p := by
  unfold putP
  rw [List.mem_append, List.mem_append, List.mem_singleton]
  constructor
  · rintro ((h | h) | h)
    · exact .inl (List.mem_of_mem_take h)
    · exact .inr h
    · exact .inl (List.mem_of_mem_drop h)
  · rintro (h | h)
    · rw [← List.take_append_drop (putK L p.1) L, List.mem_append] at h
      rcases h with h | h
      · exact .inl (.inl h)
      · exact .inr h
    · exact .inl (.inr h)
theorem putK_split (x : Int) : ∀ L : List (Int × Int), L.Pairwise (fun p q => p.1 < q.1) → (∀ q ∈ L.take (putK L x), q.1 < x) ∧ ∀ q ∈ L.drop (putK L x), x ≤ q.1 := by
  intro L
  induction L with
  | nil => intro _; simp
  | cons r L ih =>
    intro h
    obtain ⟨h1, h2⟩ := List.pairwise_cons.1 h
    obtain ⟨i1, i2⟩ := ih h2
    unfold putK at *
    by_cases hr : r.1 < x
    · rw [List.takeWhile_cons_of_pos (by simpa using hr), List.length_cons, List.take_succ_cons, List.drop_succ_cons]
      refine ⟨fun q hq => ?_, i2⟩
      rcases List.mem_cons.1 hq with rfl | hq
      · exact hr
      · exact i1 q hq
    · rw [List.takeWhile_cons_of_neg (by simpa using hr)]
      refine ⟨fun q hq => by simp at hq, fun q hq => ?_⟩
      simp only [List.length_nil, List.drop_zero] at hq
      rcases List.mem_cons.1 hq with rfl | hq
      · omega
      · have := h1 q hq; omega
theorem order_putP {L : List (Int × Int)} {p : Int × Int} (h : L.Pairwise Beside) (h1 : ∀ q ∈ L, q.1 < p.1 → Beside q p) (h2 : ∀ q ∈ L, p.1 ≤ q.1 → Beside p q) : (putP L p).Pairwise Beside := by
  obtain ⟨s1, s2⟩ := putK_split p.1 L (h.imp fun hh => hh.1)
  have hL := h
  rw [← List.take_append_drop (putK L p.1) L, List.pairwise_append] at hL
  obtain ⟨a1, a2, a3⟩ := hL
  unfold putP
  rw [List.append_assoc, List.pairwise_append]
  refine ⟨a1, ?_, ?_⟩
  · show ([p] ++ _).Pairwise Beside
    rw [List.singleton_append, List.pairwise_cons]
    exact ⟨fun q hq => h2 q (List.mem_of_mem_drop hq) (s2 q hq), a2⟩
  · intro x hx y hy
    rw [List.singleton_append, List.mem_cons] at hy
    rcases hy with rfl | hy
    · exact h1 x (List.mem_of_mem_take hx) (s1 x hx)
    · exact a3 x hx y hy
theorem pinv (chars classes : List Int) : ∀ k, PInv chars classes k (pairsN chars classes k) := by
  intro k
  induction k with
  | zero => exact ⟨List.Pairwise.nil, fun w h => (by cases h), fun p h => (by cases h), fun p h => (by cases h), List.Pairwise.nil⟩
  | succ k ih =>
    rw [pairsN]
    obtain ⟨f1, f2, f3, f4, f5⟩ := ih
    have stay : PInv chars classes (k + 1) (pairsN chars classes k) :=
      ⟨f1, fun w hw => (by obtain ⟨h1, h2⟩ := f2 w hw; exact ⟨by omega, h2⟩), fun p hp => (by obtain ⟨a, b, e, h1, h2, h3⟩ := f3 p hp; exact ⟨a, b, e, h1, by omega, h3⟩), f4, f5⟩
    generalize pairsN chars classes k = st at *
    unfold pStep
    split
    · exact stay
    · split
      · exact stay
      · rename_i hE hN
        have hok : (oth (cAt chars k)).2.2 = true := by
          cases hh : (oth (cAt chars k)).2.2 with
          | true => rfl
          | false => exact absurd (.inl hh) hN
        have h13 : cAt classes k = 13 := Classical.byContradiction fun hh => hN (.inr hh)
        split
        · rename_i hop
          split
          · exact ⟨stay.falls, stay.wait, stay.each, stay.apart, stay.order⟩
          · refine ⟨List.pairwise_cons.2 ⟨fun w hw => (f2 w hw).1, f1⟩, fun w hw => ?_, stay.each, fun p hp w hw => ?_, f5⟩
            · rcases List.mem_cons.1 hw with rfl | hw
              · exact ⟨by omega, h13, hop, hok⟩
              · exact stay.wait w hw
            · rcases List.mem_cons.1 hw with rfl | hw
              · obtain ⟨a, b, rfl, h1, h2, _⟩ := f3 p hp
                simp only; omega
              · exact f4 p hp w hw
        · rename_i hop
          split
          · exact stay
          · rename_i w ws hf
            obtain ⟨g1, g2, g3, g4⟩ := findW_some chars _ _ w ws hf
            obtain ⟨g5, g6⟩ := g4 f1
            obtain ⟨w1, w2, w3, w4⟩ := f2 w g2
            have hsame : sameB (oth (cAt chars w)).1 (cAt chars k) = true := by
              have hb := oth_facts (cAt chars k) hok
              have := (same_others g1).2
              rwa [hb.2.1] at this
            refine ⟨g5, fun x hx => stay.wait x (g3 x hx), fun p hp => ?_, fun p hp x hx => ?_, ?_⟩
            · rcases mem_putP.1 hp with hp | rfl
              · exact stay.each p hp
              · exact ⟨w, k, rfl, w1, by omega, w2, h13, w3, w4, hsame⟩
            · rcases mem_putP.1 hp with hp | rfl
              · exact f4 p hp x (g3 x hx)
              · have := g6 x hx
                simp only; omega
            · refine order_putP f5 (fun q hq hlt => ?_) (fun q hq hle => ?_)
              · obtain ⟨a, b, rfl, h1, h2, _⟩ := f3 q hq
                obtain ⟨c1, c2, c3⟩ := f4 _ hq w g2
                unfold Beside
                simp only at hlt c1 c2 c3 ⊢
                omega
              · obtain ⟨a, b, rfl, h1, h2, _⟩ := f3 q hq
                obtain ⟨c1, c2, c3⟩ := f4 _ hq w g2
                unfold Beside
                simp only at hle c1 c2 c3 ⊢
                omega
end Go.Proofs.Ytoiolgpbecgfkaa
