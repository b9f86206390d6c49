/- Shared texts, shaken for one claim. -/
import Derived.Test.YtkojnnjcgcllmaaGreatDoorZB1
import Derived.Test.YtkojnnjcgcllmaaGreatDoorZB3
import Derived.Test.YtkojnnjcgcllmaaGreatDoorZB6
namespace Go.Proofs.YtkojnnjcgcllmaaGreatDoor
open Go.RowKit Go.Maps
theorem and_two (n : Nat) : n &&& 2 = 0 ∨ n &&& 2 = 2 := by
 have h1 : n &&& 2 ≤ 2 := Nat.and_le_right
 have h2 : (n &&& 2).testBit 0 = false := by rw [Nat.testBit_and]; simp
 rw [Nat.testBit_zero] at h2
 have h3 := of_decide_eq_false h2
 omega
theorem bit_one (f : Int) : (bits .and .i64 f 1 != 0) = (bits .and .i64 f 1 == 1) := by
 have h : bits .and .i64 f 1 = 0 ∨ bits .and .i64 f 1 = 1 := by
  show IntKind.i64.wrap ((BitVec.ofInt 64 f &&& BitVec.ofInt 64 1).toNat : Int) = 0 ∨ IntKind.i64.wrap ((BitVec.ofInt 64 f &&& BitVec.ofInt 64 1).toNat : Int) = 1
  rw [BitVec.toNat_and, show (BitVec.ofInt 64 1).toNat = 1 by decide, Nat.and_one_is_mod]
  rcases Nat.mod_two_eq_zero_or_one (BitVec.ofInt 64 f).toNat with h | h <;> rw [h]
  ·exact .inl (by decide)
  ·exact .inr (by decide)
 rcases h with h | h <;> rw [h] <;> rfl
theorem bit_two (f : Int) : (bits .and .i64 f 2 != 0) = (bits .and .i64 f 2 == 2) := by
 have h : bits .and .i64 f 2 = 0 ∨ bits .and .i64 f 2 = 2 := by
  show IntKind.i64.wrap ((BitVec.ofInt 64 f &&& BitVec.ofInt 64 2).toNat : Int) = 0 ∨ IntKind.i64.wrap ((BitVec.ofInt 64 f &&& BitVec.ofInt 64 2).toNat : Int) = 2
  rw [BitVec.toNat_and, show (BitVec.ofInt 64 2).toNat = 2 by decide]
  rcases and_two (BitVec.ofInt 64 f).toNat with h | h <;> rw [h]
  ·exact .inl (by decide)
  ·exact .inr (by decide)
 rcases h with h | h <;> rw [h] <;> rfl
def mayM (c : Int) : Bool := decide (c ≤ 187) || (decide (8804 ≤ c) && decide (c ≤ 9002)) || decide (12296 ≤ c)
def toldI (f1 f2 : Bool) (c : Int) : List Int := (if f1 = true then kin (fo c) else []) ++ (if (f2 && mayM c) = true then [mir c] else [])
def lowW (r : Int × Int) : Int := max r.1 0
def highW (r : Int × Int) : Int := min r.2 12305
def widW (r : Int × Int) : Nat := (highW r - lowW r + 1).toNat
def addC (R : List (Int × Int)) (l : List Int) : List (Int × Int) := (l.filter fun t => !hasR R t).map fun t => (t, t)
def addW (R : List (Int × Int)) (f1 f2 : Bool) (a : Int) (n : Nat) : List (Int × Int) := (List.range n).flatMap fun i : Nat => addC R (toldI f1 f2 (a + (i : Int)))
def addQ (R : List (Int × Int)) (f1 f2 : Bool) (Q : List (Int × Int)) : List (Int × Int) := Q.flatMap fun r => addW R f1 f2 (lowW r) (widW r)
def behR (f1 f2 : Bool) (R : List (Int × Int)) : List (Int × Int) := setP (hasR (R ++ addQ R f1 f2 R))
theorem addC_next {R : List (Int × Int)} {l : List Int} {i : Nat} (h : i < l.length) : addC R (l.take (i + 1)) = addC R (l.take i) ++ (if (!hasR R l[i]) = true then [(l[i], l[i])] else []) := by
 unfold addC; rw [List.take_succ_eq_append_getElem h, List.filter_append, List.map_append]; congr 1
 by_cases hh : (!hasR R l[i]) = true <;> simp [hh]
theorem addW_next (R : List (Int × Int)) (f1 f2 : Bool) (a : Int) (n : Nat) : addW R f1 f2 a (n + 1) = addW R f1 f2 a n ++ addC R (toldI f1 f2 (a + n)) := by
 unfold addW; rw [List.range_succ, List.flatMap_append]; simp
theorem addQ_next {R Q : List (Int × Int)} {f1 f2 : Bool} {k : Nat} (h : k < Q.length) : addQ R f1 f2 (Q.take (k + 1)) = addQ R f1 f2 (Q.take k) ++ addW R f1 f2 (lowW Q[k]) (widW Q[k]) := by
 unfold addQ; rw [List.take_succ_eq_append_getElem h, List.flatMap_append]; simp
theorem toldI_len (f1 f2 : Bool) (c : Int) : (toldI f1 f2 c).length ≤ 5 := by
 have := kin_few (fo c)
 unfold toldI
 rw [List.length_append]
 split <;> split <;> simp <;> omega
theorem addC_len (R : List (Int × Int)) (l : List Int) : (addC R l).length ≤ l.length := by
 unfold addC; rw [List.length_map]; exact List.length_filter_le _ _
theorem addW_len (R : List (Int × Int)) (f1 f2 : Bool) (a : Int) : ∀ n, (addW R f1 f2 a n).length ≤ 5 * n
 | 0 => by simp [addW]
 | n + 1 => by
  have := addW_len R f1 f2 a n
  have h1 := addC_len R (toldI f1 f2 (a + (n : Int)))
  have h2 := toldI_len f1 f2 (a + (n : Int))
  rw [addW_next, List.length_append]; omega
def totW (Q : List (Int × Int)) : Nat := (Q.map widW).sum
theorem addQ_len (R : List (Int × Int)) (f1 f2 : Bool) : ∀ Q, (addQ R f1 f2 Q).length ≤ 5 * totW Q
 | [] => by simp [addQ]
 | q :: Q => by
  have := addQ_len R f1 f2 Q
  have h1 := addW_len R f1 f2 (lowW q) (widW q)
  rw [show addQ R f1 f2 (q :: Q) = addW R f1 f2 (lowW q) (widW q) ++ addQ R f1 f2 Q from rfl, List.length_append, show totW (q :: Q) = widW q + totW Q from rfl]
  omega
theorem totW_at : ∀ {Q : List (Int × Int)} {k : Nat} (h : k < Q.length), totW (Q.take k) + widW Q[k] ≤ totW Q
 | q :: Q, 0, _ => by
  show totW [] + widW q ≤ widW q + totW Q
  simp [totW]
 | q :: Q, k + 1, h => by
  have := totW_at (Q := Q) (k := k) (by simpa using h)
  have hk : k < Q.length := by simpa using h
  show widW q + totW (Q.take k) + widW (Q[k]'hk) ≤ widW q + totW Q
  omega
theorem totW_canon : ∀ {Q : List (Int × Int)} {a : Int}, Canon a Q → 0 ≤ a → (totW Q : Int) ≤ max 0 (12306 - a)
 | [], _, _, _ => by simp [totW]; omega
 | q :: Q, a, h, h0 => by
  obtain ⟨h1, h2, h3, h4⟩ := h
  have := totW_canon h4 (by omega)
  show ((widW q + totW Q : Nat) : Int) ≤ _
  unfold widW lowW highW
  omega
theorem totW_small {Q : List (Int × Int)} (h : Canon 0 Q) : totW Q ≤ 12306 := by
 have := totW_canon h (by omega)
 omega
theorem addC_has {R : List (Int × Int)} {l : List Int} {c : Int} : hasR (addC R l) c = true ↔ c ∈ l ∧ hasR R c = false := by
 unfold addC
 rw [hasR_of (g := fun t => t)]
 simp [List.mem_filter]
theorem addQ_has {R Q : List (Int × Int)} {f1 f2 : Bool} {c : Int} : hasR (addQ R f1 f2 Q) c = true ↔ ∃ r ∈ Q, ∃ t, lowW r ≤ t ∧ t ≤ highW r ∧ c ∈ toldI f1 f2 t ∧ hasR R c = false := by
 have hflat : ∀ {α : Type} (L : List α) (g : α → List (Int × Int)), hasR (L.flatMap g) c = true ↔ ∃ x ∈ L, hasR (g x) c = true := by
  intro α L g
  simp only [hasR_iff, List.mem_flatMap]
  constructor
  ·rintro ⟨r, ⟨x, hx, hr⟩, h⟩; exact ⟨x, hx, r, hr, h⟩
  ·rintro ⟨x, hx, r, hr, h⟩; exact ⟨r, ⟨x, hx, hr⟩, h⟩
 unfold addQ
 rw [hflat]
 constructor
 ·rintro ⟨r, hr, h⟩
  unfold addW at h
  rw [hflat] at h
  obtain ⟨i, hi, h⟩ := h
  rw [List.mem_range] at hi
  rw [addC_has] at h
  unfold widW at hi
  exact ⟨r, hr, lowW r + i, by omega, by omega, h.1, h.2⟩
 ·rintro ⟨r, hr, t, h1, h2, h3, h4⟩
  refine ⟨r, hr, ?_⟩
  unfold addW
  rw [hflat]
  refine ⟨(t - lowW r).toNat, ?_, ?_⟩
  ·rw [List.mem_range]; unfold widW; omega
  ·rw [addC_has, show lowW r + ((t - lowW r).toNat : Int) = t by omega]
   exact ⟨h3, h4⟩
theorem isM_may (c : Int) : isM c = true → c ≤ 12305 ∧ mayM c = true := by
 refine all_mrs (Q := fun c => isM c = true → c ≤ 12305 ∧ mayM c = true) (fun c h hm => ?_) (by decide +kernel) c
 rw [isM, othM, h] at hm
 simp at hm
theorem mem_told {f1 f2 : Bool} {t c : Int} : c ∈ toldI f1 f2 t ↔ (f1 = true ∧ fo c = fo t) ∨ (f2 = true ∧ mayM t = true ∧ c = mir t) := by
 unfold toldI
 rw [List.mem_append]
 cases f1 <;> cases f2 <;> cases hm : mayM t <;> simp [mem_kin]
theorem beh_has {R : List (Int × Int)} {f1 f2 : Bool} {c : Int} (hc : inTop c) : hasR (R ++ addQ R f1 f2 R) c = true ↔ hasR R c = true ∨ (f1 = true ∧ ∃ k, inTop k ∧ fo k = fo c ∧ hasR R k = true) ∨ (f2 = true ∧ hasR R (mir c) = true ∧ inTop (mir c)) := by
 rw [hasR_append, Bool.or_eq_true, addQ_has]
 have hcc := hc
 unfold inTop at hcc
 constructor
 ·rintro (h | ⟨r, hr, t, h1, h2, h3, h4⟩)
  ·exact .inl h
  ·have hh : hasR R t = true := hasR_iff.2 ⟨r, hr, by unfold lowW at h1; omega, by unfold highW at h2; omega⟩
   have ht : inTop t := by unfold lowW at h1; unfold highW at h2; unfold inTop topR; omega
   rw [mem_told] at h3
   rcases h3 with ⟨e, h3⟩ | ⟨e, -, h3⟩
   ·exact .inr (.inl ⟨e, t, ht, h3.symm, hh⟩)
   ·refine .inr (.inr ⟨e, ?_, ?_⟩)
    ·rw [h3, mir_twice]; exact hh
    ·rw [h3, mir_twice]; exact ht
 ·intro h
  by_cases hR : hasR R c = true
  ·exact .inl hR
  ·have hRf : hasR R c = false := by simpa using hR
   refine .inr ?_
   rcases h with h | ⟨e, k, hk, hf, h⟩ | ⟨e, h, hi⟩
   ·exact absurd h hR
   ·have hkc : k ≠ c := fun e => hR (by rw [← e]; exact h)
    have h5 := fo_spec k
    have h6 := fo_spec c
    have hle : k ≤ 12305 := by omega
    obtain ⟨r, hr, g1, g2⟩ := hasR_iff.1 h
    unfold inTop at hk
    refine ⟨r, hr, k, by unfold lowW; omega, by unfold highW; omega, mem_told.2 (.inl ⟨e, hf.symm⟩), hRf⟩
   ·have hne : mir c ≠ c := fun e => hR (by rw [← e]; exact h)
    have hm : isM (mir c) = true := isM_iff.2 (by rw [mir_twice]; exact fun e => hne e.symm)
    obtain ⟨g3, g4⟩ := isM_may _ hm
    obtain ⟨r, hr, g1, g2⟩ := hasR_iff.1 h
    unfold inTop at hi
    refine ⟨r, hr, mir c, by unfold lowW; omega, by unfold highW; omega, mem_told.2 (.inr ⟨e, g4, (mir_twice c).symm⟩), hRf⟩
theorem set_in {R : List (Int × Int)} {c : Int} (h : hasR (setR R) c = true) : inTop c := (setR_canon R).has h
theorem beh_close (f1 f2 : Bool) {R : List (Int × Int)} (hl : R.length ≤ 60) : behR f1 f2 (setR R) = closeR f1 f2 R := by
 refine canon_ext (setP_canon _) (close_canon f1 f2 R) fun c h0 h1 => ?_
 have hc : inTop c := ⟨h0, h1⟩
 unfold behR
 rw [setP_has, show decide (0 ≤ c) = true from decide_eq_true h0, show decide (c ≤ topR) = true from decide_eq_true h1, Bool.true_and, Bool.true_and, Bool.eq_iff_iff, beh_has hc]
 cases f1
 ·cases f2
  ·rw [close_none]; simp
  ·rw [close_mirror (by omega), Bool.or_eq_true]
   constructor
   ·rintro (h | ⟨h, -⟩ | ⟨-, h, -⟩)
    ·exact .inl h
    ·cases h
    ·exact .inr h
   ·rintro (h | h)
    ·exact .inl h
    ·exact .inr (.inr ⟨rfl, h, set_in h⟩)
 ·have hF : ∀ d, hasR (closeR true false R) d = true ↔ inTop d ∧ ∃ k, fo k = fo d ∧ hasR (setR R) k = true := fun d => close_fold (by omega) d
  cases f2
  ·rw [hF]
   constructor
   ·rintro (h | ⟨-, k, hk, hf, h⟩ | ⟨h, -⟩)
    ·exact ⟨hc, c, rfl, h⟩
    ·exact ⟨hc, k, hf, h⟩
    ·cases h
   ·rintro ⟨-, k, hf, h⟩
    exact .inr (.inl ⟨rfl, k, set_in h, hf, h⟩)
  ·rw [close_both (by omega), Bool.or_eq_true, hF, hF]
   constructor
   ·rintro (h | ⟨-, k, hk, hf, h⟩ | ⟨-, h, hi⟩)
    ·exact .inl ⟨hc, c, rfl, h⟩
    ·exact .inl ⟨hc, k, hf, h⟩
    ·exact .inr ⟨hi, _, rfl, h⟩
   ·rintro (⟨-, k, hf, h⟩ | ⟨hi, k, hf, h⟩)
    ·exact .inr (.inl ⟨rfl, k, set_in h, hf, h⟩)
    ·by_cases he : mir c = c
     ·rw [he] at hf
      exact .inr (.inl ⟨rfl, k, set_in h, hf, h⟩)
     ·have hm : isM (mir c) = true := isM_iff.2 (by rw [mir_twice]; exact fun e => he e.symm)
      have := isM_alone hm hf
      rw [this] at h
      exact .inr (.inr ⟨rfl, h, hi⟩)
theorem beh_again (f1 f2 : Bool) {S : List (Int × Int)} (hS : Canon 0 S) (hl : S.length ≤ 500) (h1 : f1 = true → Folded S) (h2 : f2 = true → ∀ c, hasR S (mir c) = true → hasR S c = true) : behR f1 f2 (setR S) = S := by
 rw [setR_is hS hl]
 refine canon_ext (setP_canon _) hS fun c h0 h1' => ?_
 have hc : inTop c := ⟨h0, h1'⟩
 unfold behR
 rw [setP_has, show decide (0 ≤ c) = true from decide_eq_true h0, show decide (c ≤ topR) = true from decide_eq_true h1', Bool.true_and, Bool.true_and, Bool.eq_iff_iff, beh_has hc]
 constructor
 ·rintro (h | ⟨e, k, hk, hf, h⟩ | ⟨e, h, -⟩)
  ·exact h
  ·exact h1 e c k hc hf h
  ·exact h2 e c h
 ·exact .inl
end Go.Proofs.YtkojnnjcgcllmaaGreatDoor
namespace Go.Proofs.YtkojnnjcgcllmaaGreatDoor
structure Tok where
 k : Int
 c : Int
 lo : Int
 hi : Int
 pos : Int
@[reducible] def Tok.arr (t : Tok) : Array Value := #[.int .i64 t.k, .int .i64 t.c, .int .i64 t.lo, .int .i64 t.hi, .int .i64 t.pos]
def tokCells (T : List Tok) : List Value := T.flatMap (fun t => t.arr.toList)
abbrev Wr (α : Type) := Except (Nat × Int) α
def signI (c : Int) : Bool := decide (c = 36) || (decide (40 ≤ c) && decide (c ≤ 43)) || (decide (45 ≤ c) && decide (c ≤ 47)) || decide (c = 63) || (decide (91 ≤ c) && decide (c ≤ 94)) || (decide (123 ≤ c) && decide (c ≤ 125))
def escI (c : Int) : Option (Int × Bool) :=
 if c = 110 then some (10, false) else if c = 116 then some (9, false)
 else if c = 100 ∨ c = 119 ∨ c = 115 ∨ c = 68 ∨ c = 87 ∨ c = 83 then some (c, true)
 else if signI c = true then some (c, false) else none
def isDig (d : Int) : Bool := decide (48 ≤ d) && decide (d ≤ 57)
def chT (c : Int) : Tok := ⟨1, c, 0, 0, 0⟩
def nxT (l : List Int) (k : Nat) : Wr (Int × Nat) := match l[k]? with
 | some c => .ok (c, k + 1)
 | none => .error (k, 4)
def escT (l : List Int) (fr k : Nat) : Wr (Tok × Nat) := match nxT l k with
 | .error e => .error e
 | .ok (c, k') => match escI c with
  | none => .error (fr, 6)
  | some (x, true) => .ok (⟨12, x, 0, 0, 0⟩, k')
  | some (x, false) => .ok (chT x, k')
def itemT (l : List Int) (k : Nat) : Wr (Tok × Nat) := match nxT l k with
 | .error e => .error e
 | .ok (c, k') => if c = 92 then escT l k k' else .ok (chT c, k')
def upT (l : List Int) (low : Int) (fr k : Nat) : Wr (Tok × Nat) := match itemT l k with
 | .error e => .error e
 | .ok (t, k') => if t.k = 12 then .error (k, 7) else if t.c < low then .error (fr, 7) else .ok (⟨9, 0, low, t.c, 0⟩, k')
def claT (l : List Int) (k : Nat) : Tok × Nat := if l[k]? = some 94 then (⟨7, 1, 0, 0, 0⟩, k + 1) else (⟨7, 0, 0, 0, 0⟩, k)
def digT (l : List Int) (k : Nat) : List Int := (l.drop k).takeWhile isDig
def numF (n d : Int) : Int := min (10 * n + d - 48) 21
def numT (D : List Int) : Int := if D = [] then -1 else if D[0]? = some 48 ∧ 1 < D.length then 21 else D.foldl numF 0
def badB (c a b : Int) : Bool := c != 125 || decide (a < 0) || decide (20 < max a b) || (decide (0 ≤ b) && decide (b < a))
def shutT (fr : Nat) (a b c : Int) (k : Nat) : Wr (Tok × Nat) := if badB c a b = true then .error (fr, 8) else .ok (⟨6, 0, a, b, 0⟩, k)
def braT (l : List Int) (fr k : Nat) : Wr (Tok × Nat) := match nxT l (k + (digT l k).length) with
 | .error e => .error e
 | .ok (c, k2) => if c = 44 ∧ digT l k ≠ [] then (match nxT l (k2 + (digT l k2).length) with
  | .error e => .error e
  | .ok (c', k3) => shutT fr (numT (digT l k)) (numT (digT l k2)) c' k3) else shutT fr (numT (digT l k)) (numT (digT l k)) c k2
def repT (r : Bool) (c : Int) : Tok := if c = 63 ∧ r = true then ⟨13, 0, 0, 0, 0⟩ else if c = 63 then ⟨6, 0, 0, 1, 0⟩ else if c = 42 then ⟨6, 0, 0, -1, 0⟩ else ⟨6, 0, 1, -1, 0⟩
def aloT (c : Int) : Tok := if c = 46 then ⟨2, 0, 0, 0, 0⟩ else if c = 40 then ⟨3, 0, 0, 0, 0⟩ else if c = 41 then ⟨4, 0, 0, 0, 0⟩ else if c = 124 then ⟨5, 0, 0, 0, 0⟩ else if c = 94 then ⟨10, 0, 0, 0, 0⟩ else if c = 36 then ⟨11, 0, 0, 0, 0⟩ else chT c
def plT (fr : Nat) : Wr (Tok × Nat) → Wr (Tok × Nat)
 | .error e => .error e
 | .ok (t, k) => .ok (⟨t.k, t.c, t.lo, t.hi, (fr : Int)⟩, k)
def outB (l : List Int) (r : Bool) (k : Nat) : Wr (Tok × Nat) := match nxT l k with
 | .error e => .error e
 | .ok (c, k') => if c = 63 ∨ c = 42 ∨ c = 43 then .ok (repT r c, k') else if c = 123 then braT l k k' else if c = 91 then .ok (claT l k') else if c = 92 then escT l k k' else .ok (aloT c, k')
def outT (l : List Int) (r : Bool) (k : Nat) : Wr (Tok × Nat) := plT k (outB l r k)
def inB (l : List Int) (k : Nat) : Wr (Tok × Nat) := if l[k]? = some 93 then .ok (⟨8, 0, 0, 0, 0⟩, k + 1) else match itemT l k with
 | .error e => .error e
 | .ok (t, k') => if t.k = 1 ∧ l[k']? = some 45 ∧ ¬ l[k' + 1]? = some 93 then upT l t.c k (k' + 1) else .ok (t, k')
def inT (l : List Int) (k : Nat) : Wr (Tok × Nat) := plT k (inB l k)
def lastR (T : List Tok) : Bool := match T.getLast? with
 | some t => t.k == 6
 | none => false
def readT (l : List Int) : Nat → Bool → Nat → List Tok → Wr (List Tok)
 | 0, _, _, T => .ok T
 | n + 1, cls, k, T => if cls = false ∧ k = l.length then .ok T else match (if cls = true then inT l k else outT l (lastR T) k) with
  | .error e => .error e
  | .ok (t, k') => readT l n (if cls = true then t.k != 8 else t.k == 7) k' (T ++ [t])
def ofT (l : List Int) : Wr (List Tok) := if 200 < l.length then .error (0, 10) else readT l (l.length + 1) false 0 []
/-! what is read lies ahead -/
theorem nxT_ok {l : List Int} {k : Nat} {c : Int} {k' : Nat} (h : nxT l k = .ok (c, k')) : k' = k + 1 ∧ ∃ hk : k < l.length, l[k] = c := by
 unfold nxT at h
 split at h
 ·rename_i x hx
  injection h with h
  injection h with h1 h2
  obtain ⟨hk, e⟩ := List.getElem?_eq_some_iff.1 hx
  exact ⟨h2.symm, hk, by rw [e, h1]⟩
 ·cases h
theorem nxT_at {l : List Int} {k : Nat} (h : k < l.length) : nxT l k = .ok (l[k], k + 1) := by
 unfold nxT; rw [List.getElem?_eq_getElem h]
theorem nxT_end {l : List Int} {k : Nat} (h : l.length ≤ k) : nxT l k = .error (k, 4) := by
 unfold nxT; rw [List.getElem?_eq_none h]
theorem escT_ok {l : List Int} {fr k : Nat} {t : Tok} {k' : Nat} (h : escT l fr k = .ok (t, k')) : k' = k + 1 ∧ k < l.length := by
 unfold escT at h
 split at h
 ·cases h
 ·rename_i c k2 hn
  obtain ⟨rfl, hk, _⟩ := nxT_ok hn
  split at h
  ·cases h
  ·injection h with h; injection h with _ h; exact ⟨h.symm, hk⟩
  ·injection h with h; injection h with _ h; exact ⟨h.symm, hk⟩
theorem itemT_ok {l : List Int} {k : Nat} {t : Tok} {k' : Nat} (h : itemT l k = .ok (t, k')) : k < k' ∧ k' ≤ l.length := by
 unfold itemT at h
 split at h
 ·cases h
 ·rename_i c k2 hn
  obtain ⟨rfl, hk, _⟩ := nxT_ok hn
  split at h
  ·obtain ⟨rfl, h2⟩ := escT_ok h; omega
  ·injection h with h; injection h with _ h; omega
theorem upT_ok {l : List Int} {low : Int} {fr k : Nat} {t : Tok} {k' : Nat} (h : upT l low fr k = .ok (t, k')) : k < k' ∧ k' ≤ l.length := by
 unfold upT at h
 split at h
 ·cases h
 ·rename_i c k2 hn
  have := itemT_ok hn
  split at h
  ·cases h
  ·split at h
   ·cases h
   ·injection h with h; injection h with _ h; omega
theorem shutT_ok {fr : Nat} {a b c : Int} {k : Nat} {t : Tok} {k' : Nat} (h : shutT fr a b c k = .ok (t, k')) : k' = k := by
 unfold shutT at h
 split at h
 ·cases h
 ·injection h with h; injection h with _ h; exact h.symm
theorem braT_ok {l : List Int} {fr k : Nat} {t : Tok} {k' : Nat} (h : braT l fr k = .ok (t, k')) : k < k' ∧ k' ≤ l.length := by
 unfold braT at h
 split at h
 ·cases h
 ·rename_i c k2 hn
  obtain ⟨rfl, hk, _⟩ := nxT_ok hn
  split at h
  ·split at h
   ·cases h
   ·rename_i c' k3 hn'
    obtain ⟨rfl, hk', _⟩ := nxT_ok hn'
    have := shutT_ok h; omega
  ·have := shutT_ok h; omega
theorem claT_le {l : List Int} {k : Nat} (h : k ≤ l.length) : k ≤ (claT l k).2 ∧ (claT l k).2 ≤ l.length := by
 unfold claT
 split
 ·rename_i h1
  have := (List.getElem?_eq_some_iff.1 h1).1
  simp only; omega
 ·simp only; omega
theorem plT_ok {fr : Nat} {r : Wr (Tok × Nat)} {t : Tok} {k' : Nat} (h : plT fr r = .ok (t, k')) : ∃ t', r = .ok (t', k') ∧ t = ⟨t'.k, t'.c, t'.lo, t'.hi, (fr : Int)⟩ := by
 unfold plT at h
 split at h
 ·cases h
 ·rename_i t' k2
  injection h with h
  injection h with h1 h2
  subst h2
  exact ⟨t', rfl, h1.symm⟩
theorem outB_ok {l : List Int} {r : Bool} {k : Nat} {t : Tok} {k' : Nat} (h : outB l r k = .ok (t, k')) : k < k' ∧ k' ≤ l.length := by
 unfold outB at h
 split at h
 ·cases h
 ·rename_i c k2 hn
  obtain ⟨rfl, hk, _⟩ := nxT_ok hn
  split at h
  ·injection h with h; injection h with _ h; omega
  ·split at h
   ·have := braT_ok h; omega
   ·split at h
    ·injection h with h
     have h1 := claT_le (l := l) (k := k + 1) (by omega)
     rw [h] at h1
     simp only at h1; omega
    ·split at h
     ·have := escT_ok h; omega
     ·injection h with h; injection h with _ h; omega
theorem outT_ok {l : List Int} {r : Bool} {k : Nat} {t : Tok} {k' : Nat} (h : outT l r k = .ok (t, k')) : k < k' ∧ k' ≤ l.length ∧ t.pos = (k : Int) := by
 obtain ⟨t', hb, rfl⟩ := plT_ok h
 exact ⟨(outB_ok hb).1, (outB_ok hb).2, rfl⟩
theorem inB_ok {l : List Int} {k : Nat} {t : Tok} {k' : Nat} (h : inB l k = .ok (t, k')) : k < k' ∧ k' ≤ l.length := by
 unfold inB at h
 split at h
 ·rename_i h1
  have := (List.getElem?_eq_some_iff.1 h1).1
  injection h with h; injection h with _ h; omega
 ·split at h
  ·cases h
  ·rename_i t2 k2 hn
   have h1 := itemT_ok hn
   split at h
   ·have := upT_ok h; omega
   ·injection h with h; injection h with _ h; omega
theorem inT_ok {l : List Int} {k : Nat} {t : Tok} {k' : Nat} (h : inT l k = .ok (t, k')) : k < k' ∧ k' ≤ l.length ∧ t.pos = (k : Int) := by
 obtain ⟨t', hb, rfl⟩ := plT_ok h
 exact ⟨(inB_ok hb).1, (inB_ok hb).2, rfl⟩
end Go.Proofs.YtkojnnjcgcllmaaGreatDoor
namespace Go.Proofs.YtkojnnjcgcllmaaGreatDoor
inductive Nd where
 | mk (k lo hi : Int) (rs : List (Int × Int)) (ks : List Nd)
def timesI (k lo hi : Int) : Int := if k = 5 then (if hi < 0 then max (IntKind.i64.wrap (min lo 1000000 + 1)) 1 else max hi 1) else 1
def finI (s t : Int) : Int := if 1000000 ≤ s then 1000000 else min (1 + s * min t 1000000) 1000000
mutual
def sizeI : Nd → Int
 | .mk k lo hi _ ks => finI (sumI ks) (timesI k lo hi)
def sumI : List Nd → Int
 | [] => 0
 | n :: ns => sizeI n + sumI ns
end
theorem times_pos (k lo hi : Int) : 1 ≤ timesI k lo hi := by
 unfold timesI; split
 ·split <;> omega
 ·omega
theorem finI_in {s t : Int} (hs : 0 ≤ s) (ht : 1 ≤ t) : 1 ≤ finI s t ∧ finI s t ≤ 1000000 := by
 have : 0 ≤ s * min t 1000000 := Int.mul_nonneg hs (by omega)
 unfold finI; split <;> omega
mutual
theorem sizeI_in : ∀ n, 1 ≤ sizeI n ∧ sizeI n ≤ 1000000
 | .mk k lo hi _ ks => by
  unfold sizeI
  exact finI_in (sumI_nn ks) (times_pos k lo hi)
theorem sumI_nn : ∀ ns, 0 ≤ sumI ns
 | [] => by unfold sumI; omega
 | n :: ns => by
  have h1 := sizeI_in n
  have h2 := sumI_nn ns
  unfold sumI; omega
end
theorem sumI_append : ∀ a b : List Nd, sumI (a ++ b) = sumI a + sumI b
 | [], b => by rw [List.nil_append]; show sumI b = sumI [] + sumI b; rw [sumI]; omega
 | n :: a, b => by rw [List.cons_append, sumI, sumI_append a b, sumI]; omega
theorem sumI_next {ks : List Nd} {k : Nat} (h : k < ks.length) : sumI (ks.take (k + 1)) = sumI (ks.take k) + sizeI ks[k] := by
 rw [List.take_succ_eq_append_getElem h, sumI_append, sumI, sumI]; omega
theorem sumI_le {ks : List Nd} (k : Nat) : sumI (ks.take k) ≤ sumI ks := by
 have h := sumI_append (ks.take k) (ks.drop k)
 rw [List.take_append_drop] at h
 have := sumI_nn (ks.drop k)
 omega
/-! how tokens are read -/
def kindIs (T : List Tok) (ks : List Int) : Bool := match T with
 | [] => false
 | t :: _ => ks.contains t.k
def dropIs (T : List Tok) (ks : List Int) : List Tok := if kindIs T ks = true then T.tail else T
abbrev PR := Option (Nd × List Tok)
def flag1 (f : Int) : Bool := bits .and .i64 f 1 == 1
def flag2 (f : Int) : Bool := bits .and .i64 f 2 == 2
def oneT (pat : List Tok → PR) (f : Int) : List Tok → PR
 | [] => none
 | t :: R => if t.k = 3 then (match pat R with
  | none => none
  | some (n, R') => some (n, dropIs R' [4]))
  else if t.k = 1 then some (.mk 2 0 0 (behR (flag1 f) (flag2 f) [(t.c, t.c)]) [], R) else none
def lazyT (n : Nd) (R : List Tok) : Nd × List Tok := (n, dropIs R [13])
def rpT (pat : List Tok → PR) (f : Int) (T : List Tok) : PR := match oneT pat f T with
 | none => none
 | some (n, R) => match R with
  | [] => some (n, [])
  | t :: R' => if t.k = 6 then some (lazyT (.mk 5 t.lo t.hi [] [n]) R') else some (lazyT n (t :: R'))
def joinL (pat : List Tok → PR) (f : Int) : Nat → List Tok → Option (List Nd × List Tok)
 | 0, _ => none
 | k + 1, T => if T = [] ∨ kindIs T [5, 4] = true then some ([], T) else match rpT pat f T with
  | none => none
  | some (n, R) => match joinL pat f k R with
   | none => none
   | some (ns, R') => some (n :: ns, R')
def togT (kind : Int) : List Nd → Nd
 | [] => .mk 1 0 0 [] []
 | [n] => n
 | n :: m :: ns => .mk kind 0 0 [] (n :: m :: ns)
def joinT (pat : List Tok → PR) (f : Int) (k : Nat) (T : List Tok) : PR := match joinL pat f k T with
 | none => none
 | some (ns, R) => some (togT 3 ns, R)
def orL (pat : List Tok → PR) (f : Int) (q : Nat) : Nat → List Tok → Option (List Nd × List Tok)
 | 0, _ => none
 | k + 1, T => if kindIs T [5] = true then (match joinT pat f q T.tail with
  | none => none
  | some (n, R) => match orL pat f q k R with
   | none => none
   | some (ns, R') => some (n :: ns, R')) else some ([], T)
def patT (f : Int) (q : Nat) : Nat → List Tok → PR
 | 0, _ => none
 | d + 1, T => match joinT (patT f q d) f q T with
  | none => none
  | some (n, R) => match orL (patT f q d) f q q R with
   | none => none
   | some (ns, R') => some (togT 4 (n :: ns), R')
/-! where tokens are wrong -/
def faultT (e : Nat) : List Tok → Nat → Int → Int × Int
 | [], o, _ => if 0 < o then ((e : Int), 4) else (0, 0)
 | t :: T, o, a => if t.k = 4 ∧ o = 0 then (t.pos, 5)
  else if t.k = 6 ∧ [3, 5, 6, 13].contains a = true then (t.pos, 5)
  else if t.k = 3 ∧ o = 20 then (t.pos, 9)
  else if t.k = 3 then faultT e T (o + 1) t.k
  else if t.k = 4 then faultT e T (o - 1) t.k
  else faultT e T o t.k
end Go.Proofs.YtkojnnjcgcllmaaGreatDoor
namespace Go.Proofs.YtkojnnjcgcllmaaGreatDoor
open Go.RowKit
theorem grown_of_below {w w' : World} (h : Below w.heap.size w w') (row : Option Nat) : w.grownBy w' row := ⟨h.os, h.tape, h.output, h.size, fun k hk _ => h.block k hk⟩
end Go.Proofs.YtkojnnjcgcllmaaGreatDoor
