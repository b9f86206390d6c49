/- Layer 15, plainly: tokens, and how a pattern is read. -/
import Derived.Test.YtpllklikjnndcaaMem
namespace Go.Proofs.Ytpllklikjnndcaa

/-- a token: its kind, its character, low, high, where it begins -/
structure Tok where
  k : Int
  c : Int
  lo : Int
  hi : Int
  pos : Int
theorem Tok.ext' {s t : Tok} (h1 : s.k = t.k) (h2 : s.c = t.c) (h3 : s.lo = t.lo) (h4 : s.hi = t.hi) (h5 : s.pos = t.pos) : s = t := by
  cases s; cases t; simp_all
/-- its cells -/
@[reducible] def Tok.arr (t : Tok) : Array Value := #[.int .i64 t.k, .int .i64 t.c, .int .i64 t.lo, .int .i64 t.hi, .int .i64 t.pos]
def tokCells (T : List Tok) : List Value := T.flatMap (fun t => t.arr.toList)
/-- read, or wrong: where, and by which error -/
abbrev Wr (α : Type) := Except (Nat × Int) α

def signI (c : Int) : Bool := decide (c = 36) || (decide (40 ≤ c) && decide (c ≤ 43)) || (decide (45 ≤ c) && decide (c ≤ 47)) || decide (c = 63) || (decide (91 ≤ c) && decide (c ≤ 94)) || (decide (123 ≤ c) && decide (c ≤ 125))
/-- what an escape is of, and whether it is a group -/
def escI (c : Int) : Option (Int × Bool) :=
  if c = 110 then some (10, false) else if c = 116 then some (9, false)
  else if c = 100 ∨ c = 119 ∨ c = 115 ∨ c = 68 ∨ c = 87 ∨ c = 83 then some (c, true)
  else if signI c = true then some (c, false) else none
def isDig (d : Int) : Bool := decide (48 ≤ d) && decide (d ≤ 57)

def chT (c : Int) : Tok := ⟨1, c, 0, 0, 0⟩
/-- the next character, and where it goes on -/
def nxT (l : List Int) (k : Nat) : Wr (Int × Nat) := match l[k]? with
  | some c => .ok (c, k + 1)
  | none => .error (k, 4)
/-- an escape whose sign stands at fr, behind it -/
def escT (l : List Int) (fr k : Nat) : Wr (Tok × Nat) := match nxT l k with
  | .error e => .error e
  | .ok (c, k') => match escI c with
    | none => .error (fr, 6)
    | some (x, true) => .ok (⟨12, x, 0, 0, 0⟩, k')
    | some (x, false) => .ok (chT x, k')
/-- a character, or an escape -/
def itemT (l : List Int) (k : Nat) : Wr (Tok × Nat) := match nxT l k with
  | .error e => .error e
  | .ok (c, k') => if c = 92 then escT l k k' else .ok (chT c, k')
/-- a range from a character that stands at fr -/
def upT (l : List Int) (low : Int) (fr k : Nat) : Wr (Tok × Nat) := match itemT l k with
  | .error e => .error e
  | .ok (t, k') => if t.k = 12 then .error (k, 7) else if t.c < low then .error (fr, 7) else .ok (⟨9, 0, low, t.c, 0⟩, k')
/-- a class's beginning -/
def claT (l : List Int) (k : Nat) : Tok × Nat := if l[k]? = some 94 then (⟨7, 1, 0, 0, 0⟩, k + 1) else (⟨7, 0, 0, 0, 0⟩, k)
def digT (l : List Int) (k : Nat) : List Int := (l.drop k).takeWhile isDig
def numF (n d : Int) : Int := min (10 * n + d - 48) 21
def numT (D : List Int) : Int := if D = [] then -1 else if D[0]? = some 48 ∧ 1 < D.length then 21 else D.foldl numF 0
def badB (c a b : Int) : Bool := c != 125 || decide (a < 0) || decide (20 < max a b) || (decide (0 ≤ b) && decide (b < a))
def shutT (fr : Nat) (a b c : Int) (k : Nat) : Wr (Tok × Nat) := if badB c a b = true then .error (fr, 8) else .ok (⟨6, 0, a, b, 0⟩, k)
/-- braces that stand at fr, behind them -/
def braT (l : List Int) (fr k : Nat) : Wr (Tok × Nat) := match nxT l (k + (digT l k).length) with
  | .error e => .error e
  | .ok (c, k2) => if c = 44 ∧ digT l k ≠ [] then (match nxT l (k2 + (digT l k2).length) with
      | .error e => .error e
      | .ok (c', k3) => shutT fr (numT (digT l k)) (numT (digT l k2)) c' k3) else shutT fr (numT (digT l k)) (numT (digT l k)) c k2
/-- one of ? * +, the last token being a repeat or not -/
def repT (r : Bool) (c : Int) : Tok := if c = 63 ∧ r = true then ⟨13, 0, 0, 0, 0⟩ else if c = 63 then ⟨6, 0, 0, 1, 0⟩ else if c = 42 then ⟨6, 0, 0, -1, 0⟩ else ⟨6, 0, 1, -1, 0⟩
def aloT (c : Int) : Tok := if c = 46 then ⟨2, 0, 0, 0, 0⟩ else if c = 40 then ⟨3, 0, 0, 0, 0⟩ else if c = 41 then ⟨4, 0, 0, 0, 0⟩ else if c = 124 then ⟨5, 0, 0, 0, 0⟩ else if c = 94 then ⟨10, 0, 0, 0, 0⟩ else if c = 36 then ⟨11, 0, 0, 0, 0⟩ else chT c
/-- laid where it begins -/
def plT (fr : Nat) : Wr (Tok × Nat) → Wr (Tok × Nat)
  | .error e => .error e
  | .ok (t, k) => .ok (⟨t.k, t.c, t.lo, t.hi, (fr : Int)⟩, k)
/-- the next token, outside of a class -/
def outB (l : List Int) (r : Bool) (k : Nat) : Wr (Tok × Nat) := match nxT l k with
  | .error e => .error e
  | .ok (c, k') => if c = 63 ∨ c = 42 ∨ c = 43 then .ok (repT r c, k') else if c = 123 then braT l k k' else if c = 91 then .ok (claT l k') else if c = 92 then escT l k k' else .ok (aloT c, k')
def outT (l : List Int) (r : Bool) (k : Nat) : Wr (Tok × Nat) := plT k (outB l r k)
/-- the next token, in a class -/
def inB (l : List Int) (k : Nat) : Wr (Tok × Nat) := if l[k]? = some 93 then .ok (⟨8, 0, 0, 0, 0⟩, k + 1) else match itemT l k with
  | .error e => .error e
  | .ok (t, k') => if t.k = 1 ∧ l[k']? = some 45 ∧ ¬ l[k' + 1]? = some 93 then upT l t.c k (k' + 1) else .ok (t, k')
def inT (l : List Int) (k : Nat) : Wr (Tok × Nat) := plT k (inB l k)
def lastR (T : List Tok) : Bool := match T.getLast? with
  | some t => t.k == 6
  | none => false
/-- all tokens from a place on; cls: in a class; T: those that are read -/
def readT (l : List Int) : Nat → Bool → Nat → List Tok → Wr (List Tok)
  | 0, _, _, T => .ok T
  | n + 1, cls, k, T => if cls = false ∧ k = l.length then .ok T else match (if cls = true then inT l k else outT l (lastR T) k) with
    | .error e => .error e
    | .ok (t, k') => readT l n (if cls = true then t.k != 8 else t.k == 7) k' (T ++ [t])
def ofT (l : List Int) : Wr (List Tok) := if 200 < l.length then .error (0, 10) else readT l (l.length + 1) false 0 []

/-! what is read lies ahead -/
theorem nxT_ok {l : List Int} {k : Nat} {c : Int} {k' : Nat} (h : nxT l k = .ok (c, k')) : k' = k + 1 ∧ ∃ hk : k < l.length, l[k] = c := by
  unfold nxT at h
  split at h
  · rename_i x hx
    injection h with h
    injection h with h1 h2
    obtain ⟨hk, e⟩ := List.getElem?_eq_some_iff.1 hx
    exact ⟨h2.symm, hk, by rw [e, h1]⟩
  · cases h
theorem nxT_at {l : List Int} {k : Nat} (h : k < l.length) : nxT l k = .ok (l[k], k + 1) := by
  unfold nxT; rw [List.getElem?_eq_getElem h]
theorem nxT_end {l : List Int} {k : Nat} (h : l.length ≤ k) : nxT l k = .error (k, 4) := by
  unfold nxT; rw [List.getElem?_eq_none h]
theorem escT_ok {l : List Int} {fr k : Nat} {t : Tok} {k' : Nat} (h : escT l fr k = .ok (t, k')) : k' = k + 1 ∧ k < l.length := by
  unfold escT at h
  split at h
  · cases h
  · rename_i c k2 hn
    obtain ⟨rfl, hk, _⟩ := nxT_ok hn
    split at h
    · cases h
    · injection h with h; injection h with _ h; exact ⟨h.symm, hk⟩
    · injection h with h; injection h with _ h; exact ⟨h.symm, hk⟩
theorem itemT_ok {l : List Int} {k : Nat} {t : Tok} {k' : Nat} (h : itemT l k = .ok (t, k')) : k < k' ∧ k' ≤ l.length := by
  unfold itemT at h
  split at h
  · cases h
  · rename_i c k2 hn
    obtain ⟨rfl, hk, _⟩ := nxT_ok hn
    split at h
    · obtain ⟨rfl, h2⟩ := escT_ok h; omega
    · injection h with h; injection h with _ h; omega
theorem upT_ok {l : List Int} {low : Int} {fr k : Nat} {t : Tok} {k' : Nat} (h : upT l low fr k = .ok (t, k')) : k < k' ∧ k' ≤ l.length := by
  unfold upT at h
  split at h
  · cases h
  · rename_i c k2 hn
    have := itemT_ok hn
    split at h
    · cases h
    · split at h
      · cases h
      · injection h with h; injection h with _ h; omega
theorem shutT_ok {fr : Nat} {a b c : Int} {k : Nat} {t : Tok} {k' : Nat} (h : shutT fr a b c k = .ok (t, k')) : k' = k := by
  unfold shutT at h
  split at h
  · cases h
  · injection h with h; injection h with _ h; exact h.symm
theorem braT_ok {l : List Int} {fr k : Nat} {t : Tok} {k' : Nat} (h : braT l fr k = .ok (t, k')) : k < k' ∧ k' ≤ l.length := by
  unfold braT at h
  split at h
  · cases h
  · rename_i c k2 hn
    obtain ⟨rfl, hk, _⟩ := nxT_ok hn
    split at h
    · split at h
      · cases h
      · rename_i c' k3 hn'
        obtain ⟨rfl, hk', _⟩ := nxT_ok hn'
        have := shutT_ok h; omega
    · have := shutT_ok h; omega
theorem claT_le {l : List Int} {k : Nat} (h : k ≤ l.length) : k ≤ (claT l k).2 ∧ (claT l k).2 ≤ l.length := by
  unfold claT
  split
  · rename_i h1
    have := (List.getElem?_eq_some_iff.1 h1).1
    simp only; omega
  · simp only; omega
theorem plT_ok {fr : Nat} {r : Wr (Tok × Nat)} {t : Tok} {k' : Nat} (h : plT fr r = .ok (t, k')) : ∃ t', r = .ok (t', k') ∧ t = ⟨t'.k, t'.c, t'.lo, t'.hi, (fr : Int)⟩ := by
  unfold plT at h
  split at h
  · cases h
  · rename_i t' k2
    injection h with h
    injection h with h1 h2
    subst h2
    exact ⟨t', rfl, h1.symm⟩
theorem outB_ok {l : List Int} {r : Bool} {k : Nat} {t : Tok} {k' : Nat} (h : outB l r k = .ok (t, k')) : k < k' ∧ k' ≤ l.length := by
  unfold outB at h
  split at h
  · cases h
  · rename_i c k2 hn
    obtain ⟨rfl, hk, _⟩ := nxT_ok hn
    split at h
    · injection h with h; injection h with _ h; omega
    · split at h
      · have := braT_ok h; omega
      · split at h
        · injection h with h
          have h1 := claT_le (l := l) (k := k + 1) (by omega)
          rw [h] at h1
          simp only at h1; omega
        · split at h
          · have := escT_ok h; omega
          · injection h with h; injection h with _ h; omega
theorem outT_ok {l : List Int} {r : Bool} {k : Nat} {t : Tok} {k' : Nat} (h : outT l r k = .ok (t, k')) : k < k' ∧ k' ≤ l.length ∧ t.pos = (k : Int) := by
  obtain ⟨t', hb, rfl⟩ := plT_ok h
  exact ⟨(outB_ok hb).1, (outB_ok hb).2, rfl⟩
theorem inB_ok {l : List Int} {k : Nat} {t : Tok} {k' : Nat} (h : inB l k = .ok (t, k')) : k < k' ∧ k' ≤ l.length := by
  unfold inB at h
  split at h
  · rename_i h1
    have := (List.getElem?_eq_some_iff.1 h1).1
    injection h with h; injection h with _ h; omega
  · split at h
    · cases h
    · rename_i t2 k2 hn
      have h1 := itemT_ok hn
      split at h
      · have := upT_ok h; omega
      · injection h with h; injection h with _ h; omega
theorem inT_ok {l : List Int} {k : Nat} {t : Tok} {k' : Nat} (h : inT l k = .ok (t, k')) : k < k' ∧ k' ≤ l.length ∧ t.pos = (k : Int) := by
  obtain ⟨t', hb, rfl⟩ := plT_ok h
  exact ⟨(inB_ok hb).1, (inB_ok hb).2, rfl⟩
/-- errors stand in the pattern, or at its end -/
theorem nxT_no {l : List Int} {k : Nat} {e : Nat × Int} (h : nxT l k = .error e) : l.length ≤ k ∧ e = (k, 4) := by
  unfold nxT at h
  split at h
  · cases h
  · rename_i hx
    injection h with h
    exact ⟨List.getElem?_eq_none_iff.1 hx, h.symm⟩
end Go.Proofs.Ytpllklikjnndcaa
