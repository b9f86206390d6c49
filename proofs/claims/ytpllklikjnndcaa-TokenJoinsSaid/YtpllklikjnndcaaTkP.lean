/- Layer 15, plainly: what tokens are like, one behind the other, and where a pattern is wrong. -/
import Derived.Test.YtpllklikjnndcaaTkJ
namespace Go.Proofs.Ytpllklikjnndcaa

/-- in a class, behind a token? -/
def nextC (c : Bool) (t : Tok) : Bool := if t.k = 7 then true else if t.k = 8 then false else c
/-- a token, in a class or not, behind another one, of a pattern of n characters -/
structure Fit (n : Nat) (c : Bool) (p : Option Tok) (t : Tok) : Prop where
  pos0 : 0 ≤ t.pos
  posn : t.pos < n
  rises : ∀ q, p = some q → q.pos < t.pos
  lo : 1 ≤ t.k
  hi : t.k ≤ 13
  begins : t.k = 7 → c = false
  ends : t.k = 8 → c = true
  range : t.k = 9 → c = true ∧ t.lo ≤ t.hi
  inside : c = true → t.k = 1 ∨ t.k = 12 ∨ t.k = 9 ∨ t.k = 8
  lazy : t.k = 13 → ∃ q, p = some q ∧ q.k = 6
  again : t.k = 6 → 0 ≤ t.lo ∧ t.lo ≤ 20 ∧ t.hi ≤ 20 ∧ (0 ≤ t.hi → t.lo ≤ t.hi)

theorem numT_bound (D : List Int) (h : ∀ d ∈ D, isDig d = true) : -1 ≤ numT D ∧ numT D ≤ 21 := by
  unfold numT
  split
  · omega
  · split
    · omega
    · have := numFold_bound D 0 (by omega) (by omega) h; omega
/-- what stands outside of a class -/
structure OutK (r : Bool) (t : Tok) : Prop where
  kind : t.k = 1 ∨ t.k = 2 ∨ t.k = 3 ∨ t.k = 4 ∨ t.k = 5 ∨ t.k = 6 ∨ t.k = 7 ∨ t.k = 10 ∨ t.k = 11 ∨ t.k = 12 ∨ t.k = 13
  lazy : t.k = 13 → r = true
  again : t.k = 6 → 0 ≤ t.lo ∧ t.lo ≤ 20 ∧ t.hi ≤ 20 ∧ (0 ≤ t.hi → t.lo ≤ t.hi)
theorem OutK.easy {r : Bool} {t : Tok} (h : t.k = 1 ∨ t.k = 2 ∨ t.k = 3 ∨ t.k = 4 ∨ t.k = 5 ∨ t.k = 7 ∨ t.k = 10 ∨ t.k = 11 ∨ t.k = 12) : OutK r t := ⟨by omega, fun e => by omega, fun e => by omega⟩
theorem escT_kind {l : List Int} {fr k : Nat} {t : Tok} {k' : Nat} (h : escT l fr k = .ok (t, k')) : t.k = 1 ∨ t.k = 12 := by
  unfold escT at h
  split at h
  · cases h
  · split at h
    · cases h
    · injection h with h; injection h with h _; subst h; exact .inr rfl
    · injection h with h; injection h with h _; subst h; exact .inl rfl
theorem shutT_kind {fr : Nat} {a b c : Int} {k : Nat} {t : Tok} {k' : Nat} (h : shutT fr a b c k = .ok (t, k')) (r : Bool) : OutK r t := by
  unfold shutT at h
  split at h
  · cases h
  · rename_i hb
    injection h with h; injection h with h _; subst h
    refine ⟨by simp, fun e => by simp at e, fun _ => ?_⟩
    simp [badB] at hb
    simp only
    omega
theorem braT_kind {l : List Int} {fr k : Nat} {t : Tok} {k' : Nat} (h : braT l fr k = .ok (t, k')) (r : Bool) : OutK r t := by
  unfold braT at h
  split at h
  · cases h
  · split at h
    · split at h
      · cases h
      · exact shutT_kind h r
    · exact shutT_kind h r
theorem repT_kind (r : Bool) (c : Int) : OutK r (repT r c) := by
  unfold repT
  split
  · rename_i h; exact ⟨by simp, fun _ => h.2, fun e => by simp at e⟩
  · split
    · exact ⟨by simp, fun e => by simp at e, fun _ => by simp⟩
    · split
      · exact ⟨by simp, fun e => by simp at e, fun _ => by simp⟩
      · exact ⟨by simp, fun e => by simp at e, fun _ => by simp⟩
theorem aloT_kind (r : Bool) (c : Int) : OutK r (aloT c) := by
  refine OutK.easy ?_
  unfold aloT
  repeat' split
  all_goals simp [chT]
theorem claT_kind (l : List Int) (k : Nat) (r : Bool) : OutK r (claT l k).1 := by
  refine OutK.easy ?_
  unfold claT
  split <;> simp
theorem outB_kind {l : List Int} {r : Bool} {k : Nat} {t : Tok} {k' : Nat} (h : outB l r k = .ok (t, k')) : OutK r t := by
  unfold outB at h
  split at h
  · cases h
  · split at h
    · injection h with h; injection h with h _; subst h; exact repT_kind r _
    · split at h
      · exact braT_kind h r
      · split at h
        · injection h with h
          have := claT_kind l (k + 1) r
          rename_i c k2 hn _ _ _
          have h2 := claT_kind l k2 r
          rw [h] at h2; exact h2
        · split at h
          · have := escT_kind h; exact OutK.easy (by omega)
          · injection h with h; injection h with h _; subst h; exact aloT_kind r _
theorem itemT_kind {l : List Int} {k : Nat} {t : Tok} {k' : Nat} (h : itemT l k = .ok (t, k')) : t.k = 1 ∨ t.k = 12 := by
  unfold itemT at h
  split at h
  · cases h
  · split at h
    · exact escT_kind h
    · injection h with h; injection h with h _; subst h; exact .inl rfl
theorem upT_kind {l : List Int} {low : Int} {fr k : Nat} {t : Tok} {k' : Nat} (h : upT l low fr k = .ok (t, k')) : t.k = 9 ∧ t.lo ≤ t.hi := by
  unfold upT at h
  split at h
  · cases h
  · split at h
    · cases h
    · split at h
      · cases h
      · rename_i hlt
        injection h with h; injection h with h _; subst h
        exact ⟨rfl, by simp only; omega⟩
theorem inB_kind {l : List Int} {k : Nat} {t : Tok} {k' : Nat} (h : inB l k = .ok (t, k')) : (t.k = 1 ∨ t.k = 12 ∨ t.k = 9 ∨ t.k = 8) ∧ (t.k = 9 → t.lo ≤ t.hi) := by
  unfold inB at h
  split at h
  · injection h with h; injection h with h _; subst h; exact ⟨by simp, fun e => by simp at e⟩
  · split at h
    · cases h
    · rename_i t2 k2 hn
      have h1 := itemT_kind hn
      split at h
      · have := upT_kind h; exact ⟨by omega, fun _ => this.2⟩
      · injection h with h; injection h with h _; subst h; exact ⟨by omega, fun e => by omega⟩

/-- all of a list's tokens fit, and behind them one is in a class or not -/
def clsAt (T : List Tok) (i : Nat) : Bool := (T.take i).foldl nextC false
structure Fits (n : Nat) (c : Bool) (k : Nat) (T : List Tok) : Prop where
  fit : ∀ i (h : i < T.length), Fit n (clsAt T i) (if 0 < i then T[i - 1]? else none) T[i]
  cls : clsAt T T.length = c
  last : ∀ t, T.getLast? = some t → t.pos < k
theorem clsAt_append {T : List Tok} {t : Tok} {i : Nat} (h : i ≤ T.length) : clsAt (T ++ [t]) i = clsAt T i := by
  unfold clsAt; rw [List.take_append_of_le_length h]
theorem clsAt_next {T : List Tok} {i : Nat} (h : i < T.length) : clsAt T (i + 1) = nextC (clsAt T i) T[i] := by
  unfold clsAt; rw [List.take_succ_eq_append_getElem h, List.foldl_append]; rfl
theorem Fits.push {n k k' : Nat} {c c' : Bool} {T : List Tok} {t : Tok} (h : Fits n c k T) (hf : Fit n c T.getLast? t) (hp : t.pos = (k : Int)) (hk : k < k') (hc : nextC c t = c') : Fits n c' k' (T ++ [t]) := by
  refine ⟨fun i hi => ?_, ?_, fun q hq => ?_⟩
  · by_cases hlt : i < T.length
    · rw [clsAt_append (by omega), List.getElem_append_left hlt]
      have := h.fit i hlt
      by_cases h0 : 0 < i
      · rw [if_pos h0] at this ⊢
        rw [List.getElem?_append_left (by omega)]; exact this
      · rw [if_neg h0] at this ⊢; exact this
    · obtain rfl : i = T.length := by simp at hi; omega
      rw [clsAt_append (Nat.le_refl _), h.cls]
      rw [List.getElem_append_right (Nat.le_refl _)]
      simp only [Nat.sub_self, List.getElem_cons_zero]
      have e : (if 0 < T.length then (T ++ [t])[T.length - 1]? else none) = T.getLast? := by
        by_cases h0 : 0 < T.length
        · rw [if_pos h0, List.getElem?_append_left (by omega), List.getLast?_eq_getElem?]
        · have hT : T = [] := List.eq_nil_of_length_eq_zero (by omega)
          subst hT; rfl
      rw [e]; exact hf
  · rw [List.length_append, List.length_singleton, clsAt_next (by simp), List.getElem_append_right (Nat.le_refl _), clsAt_append (Nat.le_refl _), h.cls]
    simp [hc]
  · rw [List.getLast?_append] at hq
    simp at hq
    subst hq
    rw [hp]; omega
theorem last_rep {T : List Tok} (h : lastR T = true) : ∃ q, T.getLast? = some q ∧ q.k = 6 := by
  unfold lastR at h
  split at h
  · rename_i q hq; exact ⟨q, hq, by simpa using h⟩
  · cases h
theorem read_fits (l : List Int) : ∀ (n : Nat) (c : Bool) (k : Nat) (T T' : List Tok), k ≤ l.length → l.length - k < n → Fits l.length c k T → readT l n c k T = .ok T' → Fits l.length false (l.length + 1) T'
  | 0, _, _, _, _, _, hn, _, _ => by omega
  | n + 1, false, k, T, T', hk, hn, hf, h => by
    by_cases hke : k = l.length
    · subst hke
      rw [readT_end] at h
      injection h with h
      subst h
      exact ⟨hf.fit, hf.cls, fun t ht => by have := hf.last t ht; omega⟩
    · rw [readT_out hke] at h
      rcases ho : outT l (lastR T) k with e | ⟨t, k'⟩
      · rw [ho] at h; cases h
      · rw [ho] at h
        simp only at h
        obtain ⟨h1, h2, h3⟩ := outT_ok ho
        obtain ⟨t', hb, e⟩ := plT_ok ho
        have hk2 := outB_kind hb
        have ek : t.k = t'.k := by rw [e]
        have el : t.lo = t'.lo := by rw [e]
        have eh : t.hi = t'.hi := by rw [e]
        have hkind := hk2.kind
        refine read_fits l n (t.k == 7) k' (T ++ [t]) T' h2 (by omega) (hf.push ?_ h3 h1 ?_) h
        · refine ⟨by rw [h3]; omega, by rw [h3]; omega, fun q hq => by rw [h3]; exact hf.last q hq, by omega, by omega, fun _ => rfl, fun e1 => by omega, fun e1 => (by exfalso; omega), fun e1 => (by cases e1), fun e1 => last_rep (hk2.lazy (by omega)), fun e1 => by rw [el, eh]; exact hk2.again (by omega)⟩
        · unfold nextC
          by_cases h7 : t.k = 7
          · rw [if_pos h7, h7]; rfl
          · rw [if_neg h7, if_neg (by omega)]; symm; simpa using h7
  | n + 1, true, k, T, T', hk, hn, hf, h => by
    rw [readT_in] at h
    rcases ho : inT l k with e | ⟨t, k'⟩
    · rw [ho] at h; cases h
    · rw [ho] at h
      simp only at h
      obtain ⟨h1, h2, h3⟩ := inT_ok ho
      obtain ⟨t', hb, e⟩ := plT_ok ho
      have hk2 := inB_kind hb
      have ek : t.k = t'.k := by rw [e]
      have el : t.lo = t'.lo := by rw [e]
      have eh : t.hi = t'.hi := by rw [e]
      have hkind := hk2.1
      refine read_fits l n (t.k != 8) k' (T ++ [t]) T' h2 (by omega) (hf.push ?_ h3 h1 ?_) h
      · refine ⟨by rw [h3]; omega, by rw [h3]; omega, fun q hq => by rw [h3]; exact hf.last q hq, by omega, by omega, fun e1 => (by exfalso; omega), fun _ => rfl, fun e1 => ⟨rfl, by rw [el, eh]; exact hk2.2 (by omega)⟩, fun _ => by omega, fun e1 => (by exfalso; omega), fun e1 => (by exfalso; omega)⟩
      · unfold nextC
        rw [if_neg (by omega)]
        by_cases h8 : t.k = 8
        · rw [if_pos h8, h8]; rfl
        · rw [if_neg h8]; symm; simpa using h8
theorem of_fits {l : List Int} {T : List Tok} (h : ofT l = .ok T) : Fits l.length false (l.length + 1) T ∧ l.length ≤ 200 := by
  unfold ofT at h
  split at h
  · cases h
  · exact ⟨read_fits l (l.length + 1) false 0 [] T (by omega) (by omega) ⟨fun i hi => by simp at hi, rfl, fun t ht => by simp at ht⟩ h, by omega⟩

theorem read_length (l : List Int) : ∀ (n : Nat) (c : Bool) (k : Nat) (T T' : List Tok), k ≤ l.length → readT l n c k T = .ok T' → T'.length + k ≤ T.length + l.length
  | 0, _, k, T, T', hk, h => by
    injection h with h; subst h; omega
  | n + 1, false, k, T, T', hk, h => by
    by_cases hke : k = l.length
    · subst hke; rw [readT_end] at h; injection h with h; subst h; omega
    · rw [readT_out hke] at h
      rcases ho : outT l (lastR T) k with e' | ⟨t, k'⟩
      · rw [ho] at h; cases h
      · rw [ho] at h
        obtain ⟨h1, h2, _⟩ := outT_ok ho
        have := read_length l n _ k' _ T' h2 h
        simp at this; omega
  | n + 1, true, k, T, T', hk, h => by
    rw [readT_in] at h
    rcases ho : inT l k with e' | ⟨t, k'⟩
    · rw [ho] at h; cases h
    · rw [ho] at h
      obtain ⟨h1, h2, _⟩ := inT_ok ho
      have := read_length l n _ k' _ T' h2 h
      simp at this; omega
theorem of_length {l : List Int} {T : List Tok} (h : ofT l = .ok T) : T.length ≤ l.length := by
  unfold ofT at h
  split at h
  · cases h
  · have := read_length l (l.length + 1) false 0 [] T (by omega) h
    simp at this; exact this

/-! where it is wrong -/
structure Bad (n : Nat) (e : Nat × Int) : Prop where
  le : e.1 ≤ n
  atEnd : e.2 = 4 → e.1 = n
  kind : e.2 = 4 ∨ e.2 = 6 ∨ e.2 = 7 ∨ e.2 = 8
theorem nxT_bad {l : List Int} {k : Nat} {e : Nat × Int} (hk : k ≤ l.length) (h : nxT l k = .error e) : Bad l.length e := by
  obtain ⟨h1, rfl⟩ := nxT_no h
  exact ⟨hk, fun _ => by simp only; omega, .inl rfl⟩
theorem bad_at {n fr : Nat} {x : Int} (h : fr ≤ n) (hx : x = 6 ∨ x = 7 ∨ x = 8) : Bad n (fr, x) := ⟨h, fun e => by simp only at e; omega, by simp only; omega⟩
theorem escT_bad {l : List Int} {fr k : Nat} {e : Nat × Int} (hf : fr ≤ l.length) (hk : k ≤ l.length) (h : escT l fr k = .error e) : Bad l.length e := by
  unfold escT at h
  split at h
  · rename_i hn; injection h with h; subst h; exact nxT_bad hk hn
  · split at h
    · injection h with h; subst h; exact bad_at hf (by simp)
    · cases h
    · cases h
theorem itemT_bad {l : List Int} {k : Nat} {e : Nat × Int} (hk : k ≤ l.length) (h : itemT l k = .error e) : Bad l.length e := by
  unfold itemT at h
  split at h
  · rename_i hn; injection h with h; subst h; exact nxT_bad hk hn
  · rename_i c k2 hn
    obtain ⟨rfl, hk2, _⟩ := nxT_ok hn
    split at h
    · exact escT_bad hk (by omega) h
    · cases h
theorem upT_bad {l : List Int} {low : Int} {fr k : Nat} {e : Nat × Int} (hf : fr ≤ l.length) (hk : k ≤ l.length) (h : upT l low fr k = .error e) : Bad l.length e := by
  unfold upT at h
  split at h
  · rename_i hn; injection h with h; subst h; exact itemT_bad hk hn
  · split at h
    · injection h with h; subst h; exact bad_at hk (by simp)
    · split at h
      · injection h with h; subst h; exact bad_at hf (by simp)
      · cases h
theorem shutT_bad {n fr : Nat} {a b c : Int} {k : Nat} {e : Nat × Int} (hf : fr ≤ n) (h : shutT fr a b c k = .error e) : Bad n e := by
  unfold shutT at h
  split at h
  · injection h with h; subst h; exact bad_at hf (by simp)
  · cases h
theorem braT_bad {l : List Int} {fr k : Nat} {e : Nat × Int} (hf : fr ≤ l.length) (hk : k ≤ l.length) (h : braT l fr k = .error e) : Bad l.length e := by
  unfold braT at h
  split at h
  · rename_i hn; injection h with h; subst h; exact nxT_bad (by have := digT_length l k; omega) hn
  · rename_i c k2 hn
    obtain ⟨rfl, hk2, _⟩ := nxT_ok hn
    split at h
    · split at h
      · rename_i hn2; injection h with h; subst h; exact nxT_bad (by have := digT_length l (k + (digT l k).length + 1); omega) hn2
      · exact shutT_bad hf h
    · exact shutT_bad hf h
theorem outB_bad {l : List Int} {r : Bool} {k : Nat} {e : Nat × Int} (hk : k ≤ l.length) (h : outB l r k = .error e) : Bad l.length e := by
  unfold outB at h
  split at h
  · rename_i hn; injection h with h; subst h; exact nxT_bad hk hn
  · rename_i c k2 hn
    obtain ⟨rfl, hk2, _⟩ := nxT_ok hn
    split at h
    · cases h
    · split at h
      · exact braT_bad hk (by omega) h
      · split at h
        · cases h
        · split at h
          · exact escT_bad hk (by omega) h
          · cases h
theorem inB_bad {l : List Int} {k : Nat} {e : Nat × Int} (hk : k ≤ l.length) (h : inB l k = .error e) : Bad l.length e := by
  unfold inB at h
  split at h
  · cases h
  · split at h
    · rename_i hn; injection h with h; subst h; exact itemT_bad hk hn
    · rename_i t2 k2 hn
      have h1 := itemT_ok hn
      split at h
      · rename_i hc
        have := (List.getElem?_eq_some_iff.1 hc.2.1).1
        exact upT_bad hk (by omega) h
      · cases h
theorem plT_bad {fr : Nat} {r : Wr (Tok × Nat)} {e : Nat × Int} (h : plT fr r = .error e) : r = .error e := by
  unfold plT at h
  split at h
  · injection h with h; rw [h]
  · cases h
theorem read_bad (l : List Int) : ∀ (n : Nat) (c : Bool) (k : Nat) (T : List Tok) (e : Nat × Int), k ≤ l.length → readT l n c k T = .error e → Bad l.length e
  | 0, _, _, _, _, _, h => by cases h
  | n + 1, false, k, T, e, hk, h => by
    by_cases hke : k = l.length
    · subst hke; rw [readT_end] at h; cases h
    · rw [readT_out hke] at h
      rcases ho : outT l (lastR T) k with e' | ⟨t, k'⟩
      · rw [ho] at h; injection h with h; subst h; exact outB_bad hk (plT_bad ho)
      · rw [ho] at h
        exact read_bad l n _ k' _ e (outT_ok ho).2.1 h
  | n + 1, true, k, T, e, hk, h => by
    rw [readT_in] at h
    rcases ho : inT l k with e' | ⟨t, k'⟩
    · rw [ho] at h; injection h with h; subst h; exact inB_bad hk (plT_bad ho)
    · rw [ho] at h
      exact read_bad l n _ k' _ e (inT_ok ho).2.1 h
theorem of_bad {l : List Int} {m : Nat} {x : Int} (h : ofT l = .error (m, x)) : m ≤ l.length ∧ (x = 4 → m = l.length) ∧ ¬ x = 0 ∧ (200 < l.length ↔ x = 10) := by
  unfold ofT at h
  split at h
  · injection h with h; injection h with h1 h2; subst h1 h2; exact ⟨by omega, fun e => by omega, by omega, by omega⟩
  · have := read_bad l (l.length + 1) false 0 [] (m, x) (by omega) h
    have h1 := this.le
    have h2 := this.atEnd
    have h3 := this.kind
    simp only at h1 h2 h3
    exact ⟨h1, h2, by omega, by omega⟩
end Go.Proofs.Ytpllklikjnndcaa
