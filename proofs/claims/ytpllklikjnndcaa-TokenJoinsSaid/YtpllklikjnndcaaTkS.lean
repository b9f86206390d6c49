/- Layer 15, plainly: tokens of two patterns, one behind the other. -/
import Derived.Test.YtpllklikjnndcaaTkP
namespace Go.Proofs.Ytpllklikjnndcaa

/-- moved on -/
def Tok.on (m : Nat) (t : Tok) : Tok := ⟨t.k, t.c, t.lo, t.hi, t.pos + m⟩
def wrOn (m : Nat) : Wr (Tok × Nat) → Wr (Tok × Nat)
  | .error (n, x) => .error (m + n, x)
  | .ok (t, k) => .ok (t, m + k)
def wrOnT (m : Nat) : Wr (Tok × Nat) → Wr (Tok × Nat)
  | .error (n, x) => .error (m + n, x)
  | .ok (t, k) => .ok (t.on m, m + k)

section
variable (a b : List Int)
theorem at_on (k : Nat) : (a ++ b)[a.length + k]? = b[k]? := by rw [List.getElem?_append_right (by omega)]; congr 1; omega
theorem nxT_on (k : Nat) : nxT (a ++ b) (a.length + k) = (match nxT b k with | .error (n, x) => .error (a.length + n, x) | .ok (c, k') => .ok (c, a.length + k')) := by
  unfold nxT
  rw [at_on]
  rcases b[k]? with _ | c <;> rfl
theorem escT_on (fr k : Nat) : escT (a ++ b) (a.length + fr) (a.length + k) = wrOn a.length (escT b fr k) := by
  unfold escT
  rw [nxT_on]
  rcases nxT b k with ⟨n, x⟩ | ⟨c, k'⟩
  · rfl
  · simp only
    rcases escI c with _ | ⟨z, _ | _⟩ <;> rfl
theorem itemT_on (k : Nat) : itemT (a ++ b) (a.length + k) = wrOn a.length (itemT b k) := by
  unfold itemT
  rw [nxT_on]
  rcases nxT b k with ⟨n, x⟩ | ⟨c, k'⟩
  · rfl
  · simp only
    by_cases h : c = 92
    · rw [if_pos h, if_pos h, escT_on]
    · rw [if_neg h, if_neg h]; rfl
theorem upT_on (low : Int) (fr k : Nat) : upT (a ++ b) low (a.length + fr) (a.length + k) = wrOn a.length (upT b low fr k) := by
  unfold upT
  rw [itemT_on]
  rcases itemT b k with ⟨n, x⟩ | ⟨t, k'⟩
  · rfl
  · simp only [wrOn]
    by_cases h : t.k = 12
    · rw [if_pos h, if_pos h]
    · rw [if_neg h, if_neg h]
      by_cases h2 : t.c < low
      · rw [if_pos h2, if_pos h2]
      · rw [if_neg h2, if_neg h2]
theorem claT_on (k : Nat) : claT (a ++ b) (a.length + k) = ((claT b k).1, a.length + (claT b k).2) := by
  unfold claT
  rw [at_on]
  split <;> rfl
theorem digT_on (k : Nat) : digT (a ++ b) (a.length + k) = digT b k := by
  unfold digT
  rw [List.drop_append, List.drop_eq_nil_of_le (by omega), List.nil_append]
  congr 2; omega
theorem shutT_on (m fr : Nat) (x y c : Int) (k : Nat) : shutT (m + fr) x y c (m + k) = wrOn m (shutT fr x y c k) := by
  unfold shutT; split <;> rfl
theorem braT_on (fr k : Nat) : braT (a ++ b) (a.length + fr) (a.length + k) = wrOn a.length (braT b fr k) := by
  unfold braT
  rw [digT_on, Nat.add_assoc, nxT_on]
  rcases nxT b (k + (digT b k).length) with ⟨n, x⟩ | ⟨c, k2⟩
  · rfl
  · simp only
    rw [digT_on, Nat.add_assoc, nxT_on]
    split
    · rcases nxT b (k2 + (digT b k2).length) with ⟨n, x⟩ | ⟨c', k3⟩
      · rfl
      · simp only; rw [shutT_on]
    · rw [shutT_on]
theorem outB_on (r : Bool) (k : Nat) : outB (a ++ b) r (a.length + k) = wrOn a.length (outB b r k) := by
  unfold outB
  rw [nxT_on]
  rcases nxT b k with ⟨n, x⟩ | ⟨c, k'⟩
  · rfl
  · simp only
    split
    · rfl
    · split
      · rw [braT_on]
      · split
        · rw [claT_on]; rfl
        · split
          · rw [escT_on]
          · rfl
theorem inB_on (k : Nat) : inB (a ++ b) (a.length + k) = wrOn a.length (inB b k) := by
  unfold inB
  rw [at_on, itemT_on]
  split
  · rfl
  · rcases itemT b k with ⟨n, x⟩ | ⟨t, k'⟩
    · rfl
    · simp only [wrOn]
      rw [at_on, Nat.add_assoc, at_on, upT_on]
      split <;> rfl
theorem plT_on (m fr : Nat) (r : Wr (Tok × Nat)) : plT (m + fr) (wrOn m r) = wrOnT m (plT fr r) := by
  rcases r with ⟨n, x⟩ | ⟨t, k⟩
  · rfl
  · simp only [wrOn, plT, wrOnT, Tok.on]
    congr 3
    omega
theorem outT_on (r : Bool) (k : Nat) : outT (a ++ b) r (a.length + k) = wrOnT a.length (outT b r k) := by
  unfold outT; rw [outB_on, plT_on]
theorem inT_on (k : Nat) : inT (a ++ b) (a.length + k) = wrOnT a.length (inT b k) := by
  unfold inT; rw [inB_on, plT_on]
/-- the whole of the second one, behind the first one -/
theorem read_on : ∀ (n : Nat) (c : Bool) (k : Nat) (S T : List Tok), k ≤ b.length →
    (T = [] → c = false → k < b.length → b[k]? ≠ some 63 ∨ lastR S = false) →
    readT (a ++ b) n c (a.length + k) (S ++ T.map (Tok.on a.length)) = (match readT b n c k T with
      | .error (m, x) => .error (a.length + m, x)
      | .ok T' => .ok (S ++ T'.map (Tok.on a.length)))
  | 0, _, _, _, _, _, _ => rfl
  | n + 1, false, k, S, T, hk, hs => by
    by_cases hke : k = b.length
    · subst hke
      rw [readT_end, show a.length + b.length = (a ++ b).length by simp, readT_end]
    · rw [readT_out hke, readT_out (by simp; omega), outT_on]
      have hl : outT b (lastR (S ++ T.map (Tok.on a.length))) k = outT b (lastR T) k := by
        rcases List.eq_nil_or_concat T with h0 | ⟨U, t, h0⟩
        · subst h0
          simp only [List.map_nil, List.append_nil]
          rcases hs rfl rfl (by omega) with h | h
          · have hb : ∀ r r', outB b r k = outB b r' k := fun r r' => by
              unfold outB
              rw [nxT_at (by omega)]
              simp only
              have hc : ¬ b[k] = 63 := fun e => h (by rw [List.getElem?_eq_getElem (by omega), e])
              split
              · simp [repT, hc]
              · rfl
            unfold outT; rw [hb _ (lastR [])]
          · rw [h]; rfl
        · rw [List.concat_eq_append] at h0
          subst h0
          rw [List.map_append, List.map_singleton, ← List.append_assoc, lastR_snoc, lastR_snoc]
          rfl
      rw [hl]
      rcases ho : outT b (lastR T) k with ⟨m, x⟩ | ⟨t, k'⟩
      · rfl
      · simp only [wrOnT]
        have := read_on n (t.k == 7) k' S (T ++ [t]) (outT_ok ho).2.1 (fun e => by simp at e)
        rw [List.map_append, List.map_singleton, ← List.append_assoc] at this
        exact this
  | n + 1, true, k, S, T, hk, hs => by
    rw [readT_in, readT_in, inT_on]
    rcases ho : inT b k with ⟨m, x⟩ | ⟨t, k'⟩
    · rfl
    · simp only [wrOnT]
      have := read_on n (t.k != 8) k' S (T ++ [t]) (inT_ok ho).2.1 (fun e => by simp at e)
      rw [List.map_append, List.map_singleton, ← List.append_assoc] at this
      exact this
/-! what the first one reads is read in both -/
theorem at_pre {k : Nat} (h : k < a.length) : (a ++ b)[k]? = a[k]? := List.getElem?_append_left h
theorem nxT_pre {k : Nat} {r : Int × Nat} (h : nxT a k = .ok r) : nxT (a ++ b) k = .ok r := by
  obtain ⟨c, k'⟩ := r
  obtain ⟨_, hk, _⟩ := nxT_ok h
  unfold nxT at h ⊢
  rw [at_pre a b hk]; exact h
theorem escT_pre {fr k : Nat} {r : Tok × Nat} (h : escT a fr k = .ok r) : escT (a ++ b) fr k = .ok r := by
  unfold escT at h ⊢
  rcases hn : nxT a k with e | ⟨c, k'⟩
  · rw [hn] at h; cases h
  · rw [hn] at h; rw [nxT_pre a b hn]; exact h
theorem itemT_pre {k : Nat} {r : Tok × Nat} (h : itemT a k = .ok r) : itemT (a ++ b) k = .ok r := by
  unfold itemT at h ⊢
  rcases hn : nxT a k with e | ⟨c, k'⟩
  · rw [hn] at h; cases h
  · rw [hn] at h; rw [nxT_pre a b hn]
    simp only at h ⊢
    split at h
    · rename_i h92
      rw [if_pos h92]; exact escT_pre a b h
    · rename_i h92
      rw [if_neg h92]; exact h
theorem upT_pre {low : Int} {fr k : Nat} {r : Tok × Nat} (h : upT a low fr k = .ok r) : upT (a ++ b) low fr k = .ok r := by
  unfold upT at h ⊢
  rcases hn : itemT a k with e | ⟨c, k'⟩
  · rw [hn] at h; cases h
  · rw [hn] at h; rw [itemT_pre a b hn]; exact h
theorem digT_pre {k : Nat} (h : k + (digT a k).length < a.length) : digT (a ++ b) k = digT a k := by
  unfold digT at h ⊢
  rw [List.drop_append_of_le_length (by omega), List.takeWhile_append, if_neg (by rw [List.length_drop]; omega)]
theorem braT_pre {fr k : Nat} {r : Tok × Nat} (h : braT a fr k = .ok r) : braT (a ++ b) fr k = .ok r := by
  unfold braT at h ⊢
  rcases hn : nxT a (k + (digT a k).length) with e | ⟨c, k2⟩
  · rw [hn] at h; cases h
  · rw [hn] at h
    obtain ⟨hk2, hlt, _⟩ := nxT_ok hn
    rw [digT_pre a b hlt, nxT_pre a b hn]
    simp only at h ⊢
    split at h
    · rename_i hc
      rw [if_pos hc]
      rcases hn2 : nxT a (k2 + (digT a k2).length) with e | ⟨c', k3⟩
      · rw [hn2] at h; cases h
      · rw [hn2] at h
        obtain ⟨_, hlt2, _⟩ := nxT_ok hn2
        rw [digT_pre a b hlt2, nxT_pre a b hn2]
        exact h
    · rename_i hc
      rw [if_neg hc]; exact h
theorem outB_pre {r : Bool} {k : Nat} {t : Tok} {k' : Nat} (h : outB a r k = .ok (t, k')) (hc : k' < a.length ∨ t.k ≠ 7) : outB (a ++ b) r k = .ok (t, k') := by
  unfold outB at h ⊢
  rcases hn : nxT a k with e | ⟨c, k2⟩
  · rw [hn] at h; cases h
  · rw [hn] at h; rw [nxT_pre a b hn]
    obtain ⟨hk2, hlt, _⟩ := nxT_ok hn
    simp only at h ⊢
    split at h
    · rename_i h1; rw [if_pos h1]; exact h
    · rename_i h1
      rw [if_neg h1]
      split at h
      · rename_i h2; rw [if_pos h2]; exact braT_pre a b h
      · rename_i h2
        rw [if_neg h2]
        split at h
        · rename_i h3
          rw [if_pos h3]
          injection h with h
          have hk : k2 < a.length := by
            apply Classical.byContradiction
            intro hge
            have : claT a k2 = (⟨7, 0, 0, 0, 0⟩, k2) := by unfold claT; rw [List.getElem?_eq_none (by omega)]; rfl
            rw [this] at h
            injection h with h5 h6
            subst h5 h6
            rcases hc with hc | hc
            · omega
            · exact hc rfl
          have : claT (a ++ b) k2 = claT a k2 := by unfold claT; rw [at_pre a b hk]
          rw [this, h]
        · rename_i h3
          rw [if_neg h3]
          split at h
          · rename_i h4; rw [if_pos h4]; exact escT_pre a b h
          · rename_i h4; rw [if_neg h4]; exact h
theorem inB_pre {k : Nat} {t : Tok} {k' : Nat} (h : inB a k = .ok (t, k')) (hc : k' < a.length ∨ t.k = 8) : inB (a ++ b) k = .ok (t, k') := by
  have hk := inB_ok h
  unfold inB at h ⊢
  rw [at_pre a b (by omega)]
  split at h
  · rename_i h1; rw [if_pos h1]; exact h
  · rename_i h1
    rw [if_neg h1]
    rcases hn : itemT a k with e | ⟨t1, k1⟩
    · rw [hn] at h; cases h
    · rw [hn] at h; rw [itemT_pre a b hn]
      simp only at h ⊢
      have hkd := itemT_kind hn
      split at h
      · rename_i h2
        have hk1 : k1 + 1 < a.length := by
          unfold upT at h
          rcases hm : itemT a (k1 + 1) with e | ⟨t2, k2⟩
          · rw [hm] at h; cases h
          · have := itemT_ok hm; omega
        rw [at_pre a b (by omega), at_pre a b hk1, if_pos h2]
        exact upT_pre a b h
      · rename_i h2
        have h3 := h
        injection h3 with h3
        injection h3 with h4 h5
        subst h4 h5
        have hk1 : k1 < a.length := by
          rcases hc with hc | hc
          · exact hc
          · omega
        rw [at_pre a b hk1]
        by_cases hk2 : k1 + 1 < a.length
        · rw [at_pre a b hk2, if_neg h2]
        · have h6 : ¬ (t1.k = 1 ∧ a[k1]? = some 45) := fun e => h2 ⟨e.1, e.2, by rw [List.getElem?_eq_none (by omega)]; simp⟩
          rw [if_neg (fun e => h6 ⟨e.1, e.2.1⟩)]
theorem outT_pre {r : Bool} {k : Nat} {t : Tok} {k' : Nat} (h : outT a r k = .ok (t, k')) (hc : k' < a.length ∨ t.k ≠ 7) : outT (a ++ b) r k = .ok (t, k') := by
  obtain ⟨t', hb, e⟩ := plT_ok h
  unfold outT
  rw [outB_pre a b hb (by rw [e] at hc; exact hc), e]; rfl
theorem inT_pre {k : Nat} {t : Tok} {k' : Nat} (h : inT a k = .ok (t, k')) (hc : k' < a.length ∨ t.k = 8) : inT (a ++ b) k = .ok (t, k') := by
  obtain ⟨t', hb, e⟩ := plT_ok h
  unfold inT
  rw [inB_pre a b hb (by rw [e] at hc; exact hc), e]; rfl
theorem inT_end {k : Nat} (h : a.length ≤ k) : inT a k = .error (k, 4) := by
  unfold inT inB itemT
  rw [List.getElem?_eq_none h, nxT_end h]
  rfl
/-- a class that is not ended is wrong -/
theorem read_open {n k : Nat} {T T' : List Tok} (h : readT a (n + 1) true k T = .ok T') : k < a.length := by
  apply Classical.byContradiction
  intro hge
  rw [readT_in, inT_end a (by omega)] at h
  cases h
theorem read_pre : ∀ (n : Nat) (c : Bool) (k : Nat) (T T' : List Tok), k ≤ a.length → a.length - k < n → readT a n c k T = .ok T' →
    ∃ s, s ≤ a.length - k ∧ ∀ m, readT (a ++ b) (s + m) c k T = readT (a ++ b) m false a.length T'
  | 0, _, _, _, _, _, hn, _ => by omega
  | n + 1, false, k, T, T', hk, hn, h => by
    by_cases hke : k = a.length
    · subst hke
      rw [readT_end] at h
      injection h with h
      subst h
      exact ⟨0, by omega, fun m => by rw [Nat.zero_add]⟩
    · rw [readT_out hke] at h
      rcases ho : outT a (lastR T) k with e | ⟨t, k'⟩
      · rw [ho] at h; cases h
      · rw [ho] at h
        simp only at h
        obtain ⟨h1, h2, _⟩ := outT_ok ho
        have hc : k' < a.length ∨ t.k ≠ 7 := by
          by_cases h7 : t.k = 7
          · obtain ⟨n', rfl⟩ : ∃ n', n = n' + 1 := ⟨n - 1, by omega⟩
            rw [show (t.k == 7) = true by simpa using h7] at h
            exact .inl (read_open a h)
          · exact .inr h7
        obtain ⟨s, hs, hm⟩ := read_pre n _ k' _ T' h2 (by omega) h
        refine ⟨s + 1, by omega, fun m => ?_⟩
        rw [show s + 1 + m = (s + m) + 1 by omega, readT_out (by simp; omega), outT_pre a b ho hc]
        exact hm m
  | n + 1, true, k, T, T', hk, hn, h => by
    rw [readT_in] at h
    rcases ho : inT a k with e | ⟨t, k'⟩
    · rw [ho] at h; cases h
    · rw [ho] at h
      simp only at h
      obtain ⟨h1, h2, _⟩ := inT_ok ho
      have hc : k' < a.length ∨ t.k = 8 := by
        by_cases h8 : t.k = 8
        · exact .inr h8
        · obtain ⟨n', rfl⟩ : ∃ n', n = n' + 1 := ⟨n - 1, by omega⟩
          rw [show (t.k != 8) = true by simpa using h8] at h
          exact .inl (read_open a h)
      obtain ⟨s, hs, hm⟩ := read_pre n _ k' _ T' h2 (by omega) h
      refine ⟨s + 1, by omega, fun m => ?_⟩
      rw [show s + 1 + m = (s + m) + 1 by omega, readT_in, inT_pre a b ho hc]
      exact hm m
end
theorem read_fuel (l : List Int) : ∀ (n m : Nat) (c : Bool) (k : Nat) (T : List Tok), k ≤ l.length → l.length - k < n → l.length - k < m → readT l n c k T = readT l m c k T
  | 0, _, _, _, _, _, hn, _ => by omega
  | n + 1, 0, _, _, _, _, _, hm => by omega
  | n + 1, m + 1, false, k, T, hk, hn, hm => by
    by_cases hke : k = l.length
    · subst hke; rw [readT_end, readT_end]
    · rw [readT_out hke, readT_out hke]
      rcases ho : outT l (lastR T) k with e | ⟨t, k'⟩
      · rfl
      · have := outT_ok ho
        exact read_fuel l n m _ k' _ this.2.1 (by omega) (by omega)
  | n + 1, m + 1, true, k, T, hk, hn, hm => by
    rw [readT_in, readT_in]
    rcases ho : inT l k with e | ⟨t, k'⟩
    · rfl
    · have := inT_ok ho
      exact read_fuel l n m _ k' _ this.2.1 (by omega) (by omega)
/-- tokens of both -/
theorem of_both {a b : List Int} {X : List Tok} (ha : a.length ≤ 100) (hb : b.length ≤ 100) (hX : ofT a = .ok X) (hq : b[0]? ≠ some 63) :
    ofT (a ++ b) = (match ofT b with
      | .error (m, x) => .error (a.length + m, x)
      | .ok Y => .ok (X ++ Y.map (Tok.on a.length))) := by
  unfold ofT at hX ⊢
  rw [if_neg (by omega)] at hX
  rw [if_neg (by simp; omega), if_neg (by omega)]
  obtain ⟨s, hs, hm⟩ := read_pre a b (a.length + 1) false 0 [] X (by omega) (by omega) hX
  rw [show (a ++ b).length + 1 = s + (a.length + b.length + 1 - s) by simp; omega, hm]
  have := read_on a b (a.length + b.length + 1 - s) false 0 X [] (by omega) (fun _ _ _ => .inl hq)
  simp only [Nat.add_zero, List.map_nil, List.append_nil] at this
  rw [this, read_fuel b _ (b.length + 1) false 0 [] (by omega) (by omega) (by omega)]
end Go.Proofs.Ytpllklikjnndcaa
