/- Layer 8: plain facts: where a run goes on; chains of runs; the sequences. -/
import Derived.Test.YtajgjloailliiaaSqM
import Derived.Test.YtajgjloailliiaaSqF
namespace Go.Proofs.Ytajgjloailliiaa
open Go.RowKit

theorem split_I {cl lv : List Int} (h : cl.length = lv.length) : ∃ u, Split cl lv (seenI cl) (seenQ cl).length (listsI cl lv) u := by
  obtain ⟨u, hu⟩ := split_lists cl lv (seenI cl) (seenI cl).length
  refine ⟨u, ?_⟩
  rw [listsI, if_pos h, ← seenI_length]
  exact hu
theorem lists_none {cl lv : List Int} (h : cl.length ≠ lv.length) : listsI cl lv = [] := by rw [listsI, if_neg h]
section
variable {cl lv : List Int} {L : List (List Int)} {u : Nat → Nat}
theorem Split.inS (h : Split cl lv (seenI cl) (seenQ cl).length L u) {j : Nat} (hj : j < L.length) {t : Nat} (ht : t < L[j].length) : u j + t < (seenQ cl).length := by
  have h1 := h.len j hj
  have h2 := h.mono (i := j + 1) (j := L.length) (by omega) (Nat.le_refl _)
  rw [h.top] at h2
  omega
theorem Split.elem (h : Split cl lv (seenI cl) (seenQ cl).length L u) {j : Nat} (hj : j < L.length) {t : Nat} (ht : t < L[j].length) : L[j][t] = ((seenQ cl)[u j + t]'(h.inS hj ht) : Nat) := by
  rw [h.cell j hj t ht, seenI_getD]
  congr 1
  simp [h.inS hj ht]
theorem Split.head (h : Split cl lv (seenI cl) (seenQ cl).length L u) {j : Nat} (hj : j < L.length) : ∃ hx : u j < (seenQ cl).length, headI L[j] = ((seenQ cl)[u j] : Nat) := by
  have hp := h.pos j hj
  have h1 := h.inS hj hp
  refine ⟨by simpa using h1, ?_⟩
  have h2 := h.elem hj hp
  rw [headI, show L[j].getD 0 0 = L[j][0] by simp [hp], h2]
  simp
theorem Split.last (h : Split cl lv (seenI cl) (seenQ cl).length L u) {j : Nat} (hj : j < L.length) : ∃ hx : u (j + 1) - 1 < (seenQ cl).length, lastI L[j] = ((seenQ cl)[u (j + 1) - 1] : Nat) := by
  have hp := h.pos j hj
  have hl := h.len j hj
  have ht : L[j].length - 1 < L[j].length := by omega
  have h1 := h.inS hj ht
  have he : u j + (L[j].length - 1) = u (j + 1) - 1 := by omega
  have h2 := h.elem hj ht
  simp only [he] at h1 h2
  exact ⟨h1, by rw [lastI, show L[j].getD (L[j].length - 1) 0 = L[j][L[j].length - 1] by simp [List.getElem?_eq_getElem ht], h2]⟩
end
theorem within_I (cl lv : List Int) : Within (listsI cl lv) cl.length := by
  by_cases h : cl.length = lv.length
  · obtain ⟨u, hu⟩ := split_I h
    intro r hr
    obtain ⟨j, hj, rfl⟩ := List.mem_iff_getElem.1 hr
    refine ⟨List.length_pos_iff.1 (hu.pos j hj), (listsI_le cl lv).2 _ hr, fun x hx => ?_⟩
    obtain ⟨t, ht, rfl⟩ := List.mem_iff_getElem.1 hx
    exact ⟨_, hu.elem hj ht, (seenQ_at cl (hu.inS hj ht)).1⟩
  · rw [lists_none h]
    intro r hr; simp at hr

theorem mt_length (cl : List Int) : (mt cl).length = cl.length := by simp [mt]
theorem mt_at (cl : List Int) {q : Nat} (h : q < cl.length) : (mt cl).getD q 0 = mf cl q := by
  simp [mt, listOf, h]
theorem at0_getD (l : List Int) (q : Nat) : l.getD q 0 = at0 l q := rfl
theorem firstAt_range (L : List (List Int)) (x : Int) : firstAt L x = -1 ∨ ∃ k : Nat, firstAt L x = k ∧ ∃ h : k < L.length, headI L[k] = x := by
  unfold firstAt
  cases hf : (List.range L.length).find? (fun k => headI (L.getD k []) == x) with
  | none => exact .inl rfl
  | some k =>
    have h1 := List.mem_range.1 (List.mem_of_find?_eq_some hf)
    have h2 := List.find?_some hf
    exact .inr ⟨k, rfl, h1, by simpa [h1] using h2⟩

/-- where a run goes on: the isolate's end of its last place begins the run k -/
structure Goes (cl : List Int) (L : List (List Int)) (i k p q : Nat) : Prop where
  il : i < L.length
  kl : k < L.length
  ik : i < k
  last : lastI (L.getD i []) = p
  head : headI (L.getD k []) = q
  pl : p < cl.length
  op : isOpens (at0 cl p) = true
  mate : Mate cl (mrun cl cl.length).1 (mf cl) cl.length p q
theorem next_goes {cl lv : List Int} {u : Nat → Nat} {L : List (List Int)} (h : Split cl lv (seenI cl) (seenQ cl).length L u) {i : Nat} (hi : i < L.length) :
    nextI cl (mt cl) L i = -1 ∨ ∃ k p q : Nat, nextI cl (mt cl) L i = k ∧ Goes cl L i k p q := by
  obtain ⟨hx, hl⟩ := h.last hi
  have hg : L.getD i [] = L[i] := by simp [hi]
  have hp := (seenQ_at cl hx).1
  unfold nextI
  rw [hg, hl, Int.toNat_natCast, at0_getD, mt_at cl hp]
  split
  · exact .inl rfl
  · rename_i hn
    rcases firstAt_range L (mf cl (seenQ cl)[u (i + 1) - 1]) with h1 | ⟨k, hk, hkl, he⟩
    · exact .inl h1
    · have ho : isOpens (at0 cl (seenQ cl)[u (i + 1) - 1]) = true := by
        cases hh : isOpens (at0 cl (seenQ cl)[u (i + 1) - 1]) with
        | true => rfl
        | false => exact absurd (.inl hh) hn
      have hm : ¬ mf cl (seenQ cl)[u (i + 1) - 1] < 0 := fun hh => hn (.inr hh)
      rcases (minv cl cl.length (Nat.le_refl _)).op _ hp ho with h2 | ⟨b, hb⟩
      · exact absurd (by rw [show mf cl _ = -1 from h2]; decide) hm
      · have hfa : mf cl (seenQ cl)[u (i + 1) - 1] = (b : Int) := hb.fa
        obtain ⟨hy, hh⟩ := h.head hkl
        rw [hh, hfa] at he
        have he' : (seenQ cl)[u k] = b := by omega
        have hlt : u (i + 1) - 1 < u k := seenQ_lt cl hx hy (by rw [he']; exact hb.lt)
        have hik : i < k := by
          apply Classical.byContradiction
          intro hc
          have h3 := h.mono (i := k) (j := i) (by omega) (by omega)
          have h4 := h.lt (i := i) (j := i + 1) (by omega) (by omega)
          omega
        refine .inr ⟨k, (seenQ cl)[u (i + 1) - 1], b, hk, hi, hkl, hik, by rw [hg, hl], ?_, hp, ho, hb⟩
        rw [show L.getD k [] = L[k] by simp [hkl], hh, he']

/-- a chain of runs, from run k on -/
def chainN (cl m : List Int) (L : List (List Int)) : Nat → Int → List Int
  | 0, _ => []
  | f + 1, k => if k < 0 then [] else L.getD k.toNat [] ++ chainN cl m L f (nextI cl m L k.toNat)
/-- what follows a run in its chain is its own -/
def Onward (cl m : List Int) (L : List (List Int)) : Prop := ∀ i, i < L.length → nextI cl m L i = -1 ∨ ∃ k : Nat, nextI cl m L i = k ∧ i < k ∧ k < L.length
theorem onward_I (cl lv : List Int) : Onward cl (mt cl) (listsI cl lv) := by
  intro i hi
  by_cases h : cl.length = lv.length
  · obtain ⟨u, hu⟩ := split_I h
    rcases next_goes hu hi with h1 | ⟨k, p, q, h1, h2⟩
    · exact .inl h1
    · exact .inr ⟨k, h1, h2.ik, h2.kl⟩
  · rw [lists_none h] at hi; simp at hi
theorem chainN_none (cl m : List Int) (L : List (List Int)) (f : Nat) : chainN cl m L f (-1) = [] := by cases f <;> rfl
theorem chainN_more {cl m : List Int} {L : List (List Int)} (h : Onward cl m L) : ∀ (f g k : Nat), k < L.length → L.length ≤ k + f → L.length ≤ k + g → chainN cl m L f k = chainN cl m L g k := by
  intro f
  induction f with
  | zero => intro g k hk hf; omega
  | succ f ih =>
    intro g k hk hf hg
    cases g with
    | zero => omega
    | succ g =>
      simp only [chainN]
      rw [if_neg (by omega), if_neg (by omega), Int.toNat_natCast]
      rcases h k hk with h1 | ⟨k', h1, h2, h3⟩
      · rw [h1, chainN_none, chainN_none]
      · rw [h1, ih g k' h3 (by omega) (by omega)]
/-- the chain of run k -/
def chainI (cl m : List Int) (L : List (List Int)) (k : Nat) : List Int := chainN cl m L L.length k
theorem chainI_step {cl m : List Int} {L : List (List Int)} (h : Onward cl m L) {k : Nat} (hk : k < L.length) :
    (nextI cl m L k = -1 ∧ chainI cl m L k = L.getD k []) ∨ ∃ k' : Nat, nextI cl m L k = k' ∧ k < k' ∧ k' < L.length ∧ chainI cl m L k = L.getD k [] ++ chainI cl m L k' := by
  obtain ⟨n, hn⟩ : ∃ n, L.length = n + 1 := ⟨L.length - 1, by omega⟩
  have hc : chainI cl m L k = L.getD k [] ++ chainN cl m L n (nextI cl m L k) := by
    rw [chainI, hn, chainN, if_neg (by omega), Int.toNat_natCast]
  rcases h k hk with h1 | ⟨k', h1, h2, h3⟩
  · exact .inl ⟨h1, by rw [hc, h1, chainN_none, List.append_nil]⟩
  · refine .inr ⟨k', h1, h2, h3, ?_⟩
    rw [hc, h1, chainI, chainN_more h n L.length k' h3 (by omega) (by omega)]
theorem chainI_len {cl m : List Int} {L : List (List Int)} (h : Onward cl m L) {B : Nat} (hB : ∀ r ∈ L, r.length ≤ B) : ∀ d k, k < L.length → L.length - k ≤ d → (chainI cl m L k).length ≤ d * B := by
  intro d
  induction d with
  | zero => intro k hk hd; omega
  | succ d ih =>
    intro k hk hd
    have h1 : (L.getD k []).length ≤ B := by
      rw [show L.getD k [] = L[k] by simp [hk]]; exact hB _ (List.getElem_mem hk)
    have h2 : (d + 1) * B = d * B + B := by rw [Nat.add_mul, Nat.one_mul]
    rcases chainI_step h hk with ⟨_, e⟩ | ⟨k', _, hlt, hkl, e⟩
    · rw [e]; omega
    · rw [e, List.length_append]
      have := ih k' hkl (by omega)
      omega

/-- a sequence -/
structure Sq where
  pl : List Int
  lev : Int
  sos : Int
  eos : Int
  deriving DecidableEq
/-- is run j gone on in by one of the first k? -/
def goneN (cl m : List Int) (L : List (List Int)) (k j : Nat) : Bool := (List.range k).any fun i => nextI cl m L i == (j : Int)
theorem goneN_succ (cl m : List Int) (L : List (List Int)) (k j : Nat) : goneN cl m L (k + 1) j = (goneN cl m L k j || nextI cl m L k == (j : Int)) := by
  unfold goneN
  rw [List.range_succ, List.any_append]
  simp
def sqOf (cl lv : List Int) (base : Int) (pl : List Int) : Sq := ⟨pl, lv.getD (headI pl).toNat 0, sosI cl lv pl (lv.getD (headI pl).toNat 0) base, eosI cl lv pl base⟩
def seqsN (cl lv m : List Int) (base : Int) (L : List (List Int)) : Nat → List Sq
  | 0 => []
  | k + 1 => if goneN cl m L L.length k then seqsN cl lv m base L k else seqsN cl lv m base L k ++ [sqOf cl lv base (chainI cl m L k)]
def seqsI (cl lv : List Int) (base : Int) : List Sq := seqsN cl lv (mt cl) base (listsI cl lv) (listsI cl lv).length
theorem seqsN_le (cl lv m : List Int) (base : Int) (L : List (List Int)) : ∀ k, (seqsN cl lv m base L k).length ≤ k := by
  intro k
  induction k with
  | zero => exact Nat.le_refl _
  | succ k ih =>
    rw [seqsN]
    split
    · omega
    · rw [List.length_append, List.length_singleton]; omega
end Go.Proofs.Ytajgjloailliiaa
