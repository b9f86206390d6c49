/- The document's own way of reading: the number that one to four bytes tell. Over plain lists. -/
import Derived.Test.YtnjddmcckndpgaaDoorUtM
import Derived.Test.YtnjddmcckndpgaaDoorUtH
namespace Go.Proofs.YtnjddmcckndpgaaDoor
open Go.Lib

def startsL (l m : List UInt8) : Bool := decide (m ≠ []) && decide (l.take m.length = m)
def leadN (m : Nat) : Int := if m = 0 then 0 else if m = 1 then 192 else if m = 2 then 224 else 240
/-- what m + 1 bytes tell, j behind the first one read -/
def pcN (l : List UInt8) (m : Nat) : Nat → Int
  | 0 => ((l.getD 0 0).toNat : Int) - leadN m
  | j + 1 => pcN l m j * 64 + ((l.getD (j + 1) 0).toNat : Int) - 128
def bytB (c : Int) : List UInt8 := toB (bytL c)
theorem u8s_bytB (c : Int) : u8s (bytB c) = bytL c := by
  unfold bytB bytL
  split
  · rename_i h; exact u8s_toB _ (encCh_bytes c h)
  · rfl
theorem bytB_len (c : Int) : (bytB c).length = (bytL c).length := by simp [bytB, toB]
/-- do m + 1 bytes tell a character that has just these? -/
def okN (l : List UInt8) (m : Nat) : Bool := startsL l (bytB (pcN l m m)) && decide ((bytL (pcN l m m)).length = m + 1)
def firstFrom (l : List UInt8) : Nat → Nat → Int
  | 0, _ => -1
  | f + 1, m => if m < 4 ∧ m < l.length then (if okN l m then pcN l m m else firstFrom l f (m + 1)) else -1
def firstL (l : List UInt8) : Int := firstFrom l 5 0

theorem pcN_bd (l : List UInt8) (m : Nat) : ∀ j, j ≤ 3 → -100000000 ≤ pcN l m j ∧ pcN l m j ≤ 100000000 := by
  have hb : ∀ i, (l.getD i 0).toNat < 256 := fun i => (l.getD i 0).toNat_lt
  have hl : 0 ≤ leadN m ∧ leadN m ≤ 240 := by unfold leadN; repeat' split <;> omega
  have h0 := hb 0; have h1 := hb 1; have h2 := hb 2; have h3 := hb 3
  intro j hj
  match j, hj with
  | 0, _ => simp only [pcN]; omega
  | 1, _ => simp only [pcN, Nat.zero_add]; omega
  | 2, _ => simp only [pcN, Nat.zero_add, Nat.reduceAdd]; omega
  | 3, _ => simp only [pcN, Nat.zero_add, Nat.reduceAdd]; omega

theorem pc1 (l : List UInt8) : pcN l (1 - 1) (1 - 1) = ((l.getD 0 0).toNat : Int) - 0 := rfl
theorem pc2 (l : List UInt8) : pcN l (2 - 1) (2 - 1) = (((l.getD 0 0).toNat : Int) - 192) * 64 + ((l.getD 1 0).toNat : Int) - 128 := rfl
theorem pc3 (l : List UInt8) : pcN l (3 - 1) (3 - 1) = ((((l.getD 0 0).toNat : Int) - 224) * 64 + ((l.getD 1 0).toNat : Int) - 128) * 64 + ((l.getD 2 0).toNat : Int) - 128 := rfl
theorem pc4 (l : List UInt8) : pcN l (4 - 1) (4 - 1) = (((((l.getD 0 0).toNat : Int) - 240) * 64 + ((l.getD 1 0).toNat : Int) - 128) * 64 + ((l.getD 2 0).toNat : Int) - 128) * 64 + ((l.getD 3 0).toNat : Int) - 128 := rfl
theorem ok_dec (l : List UInt8) (m : Nat) (h : okN l m = true) : isCh (pcN l m m) = true ∧ decodeL l = ((pcN l m m).toNat, m + 1) := by
  simp only [okN, startsL, Bool.and_eq_true, decide_eq_true_eq] at h
  obtain ⟨⟨h1, h2⟩, h3⟩ := h
  have hc : isCh (pcN l m m) = true := by
    rcases hc : isCh (pcN l m m) with _ | _
    · simp [bytL, hc] at h3
    · rfl
  refine ⟨hc, ?_⟩
  have hb : bytB (pcN l m m) = toB (encCh (pcN l m m)) := by simp [bytB, bytL, hc]
  have he : l = toB (encCh (pcN l m m)) ++ l.drop (bytB (pcN l m m)).length := by
    rw [← hb]
    conv => lhs; rw [← List.take_append_drop (bytB (pcN l m m)).length l]
    rw [h2]
  have := dec_enc (pcN l m m) hc (l.drop (bytB (pcN l m m)).length)
  rw [← he] at this
  rw [this, ← h3]
  simp [bytL, hc]
theorem list_eta (l : List UInt8) (n : Nat) (h : n ≤ l.length) : l.take n = (List.range n).map fun i => l.getD i 0 := by
  apply List.ext_getElem
  · simp; omega
  · intro i h1 h2
    simp at h1
    have : i < l.length := by omega
    simp [this]
theorem u8_eq {a : UInt8} {n : Int} (h : n = (a.toNat : Int)) : UInt8.ofNat n.toNat = a := by
  subst h; simp

set_option maxHeartbeats 4000000 in
theorem dec_is_ok (l : List UInt8) (r k : Nat) (hne : l ≠ []) (h : decodeL l = (r, k)) (hn : ¬ (r = 65533 ∧ k = 1)) : 1 ≤ k ∧ k ≤ 4 ∧ k ≤ l.length ∧ pcN l (k - 1) (k - 1) = (r : Int) ∧ okN l (k - 1) = true := by
  have hle := width_le_len l hne
  have hcd := dec_ok l
  rw [h] at hle hcd
  simp only [] at hle hcd
  obtain ⟨hch, hsz⟩ := hcd
  have hsz' : (k : Int) = szCh (r : Int) := by
    rcases hsz with hsz | hsz
    · exact hsz
    · exact absurd hsz hn
  have hk := szCh_len (r : Int) hch
  have hk4 := encCh_len (r : Int)
  have hkk : k = (encCh (r : Int)).length := by omega
  have hr := isCh_true.1 hch
  rw [decodeL_N] at h
  have e0 : ∀ i, (l.getD i 0).toNat < 256 := fun i => (l.getD i 0).toNat_lt
  have b0 := e0 0; have b1 := e0 1; have b2 := e0 2; have b3 := e0 3
  have main : pcN l (k - 1) (k - 1) = (r : Int) ∧ toB (encCh (r : Int)) = (List.range k).map fun i => l.getD i 0 := by
    unfold decodeN at h
    have fin : ∀ (j : Nat), k = j → pcN l (j - 1) (j - 1) = (r : Int) ∧ toB (encCh (r : Int)) = (List.range j).map (fun i => l.getD i 0) → pcN l (k - 1) (k - 1) = (r : Int) ∧ toB (encCh (r : Int)) = (List.range k).map fun i => l.getD i 0 := by
      intro j hj hh; subst hj; exact hh
    repeat' split at h
    all_goals (simp only [Prod.mk.injEq] at h; obtain ⟨hr1, hk1⟩ := h)
    all_goals first
      | (exfalso; exact hn ⟨hr1.symm, hk1.symm⟩)
      | (refine fin _ hk1.symm ⟨?_, ?_⟩
         · first
             | (refine (pc1 l).trans ?_; omega)
             | (refine (pc2 l).trans ?_; omega)
             | (refine (pc3 l).trans ?_; omega)
             | (refine (pc4 l).trans ?_; omega)
         · unfold encCh toB
           (repeat' split) <;> (first
             | (exfalso; omega)
             | (simp only [List.map_cons, List.map_nil, List.range_succ, List.range_zero, List.nil_append, List.cons_append, List.map_append, List.cons.injEq, and_true]
                refine ?_
                repeat' (first | exact u8_eq (by omega) | refine ⟨?_, ?_⟩))))
  refine ⟨by omega, by omega, hle, main.1, ?_⟩
  have hb : bytB (r : Int) = toB (encCh (r : Int)) := by simp [bytB, bytL, hch]
  have hbl : bytL (r : Int) = encCh (r : Int) := by simp [bytL, hch]
  simp only [okN, main.1, startsL, Bool.and_eq_true, decide_eq_true_eq, hb, hbl]
  have hlen : (toB (encCh (r : Int))).length = k := by simp [toB, hkk]
  refine ⟨⟨?_, ?_⟩, by omega⟩
  · intro e
    rw [e] at hlen
    simp at hlen
    omega
  · rw [hlen, main.2]
    exact list_eta l k hle
theorem firstL_dec (l : List UInt8) (hne : l ≠ []) : firstL l = if (decodeL l).1 = 65533 ∧ (decodeL l).2 = 1 then -1 else ((decodeL l).1 : Int) := by
  obtain ⟨r, k, h⟩ : ∃ r k, decodeL l = (r, k) := ⟨_, _, rfl⟩
  rw [h]
  simp only []
  by_cases hn : r = 65533 ∧ k = 1
  · rw [if_pos hn]
    have no : ∀ m, okN l m = false := fun m => by
      rcases hm : okN l m with _ | _
      · rfl
      · obtain ⟨h1, h2⟩ := ok_dec l m hm
        rw [h] at h2
        simp only [Prod.mk.injEq] at h2
        obtain ⟨h2, h3⟩ := h2
        have h4 := (isCh_true.1 h1).1
        have hc : pcN l m m = 65533 := by omega
        simp only [okN, Bool.and_eq_true, decide_eq_true_eq] at hm
        rw [hc] at hm
        have : (bytL 65533).length = 3 := by decide
        omega
    have : ∀ f m, firstFrom l f m = -1 := by
      intro f
      induction f with
      | zero => intro m; rfl
      | succ f ih => intro m; simp [firstFrom, no, ih]
    exact this 5 0
  · rw [if_neg hn]
    obtain ⟨k1, k4, kl, hp, hok⟩ := dec_is_ok l r k hne h hn
    have no : ∀ m, m ≠ k - 1 → okN l m = false := fun m hm' => by
      rcases hm : okN l m with _ | _
      · rfl
      · obtain ⟨_, h2⟩ := ok_dec l m hm
        rw [h] at h2
        simp only [Prod.mk.injEq] at h2
        omega
    have : ∀ f m, m + f = 5 → m ≤ k - 1 → firstFrom l f m = (r : Int) := by
      intro f
      induction f with
      | zero => intro m h1 h2; omega
      | succ f ih =>
        intro m h1 h2
        rw [firstFrom, if_pos ⟨by omega, by omega⟩]
        by_cases hm : m = k - 1
        · subst hm; rw [if_pos hok]; exact hp
        · rw [if_neg (by rw [no m hm]; simp)]
          exact ih (m + 1) (by omega) (by omega)
    exact this 5 0 (by omega) (by omega)
end Go.Proofs.YtnjddmcckndpgaaDoor
