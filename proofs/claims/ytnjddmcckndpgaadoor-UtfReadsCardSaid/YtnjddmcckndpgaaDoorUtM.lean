/- There and back, over plain lists: what is written is read as it was; places rise; each place is as far as its character's bytes. -/
import Derived.Test.YtnjddmcckndpgaaDoorUtE
import Derived.Lib.ValidLaws
namespace Go.Proofs.YtnjddmcckndpgaaDoor
open Go.Lib

def toB (l : List Int) : List UInt8 := l.map fun n => UInt8.ofNat n.toNat
theorem u8s_toB (l : List Int) (h : ∀ n ∈ l, 0 ≤ n ∧ n < 256) : u8s (toB l) = l := by
  induction l with
  | nil => rfl
  | cons a l ih =>
    have ha := h a (by simp)
    have := ih (fun n hn => h n (by simp [hn]))
    simp only [u8s, toB, List.map_cons, List.map_map] at *
    rw [this]
    congr 1
    have e : (UInt8.ofNat a.toNat).toNat = a.toNat := by
      rw [UInt8.toNat_ofNat']; exact Nat.mod_eq_of_lt (by omega)
    rw [e]; omega
theorem encCh_bytes (c : Int) (h : isCh c = true) : ∀ n ∈ encCh c, 0 ≤ n ∧ n < 256 := by
  obtain ⟨h0, h1, _⟩ := isCh_true.1 h
  intro n hn
  unfold encCh at hn
  (repeat' split at hn) <;> simp only [List.mem_cons, List.mem_nil_iff, or_false] at hn <;> omega
theorem encAll_bytes (l : List Int) (h : allCh l = true) : ∀ n ∈ encAll l, 0 ≤ n ∧ n < 256 := by
  intro n hn
  simp only [encAll, List.mem_flatMap] at hn
  obtain ⟨c, hc, hn⟩ := hn
  simp only [allCh, List.all_eq_true] at h
  exact encCh_bytes c (h c hc) n hn
/-- the bytes of characters -/
def encB (l : List Int) : List UInt8 := toB (encAll l)
theorem u8s_encB (l : List Int) (h : allCh l = true) : u8s (encB l) = encAll l := u8s_toB _ (encAll_bytes l h)
theorem encB_len (l : List Int) : (encB l).length = (encAll l).length := by simp [encB, toB]
theorem encB_cons (c : Int) (l : List Int) : encB (c :: l) = toB (encCh c) ++ encB l := by simp [encB, toB, encAll]
theorem encB_append (a b : List Int) : encB (a ++ b) = encB a ++ encB b := by simp [encB, toB, encAll]

theorem ofNat_toNat (n : Int) (h : 0 ≤ n) (h' : n < 256) : (UInt8.ofNat n.toNat).toNat = n.toNat := by
  rw [UInt8.toNat_ofNat']; exact Nat.mod_eq_of_lt (by omega)

set_option maxHeartbeats 1000000 in
/-- one character's bytes are read as it, whatever follows -/
theorem dec_enc (c : Int) (h : isCh c = true) (r : List UInt8) : decodeL (toB (encCh c) ++ r) = (c.toNat, (encCh c).length) := by
  obtain ⟨h0, h1, h2⟩ := isCh_true.1 h
  rw [decodeL_N]
  unfold encCh
  split
  · simp only [toB, List.map_cons, List.map_nil, List.cons_append, List.nil_append, List.getD_cons_zero]
    rw [ofNat_toNat c h0 (by omega), decodeN, if_pos (by omega)]; rfl
  · split
    · simp only [toB, List.map_cons, List.map_nil, List.cons_append, List.nil_append, List.getD_cons_zero, List.getD_cons_succ, List.length_cons]
      rw [ofNat_toNat (192 + c / 64) (by omega) (by omega), ofNat_toNat (128 + c % 64) (by omega) (by omega), decodeN, if_neg (by omega), if_pos (by omega), if_pos (by omega)]
      exact Prod.ext (by simp only []; omega) rfl
    · split
      · simp only [toB, List.map_cons, List.map_nil, List.cons_append, List.nil_append, List.getD_cons_zero, List.getD_cons_succ, List.length_cons]
        rw [ofNat_toNat (224 + c / 4096) (by omega) (by omega), ofNat_toNat (128 + c / 64 % 64) (by omega) (by omega), ofNat_toNat (128 + c % 64) (by omega) (by omega),
          decodeN, if_neg (by omega), if_neg (by omega), if_pos (by omega), if_pos (by omega)]
        exact Prod.ext (by simp only []; omega) rfl
      · simp only [toB, List.map_cons, List.map_nil, List.cons_append, List.nil_append, List.getD_cons_zero, List.getD_cons_succ, List.length_cons]
        rw [ofNat_toNat (240 + c / 262144) (by omega) (by omega), ofNat_toNat (128 + c / 4096 % 64) (by omega) (by omega), ofNat_toNat (128 + c / 64 % 64) (by omega) (by omega), ofNat_toNat (128 + c % 64) (by omega) (by omega),
          decodeN, if_neg (by omega), if_neg (by omega), if_neg (by omega), if_pos (by omega), if_pos (by omega)]
        exact Prod.ext (by simp only []; omega) rfl

/-- characters, and where they begin -/
def posL : Nat → List Int → List (Int × Int)
  | _, [] => []
  | p, c :: l => (c, (p : Int)) :: posL (p + (encCh c).length) l
theorem posL_fst : ∀ (p : Nat) (l : List Int), (posL p l).map (·.1) = l
  | _, [] => rfl
  | p, c :: l => by simp [posL, posL_fst _ l]
theorem posL_len (p : Nat) (l : List Int) : (posL p l).length = l.length := by
  have := congrArg List.length (posL_fst p l); simpa using this
theorem decAt_enc : ∀ (l : List Int) (_ : allCh l = true) (p : Nat) (r : List UInt8), decAt p (encB l ++ r) = posL p l ++ decAt (p + (encAll l).length) r := by
  intro l
  induction l with
  | nil => intro _ p r; simp [encB, encAll, toB, posL]
  | cons c l ih =>
    intro h p r
    simp only [allCh, List.all_cons, Bool.and_eq_true] at h
    have hl := encCh_len c
    have hne : encB (c :: l) ++ r ≠ [] := by
      intro e
      have := congrArg List.length e
      simp only [encB_cons, toB, List.length_append, List.length_map, List.length_nil] at this
      omega
    have hd : decodeL (encB (c :: l) ++ r) = (c.toNat, (encCh c).length) := by rw [encB_cons, List.append_assoc]; exact dec_enc c h.1 _
    rw [decAt_step p _ hne, hd]
    have hdrop : (encB (c :: l) ++ r).drop (encCh c).length = encB l ++ r := by
      rw [encB_cons, List.append_assoc]
      exact List.drop_left' (by simp [toB])
    simp only []
    rw [hdrop, ih h.2]
    have h0 := (isCh_true.1 h.1).1
    simp only [posL, List.cons_append, encAll, List.flatMap_cons, List.length_append]
    rw [Nat.add_assoc]
    congr 2
    omega
theorem decC_enc (l : List Int) (h : allCh l = true) : decC (encB l) = l := by
  have := decAt_enc l h 0 []
  rw [List.append_nil] at this
  rw [decC, this]
  simp [posL_fst, decAt_nil]
theorem decA_at (a b : List Int) (ha : allCh a = true) (hb : allCh b = true) : nthI (decA (encB (a ++ b))) a.length = (encAll a).length := by
  have h1 := decAt_enc a ha 0 (encB b)
  rw [encB_append, decA, h1]
  have h2 := decAt_enc b hb ((encAll a).length) []
  rw [List.append_nil] at h2
  rw [Nat.zero_add, h2]
  simp only [decAt_nil, List.append_nil, List.map_append, List.append_assoc]
  have hl : ((posL 0 a).map (·.2)).length = a.length := by rw [List.length_map, posL_len]
  unfold nthI
  rw [if_pos (by simp only [List.length_append, hl]; simp; omega)]
  simp only [Int.toNat_natCast, List.getD]
  rw [List.getElem?_append_right (by omega), hl, Nat.sub_self]
  cases b with
  | nil => simp [posL, encB, encAll, toB]
  | cons c b => simp [posL]
theorem decA_len (l : List UInt8) : (decA l).length = (decC l).length + 1 := by simp [decA, decC]
theorem validD_enc (l : List Int) (h : allCh l = true) : validD (encB l) = true := by
  induction l with
  | nil => rfl
  | cons c l ih =>
    simp only [allCh, List.all_cons, Bool.and_eq_true] at h
    have hl := encCh_len c
    have hne : encB (c :: l) ≠ [] := by
      intro e
      have := congrArg List.length e
      simp only [encB_cons, toB, List.length_append, List.length_map, List.length_nil] at this
      omega
    have hd : decodeL (encB (c :: l)) = (c.toNat, (encCh c).length) := by rw [encB_cons]; exact dec_enc c h.1 _
    rw [validD_step _ hne, hd, if_neg]
    · have hdrop : (encB (c :: l)).drop (encCh c).length = encB l := by
        rw [encB_cons]
        exact List.drop_left' (by simp [toB])
      rw [hdrop]
      exact ih h.2
    · rintro ⟨e1, e2⟩
      simp only [] at e1 e2
      have : c = 65533 := by omega
      subst this
      simp [encCh] at e2

set_option maxHeartbeats 1000000 in
/-- what is read is a character, as far as its bytes, or a byte alone that is read as Bad -/
theorem dec_ok (l : List UInt8) : isCh ((decodeL l).1 : Int) = true ∧ (((decodeL l).2 : Int) = szCh ((decodeL l).1 : Int) ∨ ((decodeL l).1 = 65533 ∧ (decodeL l).2 = 1)) := by
  rw [decodeL_N]
  have b0 := (l.getD 0 0).toNat_lt
  generalize (l.getD 0 0).toNat = x0 at *
  generalize (l.getD 1 0).toNat = x1 at *
  generalize (l.getD 2 0).toNat = x2 at *
  generalize (l.getD 3 0).toNat = x3 at *
  have bad : isCh (65533 : Int) = true := by decide
  unfold decodeN
  repeat' split
  all_goals first
    | exact ⟨bad, .inr ⟨rfl, rfl⟩⟩
    | (refine ⟨isCh_true.2 ⟨Int.natCast_nonneg _, by simp only []; omega, by simp only []; omega⟩, .inl ?_⟩
       rw [szCh, if_pos (isCh_true.2 ⟨Int.natCast_nonneg _, by simp only []; omega, by simp only []; omega⟩), lenCh]
       repeat' split
       all_goals (simp only [] at *; omega))
/-- places, the end with them -/
def plc (p : Nat) (l : List UInt8) : List Int := (decAt p l).map (·.2) ++ [((p + l.length : Nat) : Int)]
theorem plc_nil (p : Nat) : plc p [] = [(p : Int)] := by simp [plc, decAt_nil]
theorem plc_step (p : Nat) (l : List UInt8) (h : l ≠ []) : plc p l = (p : Int) :: plc (p + (decodeL l).2) (l.drop (decodeL l).2) := by
  have hw := width_le_len l h
  have e : p + (decodeL l).2 + (l.drop (decodeL l).2).length = p + l.length := by rw [List.length_drop]; omega
  simp only [plc, decAt_step p l h, List.map_cons, List.cons_append, e]
theorem plc_head (p : Nat) (l : List UInt8) : ∃ r, plc p l = (p : Int) :: r := by
  by_cases h : l = []
  · subst h; exact ⟨[], plc_nil p⟩
  · exact ⟨_, plc_step p l h⟩
theorem plc_steps : ∀ (n : Nat) (p : Nat) (l : List UInt8), l.length ≤ n → ∀ i, i < (decAt p l).length →
    isCh (((decAt p l).map (·.1)).getD i 0) = true ∧
    ((plc p l).getD (i + 1) 0 - (plc p l).getD i 0 = szCh (((decAt p l).map (·.1)).getD i 0) ∨ ((plc p l).getD (i + 1) 0 - (plc p l).getD i 0 = 1 ∧ ((decAt p l).map (·.1)).getD i 0 = 65533)) ∧
    0 ≤ (plc p l).getD i 0 ∧ (plc p l).getD i 0 ≤ (p + l.length : Nat) ∧ 0 ≤ (plc p l).getD (i + 1) 0 ∧ (plc p l).getD (i + 1) 0 ≤ (p + l.length : Nat) := by
  intro n
  induction n with
  | zero =>
    intro p l hl i hi
    obtain rfl : l = [] := List.eq_nil_of_length_eq_zero (by omega)
    simp [decAt_nil] at hi
  | succ n ih =>
    intro p l hl i hi
    by_cases h : l = []
    · subst h; simp [decAt_nil] at hi
    · have hw := width_le_len l h
      have hw1 := decodeL_width l
      have hpos : 0 < l.length := List.length_pos_iff.2 h
      have e : p + (decodeL l).2 + (l.drop (decodeL l).2).length = p + l.length := by rw [List.length_drop]; omega
      rw [plc_step p l h, decAt_step p l h]
      rw [decAt_step p l h, List.length_cons] at hi
      cases i with
      | zero =>
        obtain ⟨r, hr⟩ := plc_head (p + (decodeL l).2) (l.drop (decodeL l).2)
        obtain ⟨d1, d2⟩ := dec_ok l
        simp only [List.map_cons, List.getD_cons_zero, List.getD_cons_succ, hr]
        refine ⟨d1, ?_, by omega, by omega, by omega, by omega⟩
        rcases d2 with d2 | ⟨d2, d3⟩
        · left; rw [← d2]; omega
        · right; omega
      | succ i =>
        have := ih (p + (decodeL l).2) (l.drop (decodeL l).2) (by rw [List.length_drop]; omega) i (by omega)
        simp only [List.map_cons, List.getD_cons_succ]
        rw [e] at this
        exact this
theorem decA_plc (l : List UInt8) : decA l = plc 0 l := by simp [decA, plc]
/-- the places of any bytes -/
theorem dec_steps (l : List UInt8) (i : Nat) (hi : i < (decC l).length) :
    isCh ((decC l)[i]) = true ∧ ∃ (h1 : i < (decA l).length) (h2 : i + 1 < (decA l).length),
      ((decA l)[i + 1] - (decA l)[i] = szCh ((decC l)[i]) ∨ ((decA l)[i + 1] - (decA l)[i] = 1 ∧ (decC l)[i] = 65533)) ∧ 0 ≤ (decA l)[i] ∧ (decA l)[i] ≤ l.length ∧ 0 ≤ (decA l)[i + 1] ∧ (decA l)[i + 1] ≤ l.length := by
  have hl := decA_len l
  have h1 : i < (decA l).length := by omega
  have h2 : i + 1 < (decA l).length := by omega
  have := plc_steps l.length 0 l (Nat.le_refl _) i (by simpa [decC] using hi)
  rw [← decA_plc] at this
  have e : ((decAt 0 l).map (·.1)).getD i 0 = (decC l)[i] := by show (decC l).getD i 0 = _; simp [hi]
  have e1 : (decA l).getD i 0 = (decA l)[i] := by simp [h1]
  have e2 : (decA l).getD (i + 1) 0 = (decA l)[i + 1] := by simp [h2]
  rw [e, e1, e2, Nat.zero_add] at this
  exact ⟨this.1, h1, h2, this.2⟩
theorem decA_zero (l : List UInt8) (h : 0 < (decA l).length) : (decA l)[0] = 0 := by
  obtain ⟨r, hr⟩ := plc_head 0 l
  have e : decA l = (0 : Int) :: r := by rw [decA_plc]; exact hr
  simp [e]
theorem decA_last (l : List UInt8) (h : (decC l).length < (decA l).length) : (decA l)[(decC l).length] = l.length := by
  have e : (decC l).length = ((decAt 0 l).map (·.2)).length := by simp [decC]
  simp only [decA]
  rw [List.getElem_append_right (by omega)]
  simp
end Go.Proofs.YtnjddmcckndpgaaDoor
