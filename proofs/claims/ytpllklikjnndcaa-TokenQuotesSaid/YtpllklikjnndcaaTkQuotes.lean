/- TokenQuotes: what is quoted are its characters: as many tokens, each a character, the one that was quoted; of up to 100. Conditions: none. -/
import Derived.Test.YtpllklikjnndcaaTkV
import Derived.Test.YtpllklikjnndcaaLaw
import Derived.Test.YtpllklikjnndcaaRows
namespace Go.Proofs.Ytpllklikjnndcaa.lawQuotes
open Go.ChangeShapes Go.WideShapes Go.ChangeAt Go.RowKit

/-- the tokens of a quoted text, from a place on -/
def quoteT : Nat → List Int → List Tok
  | _, [] => []
  | k, c :: l => (⟨1, c, 0, 0, (k : Int)⟩ : Tok) :: quoteT (k + (if signI c = true then 2 else 1)) l
theorem quoteT_length : ∀ (l : List Int) (k : Nat), (quoteT k l).length = l.length
  | [], _ => rfl
  | c :: l, k => by simp [quoteT, quoteT_length l]
theorem quoteT_get : ∀ (l : List Int) (k i : Nat) (h : i < l.length), ∃ p, (quoteT k l)[i]? = some ⟨1, l[i], 0, 0, p⟩
  | [], _, i, h => by simp at h
  | c :: l, k, 0, _ => ⟨(k : Int), rfl⟩
  | c :: l, k, i + 1, h => by
    obtain ⟨p, hp⟩ := quoteT_get l (k + (if signI c = true then 2 else 1)) i (by simpa using h)
    exact ⟨p, by simpa [quoteT] using hp⟩
theorem esc_of {c : Int} (h : signI c = true) : escI c = some (c, false) := by
  have hx : ¬ c = 110 ∧ ¬ c = 116 ∧ ¬ (c = 100 ∨ c = 119 ∨ c = 115 ∨ c = 68 ∨ c = 87 ∨ c = 83) := by
    simp [signI] at h; omega
  unfold escI
  rw [if_neg hx.1, if_neg hx.2.1, if_neg hx.2.2, if_pos h]
/-- a quoted character is read as it was -/
theorem out_sign {L : List Int} {k : Nat} {c : Int} (h0 : L[k]? = some 92) (h1 : L[k + 1]? = some c) (hs : signI c = true) (r : Bool) : outT L r k = .ok (⟨1, c, 0, 0, (k : Int)⟩, k + 2) := by
  simp [outT, outB, nxT, h0, h1, escT, esc_of hs, plT, chT]
theorem out_plain {L : List Int} {k : Nat} {c : Int} (h0 : L[k]? = some c) (hs : signI c = false) (r : Bool) : outT L r k = .ok (⟨1, c, 0, 0, (k : Int)⟩, k + 1) := by
  have hx : ¬ (c = 63 ∨ c = 42 ∨ c = 43) ∧ ¬ c = 123 ∧ ¬ c = 91 ∧ ¬ c = 92 ∧ ¬ c = 46 ∧ ¬ c = 40 ∧ ¬ c = 41 ∧ ¬ c = 124 ∧ ¬ c = 94 ∧ ¬ c = 36 := by
    simp [signI] at hs; omega
  obtain ⟨x0, x1, x2, x3, x4, x5, x6, x7, x8, x9⟩ := hx
  simp only [outT, outB, nxT, h0]
  rw [if_neg x0, if_neg x1, if_neg x2, if_neg x3]
  simp [aloT, x4, x5, x6, x7, x8, x9, plT, chT]
theorem read_quote (L : List Int) : ∀ (l : List Int) (n k : Nat) (T : List Tok), L.drop k = quoteI l → k ≤ L.length → L.length - k < n → readT L n false k T = .ok (T ++ quoteT k l)
  | [], n, k, T, hd, hk, hn => by
    obtain ⟨n, rfl⟩ : ∃ m, n = m + 1 := ⟨n - 1, by omega⟩
    have hkl : k = L.length := by
      have : L.drop k = [] := hd
      have := List.drop_eq_nil_iff.1 this; omega
    subst hkl
    rw [readT_end, quoteT, List.append_nil]
  | c :: l, n, k, T, hd, hk, hn => by
    obtain ⟨n, rfl⟩ : ∃ m, n = m + 1 := ⟨n - 1, by omega⟩
    have e : quoteI (c :: l) = (if signI c = true then [92, c] else [c]) ++ quoteI l := rfl
    rw [e] at hd
    have hget : ∀ i, L[k + i]? = ((if signI c = true then [92, c] else [c]) ++ quoteI l)[i]? := fun i => by rw [← hd, List.getElem?_drop]
    have hlen : L.length - k = ((if signI c = true then [92, c] else [c]) ++ quoteI l).length := by rw [← hd, List.length_drop]
    rcases hs : signI c with _ | _
    · rw [hs] at hd hget hlen
      simp only [Bool.false_eq_true, if_false, List.singleton_append, List.length_cons] at hd hget hlen
      have h0 : L[k]? = some c := by simpa using hget 0
      have hkl : k < L.length := (List.getElem?_eq_some_iff.1 h0).1
      rw [readT_out (by omega), out_plain h0 hs]
      simp only
      have hd' : L.drop (k + 1) = quoteI l := by rw [← List.drop_drop, hd]; rfl
      have := read_quote L l n (k + 1) (T ++ [⟨1, c, 0, 0, (k : Int)⟩]) hd' (by omega) (by omega)
      rw [show ((1 : Int) == 7) = false from rfl, this, quoteT, hs]
      simp
    · rw [hs] at hd hget hlen
      simp only [if_true, List.cons_append, List.nil_append, List.length_cons] at hd hget hlen
      have h0 : L[k]? = some 92 := by simpa using hget 0
      have h1 : L[k + 1]? = some c := by simpa using hget 1
      have hkl : k + 1 < L.length := (List.getElem?_eq_some_iff.1 h1).1
      rw [readT_out (by omega), out_sign h0 h1 hs]
      simp only
      have hd' : L.drop (k + 2) = quoteI l := by rw [← List.drop_drop, hd]; rfl
      have := read_quote L l n (k + 2) (T ++ [⟨1, c, 0, 0, (k : Int)⟩]) hd' (by omega) (by omega)
      rw [show ((1 : Int) == 7) = false from rfl, this, quoteT, hs]
      simp
theorem of_quote (l : List Int) (hl : l.length ≤ 100) : ofT (quoteI l) = .ok (quoteT 0 l) := by
  unfold ofT
  rw [if_neg (by have := quoteI_length l; omega), read_quote (quoteI l) l _ 0 [] rfl (by omega) (by omega)]
  rfl

set_option maxRecDepth 20000 in
set_option maxHeartbeats 4000000 in
theorem walk_ok (w : World) (A : Option Addr) (l : List Int) (c : Nat) (hl : l.length ≤ 100) (h : Lies w w.heap.size A (ints .i64 l)) :
    Calls Try.prog 3 #[.slice A l.length c] w fun e w' => e = .returned (.bool true) ∧ Below w.heap.size w w' := by
  have HL := Lib.hid h
  have HF := Lib.hid (of_quote l hl)
  obtain ⟨T, hT⟩ : ∃ T, quoteT 0 l = T := ⟨_, rfl⟩
  have HTL : Hid (T.length = l.length) := Lib.hid (by rw [← hT]; exact quoteT_length l 0)
  have HTG : Hid (∀ i (h : i < l.length), ∃ p, T[i]? = some ⟨1, l[i], 0, 0, p⟩) := Lib.hid (by rw [← hT]; exact quoteT_get l 0)
  rw [hT] at HF
  have d1 : decide (100 < (l.length : Int)) = false := decide_eq_false (by omega)
  clear h hT
  go_enter Try.func3, Try.ntmps3
  go_wp2_with fail
  refine (tkalive_any w).mono ?_
  rintro e w1 ⟨rfl, b1⟩
  have B1 := Lib.hid b1
  have L1 := Lib.hid (HL.out.up b1)
  clear b1
  go_wp2_with fail
  refine (tkquote_any w1 A l c L1.out (by omega)).mono ?_
  rintro e w2 ⟨v2, rfl, o2, b2⟩
  obtain ⟨A2, c2, rfl, l2, hc2, -⟩ := o2.form
  have B2 := Lib.hid (below_then B1.out b2)
  have L2 := Lib.hid (L1.out.up b2)
  have hc2' : (quoteI l).length ≤ c2 := by simpa using hc2
  have C2 := Lib.hid (tkof_any w2 c2 A2 (quoteI l) l2 hc2')
  rw [HF.out] at C2
  simp only [ints, List.length_map]
  clear b2 o2 l2 hc2 hc2'
  go_wp2_with fail
  refine C2.out.mono ?_
  rintro e w3 ⟨⟨tv, rfl, o3⟩, b3⟩
  obtain ⟨A3, c3, rfl, -, -, -⟩ := o3.form
  rw [HTL.out] at o3 ⊢
  have O3 := Lib.hid o3
  have B3 := Lib.hid (below_then B2.out b3)
  have L3 := Lib.hid (L2.out.up b3)
  have d2 : ((l.length : Int) != (l.length : Int)) = false := by simp
  clear o3 b3
  go_wp2_with fail
  go_loopw [6] (fun iv wv => ∃ k m : Nat, k ≤ l.length ∧ iv = .int .i64 k ∧ wv = w3.drewN m) (fun iv _ => l.length - (intOf iv).toNat)
  case atStart => exact ⟨0, 0, by omega, rfl, rfl⟩
  case round =>
    obtain ⟨k, m, hk, rfl, rfl⟩ := hrel
    by_cases hlt : k < l.length
    · obtain ⟨g, ca, hv, -, -, -, -⟩ := O3.out.block (by omega)
      injection hv with hA _ hcc
      subst hA hcc
      obtain ⟨pp, hp⟩ := HTG.out k hlt
      have hkT : k < T.length := by rw [HTL.out]; exact hlt
      obtain ⟨a0, a1, -, -, -⟩ := tok_cells_at O3.out HTL.out.symm hkT
      have htk : T[k] = ⟨1, l[k], 0, 0, pp⟩ := by rw [List.getElem?_eq_getElem hkT] at hp; exact Option.some.inj hp
      rw [htk] at a0 a1
      obtain ⟨q, rfl, -, hcq⟩ := L3.out.int hlt
      obtain ⟨x, hx⟩ : ∃ x, l[k] = x := ⟨_, rfl⟩
      rw [hx] at a1 hcq
      simp only at a0 a1
      have hxx : (x != x) = false := by simp
      have k0 : (0 : Int) ≤ (k : Int) := by omega
      have k1 : (k : Int) < (l.length : Int) := by omega
      clear hp htk hkT hx
      go_wp2_with fail
      go_quiet (fail)
      go_wp2_with fail
      go_roundw
      case rel => exact ⟨k + 1, m + nq, by omega, by go_num, rfl⟩
      case measure => simp [intOf]; omega
    · obtain rfl : k = l.length := by omega
      go_wp2_with fail
      go_ret
      exact ⟨rfl, below_drawn B3.out _⟩
set_option maxRecDepth 20000 in
set_option maxHeartbeats 1000000 in
theorem walk_long (w : World) (A : Option Addr) (l : List Int) (c : Nat) (hl : 100 < l.length) :
    Calls Try.prog 3 #[.slice A l.length c] w fun e w' => e = .returned (.bool true) ∧ Below w.heap.size w w' := by
  have d1 : decide (100 < (l.length : Int)) = true := decide_eq_true (by omega)
  clear hl
  go_enter Try.func3, Try.ntmps3
  go_wp2_with fail
  refine (tkalive_any w).mono ?_
  rintro e w1 ⟨rfl, b1⟩
  have B1 := Lib.hid b1
  clear b1
  go_wp2_with fail
  go_ret
  exact ⟨rfl, B1.out⟩
theorem walk (w : World) (A : Option Addr) (l : List Int) (c : Nat) (_ : l.length ≤ c) (_ : c ≤ maxLen) (h : Lies w w.heap.size A (ints .i64 l)) (_ : ∀ n ∈ l, (Lit.int .i64 n).wf = true) :
    Calls Try.prog 3 #[.slice A l.length c] w fun e w' => e = .returned (.bool true) ∧ Below w.heap.size w w' := by
  by_cases hh : 100 < l.length
  · exact walk_long w A l c hh
  · exact walk_ok w A l c (by omega) h
-- WRAP
theorem spec : LawSpec Rows.tokenQuotesSpec 1 := ⟨rfl, fun H ds h => by
  match ds, h with
  | [d0], _ => rfl⟩
theorem params_ok : ∀ t ∈ Try.f3.params.toList, Try.prog.readableRec t = true ∧ t < Try.prog.types.size := by
  rw [Try.params3]
  intro t ht
  simp only [List.mem_cons, List.mem_nil_iff, or_false] at ht
  rcases ht with rfl
  all_goals exact ⟨by kernel_rfl, of_decide_eq_true (by kernel_rfl)⟩

set_option maxRecDepth 100000 in
theorem contract (H : Type) (enc : TypeId × Value → H) (W : World) (base : Nat) (args : Array Value) (ds gs : List (DataW H)) (before : List MemPlace)
    (hval : ∀ (j : Nat) t v, Try.f3.params[j]? = some t → args[j]? = some v → Value.okWide Try.prog W .any base t v)
    (hW : DataW.Whole enc Try.prog Try.f3.params.toList Rows.tokenQuotesSpec.vars false W args.toList ds gs before) :
    Calls Try.prog 3 args W fun e W' => ∃ v, e = .returned v ∧ Rows.tokenQuotesSpec.post enc Try.prog Try.f3 false true false false W args v W' := by
  have hW' := hW
  obtain ⟨p, q, hA0, hV, rfl, hfz, hnd⟩ := hW
  have hA : DataW.TrodAll enc Try.prog W 0 (fun _ => true) true Try.f3.params.toList args.toList ds p := hA0
  rw [Try.params3] at hA hval
  obtain ⟨v0, vs0, d0, ds0, p0, q0, hargs, rfl, rfl, h0, r0⟩ := trodAll_cons hA
  obtain ⟨rfl, rfl, rfl⟩ := trodAll_nil r0
  obtain rfl : args = #[v0] := by cases args; simp_all
  obtain ⟨A0, l0, c0, rfl, hc0, hm0, hl0, wf0⟩ := open_list Try.underlying22 Try.underlying3 (by kernel_rfl) (hval 0 22 v0 rfl rfl) h0
  exact (walk W A0 l0 c0 hc0 hm0 hl0 wf0).mono fun e W' ⟨he, hg⟩ => ⟨_, he, law_post spec (by rw [Try.params3]; rfl) (by kernel_rfl) params_ok (by kernel_rfl) Try.underlying4 hW' hg⟩

theorem own : ownKnob Try.prog.godebug = none := by kernel_rfl
set_option maxRecDepth 100000 in
theorem lifted (os : Os) (started : os.Started) (H : Type) (enc : TypeId × Value → H) :
    ReturnsInHanded {} Try.checked os 3 .any (Rows.tokenQuotesSpec.pre6 enc Try.prog Try.f3 Rows.tokenQuotesRow.domain false) (Rows.tokenQuotesSpec.post enc Try.prog Try.f3 false true false false) := by
  refine returnsInHanded_of_change (C := Try.checked) own started (by kernel_rfl) Try.func3
    (ChangeSpec.witness6 (enc := enc) (C := Try.checked) false ⟨#[], #[.slice none 0 0], []⟩ 8 (by kernel_rfl) (by kernel_rfl) (by kernel_rfl) (by kernel_rfl)) ?_
  intro W base args ds gs before hval hW _ _
  exact contract H enc W base args ds gs before hval hW
set_option maxRecDepth 100000 in
theorem said : Rows.TokenQuotesSaid :=
  OpenClaim.holds_of_wide 3 Try.f3 rfl rfl rfl rfl rfl rfl rfl ⟨rfl, rfl, rfl, rfl, rfl⟩ rfl rfl rfl rfl rfl (by kernel_rfl) Try.func3 (by kernel_rfl)
    (of_decide_eq_true (by kernel_rfl)) (by unfold Func.isWrapper; first | (rw [if_pos (by decide +kernel)]; kernel_rfl) | (rw [if_neg (by decide +kernel)]; exact ⟨rfl, rfl⟩))
    (fun os started H enc _ => lifted os started H enc)
end Go.Proofs.Ytpllklikjnndcaa.lawQuotes
