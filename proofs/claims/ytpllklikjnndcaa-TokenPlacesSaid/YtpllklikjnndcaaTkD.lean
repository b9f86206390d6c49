/- Layer 15: the reader's add, repeat; number. -/
import Derived.Test.YtpllklikjnndcaaTkC
namespace Go.Proofs.Ytpllklikjnndcaa
open Go.RowKit

theorem toksT : SliceOfN Try.prog 24 30 (.agg #[.int .i64 0, .int .i64 0, .int .i64 0, .int .i64 0, .int .i64 0]) 5 40 := ⟨by kernel_rfl, by kernel_rfl, rfl, by decide⟩
theorem tokCells_append (S T : List Tok) : tokCells (S ++ T) = tokCells S ++ tokCells T := by simp [tokCells]
theorem tokCells_one (t : Tok) : tokCells [t] = t.arr.toList := by simp [tokCells]
theorem tokCells_length (T : List Tok) : (tokCells T).length = T.length * 5 := by
  induction T with
  | nil => rfl
  | cons t T ih => rw [show t :: T = [t] ++ T from rfl, tokCells_append, List.length_append, ih, tokCells_one]; simp; omega
theorem arr_one (t : Tok) : ∀ u ∈ t.arr.toList, u.oneCell' = true := by simp [Value.oneCell']
/-- laid where it begins -/
def Tok.laid (t : Tok) (fr : Nat) : Tok := ⟨t.k, t.c, t.lo, t.hi, (fr : Int)⟩

/-- what a token's adding reads -/
abbrev AddAt (u : World) (b g : Nat) (tv : Value) (t : Tok) (fr : Nat) : Prop := u.cell? ⟨b, 2, none⟩ = some tv ∧ u.cell? ⟨g, 0, none⟩ = some (.int .i64 t.k) ∧ u.cell? ⟨g, 1, none⟩ = some (.int .i64 t.c) ∧ u.cell? ⟨g, 2, none⟩ = some (.int .i64 t.lo) ∧ u.cell? ⟨g, 3, none⟩ = some (.int .i64 t.hi) ∧ u.cell? ⟨g, 4, none⟩ = some (.int .i64 fr)
theorem add_at {u : World} {b g fr : Nat} {x y tv : Value} {t : Tok} {e e' : TypeId} (hb : Box u b #[x, y, tv] e) (hx : Box u g (t.laid fr).arr e') : AddAt u b g tv t fr :=
  ⟨hb.cell rfl, hx.cell rfl, hx.cell rfl, hx.cell rfl, hx.cell rfl, hx.cell rfl⟩
theorem tokSlInfo : (Try.prog.info? 24).map (·.size) = some 1 := by kernel_rfl

set_option maxRecDepth 20000 in
set_option maxHeartbeats 4000000 in
theorem tkadd_any (w : World) (b c k : Nat) (A : Option Addr) (l : List Int) (tv : Value) (T : List Tok) (h : IsR w b A l c k tv T) (hT : T.length ≤ 1000) (t : Tok) (fr : Nat) :
    Calls Try.prog 20 #[.pointer (some ⟨b, 0, none⟩), .agg t.arr, .int .i64 fr] w
      fun e w' => e = .returned (.int .i64 t.k) ∧ (∃ tv', IsR w' b A l c k tv' (T ++ [t.laid fr])) ∧ Below b w w' := by
  obtain ⟨w0, hw0⟩ : ∃ u, w.alloc (.cells (t.laid fr).arr 30) = u := ⟨_, rfl⟩
  have X0 : Hid (Box w0 w.heap.size (t.laid fr).arr 30) := Lib.hid (hw0 ▸ Box.new w _ _)
  have G0 : Hid (w.grownBy w0 none) := Lib.hid (hw0 ▸ grown_new w _ _)
  have H0 := Lib.hid (h.grown G0.out)
  have Z0 : Hid (w0.heap.size = w.heap.size + 1) := Lib.hid (by rw [← hw0]; simp)
  have hbw := h.lt
  obtain ⟨At, ct, rfl, -, -, -⟩ := h.toks.form
  have HF : Hid ((Value.slice At T.length ct).ownBlock ≠ some b) := Lib.hid h.far
  have HO : Hid ((Value.slice At T.length ct).ownBlock ≠ some w.heap.size) := Lib.hid (h.old (Nat.le_refl _))
  have HC : Hid (∀ u : World, w0.heap.size ≤ u.heap.size → (∀ i, i < w0.heap.size → u.heap[i]? = w0.heap[i]?) → AddAt u b w.heap.size (.slice At T.length ct) t fr) := Lib.hid fun u _ hu => by
    have hb := H0.out.box
    have hx := X0.out
    have z := Z0.out
    unfold Box at hb hx
    rw [← hu _ (by omega)] at hb hx
    exact add_at hb hx
  have HW0 : Hid ((w.alloc (.cells #[.int .i64 t.k, .int .i64 t.c, .int .i64 t.lo, .int .i64 t.hi, .int .i64 fr] 30)) = w0) := Lib.hid hw0
  clear h hw0
  go_enter Try.func20, Try.ntmps20
  go_wp2_with fail
  rw [HW0.out]
  have hk := HC.out w0.drew (Nat.le_refl _) (fun _ _ => rfl)
  refine wp_region_E (S := fun u => u.cell? ⟨b, 2, none⟩ = some (.slice At T.length ct) ∧ u.cell? ⟨w.heap.size, 0, none⟩ = some (.int .i64 t.k) ∧ u.cell? ⟨w.heap.size, 1, none⟩ = some (.int .i64 t.c) ∧ u.cell? ⟨w.heap.size, 2, none⟩ = some (.int .i64 t.lo) ∧ u.cell? ⟨w.heap.size, 3, none⟩ = some (.int .i64 t.hi) ∧ u.cell? ⟨w.heap.size, 4, none⟩ = some (.int .i64 fr)) [10] (by kernel_rfl) (hk) (fun hHeld hZ => ?_)
  refine' eY 0 hHeld hZ fun hZ => ?_
  try simp only [Act.put,ZA,ZB,ZD,ZE,ZF]
  refine' eY 1 hHeld hZ fun hZ => ?_
  try simp only [Act.put,ZA,ZB,ZC,ZD,ZE,ZF]
  refine' eY 2 hHeld hZ fun hZ => ?_
  try simp only [Act.put,ZA,ZB,ZC,ZD,ZE,ZF]
  refine' eY 3 hHeld hZ fun hZ => ?_
  try simp only [Act.put,ZA,ZB,ZC,ZD,ZE,ZF]
  refine' eY 4 hHeld hZ fun hZ => ?_
  try simp only [Act.put,ZA,ZB,ZC,ZD,ZE,ZF]
  refine' eY 5 hHeld hZ fun hZ => ?_
  try simp only [Act.put,ZA,ZB,ZC,ZD,ZE,ZF]
  refine eA 6 fun K hK => ?_
  go_simp
  refine eB hK hZ (HC.out _ (by simp) (fun i hi => Below.heap_alloc w0.drew _ i hi)) fun hHeld hZ => ?_
  clear hK K
  try simp only [Act.put,ZA,ZB,ZC,ZD,ZE,ZF]
  refine eA 7 fun K hK => ?_
  refine step_appN toksT w0 _ b _ (.tmp 13) (.tmp 15) (.slice At T.length ct) T.length 1 (tokCells T) (t.laid fr).arr.toList _ _ rfl rfl rfl rfl (OwnN.same (H0.out.toks.alloc _) rfl) (Lies.sameHeap (Lies.lit (w := w0) (e := 30) (t.laid fr).arr) rfl) rfl (arr_one _) (by exact below_same ((below_alloc w0 _).mono (by have := Z0.out; omega)) rfl rfl rfl rfl) (by have := Z0.out; simp; omega) (by unfold maxLen; omega) (by omega) ?_
  intro v2 w2 o2 b2 g2 e2
  obtain ⟨A2, c2, rfl, -, -, -⟩ := o2.form
  have X2 := Lib.hid (((X0.out.kept (grown_new w0 _ none) (by simp)).same (w' := (w0.alloc (.cells (t.laid fr).arr 30)).drew) rfl).kept g2 HO.out)
  have R2 := Lib.hid (((H0.out.box.kept (grown_new w0 _ none) (by simp)).same (w' := (w0.alloc (.cells (t.laid fr).arr 30)).drew) rfl).kept g2 HF.out)
  have O2 := Lib.hid o2
  have E2 := Lib.hid e2
  have B2 := Lib.hid b2
  have L2 := Lib.hid (H0.out.lies.below b2)
  clear o2 e2 b2 g2
  refine eB hK hZ ((add_at R2.out X2.out)) fun hHeld hZ => ?_
  clear hK K
  try simp only [Act.put,ZA,ZB,ZC,ZD,ZE,ZF]
  refine' eY 8 hHeld hZ fun hZ => ?_
  try simp only [Act.put,ZA,ZB,ZC,ZD,ZE,ZF]
  refine' eY 9 hHeld hZ fun hZ => ?_
  try simp only [Act.put,ZA,ZB,ZC,ZD,ZE,ZF]
  refine eA 10 fun K hK => ?_
  refine step_in w2 (.tmp 18) (.tmp 16) b 2 (.slice A2 (T.length + 1) c2) _ rfl rfl rfl tokSlInfo rfl rfl rfl R2.out (by simp) (by simp [maxLen]) ?_
  intro w3 r3 g3
  have X3 := Lib.hid (X2.out.kept g3 (by simp; omega))
  obtain ⟨-, c0, -, -, -, -⟩ : AddAt w3 b w.heap.size (.slice A2 (T.length + 1) c2) t fr := add_at r3 X3.out
  have H3 : Hid (IsR w3 b A l c k (.slice A2 (T.length + 1) c2) (T ++ [t.laid fr])) := Lib.hid ⟨r3, by
    rw [List.length_append, tokCells_append, tokCells_one]
    refine O2.out.keep g3 (.inr fun e => ?_)
    rcases E2.out with h1 | ⟨g, h1, h2⟩
    · rw [h1] at e; exact HF.out e
    · rw [h1] at e; injection e with e; have := Z0.out; simp at h2; omega, L2.out.same (fun q hq => World.cell?_of_block (g3.block q.block (by have := B2.out.size; have := Z0.out; omega) (fun e => by injection e with e; omega))), H0.out.le, H0.out.cap⟩
  have B3 : Hid (Below b w w3) := Lib.hid ((below_row_none G0.out (by omega)).trans (B2.out.trans (below_row g3 (Nat.le_refl _) (by have := B2.out.size; have := Z0.out; omega))))
  clear r3 g3
  refine eE hK hZ fun hZ => ?_
  clear hK K
  try simp only [Act.put,ZA,ZB,ZC,ZD,ZE,ZF]
  refine wpAnyE_done (by kernel_rfl) ?_ _
  clear hZ
  go_wp2_with fail
  go_ret
  exact ⟨rfl, ⟨_, H3.out⟩, B3.out⟩

theorem lastR_snoc (T : List Tok) (t : Tok) : lastR (T ++ [t]) = (t.k == 6) := by simp [lastR]
set_option maxRecDepth 20000 in
set_option maxHeartbeats 4000000 in
theorem tkrepeat_any (w : World) (b c k : Nat) (A : Option Addr) (l : List Int) (tv : Value) (T : List Tok) (h : IsR w b A l c k tv T) (hT : T.length ≤ 1000) (x : Int) :
    Calls Try.prog 21 #[.pointer (some ⟨b, 0, none⟩), .int .i64 x] w fun e w' => e = .returned (.agg (repT (lastR T) x).arr) ∧ w.grownBy w' none := by
  obtain ⟨c0, c1, c2⟩ := h.cells
  obtain ⟨At, ct, rfl, -, -, -⟩ := h.toks.form
  have hbw := h.lt
  have HG := Lib.hid (grown_new w (.cells #[.int .i64 6, .int .i64 0, .int .i64 1, .int .i64 (-1), .int .i64 0] 30) none)
  obtain ⟨m, hm⟩ : ∃ m, T.length = m := ⟨_, rfl⟩
  have HH := Lib.hid h
  by_cases h63 : x = 63
  · subst h63
    rcases List.eq_nil_or_concat T with hT0 | ⟨S, t, hST⟩
    · subst hT0
      obtain rfl : m = 0 := hm.symm
      clear h HH
      go_enter Try.func21, Try.ntmps21
      go_wp2_with fail
      (try simp only [Exit.inBlock, Exit.then])
      exact bodyPost_ret (v := .agg (repT (lastR []) 63).arr) (ret_tok rfl _ _ w.heap.size ⟨6, 0, 0, 1, 0⟩ rfl (Box.new w _ _)) rfl ⟨rfl, grown_new w _ _⟩
    · rw [List.concat_eq_append] at hST
      subst hST
      obtain ⟨n, hn⟩ : ∃ n, S.length = n := ⟨_, rfl⟩
      obtain rfl : m = n + 1 := by rw [← hm]; simp [hn]
      obtain ⟨g, c', hv, -, -, hgl, hcells⟩ := h.toks.block (by simp)
      injection hv with hv1 _ hv3
      subst hv1 hv3
      have hk := hcells (n * 5) (by simp; omega)
      rw [tokCells_append, List.getElem?_append_right (by rw [tokCells_length, hn]; exact Nat.le_refl _), tokCells_length, hn, Nat.sub_self, tokCells_one] at hk
      simp only [List.getElem?_cons_zero] at hk
      rw [hm] at c2
      rw [lastR_snoc]
      have b0 : (0 : Int) ≤ (n : Int) := by omega
      have b1 : (n : Int) < ((n + 1 : Nat) : Int) := by omega
      have hw1 : IntKind.i64.wrap (((n + 1 : Nat) : Int) - 1) = (n : Int) := by rw [IntWalk.i64_in _ (by omega)]; omega
      have hw2 : IntKind.i64.wrap (n : Int) = (n : Int) := IntWalk.i64_in _ (by omega)
      have d0 : decide ((0 : Int) < ((n + 1 : Nat) : Int)) = true := decide_eq_true (by omega)
      have hne : ¬ w.heap.size = b := by omega
      have hne' : ¬ w.heap.size = g := by omega
      clear h HH hcells hm hn
      rcases h6 : (t.k == 6) with _ | _
      · go_enter Try.func21, Try.ntmps21
        go_wp2_with fail
        (try simp only [Exit.inBlock, Exit.then])
        exact bodyPost_ret (v := .agg (repT false 63).arr) (ret_tok rfl _ _ w.heap.size ⟨6, 0, 0, 1, 0⟩ rfl (Box.new w _ _)) rfl ⟨rfl, grown_new w _ _⟩
      · go_enter Try.func21, Try.ntmps21
        go_wp2_with fail
        (try simp only [Exit.inBlock, Exit.then])
        exact bodyPost_ret (v := .agg (repT true 63).arr) (ret_tok rfl _ _ w.heap.size ⟨13, 0, 0, 0, 0⟩ rfl (Box.new w _ _)) rfl ⟨rfl, grown_new w _ _⟩
  · have d63 : (x == 63) = false := by simpa using h63
    by_cases h42 : x = 42
    · subst h42
      clear h HH
      go_enter Try.func21, Try.ntmps21
      go_wp2_with fail
      (try simp only [Exit.inBlock, Exit.then])
      exact bodyPost_ret (v := .agg (repT (lastR T) 42).arr) (ret_tok rfl _ _ w.heap.size ⟨6, 0, 0, -1, 0⟩ rfl (Box.new w _ _)) rfl ⟨rfl, grown_new w _ _⟩
    · have d42 : (x == 42) = false := by simpa using h42
      have he : repT (lastR T) x = ⟨6, 0, 1, -1, 0⟩ := by unfold repT; rw [if_neg (fun e => h63 e.1), if_neg h63, if_neg h42]
      rw [he]
      clear h HH h63 h42 he
      go_enter Try.func21, Try.ntmps21
      go_wp2_with fail
      (try simp only [Exit.inBlock, Exit.then])
      exact bodyPost_ret (v := .agg (⟨6, 0, 1, -1, 0⟩ : Tok).arr) (ret_tok rfl _ _ w.heap.size ⟨6, 0, 1, -1, 0⟩ rfl (Box.new w _ _)) rfl ⟨rfl, grown_new w _ _⟩
end Go.Proofs.Ytpllklikjnndcaa
