/- TokenJoins: tokens of a pattern that is whole, with another one behind it, are those of both, the second one's places moved on; where the second one is wrong, both are, there; of up to 100 each, nothing lazy where they meet. Conditions: none. -/
import Derived.Deep.DeepCutAuto
import Derived.BigQuiet
import Derived.Test.YtpllklikjnndcaaTkV
import Derived.Test.YtpllklikjnndcaaTkS
import Derived.Test.YtpllklikjnndcaaLaw
import Derived.Test.YtpllklikjnndcaaRows
namespace Go.Proofs.Ytpllklikjnndcaa.lawJoins
open Go.ChangeShapes Go.WideShapes Go.ChangeAt Go.RowKit

theorem of_some {w : World} {r : Wr (List Tok)} {ed : Ending} {w' : World} (h : OfTo w r ed w') : ∃ v n x, ed = .returned (.tuple #[v, .int .i64 n, .int .i64 x]) ∧ Below w.heap.size w w' := by
  rcases r with ⟨n, x⟩ | T
  · exact ⟨_, _, _, h.1, h.2⟩
  · obtain ⟨⟨tv, e, _⟩, b⟩ := h
    exact ⟨tv, 0, 0, e, b⟩
section
variable {P : Program} {ops : Array Oper} {rest : List Oper} {o : Oper} {a : Act} {Q : Exit → Act → World → Prop}
/-- l[:n] of a row of one's own, elements of several cells -/
theorem short_ownN {t e : TypeId} {z : Value} {size bytes : Nat} (T : SliceOfN P t e z size bytes) (W : World) (B : Nat) (x y : Operand) (j : Nat) (v : Value) (n : Nat) (xs : List Value)
    (hgd : o.guard = none) (ho : o.op = .slice t x none (some y) none) (hx : a.eval x = v) (hy : a.eval y = .int .i64 (j : Int)) (hown : OwnN W B e size v n xs) (hj : j ≤ n)
    (h : ∀ A c, OwnN W B e size (.slice A j c) j (xs.take (j * size)) → wpList P ops Q rest (a.put o.dst (.slice A j c)) W) :
    wpList P ops Q (o :: rest) a W := by
  obtain ⟨i, hi, hz0, hz1, hz2⟩ := info_parts T.elem
  obtain ⟨A, c, rfl, hlc, hown'⟩ := hown.short hj
  have he : P.elem t = e := by simp [Program.elem, T.slice]
  have hrun := run_slice_h (P := P) (w := W) t A n c (by rw [T.slice, he]) .i64 (j : Int) (by omega) (by omega)
  refine wpList_plain hgd fun K' hK' => ?_
  unfold Oper.wp
  simp [execOp, ho, hx, hy, run_sliceAt_slice, T.slice, he, hrun, Result.andThen, sizeOf, typeInfo, hi, hz1, sliced]
  refine hK' _ _ ?_
  have e0 : (if c = 0 then A else Option.map (fun x : Addr => x.add 0) A) = A := by cases A <;> simp [Addr.add]
  rw [e0]
  exact h _ _ hown'
end
-- WALKS
set_option maxRecDepth 20000 in
set_option maxHeartbeats 4000000 in
theorem walk_first (w : World) (A : Option Addr) (a : List Int) (c : Nat) (A' : Option Addr) (b : List Int) (c' : Nat) (hc : a.length ≤ c) (hc' : b.length ≤ c') (h : Lies w w.heap.size A (ints .i64 a)) (h' : Lies w w.heap.size A' (ints .i64 b)) (ha : a.length ≤ 100) (hb : b.length ≤ 100) (hq : b[0]? ≠ some 63) (m1 : Nat) (x1 : Int) (hX : ofT a = .error (m1, x1)) :
    Calls Try.prog 5 #[.slice A a.length c, .slice A' b.length c'] w fun e w' => e = .returned (.bool true) ∧ Below w.heap.size w w' := by
  have h0 : (x1 != 0) = true := by simpa using (of_bad hX).2.2.1
  have HX := Lib.hid hX
  clear hX
  have HA := Lib.hid h
  have HB := Lib.hid h'
  have da : decide (100 < (a.length : Int)) = false := decide_eq_false (by omega)
  have db : decide (100 < (b.length : Int)) = false := decide_eq_false (by omega)
  obtain ⟨t, ht⟩ : ∃ t, a ++ b = t := ⟨_, rfl⟩
  have HTT := Lib.hid ht
  have htl : t.length = a.length + b.length := by rw [← ht, List.length_append]
  have la : (ints .i64 a).length ≤ 1000 := by simp; omega
  have lb : (ints .i64 b).length ≤ 1000 := by simp; omega
  have HQ : Hid (b.length = 0 ∨ ∃ p x, A' = some p ∧ (x == (63 : Int)) = false ∧ ∀ u : World, Below w.heap.size w u → u.cell? (p.add 0) = some (.int .i64 x)) := Lib.hid (by
    by_cases h0 : b.length = 0
    · exact .inl h0
    · obtain ⟨p, hp, hpb, hcell⟩ := h'.int (i := 0) (by omega)
      refine .inr ⟨p, b[0], hp, ?_, fun u hu => by rw [hu.cell (by rw [add_block]; exact hpb)]; exact hcell⟩
      rw [List.getElem?_eq_getElem (by omega)] at hq
      exact beq_eq_false_iff_ne.2 (fun e => hq (by rw [e])))
  clear h h' ht hq
  go_enter Try.func5, Try.ntmps5
  go_wp2_with fail
  refine (tkalive_any w).mono ?_
  rintro e w1 ⟨rfl, b1⟩
  have B1 := Lib.hid b1
  have HA1 := Lib.hid (HA.out.up b1)
  have HB1 := Lib.hid (HB.out.up b1)
  clear b1
  go_upto_region 3 with fail
  go_cut [36] (fun v wx => v = .bool false ∧ w1 = wx)
  case first =>
    rcases HQ.out with h0 | ⟨p, x, rfl, hx, hcell⟩
    · have e0 : b = [] := List.eq_nil_of_length_eq_zero h0
      subst e0
      have d0 : decide ((0 : Int) < (([] : List Int).length : Int)) = false := rfl
      go_wp2_with fail
      go_meet
      exact ⟨rfl, rfl⟩
    · have hcb := hcell w1 B1.out
      rcases hl0 : decide (0 < b.length) with _ | _
      · have hl1 : decide ((0 : Int) < (b.length : Int)) = false := decide_eq_false (by have := of_decide_eq_false hl0; omega)
        go_wp2_with fail
        go_meet
        exact ⟨rfl, rfl⟩
      · have hl1 : decide ((0 : Int) < (b.length : Int)) = true := decide_eq_true (by have := of_decide_eq_true hl0; omega)
        have hl2 : (0 : Int) < (b.length : Int) := of_decide_eq_true hl1
        have hcb0 : w1.cell? p = some (.int .i64 x) := by simpa [Addr.add] using hcb
        go_wp2_with fail
        go_meet
        exact ⟨rfl, rfl⟩
  case rest =>
    obtain ⟨rfl, rfl⟩ := hcut
    have C1 := Lib.hid (tkof_any w1 c A a HA1.out hc)
    rw [HX.out] at C1
    go_wp2_with fail
    refine C1.out.mono ?_
    rintro e w2 ⟨rfl, b2⟩
    have B2 := Lib.hid (below_then B1.out b2)
    have HA2 := Lib.hid (HA1.out.up b2)
    have HB2 := Lib.hid (HB1.out.up b2)
    have C3 := Lib.hid (tkof_any w2 c' A' b HB2.out hc')
    have C3' := Lib.hid (fun e u h => of_some (w := w2) (r := ofT b) (ed := e) (w' := u) h)
    clear b2
    go_wp2_with fail
    refine C3.out.mono ?_
    intro e w3 hh
    obtain ⟨v3, n3, x3, rfl, b3⟩ := C3'.out e w3 hh
    clear hh C3'
    have D3 := Lib.hid b3
    have B3 := Lib.hid (below_then B2.out b3)
    have HA3 := Lib.hid (HA2.out.up b3)
    have HB3 := Lib.hid (HB2.out.up b3)
    clear b3
    have S1 := Lib.hid (Own.ofLit (w := w3) (B := w3.heap.size) (e := 3) #[] (Nat.le_refl _) (by simp [maxLen]))
    go_wp2_with (first
      | (at_builtin; refine app_src intsT w3 _ w3.heap.size w3.heap.size _ _ _ _ (ints .i64 a) _ _ _ rfl rfl rfl rfl (by simp) S1.out (HA3.out.alloc (Nat.le_refl _) _) (ints_one _ _) (below_alloc _ _) (by simp) (by unfold maxLen; simp only [List.length_nil]; omega) (by simp only [List.length_nil]; omega) ?_; intro v1 w4 o4 b4 _ _; have S2 := Lib.hid o4; have B4 := Lib.hid b4; clear S1 o4 b4)
      | (at_builtin; refine app_src intsT w3 _ w3.heap.size w3.heap.size _ _ _ _ (ints .i64 b) _ _ _ rfl rfl rfl rfl (by simp) S2.out (HB3.out.below B4.out) (ints_one _ _) B4.out B4.out.size (by unfold maxLen; simp only [List.nil_append]; omega) (by simp only [List.nil_append]; omega) ?_; intro v2 w5 o5 b5 _ _)
      | fail)
    have o5' : Own w5 w3.heap.size 3 v2 (ints .i64 t) := by rw [← HTT.out]; simpa [ints] using o5
    obtain ⟨A5, c5, rfl, l5, hc5, -⟩ := o5'.form
    have hc5' : t.length ≤ c5 := by simpa using hc5
    have D5 := Lib.hid b5
    have B5 := Lib.hid (below_then B3.out b5)
    have C5 := Lib.hid (tkof_any w5 c5 A5 t l5 hc5')
    simp only [ints, List.length_map]
    clear o5 o5' l5 b5 S2 B4 hc5 hc5'
    refine C5.out.mono ?_
    intro e w6 hh
    obtain ⟨v6, n6, x6, rfl, b6⟩ := of_some hh
    have B6 := Lib.hid (below_then B5.out b6)
    clear hh b6
    go_wp2_with fail
    go_ret
    exact ⟨rfl, B6.out⟩
set_option maxRecDepth 20000 in
set_option maxHeartbeats 4000000 in
theorem walk_second (w : World) (A : Option Addr) (a : List Int) (c : Nat) (A' : Option Addr) (b : List Int) (c' : Nat) (hc : a.length ≤ c) (hc' : b.length ≤ c') (h : Lies w w.heap.size A (ints .i64 a)) (h' : Lies w w.heap.size A' (ints .i64 b)) (ha : a.length ≤ 100) (hb : b.length ≤ 100) (hq : b[0]? ≠ some 63) (X : List Tok) (hX : ofT a = .ok X) (m : Nat) (x : Int) (hY : ofT b = .error (m, x)) :
    Calls Try.prog 5 #[.slice A a.length c, .slice A' b.length c'] w fun e w' => e = .returned (.bool true) ∧ Below w.heap.size w w' := by
  have h0 : (x != 0) = true := by simpa using (of_bad hY).2.2.1
  have hm : m ≤ 100 := by have := (of_bad hY).1; omega
  have HX := Lib.hid hX
  have HY := Lib.hid hY
  have HF : Hid (ofT (a ++ b) = .error (a.length + m, x)) := Lib.hid (by rw [of_both ha hb hX hq, hY])
  have hxx : (x == x) = true := by simp
  have hw : IntKind.i64.wrap ((m : Int) + (a.length : Int)) = ((a.length + m : Nat) : Int) := by rw [IntWalk.i64_in _ (by omega)]; omega
  have hmm : (((a.length + m : Nat) : Int) == ((a.length + m : Nat) : Int)) = true := by simp
  clear hX hY
  have HA := Lib.hid h
  have HB := Lib.hid h'
  have da : decide (100 < (a.length : Int)) = false := decide_eq_false (by omega)
  have db : decide (100 < (b.length : Int)) = false := decide_eq_false (by omega)
  obtain ⟨t, ht⟩ : ∃ t, a ++ b = t := ⟨_, rfl⟩
  have HTT := Lib.hid ht
  have htl : t.length = a.length + b.length := by rw [← ht, List.length_append]
  have la : (ints .i64 a).length ≤ 1000 := by simp; omega
  have lb : (ints .i64 b).length ≤ 1000 := by simp; omega
  have HQ : Hid (b.length = 0 ∨ ∃ p x, A' = some p ∧ (x == (63 : Int)) = false ∧ ∀ u : World, Below w.heap.size w u → u.cell? (p.add 0) = some (.int .i64 x)) := Lib.hid (by
    by_cases h0 : b.length = 0
    · exact .inl h0
    · obtain ⟨p, hp, hpb, hcell⟩ := h'.int (i := 0) (by omega)
      refine .inr ⟨p, b[0], hp, ?_, fun u hu => by rw [hu.cell (by rw [add_block]; exact hpb)]; exact hcell⟩
      rw [List.getElem?_eq_getElem (by omega)] at hq
      exact beq_eq_false_iff_ne.2 (fun e => hq (by rw [e])))
  clear h h' ht hq
  go_enter Try.func5, Try.ntmps5
  go_wp2_with fail
  refine (tkalive_any w).mono ?_
  rintro e w1 ⟨rfl, b1⟩
  have B1 := Lib.hid b1
  have HA1 := Lib.hid (HA.out.up b1)
  have HB1 := Lib.hid (HB.out.up b1)
  clear b1
  go_upto_region 3 with fail
  go_cut [36] (fun v wx => v = .bool false ∧ w1 = wx)
  case first =>
    rcases HQ.out with h0 | ⟨p, x, rfl, hx, hcell⟩
    · have e0 : b = [] := List.eq_nil_of_length_eq_zero h0
      subst e0
      have d0 : decide ((0 : Int) < (([] : List Int).length : Int)) = false := rfl
      go_wp2_with fail
      go_meet
      exact ⟨rfl, rfl⟩
    · have hcb := hcell w1 B1.out
      rcases hl0 : decide (0 < b.length) with _ | _
      · have hl1 : decide ((0 : Int) < (b.length : Int)) = false := decide_eq_false (by have := of_decide_eq_false hl0; omega)
        go_wp2_with fail
        go_meet
        exact ⟨rfl, rfl⟩
      · have hl1 : decide ((0 : Int) < (b.length : Int)) = true := decide_eq_true (by have := of_decide_eq_true hl0; omega)
        have hl2 : (0 : Int) < (b.length : Int) := of_decide_eq_true hl1
        have hcb0 : w1.cell? p = some (.int .i64 x) := by simpa [Addr.add] using hcb
        go_wp2_with fail
        go_meet
        exact ⟨rfl, rfl⟩
  case rest =>
    obtain ⟨rfl, rfl⟩ := hcut
    have C1 := Lib.hid (tkof_any w1 c A a HA1.out hc)
    rw [HX.out] at C1
    go_wp2_with fail
    refine C1.out.mono ?_
    rintro e w2 ⟨⟨tv2, rfl, o2⟩, b2⟩
    clear o2
    have B2 := Lib.hid (below_then B1.out b2)
    have HA2 := Lib.hid (HA1.out.up b2)
    have HB2 := Lib.hid (HB1.out.up b2)
    have C3 := Lib.hid (tkof_any w2 c' A' b HB2.out hc')
    rw [HY.out] at C3
    clear b2
    go_wp2_with fail
    refine C3.out.mono ?_
    rintro e w3 ⟨rfl, b3⟩
    have D3 := Lib.hid b3
    have B3 := Lib.hid (below_then B2.out b3)
    have HA3 := Lib.hid (HA2.out.up b3)
    have HB3 := Lib.hid (HB2.out.up b3)
    clear b3
    have S1 := Lib.hid (Own.ofLit (w := w3) (B := w3.heap.size) (e := 3) #[] (Nat.le_refl _) (by simp [maxLen]))
    go_wp2_with (first
      | (at_builtin; refine app_src intsT w3 _ w3.heap.size w3.heap.size _ _ _ _ (ints .i64 a) _ _ _ rfl rfl rfl rfl (by simp) S1.out (HA3.out.alloc (Nat.le_refl _) _) (ints_one _ _) (below_alloc _ _) (by simp) (by unfold maxLen; simp only [List.length_nil]; omega) (by simp only [List.length_nil]; omega) ?_; intro v1 w4 o4 b4 _ _; have S2 := Lib.hid o4; have B4 := Lib.hid b4; clear S1 o4 b4)
      | (at_builtin; refine app_src intsT w3 _ w3.heap.size w3.heap.size _ _ _ _ (ints .i64 b) _ _ _ rfl rfl rfl rfl (by simp) S2.out (HB3.out.below B4.out) (ints_one _ _) B4.out B4.out.size (by unfold maxLen; simp only [List.nil_append]; omega) (by simp only [List.nil_append]; omega) ?_; intro v2 w5 o5 b5 _ _)
      | fail)
    have o5' : Own w5 w3.heap.size 3 v2 (ints .i64 t) := by rw [← HTT.out]; simpa [ints] using o5
    obtain ⟨A5, c5, rfl, l5, hc5, -⟩ := o5'.form
    have hc5' : t.length ≤ c5 := by simpa using hc5
    have D5 := Lib.hid b5
    have B5 := Lib.hid (below_then B3.out b5)
    have C5 := Lib.hid (tkof_any w5 c5 A5 t l5 hc5')
    simp only [ints, List.length_map]
    clear o5 o5' l5 b5 S2 B4 hc5 hc5'
    have HF2 := Lib.hid HF.out
    rw [HTT.out] at HF2
    rw [HF2.out] at C5
    refine C5.out.mono ?_
    rintro e w6 ⟨rfl, b6⟩
    have B6 := Lib.hid (below_then B5.out b6)
    clear b6
    go_wp2_with fail
    go_ret
    exact ⟨rfl, B6.out⟩
set_option maxRecDepth 20000 in
set_option maxHeartbeats 4000000 in
theorem walk_both (w : World) (A : Option Addr) (a : List Int) (c : Nat) (A' : Option Addr) (b : List Int) (c' : Nat) (hc : a.length ≤ c) (hc' : b.length ≤ c') (h : Lies w w.heap.size A (ints .i64 a)) (h' : Lies w w.heap.size A' (ints .i64 b)) (ha : a.length ≤ 100) (hb : b.length ≤ 100) (hq : b[0]? ≠ some 63) (X Y : List Tok) (hX : ofT a = .ok X) (hY : ofT b = .ok Y) :
    Calls Try.prog 5 #[.slice A a.length c, .slice A' b.length c'] w fun e w' => e = .returned (.bool true) ∧ Below w.heap.size w w' := by
  have HX := Lib.hid hX
  have HY := Lib.hid hY
  have HF : Hid (ofT (a ++ b) = .ok (X ++ Y.map (Tok.on a.length))) := Lib.hid (by rw [of_both ha hb hX hq, hY])
  have hxl := of_length hX
  have hyl := of_length hY
  have HYP : Hid (∀ i (h : i < Y.length), 0 ≤ Y[i].pos ∧ Y[i].pos < b.length) := Lib.hid fun i h => ⟨((of_fits hY).1.fit i h).pos0, ((of_fits hY).1.fit i h).posn⟩
  obtain ⟨nx, hnx⟩ : ∃ n, X.length = n := ⟨_, rfl⟩
  obtain ⟨ny, hny⟩ : ∃ n, Y.length = n := ⟨_, rfl⟩
  have HNX := Lib.hid hnx
  have HNY := Lib.hid hny
  have HNZ : Hid ((X ++ Y.map (Tok.on a.length)).length = nx + ny) := Lib.hid (by simp [hnx, hny])
  have hnx1 : nx ≤ 100 := by omega
  have hny1 : ny ≤ 100 := by omega
  clear hX hY hxl hyl hnx hny
  have HA := Lib.hid h
  have HB := Lib.hid h'
  have da : decide (100 < (a.length : Int)) = false := decide_eq_false (by omega)
  have db : decide (100 < (b.length : Int)) = false := decide_eq_false (by omega)
  obtain ⟨t, ht⟩ : ∃ t, a ++ b = t := ⟨_, rfl⟩
  have HTT := Lib.hid ht
  have htl : t.length = a.length + b.length := by rw [← ht, List.length_append]
  have la : (ints .i64 a).length ≤ 1000 := by simp; omega
  have lb : (ints .i64 b).length ≤ 1000 := by simp; omega
  have HQ : Hid (b.length = 0 ∨ ∃ p x, A' = some p ∧ (x == (63 : Int)) = false ∧ ∀ u : World, Below w.heap.size w u → u.cell? (p.add 0) = some (.int .i64 x)) := Lib.hid (by
    by_cases h0 : b.length = 0
    · exact .inl h0
    · obtain ⟨p, hp, hpb, hcell⟩ := h'.int (i := 0) (by omega)
      refine .inr ⟨p, b[0], hp, ?_, fun u hu => by rw [hu.cell (by rw [add_block]; exact hpb)]; exact hcell⟩
      rw [List.getElem?_eq_getElem (by omega)] at hq
      exact beq_eq_false_iff_ne.2 (fun e => hq (by rw [e])))
  clear h h' ht hq
  go_enter Try.func5, Try.ntmps5
  go_wp2_with fail
  refine (tkalive_any w).mono ?_
  rintro e w1 ⟨rfl, b1⟩
  have B1 := Lib.hid b1
  have HA1 := Lib.hid (HA.out.up b1)
  have HB1 := Lib.hid (HB.out.up b1)
  clear b1
  go_upto_region 3 with fail
  go_cut [36] (fun v wx => v = .bool false ∧ w1 = wx)
  case first =>
    rcases HQ.out with h0 | ⟨p, x, rfl, hx, hcell⟩
    · have e0 : b = [] := List.eq_nil_of_length_eq_zero h0
      subst e0
      have d0 : decide ((0 : Int) < (([] : List Int).length : Int)) = false := rfl
      go_wp2_with fail
      go_meet
      exact ⟨rfl, rfl⟩
    · have hcb := hcell w1 B1.out
      rcases hl0 : decide (0 < b.length) with _ | _
      · have hl1 : decide ((0 : Int) < (b.length : Int)) = false := decide_eq_false (by have := of_decide_eq_false hl0; omega)
        go_wp2_with fail
        go_meet
        exact ⟨rfl, rfl⟩
      · have hl1 : decide ((0 : Int) < (b.length : Int)) = true := decide_eq_true (by have := of_decide_eq_true hl0; omega)
        have hl2 : (0 : Int) < (b.length : Int) := of_decide_eq_true hl1
        have hcb0 : w1.cell? p = some (.int .i64 x) := by simpa [Addr.add] using hcb
        go_wp2_with fail
        go_meet
        exact ⟨rfl, rfl⟩
  case rest =>
    obtain ⟨rfl, rfl⟩ := hcut
    have C1 := Lib.hid (tkof_any w1 c A a HA1.out hc)
    rw [HX.out] at C1
    go_wp2_with fail
    refine C1.out.mono ?_
    rintro e w2 ⟨⟨tv2, rfl, o2⟩, b2⟩
    obtain ⟨A2, c2, rfl, -, -, -⟩ := o2.form
    rw [HNX.out] at o2 ⊢
    have O2 := Lib.hid o2
    clear o2
    have B2 := Lib.hid (below_then B1.out b2)
    have HA2 := Lib.hid (HA1.out.up b2)
    have HB2 := Lib.hid (HB1.out.up b2)
    have C3 := Lib.hid (tkof_any w2 c' A' b HB2.out hc')
    rw [HY.out] at C3
    clear b2
    go_wp2_with fail
    refine C3.out.mono ?_
    rintro e w3 ⟨⟨tv3, rfl, o3⟩, b3⟩
    obtain ⟨A3, c3, rfl, -, -, -⟩ := o3.form
    rw [HNY.out] at o3 ⊢
    have O3 := Lib.hid o3
    clear o3
    have D3 := Lib.hid b3
    have B3 := Lib.hid (below_then B2.out b3)
    have HA3 := Lib.hid (HA2.out.up b3)
    have HB3 := Lib.hid (HB2.out.up b3)
    clear b3
    have S1 := Lib.hid (Own.ofLit (w := w3) (B := w3.heap.size) (e := 3) #[] (Nat.le_refl _) (by simp [maxLen]))
    go_wp2_with (first
      | (at_builtin; refine app_src intsT w3 _ w3.heap.size w3.heap.size _ _ _ _ (ints .i64 a) _ _ _ rfl rfl rfl rfl (by simp) S1.out (HA3.out.alloc (Nat.le_refl _) _) (ints_one _ _) (below_alloc _ _) (by simp) (by unfold maxLen; simp only [List.length_nil]; omega) (by simp only [List.length_nil]; omega) ?_; intro v1 w4 o4 b4 _ _; have S2 := Lib.hid o4; have B4 := Lib.hid b4; clear S1 o4 b4)
      | (at_builtin; refine app_src intsT w3 _ w3.heap.size w3.heap.size _ _ _ _ (ints .i64 b) _ _ _ rfl rfl rfl rfl (by simp) S2.out (HB3.out.below B4.out) (ints_one _ _) B4.out B4.out.size (by unfold maxLen; simp only [List.nil_append]; omega) (by simp only [List.nil_append]; omega) ?_; intro v2 w5 o5 b5 _ _)
      | fail)
    have o5' : Own w5 w3.heap.size 3 v2 (ints .i64 t) := by rw [← HTT.out]; simpa [ints] using o5
    obtain ⟨A5, c5, rfl, l5, hc5, -⟩ := o5'.form
    have hc5' : t.length ≤ c5 := by simpa using hc5
    have D5 := Lib.hid b5
    have B5 := Lib.hid (below_then B3.out b5)
    have C5 := Lib.hid (tkof_any w5 c5 A5 t l5 hc5')
    simp only [ints, List.length_map]
    clear o5 o5' l5 b5 S2 B4 hc5 hc5'
    have HF2 := Lib.hid HF.out
    rw [HTT.out] at HF2
    rw [HF2.out] at C5
    refine C5.out.mono ?_
    rintro e w6 ⟨⟨tv6, rfl, o6⟩, b6⟩
    obtain ⟨A6, c6, rfl, -, -, -⟩ := o6.form
    rw [HNZ.out] at o6 ⊢
    have O6 := Lib.hid o6
    have B6 := Lib.hid (below_then B5.out b6)
    have X6 := Lib.hid (((O2.out.below D3.out (Nat.le_refl _)).below D5.out (Nat.le_refl _)).below b6 (Nat.le_refl _))
    have Y6 := Lib.hid ((O3.out.below D5.out (Nat.le_refl _)).below b6 (Nat.le_refl _))
    clear o6 b6 O2 O3
    have hw0 : IntKind.i64.wrap ((nx : Int) + (ny : Int)) = ((nx + ny : Nat) : Int) := by rw [IntWalk.i64_in _ (by omega)]; omega
    have hn0 : (((nx + ny : Nat) : Int) != ((nx + ny : Nat) : Int)) = false := by simp
    go_wp2_with fail
    go_loopw [14] (fun iv wr => ∃ i : Nat, i ≤ ny ∧ iv = .int .i64 i ∧ Hid (Below w6.heap.size w6 wr)) (fun iv _ => ny - (intOf iv).toNat)
    case atStart => exact ⟨0, by omega, rfl, Lib.hid (Below.refl _ _)⟩
    case round =>
      obtain ⟨i, hi, rfl, HB⟩ := hrel
      by_cases hlt : i < ny
      · have XR := Lib.hid (X6.out.below HB.out (Nat.le_refl _))
        have YR := Lib.hid (Y6.out.below HB.out (Nat.le_refl _))
        have ZR := Lib.hid (O6.out.below HB.out (Nat.le_refl _))
        obtain ⟨gy, cy, hvy, -, -, hgy, -⟩ := YR.out.block (by omega)
        obtain ⟨gz, cz, hvz, -, -, hgz, -⟩ := ZR.out.block (by omega)
        injection hvy with hAy _ hcy
        injection hvz with hAz _ hcz
        subst hAy hAz hcy hcz
        have hiY : i < Y.length := by rw [HNY.out]; exact hlt
        have hiZ : nx + i < (X ++ Y.map (Tok.on a.length)).length := by rw [HNZ.out]; omega
        obtain ⟨a0, a1, a2, a3, a4⟩ := tok_cells_at YR.out HNY.out.symm hiY
        obtain ⟨z0, z1, z2, z3, z4⟩ := tok_cells_at ZR.out HNZ.out.symm hiZ
        have hpos := HYP.out i hiY
        obtain ⟨q, hq⟩ : ∃ q, Y[i] = q := ⟨_, rfl⟩
        have hz : (X ++ Y.map (Tok.on a.length))[nx + i] = q.on a.length := by
          rw [List.getElem_append_right (by rw [HNX.out]; omega), List.getElem_map]
          congr 1
          rw [← hq]
          congr 1
          rw [HNX.out]; omega
        rw [hz] at z0 z1 z2 z3 z4
        rw [hq] at a0 a1 a2 a3 a4 hpos
        simp only [Tok.on] at z0 z1 z2 z3 z4
        obtain ⟨ps, hps⟩ : ∃ p, q.pos + (a.length : Int) = p := ⟨_, rfl⟩
        rw [hps] at z4
        have hw1 : IntKind.i64.wrap (q.pos + (a.length : Int)) = ps := by rw [IntWalk.i64_in _ (by omega)]; exact hps
        have hw2 : IntKind.i64.wrap ((nx : Int) + (i : Int)) = ((nx + i : Nat) : Int) := by rw [IntWalk.i64_in _ (by omega)]; omega
        have heq := fun u => eq_tok ⟨q.k, q.c, q.lo, q.hi, ps⟩ u
        have k0 : (0 : Int) ≤ (i : Int) := by omega
        have k1 : (i : Int) < (ny : Int) := by omega
        have k2 : (0 : Int) ≤ ((nx + i : Nat) : Int) := by omega
        have k3 : ((nx + i : Nat) : Int) < ((nx + ny : Nat) : Int) := by omega
        clear hq hz hps hpos hiY hiZ XR
        go_wp2_with fail
        go_quiet (fail)
        go_wp2_with fail
        go_roundw
        case rel => exact ⟨i + 1, by omega, by go_num, Lib.hid (below_drawn (HB.out.alloc HB.out.size _) _)⟩
        case measure => simp [intOf]; omega
      · obtain rfl : i = ny := by omega
        have XR := Lib.hid (X6.out.below HB.out (Nat.le_refl _))
        have ZR := Lib.hid (O6.out.below HB.out (Nat.le_refl _))
        go_wp2_with (first
          | (refine short_ownN toksT wr w5.heap.size _ _ nx _ (nx + i) _ rfl rfl rfl rfl ZR.out (by omega) ?_; intro A8 c8 o8; have O8 := Lib.hid o8; clear o8)
          | fail)
        have O9 := O8.out
        rw [tokCells_append, List.take_left' (by rw [tokCells_length, HNX.out])] at O9
        refine (tksame_any wr w5.heap.size _ A8 A2 c8 c2 X nx HNX.out.symm O9 XR.out (by rw [HNX.out]; omega)).mono ?_
        rintro e w9 ⟨rfl, b9⟩
        have B9 := Lib.hid (below_then B6.out (HB.out.trans (b9.mono HB.out.size)))
        clear b9 O9
        go_wp2_with fail
        go_ret
        exact ⟨rfl, B9.out⟩
set_option maxRecDepth 20000 in
set_option maxHeartbeats 1000000 in
theorem walk_not (w : World) (A : Option Addr) (a : List Int) (c : Nat) (A' : Option Addr) (b : List Int) (c' : Nat) (_ : a.length ≤ c) (_ : b.length ≤ c') (h : Lies w w.heap.size A (ints .i64 a)) (h' : Lies w w.heap.size A' (ints .i64 b)) (hq : 100 < a.length ∨ (a.length ≤ 100 ∧ 100 < b.length) ∨ (a.length ≤ 100 ∧ b.length ≤ 100 ∧ b[0]? = some 63)) :
    Calls Try.prog 5 #[.slice A a.length c, .slice A' b.length c'] w fun e w' => e = .returned (.bool true) ∧ Below w.heap.size w w' := by
  have HA := Lib.hid h
  have HB := Lib.hid h'
  rcases hq with h1 | ⟨h1, h2⟩ | ⟨h1, h2, h3⟩
  · have da : decide (100 < (a.length : Int)) = true := decide_eq_true (by omega)
    clear h h' h1
    go_enter Try.func5, Try.ntmps5
    go_wp2_with fail
    refine (tkalive_any w).mono ?_
    rintro e w1 ⟨rfl, b1⟩
    have B1 := Lib.hid b1
    clear b1
    go_wp2_with fail
    go_ret
    exact ⟨rfl, B1.out⟩
  · have da : decide (100 < (a.length : Int)) = false := decide_eq_false (by omega)
    have db : decide (100 < (b.length : Int)) = true := decide_eq_true (by omega)
    clear h h' h1 h2
    go_enter Try.func5, Try.ntmps5
    go_wp2_with fail
    refine (tkalive_any w).mono ?_
    rintro e w1 ⟨rfl, b1⟩
    have B1 := Lib.hid b1
    clear b1
    go_wp2_with fail
    go_ret
    exact ⟨rfl, B1.out⟩
  · have da : decide (100 < (a.length : Int)) = false := decide_eq_false (by omega)
    have db : decide (100 < (b.length : Int)) = false := decide_eq_false (by omega)
    obtain ⟨hl, hx⟩ := List.getElem?_eq_some_iff.1 h3
    have hl0 : decide (0 < b.length) = true := decide_eq_true hl
    have hl1 : decide ((0 : Int) < (b.length : Int)) = true := decide_eq_true (by omega)
    have hl2 : (0 : Int) < (b.length : Int) := by omega
    clear h h' h1 h2 h3
    go_enter Try.func5, Try.ntmps5
    go_wp2_with fail
    refine (tkalive_any w).mono ?_
    rintro e w1 ⟨rfl, b1⟩
    have B1 := Lib.hid b1
    obtain ⟨p, rfl, -, hcb⟩ := (HB.out.up b1).int hl
    rw [hx] at hcb
    have hcb0 : w1.cell? p = some (.int .i64 63) := by simpa [Addr.add] using hcb
    clear b1 hcb hx
    go_wp2_with fail
    go_ret
    exact ⟨rfl, B1.out⟩
theorem walk (w : World) (A : Option Addr) (a : List Int) (c : Nat) (hc : a.length ≤ c) (_ : c ≤ maxLen) (h : Lies w w.heap.size A (ints .i64 a)) (_ : ∀ n ∈ a, (Lit.int .i64 n).wf = true) (A' : Option Addr) (b : List Int) (c' : Nat) (hc' : b.length ≤ c') (_ : c' ≤ maxLen) (h' : Lies w w.heap.size A' (ints .i64 b)) (_ : ∀ n ∈ b, (Lit.int .i64 n).wf = true) :
    Calls Try.prog 5 #[.slice A a.length c, .slice A' b.length c'] w fun e w' => e = .returned (.bool true) ∧ Below w.heap.size w w' := by
  by_cases ha : 100 < a.length
  · exact walk_not w A a c A' b c' hc hc' h h' (.inl ha)
  · by_cases hb : 100 < b.length
    · exact walk_not w A a c A' b c' hc hc' h h' (.inr (.inl ⟨by omega, hb⟩))
    · by_cases hq : b[0]? = some 63
      · exact walk_not w A a c A' b c' hc hc' h h' (.inr (.inr ⟨by omega, by omega, hq⟩))
      · rcases hX : ofT a with ⟨m1, x1⟩ | X
        · exact walk_first w A a c A' b c' hc hc' h h' (by omega) (by omega) hq m1 x1 hX
        · rcases hY : ofT b with ⟨m, x⟩ | Y
          · exact walk_second w A a c A' b c' hc hc' h h' (by omega) (by omega) hq X hX m x hY
          · exact walk_both w A a c A' b c' hc hc' h h' (by omega) (by omega) hq X Y hX hY
-- WRAP
theorem spec : LawSpec Rows.tokenJoinsSpec 2 := ⟨rfl, fun H ds h => by
  match ds, h with
  | [d0, d1], _ => rfl⟩
theorem params_ok : ∀ t ∈ Try.f5.params.toList, Try.prog.readableRec t = true ∧ t < Try.prog.types.size := by
  rw [Try.params5]
  intro t ht
  simp only [List.mem_cons, List.mem_nil_iff, or_false] at ht
  rcases ht with rfl | rfl
  all_goals exact ⟨by kernel_rfl, of_decide_eq_true (by kernel_rfl)⟩

set_option maxRecDepth 100000 in
theorem contract (H : Type) (enc : TypeId × Value → H) (W : World) (base : Nat) (args : Array Value) (ds gs : List (DataW H)) (before : List MemPlace)
    (hval : ∀ (j : Nat) t v, Try.f5.params[j]? = some t → args[j]? = some v → Value.okWide Try.prog W .any base t v)
    (hW : DataW.Whole enc Try.prog Try.f5.params.toList Rows.tokenJoinsSpec.vars false W args.toList ds gs before) :
    Calls Try.prog 5 args W fun e W' => ∃ v, e = .returned v ∧ Rows.tokenJoinsSpec.post enc Try.prog Try.f5 false true false false W args v W' := by
  have hW' := hW
  obtain ⟨p, q, hA0, hV, rfl, hfz, hnd⟩ := hW
  have hA : DataW.TrodAll enc Try.prog W 0 (fun _ => true) true Try.f5.params.toList args.toList ds p := hA0
  rw [Try.params5] at hA hval
  obtain ⟨v0, vs0, d0, ds0, p0, q0, hargs, rfl, rfl, h0, r0⟩ := trodAll_cons hA
  obtain ⟨v1, vs1, d1, ds1, p1, q1, rfl, rfl, rfl, h1, r1⟩ := trodAll_cons r0
  obtain ⟨rfl, rfl, rfl⟩ := trodAll_nil r1
  obtain rfl : args = #[v0, v1] := by cases args; simp_all
  obtain ⟨A0, l0, c0, rfl, hc0, hm0, hl0, wf0⟩ := open_list Try.underlying22 Try.underlying3 (by kernel_rfl) (hval 0 22 v0 rfl rfl) h0
  obtain ⟨A1, l1, c1, rfl, hc1, hm1, hl1, wf1⟩ := open_list Try.underlying22 Try.underlying3 (by kernel_rfl) (hval 1 22 v1 rfl rfl) h1
  exact (walk W A0 l0 c0 hc0 hm0 hl0 wf0 A1 l1 c1 hc1 hm1 hl1 wf1).mono fun e W' ⟨he, hg⟩ => ⟨_, he, law_post spec (by rw [Try.params5]; rfl) (by kernel_rfl) params_ok (by kernel_rfl) Try.underlying4 hW' hg⟩

theorem own : ownKnob Try.prog.godebug = none := by kernel_rfl
set_option maxRecDepth 100000 in
theorem lifted (os : Os) (started : os.Started) (H : Type) (enc : TypeId × Value → H) :
    ReturnsInHanded {} Try.checked os 5 .any (Rows.tokenJoinsSpec.pre6 enc Try.prog Try.f5 Rows.tokenJoinsRow.domain false) (Rows.tokenJoinsSpec.post enc Try.prog Try.f5 false true false false) := by
  refine returnsInHanded_of_change (C := Try.checked) own started (by kernel_rfl) Try.func5
    (ChangeSpec.witness6 (enc := enc) (C := Try.checked) false ⟨#[], #[.slice none 0 0, .slice none 0 0], []⟩ 8 (by kernel_rfl) (by kernel_rfl) (by kernel_rfl) (by kernel_rfl)) ?_
  intro W base args ds gs before hval hW _ _
  exact contract H enc W base args ds gs before hval hW
set_option maxRecDepth 100000 in
theorem said : Rows.TokenJoinsSaid :=
  OpenClaim.holds_of_wide 5 Try.f5 rfl rfl rfl rfl rfl rfl rfl ⟨rfl, rfl, rfl, rfl, rfl⟩ rfl rfl rfl rfl rfl (by kernel_rfl) Try.func5 (by kernel_rfl)
    (of_decide_eq_true (by kernel_rfl)) (by unfold Func.isWrapper; first | (rw [if_pos (by decide +kernel)]; kernel_rfl) | (rw [if_neg (by decide +kernel)]; exact ⟨rfl, rfl⟩))
    (fun os started H enc _ => lifted os started H enc)
end Go.Proofs.Ytpllklikjnndcaa.lawJoins
