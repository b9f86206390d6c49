/- The document's own calls on brackets and what is mirrored. -/
import Derived.Test.YtoiolgpbecgfkaaPrB
import Derived.Test.YtoiolgpbecgfkaaReg
namespace Go.Proofs.Ytoiolgpbecgfkaa
open Go.RowKit Go.Maps

/-- the pairs, one number behind the other -/
def flat : List (Int × Int) → List Int
  | [] => []
  | (a, b) :: r => a :: b :: flat r
theorem flat_len : ∀ l : List (Int × Int), (flat l).length = 2 * l.length
  | [] => rfl
  | (a, b) :: r => by simp [flat, flat_len r]; omega
theorem flat_at : ∀ (l : List (Int × Int)) (j : Nat) (h : j < l.length), (flat l)[2 * j]? = some l[j].1 ∧ (flat l)[2 * j + 1]? = some l[j].2
  | (a, b) :: r, 0, _ => ⟨rfl, rfl⟩
  | (a, b) :: r, j + 1, h => by
    have := flat_at r j (by simpa using h)
    rw [show 2 * (j + 1) = 2 * j + 1 + 1 by omega]
    simpa [flat] using this
theorem othL_drop (l : List (Int × Int)) (j : Nat) (h : j < l.length) (c : Int) : othL (l.drop j) c = if c = l[j].1 then (l[j].2, true, true) else if c = l[j].2 then (l[j].1, false, true) else othL (l.drop (j + 1)) c := by
  rw [List.drop_eq_getElem_cons h]
  rfl

theorem rbrackets_any (w : World) : Calls Try.prog 33 #[] w (Rowed w w.heap.size 3 (ints .i64 (flat brs))) := by
  go_enter Try.func33, Try.ntmps33
  go_wp2
  go_ret
  exact rowed_ret (Own.ofLit (w := w) (B := w.heap.size) (e := 3) _ (Nat.le_refl _) (by simp [maxLen])) (below_alloc _ _) (by simp [ints, flat, brs])

/-- where a loop over pairs stands: behind the first j of them -/
def Stands (l : List (Int × Int)) (c : Int) (k : Nat) : Prop := ∃ j, j ≤ l.length ∧ k = 2 * j ∧ othL (l.drop j) c = othL l c

theorem Stands.step {l : List (Int × Int)} {c : Int} {k : Nat} (h : Stands l c k) (hk : k < 2 * l.length) :
    ∃ a b, (flat l)[k]? = some a ∧ (flat l)[k + 1]? = some b ∧ k + 2 ≤ 2 * l.length ∧ othL l c = if c = a then (b, true, true) else if c = b then (a, false, true) else othL (l.drop (k / 2 + 1)) c := by
  obtain ⟨j, _, rfl, hd⟩ := h
  have hj : j < l.length := by omega
  obtain ⟨f1, f2⟩ := flat_at l j hj
  refine ⟨_, _, f1, f2, by omega, ?_⟩
  rw [← hd, othL_drop l j hj c, show 2 * j / 2 + 1 = j + 1 by omega]
theorem Stands.next {l : List (Int × Int)} {c a b : Int} {k : Nat} (h : Stands l c k) (hk : k < 2 * l.length) (e : othL l c = if c = a then (b, true, true) else if c = b then (a, false, true) else othL (l.drop (k / 2 + 1)) c) (h1 : c ≠ a) (h2 : c ≠ b) : Stands l c (k + 2) := by
  obtain ⟨j, _, rfl, hd⟩ := h
  rw [if_neg h1, if_neg h2, show 2 * j / 2 + 1 = j + 1 by omega] at e
  exact ⟨j + 1, by omega, by omega, e.symm⟩
theorem Stands.done {l : List (Int × Int)} {c : Int} {k : Nat} (h : Stands l c k) (hk : ¬ k < 2 * l.length) : othL l c = (0, false, false) := by
  obtain ⟨j, hj, rfl, hd⟩ := h
  rw [← hd, List.drop_of_length_le (by omega)]
  rfl

theorem cells_of {w : World} {B : Nat} {A : Option Addr} {l : List Int} (h : Lies w B A (ints .i64 l)) {i : Nat} {x y : Int} (e : l[i]? = some x) (e' : l[i + 1]? = some y) :
    ∃ b off, A = some ⟨b, off, none⟩ ∧ b < B ∧ w.cell? ⟨b, off + i, none⟩ = some (.int .i64 x) ∧ w.cell? ⟨b, off + (i + 1), none⟩ = some (.int .i64 y) := by
  obtain ⟨hi, rfl⟩ := List.getElem?_eq_some_iff.1 e
  obtain ⟨hi', rfl⟩ := List.getElem?_eq_some_iff.1 e'
  obtain ⟨b, off, hA, hb, hc⟩ := h.plainInts (by omega)
  exact ⟨b, off, hA, hb, hc i hi, hc (i + 1) hi'⟩

set_option maxHeartbeats 1000000 in
theorem rother_any (c : Int) (w : World) : Calls Try.prog 19 #[.int .i64 c] w fun e w' => e = .returned (.tuple #[.int .i64 (oth c).1, .bool (oth c).2.1, .bool (oth c).2.2]) ∧ Below w.heap.size w w' := by
  go_enter Try.func19, Try.ntmps19
  go_wp2_with fail
  refine (rbrackets_any w).mono ?_
  rintro e w1 ⟨v1, rfl, o1, b1⟩
  obtain ⟨A1, c1, rfl, l1, _, _⟩ := o1.form
  have L1 := Lib.hid l1
  have B1 := Lib.hid b1
  have hlen : (ints .i64 (flat brs)).length = 18 := by decide
  rw [hlen]
  clear o1 l1 b1 hlen
  go_wp2
  go_loopw [6] (fun i wr => ∃ (k : Nat), k ≤ 18 ∧ i = .int .i64 k ∧ Stands brs c k ∧ wr = w1) (fun i _ => 18 - (intOf i).toNat)
  case atStart => exact ⟨0, by omega, rfl, ⟨0, by decide, rfl, rfl⟩, rfl⟩
  case round =>
    obtain ⟨k, hk, rfl, hst, rfl⟩ := hrel
    have HST := Lib.hid hst
    clear hst
    by_cases hlt : k < 18
    · obtain ⟨a, b, f1, f2, hk2, hs⟩ := HST.out.step hlt
      obtain ⟨blk, off, rfl, _, hc1, hc2⟩ := cells_of L1.out f1 f2
      have HS := Lib.hid hs
      have hk3 : k + 2 ≤ 18 := hk2
      have b0 : (0 : Int) ≤ (k : Int) := by omega
      have b1 : (k : Int) < 18 := by omega
      have b2 : (k : Int) + 1 < 18 := by omega
      clear f1 f2 hs hk2
      by_cases e1 : c = a
      · have hd : (a == c) = true := by simp [e1]
        have E1 := Lib.hid e1
        clear e1
        go_wp2
        go_ret3
        exact ⟨ret_3 (a := (b, true, true)) (by rw [oth, HS.out, if_pos E1.out]), B1.out⟩
      · have hd : (a == c) = false := by simp [Ne.symm e1]
        by_cases e2 : c = b
        · have hd2 : (b == c) = true := by simp [e2]
          have E1 := Lib.hid e1
          have E2 := Lib.hid e2
          clear e1 e2
          go_wp2
          go_ret3
          exact ⟨ret_3 (a := (a, false, true)) (by rw [oth, HS.out, if_neg E1.out, if_pos E2.out]), B1.out⟩
        · have hd2 : (b == c) = false := by simp [Ne.symm e2]
          have E1 := Lib.hid e1
          have E2 := Lib.hid e2
          clear e1 e2
          go_wp2
          go_roundw
          case rel => exact ⟨k + 2, hk3, by go_num, HST.out.next hlt HS.out E1.out E2.out, by first | rfl | trivial⟩
          case measure => simp [intOf]; omega
    · go_wp2
      go_ret3
      exact ⟨ret_3 (a := (0, false, false)) (HST.out.done hlt).symm, B1.out⟩

set_option maxHeartbeats 1000000 in
theorem rsame_any (a b : Int) (w : World) : Calls Try.prog 20 #[.int .i64 a, .int .i64 b] w fun e w' => e = .returned (.bool (isB a && isB b && (asB a == asB b))) ∧ Below w.heap.size w w' := by
  obtain ⟨o, ho⟩ : ∃ o, oth a = o := ⟨_, rfl⟩
  obtain ⟨x, p, k⟩ := o
  have HO := Lib.hid ho
  obtain ⟨o2, ho2⟩ : ∃ o, oth b = o := ⟨_, rfl⟩
  obtain ⟨y, q, m⟩ := o2
  have HO2 := Lib.hid ho2
  clear ho ho2
  obtain ⟨u, hu⟩ : ∃ u, asB a = u := ⟨_, rfl⟩
  obtain ⟨v, hv⟩ : ∃ v, asB b = v := ⟨_, rfl⟩
  have HU := Lib.hid hu
  have HV := Lib.hid hv
  clear hu hv
  go_enter Try.func20, Try.ntmps20
  go_wp2_with fail
  refine (rother_any a w).mono ?_
  rintro e w1 ⟨rfl, b1⟩
  rw [HO.out]
  have B1 := Lib.hid b1
  clear b1
  go_wp2_with fail
  refine (rother_any b w1).mono ?_
  rintro e w2 ⟨rfl, b2⟩
  rw [HO2.out]
  have B2 := Lib.hid (below_then B1.out b2)
  clear b2
  cases k <;> cases m
  all_goals
    go_wp2_with (first
      | (go_at_call 34; refine (rasB_any a _).mono ?_; rintro e w3 ⟨rfl, rfl⟩; rw [HU.out])
      | (go_at_call 34; refine (rasB_any b _).mono ?_; rintro e w3 ⟨rfl, rfl⟩; rw [HV.out]))
    go_ret
    exact ⟨ret_bool (by rw [isB, isB, HO.out, HO2.out, HU.out, HV.out]; simp), B2.out⟩
end Go.Proofs.Ytoiolgpbecgfkaa
