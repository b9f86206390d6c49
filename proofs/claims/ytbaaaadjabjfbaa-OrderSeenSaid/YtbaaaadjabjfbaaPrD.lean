/- The document's own mirrored characters; the fixed fact. -/
import Derived.Test.YtbaaaadjabjfbaaPrC
namespace Go.Proofs.Ytbaaaadjabjfbaa
open Go.RowKit Go.Maps

theorem mir_of (c : Int) : mir c = if (othL mrs c).2.2 then (othL mrs c).1 else c := rfl
set_option maxRecDepth 20000 in
set_option maxHeartbeats 1000000 in
theorem rmirror_any (c : Int) (w : World) : Calls Try.prog 19 #[.int .i64 c] w fun e w' => e = .returned (.int .i64 (mir c)) ∧ Below w.heap.size w w' := by
  have hbr : (ints .i64 (flat brs)).length = 18 := by decide
  have HBR := Lib.hid hbr
  clear hbr
  go_enter Try.func19, Try.ntmps19
  go_wp2_with fail
  refine (rbrackets_any w).mono ?_
  rintro e w1 ⟨v1, rfl, o1, b1⟩
  have O1 := Lib.hid o1
  have B1 := Lib.hid b1
  have hz := b1.size
  clear o1 b1
  go_wp2_with (first
    | (at_builtin; refine app_lit intsT w _ w.heap.size _ _ _ _ _ _ rfl rfl rfl rfl O1.out (by simp [Value.oneCell']) B1.out hz (by rw [HBR.out]; simp [maxLen]) (by rw [HBR.out]; simp) ?_; intro v2 w2 o2 b2 _ _))
  have o2' : Own w2 w.heap.size 3 v2 (ints .i64 (flat mrs)) := o2
  obtain ⟨A1, c1, rfl, l1, _, _⟩ := o2'.form
  have L1 := Lib.hid l1
  have B2 := Lib.hid b2
  have hlen : (ints .i64 (flat mrs)).length = 26 := by decide
  rw [hlen]
  clear o2 o2' l1 b2 hlen hz
  go_wp2
  go_loopw [4] (fun i wr => ∃ (k : Nat), k ≤ 26 ∧ i = .int .i64 k ∧ Stands mrs c k ∧ wr = w2) (fun i _ => 26 - (intOf i).toNat)
  case atStart => exact ⟨0, by omega, rfl, ⟨0, by decide, rfl, rfl⟩, rfl⟩
  case round =>
    obtain ⟨k, hk, rfl, hst, rfl⟩ := hrel
    have HST := Lib.hid hst
    clear hst
    by_cases hlt : k < 26
    · obtain ⟨a, b, f1, f2, hk2, hs⟩ := HST.out.step hlt
      obtain ⟨blk, off, rfl, _, hc1, hc2⟩ := cells_of L1.out f1 f2
      have HS := Lib.hid hs
      have hk3 : k + 2 ≤ 26 := hk2
      have b0 : (0 : Int) ≤ (k : Int) := by omega
      have b1 : (k : Int) < 26 := by omega
      have b2 : (k : Int) + 1 < 26 := by omega
      clear f1 f2 hs hk2
      by_cases e1 : c = a
      · have hd : (a == c) = true := by simp [e1]
        have E1 := Lib.hid e1
        clear e1
        go_wp2
        go_ret
        exact ⟨ret_int (by rw [mir_of, HS.out, if_pos E1.out]; rfl), B2.out⟩
      · have hd : (a == c) = false := by simp [Ne.symm e1]
        by_cases e2 : c = b
        · have hd2 : (b == c) = true := by simp [e2]
          have E1 := Lib.hid e1
          have E2 := Lib.hid e2
          clear e1 e2
          go_wp2
          go_ret
          exact ⟨ret_int (by rw [mir_of, HS.out, if_neg E1.out, if_pos E2.out]; rfl), B2.out⟩
        · have hd2 : (b == c) = false := by simp [Ne.symm e2]
          have E1 := Lib.hid e1
          have E2 := Lib.hid e2
          clear e1 e2
          go_wp2
          go_roundw
          case rel => exact ⟨k + 2, hk3, by go_num, HST.out.next hlt HS.out E1.out E2.out, by first | rfl | trivial⟩
          case measure => simp [intOf]; omega
    · go_wp2
      go_ret
      exact ⟨ret_int (by rw [mir_of, HST.out.done hlt]; rfl), B2.out⟩

/-- a number is what it is mirrored into, or it stands in the table -/
theorem mrs_or (c : Int) : othL mrs c = (0, false, false) ∨ ∃ p ∈ mrs, c = p.1 ∨ c = p.2 := by
  by_cases h : ∀ p ∈ mrs, c ≠ p.1 ∧ c ≠ p.2
  · exact .inl (othL_none _ _ h)
  · refine .inr ?_
    false_or_by_contra
    rename_i hn
    exact h fun p hp => ⟨fun e => hn ⟨p, hp, .inl e⟩, fun e => hn ⟨p, hp, .inr e⟩⟩
theorem all_mrs {Q : Int → Prop} (h0 : ∀ c, othL mrs c = (0, false, false) → Q c) (h1 : ∀ p ∈ mrs, Q p.1 ∧ Q p.2) (c : Int) : Q c := by
  rcases mrs_or c with h | ⟨p, hp, rfl | rfl⟩
  · exact h0 c h
  · exact (h1 p hp).1
  · exact (h1 p hp).2
theorem isM_ne (c : Int) : (mir c != c) = isM c := by
  refine all_mrs (Q := fun c => (mir c != c) = isM c) (fun c h => ?_) (by decide +kernel) c
  rw [mir, isM, othM, h]; simp
end Go.Proofs.Ytbaaaadjabjfbaa
