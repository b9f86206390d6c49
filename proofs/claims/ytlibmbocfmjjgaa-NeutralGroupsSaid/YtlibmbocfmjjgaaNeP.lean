/- Layer 11: the program's Groups and Of. -/
import Derived.Test.YtlibmbocfmjjgaaNeQ
namespace Go.Proofs.Ytlibmbocfmjjgaa
open Go.RowKit

theorem rgroups_all (A : Option Addr) (l : List Int) (c : Nat) (w : World) (h : Lies w w.heap.size A (ints .i64 l)) (hl : l.length ≤ 1000000) :
    Calls Try.prog 13 #[.slice A l.length c] w (RowedPr w (groupsI l)) := by
  refine (rgroups11_any A l c w h hl).mono ?_
  rintro ed w' ⟨v, rfl, o, b⟩
  obtain ⟨A1, c1, rfl, l1, -, -⟩ := o.form
  exact ⟨A1, c1, rfl, l1, b⟩

set_option maxRecDepth 20000 in
set_option maxHeartbeats 4000000 in
theorem ngroups_own (A : Option Addr) (l : List Int) (c : Nat) (w : World) (h : Lies w w.heap.size A (ints .i64 l)) (hl : l.length ≤ 1000000) :
    Calls Try.prog 12 #[.slice A l.length c] w fun ed w' => ∃ v, ed = .returned v ∧ OwnN w' w.heap.size 38 2 v (groupsI l).length (prC (groupsI l)) ∧ Below w.heap.size w w' := by
  have H := Lib.hid h
  clear h
  go_enter Try.func12, Try.ntmps12
  go_wp2_with fail
  go_loopw [9, 3] (fun iv ov wr => ∃ k : Nat, k ≤ l.length ∧ iv = .int .i64 k ∧ OwnN wr w.heap.size 38 2 ov (grpN l k).length (prC (grpN l k)) ∧ Below w.heap.size w wr) (fun iv _ _ => l.length - (intOf iv).toNat)
  case atStart => exact ⟨0, by omega, rfl, OwnN.empty _ _ _ _, Below.refl _ _⟩
  case round =>
    obtain ⟨k, hk, rfl, ho, hb⟩ := hrel
    have HLE : Hid ((grpN l k).length ≤ k) := Lib.hid (ginv l k hk).len
    have HB := Lib.hid hb
    clear hb
    by_cases hlt : k < l.length
    · obtain ⟨p, rfl, _, hcl⟩ := (H.out.below HB.out).int hlt
      obtain ⟨x, hx⟩ : ∃ x, l[k] = x := ⟨_, rfl⟩
      rw [hx] at hcl
      have hnx : grpN l (k + 1) = if isNeutral x then gStep (grpN l k) k else grpN l k := by rw [grpN, getD_at hlt, hx]
      obtain ⟨G, hG⟩ : ∃ G, grpN l k = G := ⟨_, rfl⟩
      rw [hG] at ho hnx HLE
      have HO := Lib.hid ho
      have b0 : (0 : Int) ≤ (k : Int) := by omega
      have b1 : (k : Int) < (l.length : Int) := by omega
      have hw : IntKind.i64.wrap ((k : Int) + 1) = ((k + 1 : Nat) : Int) := by rw [IntWalk.i64_in _ (by omega)]; rfl
      have HNX := Lib.hid hnx
      clear hx hG ho hnx
      rcases hn : isNeutral x with _ | _
      · have HN := Lib.hid hn
        clear hn hw
        go_wp2_with fail
        refine (neutral_any x wr).mono ?_
        rintro e wq ⟨rfl, bq⟩
        rw [HN.out]
        have OQ := Lib.hid (HO.out.below bq (Nat.le_refl _))
        have BQ := Lib.hid (HB.out.trans (bq.mono HB.out.size))
        clear bq
        go_wp2_with fail
        go_roundw
        case rel => exact ⟨k + 1, by omega, by go_num, by rw [HNX.out, HN.out, if_neg (by simp)]; exact OQ.out, BQ.out⟩
        case measure => simp [intOf]; omega
      · have HN := Lib.hid hn
        clear hn
        by_cases hg0 : G.length = 0
        · obtain rfl := List.eq_nil_of_length_eq_zero hg0
          clear hg0
          obtain ⟨Ao, co, rfl, -, -, -⟩ := HO.out.form
          go_wp2_with fail
          refine (neutral_any x wr).mono ?_
          rintro e wq ⟨rfl, bq⟩
          rw [HN.out]
          have OQ := Lib.hid (HO.out.below bq (Nat.le_refl _))
          have BQ := Lib.hid (HB.out.trans (bq.mono HB.out.size))
          clear bq
          go_wp2_with (first
            | (at_builtin; refine appN_at prT w _ w.heap.size _ _ _ _ 0 1 [] [.int .i64 (k : Int), .int .i64 ((k + 1 : Nat) : Int)] _ _ rfl rfl rfl rfl (OQ.out.alloc _) (Lies.lit (w := wq) (e := 38) #[.int .i64 (k : Int), .int .i64 ((k + 1 : Nat) : Int)]) rfl (by simp [Value.oneCell']) (BQ.out.alloc BQ.out.size _) (BQ.out.alloc BQ.out.size _).size (by unfold maxLen; omega) (by omega) ?_; intro v2 w2 o2 b2 _ _; have O2 := Lib.hid o2; have B2 := Lib.hid b2; clear o2 b2)
            | fail)
          go_roundw
          case rel => exact ⟨k + 1, by omega, by go_num, by rw [HNX.out, HN.out, if_pos rfl, gStep_new (fun p hp => by cases hp)]; exact O2.out, B2.out⟩
          case measure => simp [intOf]; omega
        · obtain ⟨D, ⟨a, b⟩, hD⟩ : ∃ D p, G = D ++ [p] := ⟨G.dropLast, G.getLast (fun e => hg0 (by rw [e]; rfl)), (List.dropLast_concat_getLast _).symm⟩
          subst hD
          obtain ⟨m, hm⟩ : ∃ m, D.length = m := ⟨_, rfl⟩
          have hlen : (D ++ [(a, b)]).length = m + 1 := by rw [List.length_append, hm]; rfl
          rw [hlen] at HO HLE
          have HM := Lib.hid hm
          have hle := HLE.out
          clear hg0 hlen hm
          obtain ⟨g, co, hov, -⟩ := HO.out.block (by omega)
          subst hov
          have c0 : (0 : Int) < (m : Int) + 1 := by omega
          have c1 : (m : Int) < (m : Int) + 1 := by omega
          have c2 : (0 : Int) ≤ (m : Int) := by omega
          go_wp2_with fail
          refine (neutral_any x wr).mono ?_
          rintro e wq ⟨rfl, bq⟩
          rw [HN.out]
          have OQ := Lib.hid (HO.out.below bq (Nat.le_refl _))
          have BQ := Lib.hid (HB.out.trans (bq.mono HB.out.size))
          clear bq
          have hc0 : wq.cell? ⟨g, m * 2 + 1, none⟩ = some (.int .i64 b) := by
            obtain ⟨g', co', hov, -, -, -, hcell⟩ := OQ.out.block (by omega)
            injection hov with hA _ _
            injection hA with hA
            injection hA with hgg _ _
            subst hgg
            rw [hcell (m * 2 + 1) (by omega), prC_append, List.getElem?_append_right (by rw [prC_length]; have := HM.out; omega), prC_length, HM.out, Nat.add_sub_cancel_left]
            rfl
          rcases hbk : (b == (k : Int)) with _ | _
          · have HNE : Hid (¬ b = (k : Int)) := Lib.hid (by simpa using hbk)
            go_wp2_with (first
              | (at_builtin; refine appN_at prT w _ w.heap.size _ _ _ _ (m + 1) 1 _ [.int .i64 (k : Int), .int .i64 ((k + 1 : Nat) : Int)] _ _ rfl rfl rfl rfl (OQ.out.alloc _) (Lies.lit (w := wq) (e := 38) #[.int .i64 (k : Int), .int .i64 ((k + 1 : Nat) : Int)]) rfl (by simp [Value.oneCell']) (BQ.out.alloc BQ.out.size _) (BQ.out.alloc BQ.out.size _).size (by unfold maxLen; omega) (by omega) ?_; intro v2 w2 o2 b2 _ _; have O2 := Lib.hid o2; have B2 := Lib.hid b2; clear o2 b2)
              | fail)
            go_roundw
            case rel =>
              refine ⟨k + 1, by omega, by go_num, ?_, B2.out⟩
              rw [HNX.out, HN.out, if_pos rfl, gStep_new (fun p hp => by simp at hp; subst hp; exact HNE.out), prC_append, List.length_append, List.length_append, HM.out]
              exact O2.out
            case measure => simp [intOf]; omega
          · have HEQ : Hid (b = (k : Int)) := Lib.hid (by simpa using hbk)
            go_wp2_with (first
              | (refine store_cellN wq w.heap.size _ _ g (m * 2 + 1) co (m + 1) (.int .i64 ((k + 1 : Nat) : Int)) _ w rfl rfl rfl (by kernel_rfl) rfl rfl rfl OQ.out (by omega) BQ.out ?_; intro w2 o2 b2 g2; have O2 := Lib.hid o2; have B2 := Lib.hid b2; clear o2 b2 g2)
              | fail)
            go_roundw
            case rel =>
              refine ⟨k + 1, by omega, by go_num, ?_, B2.out⟩
              have := O2.out
              rw [← HM.out, prC_last, HM.out] at this
              rw [HNX.out, HN.out, if_pos rfl, gStep_on HEQ.out, List.length_append, HM.out]
              exact this
            case measure => simp [intOf]; omega
    · obtain rfl : k = l.length := by omega
      go_wp2
      go_ret
      exact ⟨_, rfl, ho, HB.out⟩
theorem ngroups_any (A : Option Addr) (l : List Int) (c : Nat) (w : World) (h : Lies w w.heap.size A (ints .i64 l)) (hl : l.length ≤ 1000) :
    Calls Try.prog 12 #[.slice A l.length c] w (RowedPr w (groupsI l)) := by
  refine (ngroups_own A l c w h (by omega)).mono ?_
  rintro ed w' ⟨v, rfl, o, b⟩
  obtain ⟨A1, c1, rfl, l1, -, -⟩ := o.form
  exact ⟨A1, c1, rfl, l1, b⟩
end Go.Proofs.Ytlibmbocfmjjgaa
