/- Layer 11: the document's Groups. -/
import Derived.Test.YtlibmbocfmjjgaaNeA
import Derived.Test.YtlibmbocfmjjgaaPC
namespace Go.Proofs.Ytlibmbocfmjjgaa
open Go.RowKit

theorem gStep_new {G : List (Int × Int)} {k : Nat} (h : ∀ p, G.getLast? = some p → p.2 ≠ (k : Int)) : gStep G k = G ++ [((k : Int), ((k + 1 : Nat) : Int))] := by
  rw [gStep, if_neg]
  intro e
  obtain ⟨p, hp, hp2⟩ := Option.map_eq_some_iff.1 e
  exact h p hp hp2
theorem gStep_on {D : List (Int × Int)} {a b : Int} {k : Nat} (h : b = (k : Int)) : gStep (D ++ [(a, b)]) k = D ++ [(a, ((k + 1 : Nat) : Int))] := by
  rw [gStep]
  simp [h]
theorem prC_last (D : List (Int × Int)) (a b y : Int) : (prC (D ++ [(a, b)])).set (D.length * 2 + 1) (.int .i64 y) = prC (D ++ [(a, y)]) := by
  rw [prC_append, prC_append, List.set_append_right _ _ (by rw [prC_length]; omega), prC_length, Nat.add_sub_cancel_left]
  rfl

set_option maxRecDepth 20000 in
set_option maxHeartbeats 4000000 in
theorem rgroups11_any (A : Option Addr) (l : List Int) (c : Nat) (w : World) (h : Lies w w.heap.size A (ints .i64 l)) (hl : l.length ≤ 1000000) :
    Calls Try.prog 13 #[.slice A l.length c] w fun ed w' => ∃ v, ed = .returned v ∧ OwnN w' w.heap.size 38 2 v (groupsI l).length (prC (groupsI l)) ∧ Below w.heap.size w w' := by
  have H := Lib.hid h
  clear h
  go_enter Try.func13, Try.ntmps13
  go_wp2_with fail
  go_loopw [4, 3] (fun iv ov wr => ∃ k : Nat, k ≤ l.length ∧ iv = .int .i64 k ∧ OwnN wr w.heap.size 38 2 ov (grpN l k).length (prC (grpN l k)) ∧ Below w.heap.size w wr) (fun iv _ _ => l.length - (intOf iv).toNat)
  case atStart => exact ⟨0, by omega, rfl, OwnN.empty _ _ _ _, Below.refl _ _⟩
  case round =>
    obtain ⟨k, hk, rfl, ho, hb⟩ := hrel
    have HLE : Hid ((grpN l k).length ≤ k) := Lib.hid (ginv l k hk).len
    have HB := Lib.hid hb
    clear hb
    by_cases hlt : k < l.length
    · obtain ⟨p, rfl, _, hcl⟩ := (H.out.below HB.out).int hlt
      obtain ⟨x, hx⟩ : ∃ x, l[k] = x := ⟨_, rfl⟩
      rw [hx] at hcl
      have hnx : grpN l (k + 1) = if isNeutral x then gStep (grpN l k) k else grpN l k := by rw [grpN, getD_at hlt, hx]
      obtain ⟨G, hG⟩ : ∃ G, grpN l k = G := ⟨_, rfl⟩
      rw [hG] at ho hnx HLE
      have HO := Lib.hid ho
      have b0 : (0 : Int) ≤ (k : Int) := by omega
      have b1 : (k : Int) < (l.length : Int) := by omega
      have hw : IntKind.i64.wrap ((k : Int) + 1) = ((k + 1 : Nat) : Int) := by rw [IntWalk.i64_in _ (by omega)]; rfl
      have HNX := Lib.hid hnx
      clear hx hG ho hnx
      rcases hn : isNeutral x with _ | _
      · have HN := Lib.hid hn
        clear hn hw
        go_wp2_with fail
        refine (rneutral_any x wr).mono ?_
        rintro e wq ⟨rfl, rfl⟩
        rw [HN.out]
        go_wp2_with fail
        go_roundw
        case rel => exact ⟨k + 1, by omega, by go_num, by rw [HNX.out, HN.out, if_neg (by simp)]; exact HO.out, HB.out⟩
        case measure => simp [intOf]; omega
      · have HN := Lib.hid hn
        clear hn
        by_cases hg0 : G.length = 0
        · obtain rfl := List.eq_nil_of_length_eq_zero hg0
          clear hg0
          obtain ⟨Ao, co, rfl, -, -, -⟩ := HO.out.form
          go_wp2_with fail
          refine (rneutral_any x wr).mono ?_
          rintro e wq ⟨rfl, rfl⟩
          rw [HN.out]
          go_wp2_with (first
            | (at_builtin; refine appN_at prT w _ w.heap.size _ _ _ _ 0 1 [] [.int .i64 (k : Int), .int .i64 ((k + 1 : Nat) : Int)] _ _ rfl rfl rfl rfl (HO.out.alloc _) (Lies.lit (w := wr) (e := 38) #[.int .i64 (k : Int), .int .i64 ((k + 1 : Nat) : Int)]) rfl (by simp [Value.oneCell']) (HB.out.alloc HB.out.size _) (HB.out.alloc HB.out.size _).size (by unfold maxLen; omega) (by omega) ?_; intro v2 w2 o2 b2 _ _; have O2 := Lib.hid o2; have B2 := Lib.hid b2; clear o2 b2)
            | fail)
          go_roundw
          case rel => exact ⟨k + 1, by omega, by go_num, by rw [HNX.out, HN.out, if_pos rfl, gStep_new (fun p hp => by cases hp)]; exact O2.out, B2.out⟩
          case measure => simp [intOf]; omega
        · obtain ⟨D, ⟨a, b⟩, hD⟩ : ∃ D p, G = D ++ [p] := ⟨G.dropLast, G.getLast (fun e => hg0 (by rw [e]; rfl)), (List.dropLast_concat_getLast _).symm⟩
          subst hD
          obtain ⟨m, hm⟩ : ∃ m, D.length = m := ⟨_, rfl⟩
          have hlen : (D ++ [(a, b)]).length = m + 1 := by rw [List.length_append, hm]; rfl
          rw [hlen] at HO HLE
          obtain ⟨g, co, rfl, -, -, -, hcell⟩ := HO.out.block (by omega)
          have hc0 : wr.cell? ⟨g, m * 2 + 1, none⟩ = some (.int .i64 b) := by
            rw [hcell (m * 2 + 1) (by omega), prC_append, List.getElem?_append_right (by rw [prC_length]; omega), prC_length, hm, Nat.add_sub_cancel_left]
            rfl
          have HM := Lib.hid hm
          have hle := HLE.out
          clear hg0 hlen hcell hm
          have c0 : (0 : Int) < (m : Int) + 1 := by omega
          have c1 : (m : Int) < (m : Int) + 1 := by omega
          have c2 : (0 : Int) ≤ (m : Int) := by omega
          rcases hbk : (b == (k : Int)) with _ | _
          · have HNE : Hid (¬ b = (k : Int)) := Lib.hid (by simpa using hbk)
            go_wp2_with fail
            refine (rneutral_any x wr).mono ?_
            rintro e wq ⟨rfl, rfl⟩
            rw [HN.out]
            go_wp2_with (first
              | (at_builtin; refine appN_at prT w _ w.heap.size _ _ _ _ (m + 1) 1 _ [.int .i64 (k : Int), .int .i64 ((k + 1 : Nat) : Int)] _ _ rfl rfl rfl rfl (HO.out.alloc _) (Lies.lit (w := wr) (e := 38) #[.int .i64 (k : Int), .int .i64 ((k + 1 : Nat) : Int)]) rfl (by simp [Value.oneCell']) (HB.out.alloc HB.out.size _) (HB.out.alloc HB.out.size _).size (by unfold maxLen; omega) (by omega) ?_; intro v2 w2 o2 b2 _ _; have O2 := Lib.hid o2; have B2 := Lib.hid b2; clear o2 b2)
              | fail)
            go_roundw
            case rel =>
              refine ⟨k + 1, by omega, by go_num, ?_, B2.out⟩
              rw [HNX.out, HN.out, if_pos rfl, gStep_new (fun p hp => by simp at hp; subst hp; exact HNE.out), prC_append, List.length_append, List.length_append, HM.out]
              exact O2.out
            case measure => simp [intOf]; omega
          · have HEQ : Hid (b = (k : Int)) := Lib.hid (by simpa using hbk)
            go_wp2_with fail
            refine (rneutral_any x wr).mono ?_
            rintro e wq ⟨rfl, rfl⟩
            rw [HN.out]
            go_wp2_with (first
              | (refine store_cellN wr w.heap.size _ _ g (m * 2 + 1) co (m + 1) (.int .i64 ((k + 1 : Nat) : Int)) _ w rfl rfl rfl (by kernel_rfl) rfl rfl rfl HO.out (by omega) HB.out ?_; intro w2 o2 b2 g2; have O2 := Lib.hid o2; have B2 := Lib.hid b2; clear o2 b2 g2)
              | fail)
            go_roundw
            case rel =>
              refine ⟨k + 1, by omega, by go_num, ?_, B2.out⟩
              have := O2.out
              rw [← HM.out, prC_last, HM.out] at this
              rw [HNX.out, HN.out, if_pos rfl, gStep_on HEQ.out, List.length_append, HM.out]
              exact this
            case measure => simp [intOf]; omega
    · obtain rfl : k = l.length := by omega
      go_wp2
      go_ret
      exact ⟨_, rfl, ho, HB.out⟩
end Go.Proofs.Ytlibmbocfmjjgaa
