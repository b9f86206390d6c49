/- Layer 8: the program's split and Runs. -/
import Derived.Test.YtajgjloailliiaaSqO
namespace Go.Proofs.Ytajgjloailliiaa
open Go.RowKit

/-- what is cut so far: Lo, and what has begun at f and goes to t -/
def Cutting (cl lv s : List Int) (t f : Nat) (Lo : List (List Int)) : Prop := (t ≤ s.length ∧ f < t ∧ listsN cl lv s t = Lo ++ [(s.take t).drop f]) ∨ (t = s.length + 1 ∧ listsN cl lv s s.length = Lo)
theorem cutting_start {cl lv s : List Int} (h : 0 < s.length) : Cutting cl lv s 1 0 [] := by
  refine .inl ⟨h, by omega, ?_⟩
  have hf : freshAt cl lv s 0 = true := rfl
  rw [listsN, hf, if_pos rfl]
  have e : s.take 1 = [s.getD 0 0] := by
    rcases s with _ | ⟨x, s⟩
    · simp at h
    · simp
  rw [e]
  simp [listsN, addLast]
theorem cutting_end {cl lv s : List Int} {f : Nat} {Lo : List (List Int)} (h : Cutting cl lv s s.length f Lo) : f < s.length ∧ Cutting cl lv s (s.length + 1) s.length (Lo ++ [(s.take s.length).drop f]) := by
  rcases h with ⟨_, h1, h2⟩ | ⟨h1, _⟩
  · exact ⟨h1, .inr ⟨rfl, h2⟩⟩
  · omega
theorem cutting_fresh {cl lv s : List Int} {t f : Nat} {Lo : List (List Int)} (h : Cutting cl lv s t f Lo) (ht : t < s.length) (hf : freshAt cl lv s t = true) : f < t ∧ Cutting cl lv s (t + 1) t (Lo ++ [(s.take t).drop f]) := by
  rcases h with ⟨_, h1, h2⟩ | ⟨h1, _⟩
  · refine ⟨h1, .inl ⟨ht, by omega, ?_⟩⟩
    rw [listsN, hf, if_pos rfl, h2, addLast]
    have e : (s.take (t + 1)).drop t = [s.getD t 0] := by
      rw [List.take_succ_eq_append_getElem ht, List.drop_append_of_le_length (by simp; omega), List.drop_of_length_le (by simp; omega)]
      simp [ht]
    rw [e]
    simp
  · omega
theorem cutting_more {cl lv s : List Int} {t f : Nat} {Lo : List (List Int)} (h : Cutting cl lv s t f Lo) (ht : t < s.length) (hf : freshAt cl lv s t = false) : Cutting cl lv s (t + 1) f Lo := by
  rcases h with ⟨_, h1, h2⟩ | ⟨h1, _⟩
  · refine .inl ⟨ht, by omega, ?_⟩
    rw [listsN, hf, if_neg (by simp), h2, addLast]
    have e : (s.take (t + 1)).drop f = (s.take t).drop f ++ [s.getD t 0] := by
      rw [List.take_succ_eq_append_getElem ht, List.drop_append_of_le_length (by simp; omega)]
      simp [ht]
    rw [e]
    simp
  · omega
theorem fresh_ends {cl lv s : List Int} {k q q' : Nat} (h0 : 0 < k) (h1 : s.getD (k - 1) 0 = (q : Int)) (h2 : s.getD k 0 = (q' : Int)) : (cl.getD q 0 == 10 || lv.getD q 0 != lv.getD q' 0) = freshAt cl lv s k := by
  unfold freshAt
  rw [show (k == 0) = false by simp; omega, h1, h2, Int.toNat_natCast, Int.toNat_natCast, Bool.false_or, Bool.or_comm]
  congr 1
  rw [Bool.eq_iff_iff, bne_iff_ne, bne_iff_ne]
  exact ⟨fun a b => a b.symm, fun a b => a b.symm⟩

def RowedR (w : World) (L : List (List Int)) (ed : Ending) (w' : World) : Prop := ∃ A c, ed = .returned (.slice A L.length c) ∧ RunsR w' A L ∧ Below w.heap.size w w'
set_option maxRecDepth 20000 in
set_option maxHeartbeats 8000000 in
theorem ssplit_any (A : Option Addr) (cl : List Int) (c : Nat) (A' : Option Addr) (lv : List Int) (c' : Nat) (w : World) (h : Lies w w.heap.size A (ints .i64 cl)) (h' : Lies w w.heap.size A' (ints .i64 lv)) (hl : cl.length ≤ 1000000) :
    Calls Try.prog 18 #[.slice A cl.length c, .slice A' lv.length c'] w (RowedR w (listsI cl lv)) := by
  by_cases he : cl.length = lv.length
  · have hLI : listsI cl lv = listsN cl lv (seenI cl) (seenI cl).length := by rw [listsI, if_pos he]
    rw [hLI]
    have H := Lib.hid h
    have H' := Lib.hid h'
    obtain ⟨s, hs⟩ : ∃ s, seenI cl = s := ⟨_, rfl⟩
    have HS := Lib.hid hs
    have HSL : Hid (s.length ≤ cl.length) := Lib.hid (by rw [← hs]; exact seenN_le cl cl.length)
    have HSA : Hid (∀ j (h : j < s.length), ∃ q : Nat, s[j] = (q : Int) ∧ q < cl.length) := Lib.hid (by subst hs; exact seenN_at cl cl.length)
    have hne : ((cl.length : Int) != (lv.length : Int)) = false := by rw [he]; simp
    have HE := Lib.hid he
    have hs6 : s.length ≤ 1000000 := by have := HSL.out; omega
    rw [hs]
    clear h h' hs he hLI
    go_enter Try.func18, Try.ntmps18
    go_wp2_with fail
    refine (skept_any A cl c w H.out hl).mono ?_
    rintro e w1 ⟨v1, rfl, o1, b1⟩
    rw [HS.out] at o1
    obtain ⟨A1, c1, rfl, l1, hc1, _⟩ := o1.form
    rw [ints, List.length_map] at hc1
    have L1 := Lib.hid l1
    have O1 := Lib.hid o1
    have B1 := Lib.hid b1
    have C1 := Lib.hid hc1
    simp only [ints, List.length_map]
    clear o1 b1 l1 hne hc1
    by_cases hpos : 0 < s.length
    · obtain ⟨g, hg⟩ : ∃ g, A1 = some ⟨g, 0, none⟩ := by
        obtain ⟨g, c2, hv, _⟩ := O1.out.inRow (by rw [ints, List.length_map]; exact hpos)
        injection hv with hv _ _
        exact ⟨g, hv⟩
      subst hg
      go_wp2_with fail
      go_loopw [8, 5, 7] (fun iv ov fv wr => ∃ (t f : Nat) (es : List Value) (Lo : List (List Int)), 1 ≤ t ∧ t ≤ s.length + 1 ∧ f ≤ s.length ∧ iv = .int .i64 t ∧ fv = .int .i64 f ∧ Own wr w1.heap.size 22 ov es ∧ Hid (Cuts g s es Lo) ∧ Hid (Cutting cl lv s t f Lo) ∧ Below w1.heap.size w1 wr ∧ es.length < t) (fun iv _ _ _ => s.length + 1 - (intOf iv).toNat)
      case atStart => exact ⟨1, 0, [], [], by omega, by omega, by omega, rfl, rfl, Own.empty _ _ _, Lib.hid (Cuts.nil _ _), Lib.hid (cutting_start hpos), Below.refl _ _, by simp⟩
      case round =>
        obtain ⟨t, f, es, Lo, ht1, ht2, hf2, rfl, rfl, ho, HCu, HCt, hb, hes⟩ := hrel
        have HO := Lib.hid ho
        have HB := Lib.hid hb
        clear ho hb
        have P1 := (L1.out.below HB.out)
        by_cases hlt : t ≤ s.length
        · obtain ⟨k, hk⟩ : ∃ k, t - 1 = k := ⟨_, rfl⟩
          have b0 : (t : Int) ≤ (s.length : Int) := by omega
          have b1 : (0 : Int) ≤ (k : Int) := by omega
          have b2 : (k : Int) < (s.length : Int) := by omega
          have hwk : IntKind.i64.wrap ((t : Int) - 1) = (k : Int) := by rw [IntWalk.i64_in _ (by omega)]; omega
          have hww : IntKind.i64.wrap ((t : Int) + 1) = ((t + 1 : Nat) : Int) := by rw [IntWalk.i64_in _ (by omega)]; omega
          obtain ⟨q, hq1, hq2⟩ := HSA.out k (by omega)
          obtain ⟨ps, hps, _, hcs⟩ := P1.int (i := k) (by omega)
          injection hps with hps
          subst hps
          rw [hq1, add_plain, Nat.zero_add] at hcs
          have hkg : s.getD (t - 1) 0 = (q : Int) := by rw [hk]; simp [show k < s.length by omega, hq1]
          obtain ⟨fr, hfr⟩ : ∃ b, (t == s.length || freshAt cl lv s t) = b := ⟨_, rfl⟩
          have HFR := Lib.hid hfr
          clear hfr
          go_upto_region 9 with fail
          go_cut [39] (fun v wx => v = .bool fr ∧ Below wr.heap.size wr wx)
          case first =>
            by_cases hte : t = s.length
            · have hff : Hid (true = fr) := Lib.hid (by rw [← HFR.out, hte]; simp)
              have hteI : ((t : Int) == (s.length : Int)) = true := by simp [hte]
              clear hte
              go_wp2_with fail
              refine wp_region_held_drew (S := fun _ => True) (by kernel_rfl) (trivial) (fun hHeld => ?_)
              refine' wpAnyH_take (i := 0) (v := _) rfl (by kernel_rfl) (by kernel_rfl) (by kernel_rfl) (fun _ _ _ h => h) (Or.inl ⟨by rfl, fun u hu => ?_⟩) (by assumption) ?_
              rotate_left
              · (try dsimp only at hu)
                go_simp
                try with_reducible rfl
              try simp only [Act.put, List.getElem_toArray, List.getElem_cons_zero, List.setIfInBounds_toArray, List.set_cons_zero, List.set_cons_succ]
              refine' wpAnyH_take (i := 1) (v := _) rfl (by kernel_rfl) (by kernel_rfl) (by kernel_rfl) (fun _ _ _ h => h) (Or.inl ⟨by rfl, fun u hu => ?_⟩) (by assumption) ?_
              rotate_left
              · (try dsimp only at hu)
                go_simp
                try with_reducible rfl
              try simp only [Act.put, List.getElem_toArray, List.getElem_cons_zero, List.getElem_cons_succ, List.setIfInBounds_toArray, List.set_cons_zero, List.set_cons_succ]
              refine' wpAnyH_take (i := 2) (v := _) rfl (by kernel_rfl) (by kernel_rfl) (by kernel_rfl) (fun _ _ _ h => h) (Or.inl ⟨by rfl, fun u hu => ?_⟩) (by assumption) ?_
              rotate_left
              · (try dsimp only at hu)
                go_simp
                try with_reducible rfl
              try simp only [Act.put, List.getElem_toArray, List.getElem_cons_zero, List.getElem_cons_succ, List.setIfInBounds_toArray, List.set_cons_zero, List.set_cons_succ]
              refine' wpAnyH_take (i := 3) (v := _) rfl (by kernel_rfl) (by kernel_rfl) (by kernel_rfl) (fun _ _ _ h => h) (Or.inl ⟨by rfl, fun u hu => ?_⟩) (by assumption) ?_
              rotate_left
              · (try dsimp only at hu)
                go_simp
                try with_reducible rfl
              try simp only [Act.put, List.getElem_toArray, List.getElem_cons_zero, List.getElem_cons_succ, List.setIfInBounds_toArray, List.set_cons_zero, List.set_cons_succ]
              refine' wpAnyH_take (i := 4) (v := _) rfl (by kernel_rfl) (by kernel_rfl) (by kernel_rfl) (fun _ _ _ h => h) (Or.inl ⟨by rfl, fun u hu => ?_⟩) (by assumption) ?_
              rotate_left
              · (try dsimp only at hu)
                go_simp
                try with_reducible rfl
              try simp only [Act.put, List.getElem_toArray, List.getElem_cons_zero, List.getElem_cons_succ, List.setIfInBounds_toArray, List.set_cons_zero, List.set_cons_succ]
              refine' wpAnyH_take (i := 5) (v := _) rfl (by kernel_rfl) (by kernel_rfl) (by kernel_rfl) (fun _ _ _ h => h) (Or.inr ⟨by rfl, rfl⟩) (by assumption) ?_
              try simp only [Act.put, List.getElem_toArray, List.getElem_cons_zero, List.getElem_cons_succ, List.setIfInBounds_toArray, List.set_cons_zero, List.set_cons_succ]
              refine' wpAnyH_take (i := 6) (v := _) rfl (by kernel_rfl) (by kernel_rfl) (by kernel_rfl) (fun _ _ _ h => h) (Or.inr ⟨by rfl, rfl⟩) (by assumption) ?_
              try simp only [Act.put, List.getElem_toArray, List.getElem_cons_zero, List.getElem_cons_succ, List.setIfInBounds_toArray, List.set_cons_zero, List.set_cons_succ]
              refine' wpAnyH_take (i := 7) (v := _) rfl (by kernel_rfl) (by kernel_rfl) (by kernel_rfl) (fun _ _ _ h => h) (Or.inr ⟨by rfl, rfl⟩) (by assumption) ?_
              try simp only [Act.put, List.getElem_toArray, List.getElem_cons_zero, List.getElem_cons_succ, List.setIfInBounds_toArray, List.set_cons_zero, List.set_cons_succ]
              refine' wpAnyH_take (i := 8) (v := _) rfl (by kernel_rfl) (by kernel_rfl) (by kernel_rfl) (fun _ _ _ h => h) (Or.inr ⟨by rfl, rfl⟩) (by assumption) ?_
              try simp only [Act.put, List.getElem_toArray, List.getElem_cons_zero, List.getElem_cons_succ, List.setIfInBounds_toArray, List.set_cons_zero, List.set_cons_succ]
              refine' wpAnyH_take (i := 9) (v := _) rfl (by kernel_rfl) (by kernel_rfl) (by kernel_rfl) (fun _ _ _ h => h) (Or.inr ⟨by rfl, rfl⟩) (by assumption) ?_
              try simp only [Act.put, List.getElem_toArray, List.getElem_cons_zero, List.getElem_cons_succ, List.setIfInBounds_toArray, List.set_cons_zero, List.set_cons_succ]
              refine' wpAnyH_take (i := 10) (v := _) rfl (by kernel_rfl) (by kernel_rfl) (by kernel_rfl) (fun _ _ _ h => h) (Or.inr ⟨by rfl, rfl⟩) (by assumption) ?_
              try simp only [Act.put, List.getElem_toArray, List.getElem_cons_zero, List.getElem_cons_succ, List.setIfInBounds_toArray, List.set_cons_zero, List.set_cons_succ]
              refine' wpAnyH_take (i := 11) (v := _) rfl (by kernel_rfl) (by kernel_rfl) (by kernel_rfl) (fun _ _ _ h => h) (Or.inr ⟨by rfl, rfl⟩) (by assumption) ?_
              try simp only [Act.put, List.getElem_toArray, List.getElem_cons_zero, List.getElem_cons_succ, List.setIfInBounds_toArray, List.set_cons_zero, List.set_cons_succ]
              refine' wpAnyH_take (i := 12) (v := _) rfl (by kernel_rfl) (by kernel_rfl) (by kernel_rfl) (fun _ _ _ h => h) (Or.inr ⟨by rfl, rfl⟩) (by assumption) ?_
              try simp only [Act.put, List.getElem_toArray, List.getElem_cons_zero, List.getElem_cons_succ, List.setIfInBounds_toArray, List.set_cons_zero, List.set_cons_succ]
              refine' wpAnyH_take (i := 13) (v := _) rfl (by kernel_rfl) (by kernel_rfl) (by kernel_rfl) (fun _ _ _ h => h) (Or.inr ⟨by rfl, rfl⟩) (by assumption) ?_
              try simp only [Act.put, List.getElem_toArray, List.getElem_cons_zero, List.getElem_cons_succ, List.setIfInBounds_toArray, List.set_cons_zero, List.set_cons_succ]
              refine' wpAnyH_take (i := 14) (v := _) rfl (by kernel_rfl) (by kernel_rfl) (by kernel_rfl) (fun _ _ _ h => h) (Or.inr ⟨by rfl, rfl⟩) (by assumption) ?_
              try simp only [Act.put, List.getElem_toArray, List.getElem_cons_zero, List.getElem_cons_succ, List.setIfInBounds_toArray, List.set_cons_zero, List.set_cons_succ]
              refine' wpAnyH_take (i := 15) (v := _) rfl (by kernel_rfl) (by kernel_rfl) (by kernel_rfl) (fun _ _ _ h => h) (Or.inr ⟨by rfl, rfl⟩) (by assumption) ?_
              try simp only [Act.put, List.getElem_toArray, List.getElem_cons_zero, List.getElem_cons_succ, List.setIfInBounds_toArray, List.set_cons_zero, List.set_cons_succ]
              refine' wpAnyH_take (i := 16) (v := _) rfl (by kernel_rfl) (by kernel_rfl) (by kernel_rfl) (fun _ _ _ h => h) (Or.inr ⟨by rfl, rfl⟩) (by assumption) ?_
              try simp only [Act.put, List.getElem_toArray, List.getElem_cons_zero, List.getElem_cons_succ, List.setIfInBounds_toArray, List.set_cons_zero, List.set_cons_succ]
              refine' wpAnyH_take (i := 17) (v := _) rfl (by kernel_rfl) (by kernel_rfl) (by kernel_rfl) (fun _ _ _ h => h) (Or.inl ⟨by rfl, fun u hu => ?_⟩) (by assumption) ?_
              rotate_left
              · (try dsimp only at hu)
                go_simp
                try with_reducible rfl
              try simp only [Act.put, List.getElem_toArray, List.getElem_cons_zero, List.getElem_cons_succ, List.setIfInBounds_toArray, List.set_cons_zero, List.set_cons_succ]
              refine wpAnyH_done (by kernel_rfl) ?_ _
              go_wp2_with fail
              go_meet
              exact ⟨by rw [hff.out], by exact below_same (Below.refl _ _) rfl rfl rfl rfl⟩
            · obtain ⟨q', hq1', hq2'⟩ := HSA.out t (by omega)
              obtain ⟨ps', hps', _, hcs'⟩ := P1.int (i := t) (by omega)
              injection hps' with hps'
              subst hps'
              rw [hq1', add_plain, Nat.zero_add] at hcs'
              have hff : Hid ((cl.getD q 0 == 10 || lv.getD q 0 != lv.getD q' 0) = fr) := Lib.hid (by
                rw [← HFR.out, fresh_ends (by omega) hkg (show s.getD t 0 = (q' : Int) by simp [show t < s.length by omega, hq1'])]
                rw [show (t == s.length) = false by simpa using hte]; rfl)
              have hteI : ((t : Int) == (s.length : Int)) = false := by simp; omega
              have b3 : (t : Int) < (s.length : Int) := by omega
              have b4 : (0 : Int) ≤ (t : Int) := by omega
              have hcr : wr.drew.cell? ⟨g, k, none⟩ = some (.int .i64 q) ∧ wr.drew.cell? ⟨g, t, none⟩ = some (.int .i64 q') := ⟨hcs, hcs'⟩
              have HCL := Lib.hid (Lies.sameHeap ((H.out.up B1.out).below HB.out) (w' := wr.drew) rfl)
              have HLV := Lib.hid (Lies.sameHeap ((H'.out.up B1.out).below HB.out) (w' := wr.drew) rfl)
              clear hte hk hq1 hq1' hcs hcs' hkg
              go_wp2_with fail
              refine wp_region_held_drew (S := fun w' => w'.cell? ⟨g, k, none⟩ = some (.int .i64 q) ∧ w'.cell? ⟨g, t, none⟩ = some (.int .i64 q')) (by kernel_rfl) (hcr) (fun hHeld => ?_)
              refine' wpAnyH_take (i := 0) (v := _) rfl (by kernel_rfl) (by kernel_rfl) (by kernel_rfl) (fun _ _ _ h => h) (Or.inl ⟨by rfl, fun u hu => ?_⟩) (by assumption) ?_
              rotate_left
              · (try dsimp only at hu)
                go_simp
                try with_reducible rfl
              try simp only [Act.put, List.getElem_toArray, List.getElem_cons_zero, List.setIfInBounds_toArray, List.set_cons_zero, List.set_cons_succ]
              refine' wpAnyH_take (i := 1) (v := _) rfl (by kernel_rfl) (by kernel_rfl) (by kernel_rfl) (fun _ _ _ h => h) (Or.inl ⟨by rfl, fun u hu => ?_⟩) (by assumption) ?_
              rotate_left
              · (try dsimp only at hu)
                go_simp
                try with_reducible rfl
              try simp only [Act.put, List.getElem_toArray, List.getElem_cons_zero, List.getElem_cons_succ, List.setIfInBounds_toArray, List.set_cons_zero, List.set_cons_succ]
              refine' wpAnyH_take (i := 2) (v := _) rfl (by kernel_rfl) (by kernel_rfl) (by kernel_rfl) (fun _ _ _ h => h) (Or.inl ⟨by rfl, fun u hu => ?_⟩) (by assumption) ?_
              rotate_left
              · (try dsimp only at hu)
                go_simp
                try with_reducible rfl
              try simp only [Act.put, List.getElem_toArray, List.getElem_cons_zero, List.getElem_cons_succ, List.setIfInBounds_toArray, List.set_cons_zero, List.set_cons_succ]
              refine' wpAnyH_take (i := 3) (v := _) rfl (by kernel_rfl) (by kernel_rfl) (by kernel_rfl) (fun _ _ _ h => h) (Or.inl ⟨by rfl, fun u hu => ?_⟩) (by assumption) ?_
              rotate_left
              · (try dsimp only at hu)
                go_simp
                try with_reducible rfl
              try simp only [Act.put, List.getElem_toArray, List.getElem_cons_zero, List.getElem_cons_succ, List.setIfInBounds_toArray, List.set_cons_zero, List.set_cons_succ]
              refine' wpAnyH_take (i := 4) (v := _) rfl (by kernel_rfl) (by kernel_rfl) (by kernel_rfl) (fun _ _ _ h => h) (Or.inl ⟨by rfl, fun u hu => ?_⟩) (by assumption) ?_
              rotate_left
              · (try dsimp only at hu)
                go_simp
                try with_reducible rfl
              try simp only [Act.put, List.getElem_toArray, List.getElem_cons_zero, List.getElem_cons_succ, List.setIfInBounds_toArray, List.set_cons_zero, List.set_cons_succ]
              refine' wpAnyH_take (i := 5) (v := _) rfl (by kernel_rfl) (by kernel_rfl) (by kernel_rfl) (fun _ _ _ h => h) (Or.inl ⟨by rfl, fun u hu => ?_⟩) (by assumption) ?_
              rotate_left
              · (try dsimp only at hu)
                go_simp
                try with_reducible rfl
              try simp only [Act.put, List.getElem_toArray, List.getElem_cons_zero, List.getElem_cons_succ, List.setIfInBounds_toArray, List.set_cons_zero, List.set_cons_succ]
              refine' wpAnyH_take (i := 6) (v := _) rfl (by kernel_rfl) (by kernel_rfl) (by kernel_rfl) (fun _ _ _ h => h) (Or.inl ⟨by rfl, fun u hu => ?_⟩) (by assumption) ?_
              rotate_left
              · (try dsimp only at hu)
                go_simp
                try with_reducible rfl
              try simp only [Act.put, List.getElem_toArray, List.getElem_cons_zero, List.getElem_cons_succ, List.setIfInBounds_toArray, List.set_cons_zero, List.set_cons_succ]
              refine' wpAnyH_take (i := 7) (v := _) rfl (by kernel_rfl) (by kernel_rfl) (by kernel_rfl) (fun _ _ _ h => h) (Or.inl ⟨by rfl, fun u hu => ?_⟩) (by assumption) ?_
              rotate_left
              · (try dsimp only at hu)
                go_simp
                try with_reducible rfl
              try simp only [Act.put, List.getElem_toArray, List.getElem_cons_zero, List.getElem_cons_succ, List.setIfInBounds_toArray, List.set_cons_zero, List.set_cons_succ]
              refine' wpAnyH_take (i := 8) (v := _) rfl (by kernel_rfl) (by kernel_rfl) (by kernel_rfl) (fun _ _ _ h => h) (Or.inl ⟨by rfl, fun u hu => ?_⟩) (by assumption) ?_
              rotate_left
              · (try dsimp only at hu)
                go_simp
                try with_reducible rfl
              try simp only [Act.put, List.getElem_toArray, List.getElem_cons_zero, List.getElem_cons_succ, List.setIfInBounds_toArray, List.set_cons_zero, List.set_cons_succ]
              refine' wpAnyH_take (i := 9) (v := _) rfl (by kernel_rfl) (by kernel_rfl) (by kernel_rfl) (fun _ _ _ h => h) (Or.inl ⟨by rfl, fun u hu => ?_⟩) (by assumption) ?_
              rotate_left
              · (try dsimp only at hu)
                go_simp
                try with_reducible rfl
              try simp only [Act.put, List.getElem_toArray, List.getElem_cons_zero, List.getElem_cons_succ, List.setIfInBounds_toArray, List.set_cons_zero, List.set_cons_succ]
              refine' wpAnyH_take (i := 10) (v := _) rfl (by kernel_rfl) (by kernel_rfl) (by kernel_rfl) (fun _ _ _ h => h) (Or.inl ⟨by rfl, fun u hu => ?_⟩) (by assumption) ?_
              rotate_left
              · (try dsimp only at hu)
                go_simp
                try with_reducible rfl
              try simp only [Act.put, List.getElem_toArray, List.getElem_cons_zero, List.getElem_cons_succ, List.setIfInBounds_toArray, List.set_cons_zero, List.set_cons_succ]
              refine' wpAnyH_take (i := 11) (v := _) rfl (by kernel_rfl) (by kernel_rfl) (by kernel_rfl) (fun _ _ _ h => h) (Or.inl ⟨by rfl, fun u hu => ?_⟩) (by assumption) ?_
              rotate_left
              · (try dsimp only at hu)
                go_simp
                try with_reducible rfl
              try simp only [Act.put, List.getElem_toArray, List.getElem_cons_zero, List.getElem_cons_succ, List.setIfInBounds_toArray, List.set_cons_zero, List.set_cons_succ]
              refine' wpAnyH_take (i := 12) (v := _) rfl (by kernel_rfl) (by kernel_rfl) (by kernel_rfl) (fun _ _ _ h => h) (Or.inl ⟨by rfl, fun u hu => ?_⟩) (by assumption) ?_
              rotate_left
              · (try dsimp only at hu)
                go_simp
                try with_reducible rfl
              try simp only [Act.put, List.getElem_toArray, List.getElem_cons_zero, List.getElem_cons_succ, List.setIfInBounds_toArray, List.set_cons_zero, List.set_cons_succ]
              refine' wpAnyH_take (i := 13) (v := _) rfl (by kernel_rfl) (by kernel_rfl) (by kernel_rfl) (fun _ _ _ h => h) (Or.inl ⟨by rfl, fun u hu => ?_⟩) (by assumption) ?_
              rotate_left
              · (try dsimp only at hu)
                go_simp
                try with_reducible rfl
              try simp only [Act.put, List.getElem_toArray, List.getElem_cons_zero, List.getElem_cons_succ, List.setIfInBounds_toArray, List.set_cons_zero, List.set_cons_succ]
              refine' wpAnyH_take (i := 14) (v := _) rfl (by kernel_rfl) (by kernel_rfl) (by kernel_rfl) (fun _ _ _ h => h) (Or.inl ⟨by rfl, fun u hu => ?_⟩) (by assumption) ?_
              rotate_left
              · (try dsimp only at hu)
                go_simp
                try with_reducible rfl
              try simp only [Act.put, List.getElem_toArray, List.getElem_cons_zero, List.getElem_cons_succ, List.setIfInBounds_toArray, List.set_cons_zero, List.set_cons_succ]
              refine' wpAnyH_take (i := 15) (v := _) rfl (by kernel_rfl) (by kernel_rfl) (by kernel_rfl) (fun _ _ _ h => h) (Or.inl ⟨by rfl, fun u hu => ?_⟩) (by assumption) ?_
              rotate_left
              · (try dsimp only at hu)
                go_simp
                try with_reducible rfl
              try simp only [Act.put, List.getElem_toArray, List.getElem_cons_zero, List.getElem_cons_succ, List.setIfInBounds_toArray, List.set_cons_zero, List.set_cons_succ]
              refine wpAnyH_ready (rs := [16]) (by kernel_rfl) (by simp) ?_
              refine AllReadyH.cons rfl (fun K hK => ?_) AllReadyH.nil
              simp only [List.getElem_toArray, List.getElem_cons_zero, List.getElem_cons_succ]
              go_simp
              refine (sends_any A cl c A' lv c' q q' _ (HCL.out.wider HB.out.size) (HLV.out.wider HB.out.size) hq2 (by have := HE.out; omega) (by have := HE.out; omega)).mono ?_
              rintro e w5 ⟨rfl, b5⟩
              rw [hff.out]
              have B5 := Lib.hid (show Below wr.heap.size wr w5 from ⟨b5.os, b5.tape, b5.output, b5.size, b5.block⟩)
              clear b5
              go_wp2_with fail
              refine hK.out _ _ (⟨by rw [B5.out.cell (World.block_lt_of_cell? wr.drew _ hcr.1)]; exact hcr.1, by rw [B5.out.cell (World.block_lt_of_cell? wr.drew _ hcr.2)]; exact hcr.2⟩) (fun hHeld => ?_)
              clear hK K
              try simp only [Act.put, List.getElem_toArray, List.getElem_cons_zero, List.getElem_cons_succ, List.setIfInBounds_toArray, List.set_cons_zero, List.set_cons_succ]
              refine' wpAnyH_take (i := 17) (v := _) rfl (by kernel_rfl) (by kernel_rfl) (by kernel_rfl) (fun _ _ _ h => h) (Or.inl ⟨by rfl, fun u hu => ?_⟩) (by assumption) ?_
              rotate_left
              · (try dsimp only at hu)
                go_simp
                try with_reducible rfl
              try simp only [Act.put, List.getElem_toArray, List.getElem_cons_zero, List.getElem_cons_succ, List.setIfInBounds_toArray, List.set_cons_zero, List.set_cons_succ]
              refine wpAnyH_done (by kernel_rfl) ?_ _
              go_wp2_with fail
              go_meet
              exact ⟨rfl, by exact below_same B5.out rfl rfl rfl rfl⟩
          case rest =>
            obtain ⟨rfl, hbx⟩ := hcut
            have BX := Lib.hid (HB.out.trans (hbx.mono HB.out.size))
            have OX := Lib.hid (HO.out.below hbx (Nat.le_refl _))
            clear hbx hcs hkg hq1 hk P1 hwk
            rcases fr with _ | _
            · have hfr : t < s.length ∧ freshAt cl lv s t = false := by
                have := HFR.out
                rw [Bool.or_eq_false_iff] at this
                refine ⟨?_, this.2⟩
                have h1 := this.1
                simp at h1; omega
              have HC2 := Lib.hid (cutting_more HCt.out hfr.1 hfr.2)
              clear hfr
              go_wp2_with fail
              go_roundw
              case rel => exact ⟨t + 1, f, es, Lo, by omega, by omega, by omega, by go_num, rfl, OX.out, HCu, HC2, BX.out, by omega⟩
              case measure => simp [intOf]; omega
            · have hfr : f < t ∧ Cutting cl lv s (t + 1) t (Lo ++ [(s.take t).drop f]) := by
                rcases Nat.lt_or_ge t s.length with h1 | h1
                · have := HFR.out
                  rw [show (t == s.length) = false by simp; omega, Bool.false_or] at this
                  exact cutting_fresh HCt.out h1 this
                · obtain rfl : t = s.length := by omega
                  exact cutting_end HCt.out
              have hft := hfr.1
              have HC2 := Lib.hid hfr.2
              have hb3 : (f : Int) ≤ (t : Int) := by omega
              have hb4 : (0 : Int) ≤ (f : Int) := by omega
              have CC1 := C1.out
              clear hfr
              go_wp2_with (first
                | (refine cut_plain intsT _ _ _ _ _ f t g s.length c1 rfl rfl rfl rfl rfl rfl hft (by omega) ?_)
                | (at_builtin; refine app_lit nestT w1 wc w1.heap.size _ _ #[.slice (some ⟨g, f, none⟩) (t - f) (t - f)] 1 _ es rfl rfl rfl rfl OX.out (by simp [Value.oneCell']) BX.out BX.out.size (by unfold maxLen; simp; omega) (by simp; omega) ?_; intro v2 w2 o2 b2 _ _; have O2 := Lib.hid o2; have B2 := Lib.hid b2; clear o2 b2)
                | fail)
              go_roundw
              case rel => exact ⟨t + 1, t, _, _, by omega, by omega, by omega, by go_num, rfl, O2.out, Lib.hid (HCu.out.push hft hlt), HC2, B2.out, by simp; omega⟩
              case measure => simp [intOf]; omega
        · have hte : t = s.length + 1 := by omega
          have hge : ¬ (t : Int) ≤ (s.length : Int) := by omega
          have HLo : Hid (listsN cl lv s s.length = Lo) := Lib.hid (by
            rcases HCt.out with ⟨h1, _⟩ | ⟨_, h1⟩
            · omega
            · exact h1)
          go_wp2_with fail
          go_ret
          rw [HLo.out]
          obtain ⟨A2, c2, hv2, l2, _, _⟩ := HO.out.form
          rw [hv2, HCu.out.len]
          exact ⟨_, _, rfl, HCu.out.read (O1.out.below HB.out (Nat.le_refl _)) l2, B1.out.trans (HB.out.mono B1.out.size)⟩
    · have hs0 : s = [] := List.eq_nil_of_length_eq_zero (by omega)
      subst hs0
      simp only [List.length_nil]
      go_wp2_with fail
      go_loopw [8, 5] (fun iv ov wr => iv = .int .i64 1 ∧ ov = .slice none 0 0 ∧ wr = w1) (fun _ _ _ => 0)
      case atStart => exact ⟨rfl, rfl, rfl⟩
      case round =>
        obtain ⟨rfl, rfl, rfl⟩ := hrel
        go_wp2_with fail
        go_ret
        exact ⟨_, _, rfl, ⟨[], rfl, Lies.empty, fun j h1 => by simp at h1⟩, B1.out⟩
  · have hL : listsI cl lv = [] := by rw [listsI, if_neg he]
    rw [hL]
    have hne : ((cl.length : Int) != (lv.length : Int)) = true := by simp; omega
    go_enter Try.func18, Try.ntmps18
    go_wp2_with fail
    go_ret
    exact ⟨_, _, rfl, ⟨[], rfl, Lies.empty, fun j h1 => by simp at h1⟩, Below.refl _ _⟩
end Go.Proofs.Ytajgjloailliiaa
