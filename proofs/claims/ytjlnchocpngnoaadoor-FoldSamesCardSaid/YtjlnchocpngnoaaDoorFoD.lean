/- The document's kin: put, Kin. -/
import Derived.Test.YtjlnchocpngnoaaDoorFoC
import Derived.Test.YtjlnchocpngnoaaDoorReg
namespace Go.Proofs.YtjlnchocpngnoaaDoor
open Go.RowKit Reckon

theorem Own.same {w w' : World} {B : Nat} {e : TypeId} {v : Value} {xs : List Value} (h : Own w B e v xs) (hh : w'.heap = w.heap) : Own w' B e v xs := by
  refine ⟨h.1, ?_⟩
  rcases h.2 with h2 | ⟨g, cap, cur, hv, hg, h3, r⟩
  · exact .inl h2
  · exact .inr ⟨g, cap, cur, hv, hg, by rw [hh]; exact h3, r⟩
theorem Lies.sameHeap {w w' : World} {B : Nat} {A : Option Addr} {xs : List Value} (h : Lies w B A xs) (hh : w'.heap = w.heap) : Lies w' B A xs :=
  h.same fun q _ => World.cell?_of_block (by rw [hh])
theorem below_same {B : Nat} {a w w' : World} (h : Below B a w) (hh : w'.heap = w.heap) (h1 : w'.os = w.os) (h2 : w'.tape = w.tape) (h3 : w'.output = w.output) : Below B a w' :=
  ⟨h1.trans h.os, h2.trans h.tape, h3.trans h.output, by rw [hh]; exact h.size, fun k hk => by rw [hh]; exact h.block k hk⟩
/-- one number in a block of its own stays while another row grows -/
theorem lit_kept {w0 w w' : World} {g : Nat} {n : Int} {row : Option Nat} (hg : w.grownBy w' row) (h : Lies w0 (g + 1) (some ⟨g, 0, none⟩) [.int .i64 n]) (hh : w.heap = w0.heap) (hlt : g < w0.heap.size) (hr : row ≠ some g) : Lies w' (g + 1) (some ⟨g, 0, none⟩) [.int .i64 n] := fun hn => by
  obtain ⟨p, hA, hp, hc⟩ := (h.sameHeap hh) hn
  rw [← hh] at hlt
  injection hA with hA
  subst hA
  refine ⟨_, rfl, by simp, fun i u hu => ?_⟩
  rw [World.cell?_of_block (hg.block _ (by rw [add_block]; exact hlt) (by rw [add_block]; exact fun e => hr e.symm))]
  exact hc i u hu

set_option maxHeartbeats 4000000 in
theorem put_nil (A : Option Addr) (c : Nat) (n : Int) (w : World) :
    Calls Tryd.prog 19 #[.slice A 0 c, .int .i64 n] w fun e w' => ∃ A' c', e = .returned (.slice A' (putL [] n).length c') ∧ Lies w' w'.heap.size A' (ints .i64 (putL [] n)) ∧ (putL [] n).length ≤ c' ∧ Below w.heap.size w w' := by
  have HPUT : Hid (putL [] n = [] ++ [n] ++ []) := Lib.hid rfl
  have b3 : (0 : Int) ≤ (c : Int) := by omega
  rcases A with _ | ⟨b, off, spot⟩
  all_goals
    go_enter Tryd.func19, Tryd.ntmps19
    go_wp2
    go_loopw [5] (fun i wr => i = .int .i64 0 ∧ wr = w) (fun _ _ => 0)
    case atStart => exact ⟨rfl, rfl⟩
    case round =>
      obtain ⟨rfl, rfl⟩ := hrel
      go_wp2
      have HO1 : Hid (∀ u ∈ [Value.int .i64 n], u.oneCell' = true) := Lib.hid (by simp [Value.oneCell'])
      have HM1 : Hid (([] ++ ints .i64 ([] : List Int)).length + [Value.int .i64 n].length ≤ maxLen) := Lib.hid (by unfold maxLen; simp <;> omega)
      have HM2 : Hid ((([] ++ ints .i64 ([] : List Int)).length + [Value.int .i64 n].length) * 8 ≤ 140737488355328) := Lib.hid (by simp <;> omega)
      have HZ : Hid (∀ (u : World) (o : Obj), wr.heap.size ≤ u.heap.size → wr.heap.size ≤ (u.alloc o).heap.size) := Lib.hid (fun u o h => by simp; omega)
      have HV2 : Hid (Lies ((wr.alloc (.cells #[] 3)).alloc (.cells #[.int .i64 n] 3)) (wr.heap.size + 1 + 1) (some ⟨wr.heap.size + 1, 0, none⟩) [.int .i64 n]) := by
        have := Lies.lit (w := wr.alloc (.cells #[] 3)) (e := 3) #[.int .i64 n]
        rw [World.size_alloc] at this
        exact this
      have HV3 : Hid (Lies ((wr.alloc (.cells #[.int .i64 n] 3)).alloc (.cells #[] 3)) (wr.heap.size + 1) (some ⟨wr.heap.size, 0, none⟩) [.int .i64 n]) :=
        Lib.hid ((Lies.lit (w := wr) (e := 3) #[.int .i64 n]).alloc (by simp) _)
      have HV4 : Hid (Own ((wr.alloc (.cells #[.int .i64 n] 3)).alloc (.cells #[] 3)) wr.heap.size 3 (.slice (some ⟨wr.heap.size + 1, 0, none⟩) 0 0) []) := by
        have := Own.ofLit (w := wr.alloc (.cells #[.int .i64 n] 3)) (B := wr.heap.size) (e := 3) #[] (by simp) (by simp [maxLen])
        rw [World.size_alloc] at this
        exact this
      go_region_held3 (fun _ => True) (first | trivial)
        (first
          | (refine step_app intsT wr _ wr.heap.size wr.heap.size (.tmp 33) (.tmp 36) (.slice (some ⟨wr.heap.size, 0, none⟩) 0 0) [] (ints .i64 ([] : List Int)) _ _ _ rfl rfl rfl rfl (by simp) (Own.same (Own.ofLit (w := wr) #[] (Nat.le_refl _) (by simp [maxLen])) rfl) (Lies.empty) (ints_one _ _) (below_same (below_alloc wr _) rfl rfl rfl rfl) (by simp) (by unfold maxLen; simp <;> omega) (by simp <;> omega) ?_; intro v5 w5 o5 b5 g5 _; have O5 := Lib.hid o5; have B5 := Lib.hid b5; skip; clear o5 b5 g5)
          | (refine step_app intsT wr _ wr.heap.size wr.heap.size (.tmp 33) (.tmp 36) (.slice (some ⟨wr.heap.size, 0, none⟩) 0 0) [] (ints .i64 ([] : List Int)) _ _ _ rfl rfl rfl rfl (by simp) (Own.same ((Own.ofLit (w := wr) #[] (Nat.le_refl _) (by simp [maxLen])).alloc _) rfl) (Lies.empty) (ints_one _ _) (below_same ((below_alloc wr _).alloc (by simp) _) rfl rfl rfl rfl) (by simp; omega) (by unfold maxLen; simp <;> omega) (by simp <;> omega) ?_; intro v5 w5 o5 b5 g5 _; have O5 := Lib.hid o5; have B5 := Lib.hid b5; have HL5 := Lib.hid (lit_kept g5 HV2.out rfl (by simp) (by simp [Value.ownBlock])); clear o5 b5 g5)
          | (refine step_app intsT wr _ wr.heap.size wr.heap.size (.tmp 33) (.tmp 36) (.slice (some ⟨wr.heap.size + 1, 0, none⟩) 0 0) [] (ints .i64 ([] : List Int)) _ _ _ rfl rfl rfl rfl (by simp) (Own.same (HV4.out) rfl) (Lies.empty) (ints_one _ _) (below_same ((below_alloc wr _).alloc (by simp) _) rfl rfl rfl rfl) (by simp; omega) (by unfold maxLen; simp <;> omega) (by simp <;> omega) ?_; intro v5 w5 o5 b5 g5 _; have O5 := Lib.hid o5; have B5 := Lib.hid b5; have HL5 := Lib.hid (lit_kept g5 HV3.out rfl (by simp; omega) (by simp [Value.ownBlock])); clear o5 b5 g5)
          | (refine step_app intsT wr _ wr.heap.size _ (.tmp 37) (.tmp 39) v5 ([] ++ ints .i64 ([] : List Int)) [.int .i64 n] _ _ _ rfl rfl rfl rfl rfl (Own.same (O5.out) rfl) (Lies.sameHeap (HL5.out) rfl) HO1.out (below_same (B5.out) rfl rfl rfl rfl) B5.out.size HM1.out HM2.out ?_; intro v6 w6 o6 b6 _ _; have O6 := Lib.hid o6; have B6 := Lib.hid b6; clear o6 b6)
          | (refine step_app intsT wr _ wr.heap.size _ (.tmp 37) (.tmp 39) v5 ([] ++ ints .i64 ([] : List Int)) [.int .i64 n] _ _ _ rfl rfl rfl rfl rfl (Own.same (O5.out.alloc _) rfl) (Lies.sameHeap (Lies.lit (w := w5) #[.int .i64 n]) rfl) HO1.out (below_same (B5.out.alloc B5.out.size _) rfl rfl rfl rfl) (HZ.out w5 _ B5.out.size) HM1.out HM2.out ?_; intro v6 w6 o6 b6 _ _; have O6 := Lib.hid o6; have B6 := Lib.hid b6; clear o6 b6)
          | (refine step_app intsT wr _ wr.heap.size wr.heap.size (.tmp 40) (.tmp 43) v6 (([] ++ ints .i64 ([] : List Int)) ++ [.int .i64 n]) (ints .i64 ([] : List Int)) _ _ _ rfl rfl rfl rfl (by simp) (Own.same O6.out rfl) (Lies.empty) (ints_one _ _) (below_same B6.out rfl rfl rfl rfl) B6.out.size (by unfold maxLen; simp <;> omega) (by simp <;> omega) ?_; intro v7 w7 o7 b7 _ _; have O7 := Lib.hid o7; have B7 := Lib.hid b7; clear o7 b7))
      all_goals
        have O8 : Own w7 wr.heap.size 3 v7 (ints .i64 (putL [] n)) := by
          rw [HPUT.out]
          simpa [ints] using O7.out
        obtain ⟨A8, c8, hv8, l8, hc8, _⟩ := O8.form
        clear O8
        go_wp2
        all_goals
         go_ret
         exact ⟨A8, c8, by first | rw [hv8]; simp only [ints, List.length_map]; rfl | (simp only [ints, List.length_map]; rfl), l8, by simpa [ints] using hc8, B7.out⟩

set_option maxHeartbeats 4000000 in
theorem put_some (b off : Nat) (l : List Int) (c : Nat) (n : Int) (w : World) (hn : 0 < l.length) (h : Lies w w.heap.size (some ⟨b, off, none⟩) (ints .i64 l)) (hl : l.length ≤ 1000000) (hc : l.length ≤ c) :
    Calls Tryd.prog 19 #[.slice (some ⟨b, off, none⟩) l.length c, .int .i64 n] w fun e w' => ∃ A' c', e = .returned (.slice A' (putL l n).length c') ∧ Lies w' w'.heap.size A' (ints .i64 (putL l n)) ∧ (putL l n).length ≤ c' ∧ Below w.heap.size w w' := by
  have H := Lib.hid h
  have HN := Lib.hid hn
  clear h hn
  go_enter Tryd.func19, Tryd.ntmps19
  go_wp2
  go_loopw [5] (fun i wr => ∃ k : Nat, k ≤ l.length ∧ i = .int .i64 k ∧ Hid (∀ i (h : i < l.length), i < k → l[i] < n) ∧ wr = w) (fun i _ => l.length - (intOf i).toNat)
  case atStart => exact ⟨0, by omega, rfl, Lib.hid fun i _ h => by omega, rfl⟩
  case round =>
    obtain ⟨k, hk, rfl, HL, rfl⟩ := hrel
    have b2 : (k : Int) ≤ (l.length : Int) := by omega
    have b0 : (0 : Int) ≤ (k : Int) := by omega
    have b3 : (k : Int) ≤ (c : Int) := by omega
    have HS1 : Hid (Lies wr wr.heap.size (some ⟨b, off, none⟩) (ints .i64 (l.take k))) := by
      have := H.out.part 0 k
      refine Lib.hid ?_
      simpa [Addr.add, ints, List.map_take] using this
    have HS2 : Hid (Lies wr wr.heap.size (if c = k then some ⟨b, off, none⟩ else some ⟨b, off + k, none⟩) (ints .i64 (l.drop k))) := by
      have := H.out.part k l.length
      rw [List.take_of_length_le (by simp)] at this
      show Lies _ _ _ _
      split
      · rw [List.drop_of_length_le (by omega)]; exact Lies.empty
      · simpa [Addr.add_mid, ints, List.map_drop] using this
    by_cases hlt : k < l.length
    · obtain ⟨b', off', hA, hb, hcell⟩ := H.out.plainInts HN.out
      obtain ⟨rfl, rfl⟩ : b = b' ∧ off = off' := by simpa using hA
      have hcc := hcell k hlt
      have b1 : (k : Int) < (l.length : Int) := by omega
      obtain ⟨x, hx⟩ : ∃ x, l[k] = x := ⟨_, rfl⟩
      rw [hx] at hcc
      have HX := Lib.hid hx
      clear hx hcell hA
      rcases ha : decide (x < n) with _ | _
      · rcases he : (x == n) with _ | _
        · have HPUT : Hid (putL l n = l.take k ++ [n] ++ l.drop k) := by
            have := putL_at l n k hk HL.out (fun h => by rw [HX.out]; simpa using ha)
            rw [List.getElem?_eq_getElem hlt, HX.out, if_neg (by simpa using he)] at this
            exact this
          go_wp2
          have HO1 : Hid (∀ u ∈ [Value.int .i64 n], u.oneCell' = true) := Lib.hid (by simp [Value.oneCell'])
          have HM1 : Hid (([] ++ ints .i64 (l.take k)).length + [Value.int .i64 n].length ≤ maxLen) := Lib.hid (by unfold maxLen; simp <;> omega)
          have HM2 : Hid ((([] ++ ints .i64 (l.take k)).length + [Value.int .i64 n].length) * 8 ≤ 140737488355328) := Lib.hid (by simp <;> omega)
          have HZ : Hid (∀ (u : World) (o : Obj), wr.heap.size ≤ u.heap.size → wr.heap.size ≤ (u.alloc o).heap.size) := Lib.hid (fun u o h => by simp; omega)
          have HV2 : Hid (Lies ((wr.alloc (.cells #[] 3)).alloc (.cells #[.int .i64 n] 3)) (wr.heap.size + 1 + 1) (some ⟨wr.heap.size + 1, 0, none⟩) [.int .i64 n]) := by
            have := Lies.lit (w := wr.alloc (.cells #[] 3)) (e := 3) #[.int .i64 n]
            rw [World.size_alloc] at this
            exact this
          have HV3 : Hid (Lies ((wr.alloc (.cells #[.int .i64 n] 3)).alloc (.cells #[] 3)) (wr.heap.size + 1) (some ⟨wr.heap.size, 0, none⟩) [.int .i64 n]) :=
            Lib.hid ((Lies.lit (w := wr) (e := 3) #[.int .i64 n]).alloc (by simp) _)
          have HV4 : Hid (Own ((wr.alloc (.cells #[.int .i64 n] 3)).alloc (.cells #[] 3)) wr.heap.size 3 (.slice (some ⟨wr.heap.size + 1, 0, none⟩) 0 0) []) := by
            have := Own.ofLit (w := wr.alloc (.cells #[.int .i64 n] 3)) (B := wr.heap.size) (e := 3) #[] (by simp) (by simp [maxLen])
            rw [World.size_alloc] at this
            exact this
          go_region_held3 (fun _ => True) (first | trivial)
            (first
              | (refine step_app intsT wr _ wr.heap.size wr.heap.size (.tmp 33) (.tmp 36) (.slice (some ⟨wr.heap.size, 0, none⟩) 0 0) [] (ints .i64 (l.take k)) _ _ _ rfl rfl rfl rfl (by simp; omega) (Own.same (Own.ofLit (w := wr) #[] (Nat.le_refl _) (by simp [maxLen])) rfl) (HS1.out.below (below_same (below_alloc wr _) rfl rfl rfl rfl)) (ints_one _ _) (below_same (below_alloc wr _) rfl rfl rfl rfl) (by simp) (by unfold maxLen; simp <;> omega) (by simp <;> omega) ?_; intro v5 w5 o5 b5 g5 _; have O5 := Lib.hid o5; have B5 := Lib.hid b5; skip; clear o5 b5 g5)
              | (refine step_app intsT wr _ wr.heap.size wr.heap.size (.tmp 33) (.tmp 36) (.slice (some ⟨wr.heap.size, 0, none⟩) 0 0) [] (ints .i64 (l.take k)) _ _ _ rfl rfl rfl rfl (by simp; omega) (Own.same ((Own.ofLit (w := wr) #[] (Nat.le_refl _) (by simp [maxLen])).alloc _) rfl) (HS1.out.below (below_same ((below_alloc wr _).alloc (by simp) _) rfl rfl rfl rfl)) (ints_one _ _) (below_same ((below_alloc wr _).alloc (by simp) _) rfl rfl rfl rfl) (by simp; omega) (by unfold maxLen; simp <;> omega) (by simp <;> omega) ?_; intro v5 w5 o5 b5 g5 _; have O5 := Lib.hid o5; have B5 := Lib.hid b5; have HL5 := Lib.hid (lit_kept g5 HV2.out rfl (by simp) (by simp [Value.ownBlock])); clear o5 b5 g5)
              | (refine step_app intsT wr _ wr.heap.size wr.heap.size (.tmp 33) (.tmp 36) (.slice (some ⟨wr.heap.size + 1, 0, none⟩) 0 0) [] (ints .i64 (l.take k)) _ _ _ rfl rfl rfl rfl (by simp; omega) (Own.same (HV4.out) rfl) (HS1.out.below (below_same ((below_alloc wr _).alloc (by simp) _) rfl rfl rfl rfl)) (ints_one _ _) (below_same ((below_alloc wr _).alloc (by simp) _) rfl rfl rfl rfl) (by simp; omega) (by unfold maxLen; simp <;> omega) (by simp <;> omega) ?_; intro v5 w5 o5 b5 g5 _; have O5 := Lib.hid o5; have B5 := Lib.hid b5; have HL5 := Lib.hid (lit_kept g5 HV3.out rfl (by simp; omega) (by simp [Value.ownBlock])); clear o5 b5 g5)
              | (refine step_app intsT wr _ wr.heap.size _ (.tmp 37) (.tmp 39) v5 ([] ++ ints .i64 (l.take k)) [.int .i64 n] _ _ _ rfl rfl rfl rfl rfl (Own.same (O5.out) rfl) (Lies.sameHeap (HL5.out) rfl) HO1.out (below_same (B5.out) rfl rfl rfl rfl) B5.out.size HM1.out HM2.out ?_; intro v6 w6 o6 b6 _ _; have O6 := Lib.hid o6; have B6 := Lib.hid b6; clear o6 b6)
              | (refine step_app intsT wr _ wr.heap.size _ (.tmp 37) (.tmp 39) v5 ([] ++ ints .i64 (l.take k)) [.int .i64 n] _ _ _ rfl rfl rfl rfl rfl (Own.same (O5.out.alloc _) rfl) (Lies.sameHeap (Lies.lit (w := w5) #[.int .i64 n]) rfl) HO1.out (below_same (B5.out.alloc B5.out.size _) rfl rfl rfl rfl) (HZ.out w5 _ B5.out.size) HM1.out HM2.out ?_; intro v6 w6 o6 b6 _ _; have O6 := Lib.hid o6; have B6 := Lib.hid b6; clear o6 b6)
              | (refine step_app intsT wr _ wr.heap.size wr.heap.size (.tmp 40) (.tmp 43) v6 (([] ++ ints .i64 (l.take k)) ++ [.int .i64 n]) (ints .i64 (l.drop k)) _ _ _ rfl rfl rfl rfl (by simp) (Own.same O6.out rfl) (HS2.out.below (below_same B6.out rfl rfl rfl rfl)) (ints_one _ _) (below_same B6.out rfl rfl rfl rfl) B6.out.size (by unfold maxLen; simp <;> omega) (by simp <;> omega) ?_; intro v7 w7 o7 b7 _ _; have O7 := Lib.hid o7; have B7 := Lib.hid b7; clear o7 b7))
          all_goals
            have O8 : Own w7 wr.heap.size 3 v7 (ints .i64 (putL l n)) := by
              rw [HPUT.out]
              simpa [ints] using O7.out
            obtain ⟨A8, c8, hv8, l8, hc8, _⟩ := O8.form
            clear O8
            go_wp2
            all_goals
             go_ret
             exact ⟨A8, c8, by first | rw [hv8]; simp only [ints, List.length_map]; rfl | (simp only [ints, List.length_map]; rfl), l8, by simpa [ints] using hc8, B7.out⟩
        · have hput : putL l n = l := by
            have := putL_at l n k hk HL.out (fun h => by rw [HX.out]; simpa using ha)
            rw [List.getElem?_eq_getElem hlt, HX.out, if_pos (by simpa using he)] at this
            exact this
          have HPUT := Lib.hid hput
          clear hput
          go_wp2
          go_ret
          exact ⟨_, _, by rw [HPUT.out]; rfl, by rw [HPUT.out]; exact H.out, by rw [HPUT.out]; exact hc, Below.refl _ _⟩
      · go_wp2
        go_roundw
        case rel =>
          refine ⟨k + 1, by omega, by go_num, Lib.hid fun i hi hik => ?_, by first | rfl | trivial⟩
          by_cases e : i = k
          · subst e; rw [HX.out]; simpa using ha
          · exact HL.out i hi (by omega)
        case measure => simp [intOf]; omega
    · have HPUT : Hid (putL l n = l.take k ++ [n] ++ l.drop k) := by
        have := putL_at l n k hk HL.out (fun h => absurd h hlt)
        rw [List.getElem?_eq_none (by omega), if_neg (by simp)] at this
        exact this
      go_wp2
      have HO1 : Hid (∀ u ∈ [Value.int .i64 n], u.oneCell' = true) := Lib.hid (by simp [Value.oneCell'])
      have HM1 : Hid (([] ++ ints .i64 (l.take k)).length + [Value.int .i64 n].length ≤ maxLen) := Lib.hid (by unfold maxLen; simp <;> omega)
      have HM2 : Hid ((([] ++ ints .i64 (l.take k)).length + [Value.int .i64 n].length) * 8 ≤ 140737488355328) := Lib.hid (by simp <;> omega)
      have HZ : Hid (∀ (u : World) (o : Obj), wr.heap.size ≤ u.heap.size → wr.heap.size ≤ (u.alloc o).heap.size) := Lib.hid (fun u o h => by simp; omega)
      have HV2 : Hid (Lies ((wr.alloc (.cells #[] 3)).alloc (.cells #[.int .i64 n] 3)) (wr.heap.size + 1 + 1) (some ⟨wr.heap.size + 1, 0, none⟩) [.int .i64 n]) := by
        have := Lies.lit (w := wr.alloc (.cells #[] 3)) (e := 3) #[.int .i64 n]
        rw [World.size_alloc] at this
        exact this
      have HV3 : Hid (Lies ((wr.alloc (.cells #[.int .i64 n] 3)).alloc (.cells #[] 3)) (wr.heap.size + 1) (some ⟨wr.heap.size, 0, none⟩) [.int .i64 n]) :=
        Lib.hid ((Lies.lit (w := wr) (e := 3) #[.int .i64 n]).alloc (by simp) _)
      have HV4 : Hid (Own ((wr.alloc (.cells #[.int .i64 n] 3)).alloc (.cells #[] 3)) wr.heap.size 3 (.slice (some ⟨wr.heap.size + 1, 0, none⟩) 0 0) []) := by
        have := Own.ofLit (w := wr.alloc (.cells #[.int .i64 n] 3)) (B := wr.heap.size) (e := 3) #[] (by simp) (by simp [maxLen])
        rw [World.size_alloc] at this
        exact this
      go_region_held3 (fun _ => True) (first | trivial)
        (first
          | (refine step_app intsT wr _ wr.heap.size wr.heap.size (.tmp 33) (.tmp 36) (.slice (some ⟨wr.heap.size, 0, none⟩) 0 0) [] (ints .i64 (l.take k)) _ _ _ rfl rfl rfl rfl (by simp; omega) (Own.same (Own.ofLit (w := wr) #[] (Nat.le_refl _) (by simp [maxLen])) rfl) (HS1.out.below (below_same (below_alloc wr _) rfl rfl rfl rfl)) (ints_one _ _) (below_same (below_alloc wr _) rfl rfl rfl rfl) (by simp) (by unfold maxLen; simp <;> omega) (by simp <;> omega) ?_; intro v5 w5 o5 b5 g5 _; have O5 := Lib.hid o5; have B5 := Lib.hid b5; skip; clear o5 b5 g5)
          | (refine step_app intsT wr _ wr.heap.size wr.heap.size (.tmp 33) (.tmp 36) (.slice (some ⟨wr.heap.size, 0, none⟩) 0 0) [] (ints .i64 (l.take k)) _ _ _ rfl rfl rfl rfl (by simp; omega) (Own.same ((Own.ofLit (w := wr) #[] (Nat.le_refl _) (by simp [maxLen])).alloc _) rfl) (HS1.out.below (below_same ((below_alloc wr _).alloc (by simp) _) rfl rfl rfl rfl)) (ints_one _ _) (below_same ((below_alloc wr _).alloc (by simp) _) rfl rfl rfl rfl) (by simp; omega) (by unfold maxLen; simp <;> omega) (by simp <;> omega) ?_; intro v5 w5 o5 b5 g5 _; have O5 := Lib.hid o5; have B5 := Lib.hid b5; have HL5 := Lib.hid (lit_kept g5 HV2.out rfl (by simp) (by simp [Value.ownBlock])); clear o5 b5 g5)
          | (refine step_app intsT wr _ wr.heap.size wr.heap.size (.tmp 33) (.tmp 36) (.slice (some ⟨wr.heap.size + 1, 0, none⟩) 0 0) [] (ints .i64 (l.take k)) _ _ _ rfl rfl rfl rfl (by simp; omega) (Own.same (HV4.out) rfl) (HS1.out.below (below_same ((below_alloc wr _).alloc (by simp) _) rfl rfl rfl rfl)) (ints_one _ _) (below_same ((below_alloc wr _).alloc (by simp) _) rfl rfl rfl rfl) (by simp; omega) (by unfold maxLen; simp <;> omega) (by simp <;> omega) ?_; intro v5 w5 o5 b5 g5 _; have O5 := Lib.hid o5; have B5 := Lib.hid b5; have HL5 := Lib.hid (lit_kept g5 HV3.out rfl (by simp; omega) (by simp [Value.ownBlock])); clear o5 b5 g5)
          | (refine step_app intsT wr _ wr.heap.size _ (.tmp 37) (.tmp 39) v5 ([] ++ ints .i64 (l.take k)) [.int .i64 n] _ _ _ rfl rfl rfl rfl rfl (Own.same (O5.out) rfl) (Lies.sameHeap (HL5.out) rfl) HO1.out (below_same (B5.out) rfl rfl rfl rfl) B5.out.size HM1.out HM2.out ?_; intro v6 w6 o6 b6 _ _; have O6 := Lib.hid o6; have B6 := Lib.hid b6; clear o6 b6)
          | (refine step_app intsT wr _ wr.heap.size _ (.tmp 37) (.tmp 39) v5 ([] ++ ints .i64 (l.take k)) [.int .i64 n] _ _ _ rfl rfl rfl rfl rfl (Own.same (O5.out.alloc _) rfl) (Lies.sameHeap (Lies.lit (w := w5) #[.int .i64 n]) rfl) HO1.out (below_same (B5.out.alloc B5.out.size _) rfl rfl rfl rfl) (HZ.out w5 _ B5.out.size) HM1.out HM2.out ?_; intro v6 w6 o6 b6 _ _; have O6 := Lib.hid o6; have B6 := Lib.hid b6; clear o6 b6)
          | (refine step_app intsT wr _ wr.heap.size wr.heap.size (.tmp 40) (.tmp 43) v6 (([] ++ ints .i64 (l.take k)) ++ [.int .i64 n]) (ints .i64 (l.drop k)) _ _ _ rfl rfl rfl rfl (by simp) (Own.same O6.out rfl) (HS2.out.below (below_same B6.out rfl rfl rfl rfl)) (ints_one _ _) (below_same B6.out rfl rfl rfl rfl) B6.out.size (by unfold maxLen; simp <;> omega) (by simp <;> omega) ?_; intro v7 w7 o7 b7 _ _; have O7 := Lib.hid o7; have B7 := Lib.hid b7; clear o7 b7))
      all_goals
        have O8 : Own w7 wr.heap.size 3 v7 (ints .i64 (putL l n)) := by
          rw [HPUT.out]
          simpa [ints] using O7.out
        obtain ⟨A8, c8, hv8, l8, hc8, _⟩ := O8.form
        clear O8
        go_wp2
        all_goals
         go_ret
         exact ⟨A8, c8, by first | rw [hv8]; simp only [ints, List.length_map]; rfl | (simp only [ints, List.length_map]; rfl), l8, by simpa [ints] using hc8, B7.out⟩

theorem put_any (A : Option Addr) (l : List Int) (c : Nat) (n : Int) (w : World) (h : Lies w w.heap.size A (ints .i64 l)) (hl : l.length ≤ 1000000) (hc : l.length ≤ c) :
    Calls Tryd.prog 19 #[.slice A l.length c, .int .i64 n] w fun e w' => ∃ A' c', e = .returned (.slice A' (putL l n).length c') ∧ Lies w' w'.heap.size A' (ints .i64 (putL l n)) ∧ (putL l n).length ≤ c' ∧ Below w.heap.size w w' := by
  by_cases hn : 0 < l.length
  · obtain ⟨b, off, rfl, _, _⟩ := h.plainInts hn
    exact put_some b off l c n w hn h hl hc
  · have : l = [] := List.eq_nil_of_length_eq_zero (by omega)
    subst this
    exact put_nil A c n w
end Go.Proofs.YtjlnchocpngnoaaDoor
