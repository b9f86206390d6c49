/- The document's own mirrored characters; the fixed fact. -/
import Derived.Test.YtglnmphehclffaaPrC
namespace Go.Proofs.Ytglnmphehclffaa
open Go.RowKit Go.Maps

theorem mir_of (c : Int) : mir c = if (othL mrs c).2.2 then (othL mrs c).1 else c := rfl
set_option maxHeartbeats 1000000 in
theorem rmirror_any (c : Int) (w : World) : Calls Try.prog 13 #[.int .i64 c] w fun e w' => e = .returned (.int .i64 (mir c)) ∧ Below w.heap.size w w' := by
  have hbr : (ints .i64 (flat brs)).length = 18 := by decide
  have HBR := Lib.hid hbr
  clear hbr
  go_enter Try.func13, Try.ntmps13
  go_wp2_with fail
  refine (rbrackets_any w).mono ?_
  rintro e w1 ⟨v1, rfl, o1, b1⟩
  have O1 := Lib.hid o1
  have B1 := Lib.hid b1
  have hz := b1.size
  clear o1 b1
  go_wp2_with (first
    | (at_builtin; refine app_lit intsT w _ w.heap.size _ _ _ _ _ _ rfl rfl rfl rfl O1.out (by simp [Value.oneCell']) B1.out hz (by rw [HBR.out]; simp [maxLen]) (by rw [HBR.out]; simp) ?_; intro v2 w2 o2 b2 _ _))
  have o2' : Own w2 w.heap.size 3 v2 (ints .i64 (flat mrs)) := o2
  obtain ⟨A1, c1, rfl, l1, _, _⟩ := o2'.form
  have L1 := Lib.hid l1
  have B2 := Lib.hid b2
  have hlen : (ints .i64 (flat mrs)).length = 26 := by decide
  rw [hlen]
  clear o2 o2' l1 b2 hlen hz
  go_wp2
  go_loopw [4] (fun i wr => ∃ (k : Nat), k ≤ 26 ∧ i = .int .i64 k ∧ Stands mrs c k ∧ wr = w2) (fun i _ => 26 - (intOf i).toNat)
  case atStart => exact ⟨0, by omega, rfl, ⟨0, by decide, rfl, rfl⟩, rfl⟩
  case round =>
    obtain ⟨k, hk, rfl, hst, rfl⟩ := hrel
    have HST := Lib.hid hst
    clear hst
    by_cases hlt : k < 26
    · obtain ⟨a, b, f1, f2, hk2, hs⟩ := HST.out.step hlt
      obtain ⟨blk, off, rfl, _, hc1, hc2⟩ := cells_of L1.out f1 f2
      have HS := Lib.hid hs
      have hk3 : k + 2 ≤ 26 := hk2
      have b0 : (0 : Int) ≤ (k : Int) := by omega
      have b1 : (k : Int) < 26 := by omega
      have b2 : (k : Int) + 1 < 26 := by omega
      clear f1 f2 hs hk2
      by_cases e1 : c = a
      · have hd : (a == c) = true := by simp [e1]
        have E1 := Lib.hid e1
        clear e1
        go_wp2
        go_ret
        exact ⟨ret_int (by rw [mir_of, HS.out, if_pos E1.out]; rfl), B2.out⟩
      · have hd : (a == c) = false := by simp [Ne.symm e1]
        by_cases e2 : c = b
        · have hd2 : (b == c) = true := by simp [e2]
          have E1 := Lib.hid e1
          have E2 := Lib.hid e2
          clear e1 e2
          go_wp2
          go_ret
          exact ⟨ret_int (by rw [mir_of, HS.out, if_neg E1.out, if_pos E2.out]; rfl), B2.out⟩
        · have hd2 : (b == c) = false := by simp [Ne.symm e2]
          have E1 := Lib.hid e1
          have E2 := Lib.hid e2
          clear e1 e2
          go_wp2
          go_roundw
          case rel => exact ⟨k + 2, hk3, by go_num, HST.out.next hlt HS.out E1.out E2.out, by first | rfl | trivial⟩
          case measure => simp [intOf]; omega
    · go_wp2
      go_ret
      exact ⟨ret_int (by rw [mir_of, HST.out.done hlt]; rfl), B2.out⟩

/-- a number is what it is mirrored into, or it stands in the table -/
theorem mrs_or (c : Int) : othL mrs c = (0, false, false) ∨ ∃ p ∈ mrs, c = p.1 ∨ c = p.2 := by
  by_cases h : ∀ p ∈ mrs, c ≠ p.1 ∧ c ≠ p.2
  · exact .inl (othL_none _ _ h)
  · refine .inr ?_
    false_or_by_contra
    rename_i hn
    exact h fun p hp => ⟨fun e => hn ⟨p, hp, .inl e⟩, fun e => hn ⟨p, hp, .inr e⟩⟩
theorem all_mrs {Q : Int → Prop} (h0 : ∀ c, othL mrs c = (0, false, false) → Q c) (h1 : ∀ p ∈ mrs, Q p.1 ∧ Q p.2) (c : Int) : Q c := by
  rcases mrs_or c with h | ⟨p, hp, rfl | rfl⟩
  · exact h0 c h
  · exact (h1 p hp).1
  · exact (h1 p hp).2
theorem isM_ne (c : Int) : (mir c != c) = isM c := by
  refine all_mrs (Q := fun c => (mir c != c) = isM c) (fun c h => ?_) (by decide +kernel) c
  rw [mir, isM, othM, h]; simp
theorem rmirrored_any (c : Int) (w : World) : Calls Try.prog 15 #[.int .i64 c] w fun e w' => e = .returned (.bool (isM c)) ∧ Below w.heap.size w w' := by
  have HM := Lib.hid (isM_ne c)
  go_enter Try.func15, Try.ntmps15
  go_wp2_with fail
  refine (rmirror_any c w).mono ?_
  rintro e w1 ⟨rfl, b1⟩
  have B1 := Lib.hid b1
  clear b1
  go_wp2
  go_ret
  exact ⟨ret_bool HM.out, B1.out⟩

set_option maxHeartbeats 2000000 in
theorem rplain_any (A : Option Addr) (l : List Int) (c : Nat) (w : World) (h : Lies w w.heap.size A (ints .i64 l)) (hl : l.length ≤ 1000000) :
    Calls Try.prog 18 #[.slice A l.length c] w (Rowed w w.heap.size 3 (ints .i64 (l.map pln))) := by
  have H := Lib.hid h
  clear h
  go_enter Try.func18, Try.ntmps18
  go_wp2
  go_loopw [4, 3] (fun i v wr => ∃ (k : Nat), k ≤ l.length ∧ i = .int .i64 k ∧ Own wr w.heap.size 3 v (ints .i64 ((l.take k).map pln)) ∧ Below w.heap.size w wr) (fun i _ _ => l.length - (intOf i).toNat)
  case atStart => exact ⟨0, by omega, rfl, Own.empty _ _ _, Below.refl _ _⟩
  case round =>
    obtain ⟨k, hk, rfl, ho, hb⟩ := hrel
    have HO := Lib.hid ho
    have HB := Lib.hid hb
    have hsz := hb.size
    clear ho hb
    by_cases hlt : k < l.length
    · obtain ⟨p, rfl, hpb, hc⟩ := H.out.int hlt
      have b0 : (0 : Int) ≤ (k : Int) := by omega
      have b1 : (k : Int) < (l.length : Int) := by omega
      obtain ⟨x, hx⟩ : ∃ x, l[k] = x := ⟨_, rfl⟩
      rw [hx] at hc
      have HX := Lib.hid hx
      have HC := Lib.hid hc
      have HP : Hid ((p.add k).block < w.heap.size) := by show _ < _; rw [add_block]; exact hpb
      clear hx hc
      have hlen : (ints .i64 ((l.take k).map pln)).length ≤ 1000000 := by simp; omega
      go_wp2_with fail
      go_region_held3 (fun w' => w'.cell? (p.add k) = some (.int .i64 x))
        (first
          | (exact (HB.out.drew.cell HP.out).trans HC.out)
          | (exact (B3.out.cell HP.out).trans HC.out)
          | (exact ((B3.out.alloc (by have := B3.out.size; omega) _).cell HP.out).trans HC.out)
          | (exact (B5.out.cell HP.out).trans HC.out))
        (first
          | (go_at_call 13; refine (rmirror_any x _).mono ?_; rintro e w3 ⟨rfl, b3⟩; have O3 := Lib.hid (HO.out.below (w := World.drew wr) b3 (Nat.le_refl _)); have B3 := Lib.hid (HB.out.drew.trans (b3.mono hsz)); clear b3)
          | (refine step_app intsT w _ w.heap.size _ _ _ _ _ _ _ _ _ rfl rfl rfl rfl rfl (O3.out.alloc _) (Lies.litUp _) (by simp [Value.oneCell']) (B3.out.alloc B3.out.size _) (by have := B3.out.size; simp; omega) (by unfold maxLen; simp only [List.length_cons, List.length_nil]; omega) (by simp only [List.length_cons, List.length_nil]; omega) ?_; intro v5 w5 o5 b5 _ _; have O5 := Lib.hid o5; have B5 := Lib.hid b5; clear o5 b5))
      go_wp2
      go_roundw
      case rel =>
        refine ⟨k + 1, by omega, by go_num, ?_, B5.out⟩
        rw [List.take_succ_eq_append_getElem hlt, HX.out]
        have e : pln x = if mir x < x then mir x else x := by rw [pln]; omega
        simp only [ints, List.map_append, List.map_cons, List.map_nil]
        rw [e]
        exact O5.out
      case measure => simp [intOf]; omega
    · go_wp2
      go_ret
      exact rowed_ret HO.out HB.out (by rw [List.take_of_length_le (by omega)])

set_option maxHeartbeats 4000000 in
theorem palive_any (w : World) : Calls Try.prog 7 #[] w fun e w' => e = .returned (.bool true) ∧ Below w.heap.size w w' := by
  go_enter Try.func7, Try.ntmps7
  go_wp2_with fail
  refine (other_any 40 w).mono ?_
  rintro e w1 ⟨rfl, b1⟩
  rw [show oth 40 = (41, true, true) by decide +kernel]
  have B1 := Lib.hid b1
  clear b1
  go_wp2_with fail
  refine (other_any 60 _).mono ?_
  rintro e w2 ⟨rfl, b2⟩
  rw [show oth 60 = (0, false, false) by decide +kernel]
  have B2 := Lib.hid (below_then B1.out b2)
  clear b2
  go_wp2_with fail
  refine (same_any 9001 12296 _).mono ?_
  rintro e w3 ⟨rfl, b3⟩
  rw [show sameB 9001 12296 = true by decide +kernel]
  have B3 := Lib.hid (below_then B2.out b3)
  clear b3
  go_wp2_with fail
  refine (same_any 60 60 _).mono ?_
  rintro e w4 ⟨rfl, b4⟩
  rw [show sameB 60 60 = false by decide +kernel]
  have B4 := Lib.hid (below_then B3.out b4)
  clear b4
  go_wp2_with fail
  refine (mirror_any 62 _).mono ?_
  rintro e w5 ⟨rfl, b5⟩
  rw [show mir 62 = 60 by decide +kernel]
  have B5 := Lib.hid (below_then B4.out b5)
  clear b5
  go_wp2_with fail
  refine (mirror_any 97 _).mono ?_
  rintro e w6 ⟨rfl, b6⟩
  rw [show mir 97 = 97 by decide +kernel]
  have B6 := Lib.hid (below_then B5.out b6)
  clear b6
  go_wp2_with fail
  refine (mirrored_any 187 _).mono ?_
  rintro e w7 ⟨rfl, b7⟩
  rw [show isM 187 = true by decide +kernel]
  have B7 := Lib.hid (below_then B6.out b7)
  clear b7
  go_wp2_with fail
  refine (plain_any _ [41, 97] _ _ (Lies.litUp #[.int .i64 41, .int .i64 97]) (by decide)).mono ?_
  rintro e w8 ⟨v8, rfl, o8, b8⟩
  rw [show ([41, 97] : List Int).map pln = [40, 97] by decide +kernel] at o8
  obtain ⟨A8, c8, rfl, l8, _, _⟩ := o8.form
  have B8 := Lib.hid (below_then B7.out (below_then (below_alloc _ _) b8))
  have L8 := Lib.hid l8
  clear o8 b8 l8
  go_wp2_with fail
  refine (ints_ok _ _ [40, 97] _ _ _ (L8.out.up (below_alloc _ _)) (Lies.litUp #[.int .i64 40, .int .i64 97]) (by decide)).mono ?_
  rintro e w9 ⟨rfl, b9⟩
  have B9 := Lib.hid (below_then B8.out (below_then (below_alloc _ _) b9))
  clear b9
  go_wp2
  go_ret
  exact ⟨rfl, B9.out⟩
end Go.Proofs.Ytglnmphehclffaa
