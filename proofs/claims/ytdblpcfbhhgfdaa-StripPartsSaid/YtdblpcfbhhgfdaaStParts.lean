/- StripParts: for all two lists of numbers, kept and left out are all, each in its place; kept once more it is as kept once; of two lists it is both's. Conditions: none. -/
import Derived.Test.YtdblpcfbhhgfdaaStF
import Derived.Test.YtdblpcfbhhgfdaaLaw
import Derived.Test.YtdblpcfbhhgfdaaRows
import Derived.Test.YtdblpcfbhhgfdaaSlc
import Derived.Test.YtdblpcfbhhgfdaaSame
import Derived.Test.YtdblpcfbhhgfdaaReg
namespace Go.Proofs.Ytdblpcfbhhgfdaa.lawParts
open Go.ChangeShapes Go.WideShapes Go.ChangeAt Go.RowKit

theorem cell_in {w : World} {p : Addr} {u : Value} (h : w.cell? p = some u) : p.block < w.heap.size := World.block_lt_of_cell? w p h

set_option maxRecDepth 20000 in
set_option maxHeartbeats 8000000 in
theorem walk_ok (w : World) (A : Option Addr) (a : List Int) (c : Nat) (hac : a.length ≤ c) (ha : a.length ≤ 1000) (h : Lies w w.heap.size A (ints .i64 a)) (A' : Option Addr) (b : List Int) (c' : Nat) (hb : b.length ≤ 1000) (h' : Lies w w.heap.size A' (ints .i64 b)) :
    Calls Try.prog 4 #[.slice A a.length c, .slice A' b.length c'] w fun e w' => e = .returned (.bool true) ∧ Below w.heap.size w w' := by
  have ha' : a.length ≤ 1000000 := by omega
  have hb' : b.length ≤ 1000000 := by omega
  have H := Lib.hid h
  have H' := Lib.hid h'
  obtain ⟨al, hal⟩ : ∃ x, a ++ b = x := ⟨_, rfl⟩
  obtain ⟨ka, ca, hka, hca, HKA⟩ : ∃ ka ca, keptI a = ka ∧ charsI a = ca ∧ Hid (∀ (j : Nat) (h : j < ka.length) (h' : j < ca.length), ∃ (q : Nat) (hq : q < a.length), ka[j] = (q : Int) ∧ a[q] = ca[j] ∧ rankI a (q : Int) = j ∧ ∀ j' (hj : j' < j), ka[j'] < (q : Int)) := ⟨_, _, rfl, rfl, Lib.hid (kept_at a)⟩
  obtain ⟨oa, hoa⟩ : ∃ x, onlyI a = x := ⟨_, rfl⟩
  obtain ⟨cb, hcb⟩ : ∃ x, charsI b = x := ⟨_, rfl⟩
  have hla : al.length = a.length + b.length := by rw [← hal]; simp
  have hl6 : al.length ≤ 1000000 := by omega
  have hkc : ka.length = ca.length := by rw [← hka, ← hca]; exact kept_len a
  have hco : ca.length + oa.length = a.length := by rw [← hca, ← hoa]; exact chars_split a
  have hlb : cb.length ≤ b.length := by have := chars_le b b.length; rw [List.take_length, hcb] at this; exact this
  have hc6 : ca.length ≤ 1000000 := by omega
  have ho6 : oa.length ≤ 1000000 := by omega
  have hcl : ca.length ≤ 9223372036854775807 := by omega
  have HAL : Hid (ints .i64 a ++ ints .i64 b = ints .i64 al) := Lib.hid (by rw [← hal]; simp [ints])
  have HCB : Hid (ints .i64 ca ++ ints .i64 cb = ints .i64 (charsI al)) := Lib.hid (by rw [← hal, chars_append, hca, hcb]; simp [ints])
  obtain ⟨cal, hcal⟩ : ∃ x, charsI al = x := ⟨_, rfl⟩
  rw [hcal] at HCB
  have hcall : cal.length = ca.length + cb.length := by rw [← hcal, ← hal, chars_append, hca, hcb, List.length_append]
  have hcal9 : cal.length ≤ 9223372036854775807 := by omega
  have HCC : Hid (charsI ca = ca) := Lib.hid (by rw [← hca]; exact chars_chars a)
  have HOC : Hid (onlyI ca = []) := Lib.hid (by rw [← hca]; exact only_chars a)
  have HCO : Hid (charsI oa = []) := Lib.hid (by rw [← hoa]; exact chars_only a)
  have HSM : Hid (decide (charsI a = charsI ca) = true) := Lib.hid (by rw [HCC.out, hca]; simp)
  have HRA : Hid (rankI al (a.length : Int) = ca.length) := Lib.hid (by rw [← hal, ← hca]; exact rank_append a b)
  have HK := Lib.hid hka
  have HC := Lib.hid hca
  have HO := Lib.hid hoa
  have HB := Lib.hid hcb
  have HCAL := Lib.hid hcal
  have HLN := Lib.hid (And.intro hkc (And.intro hco (And.intro hlb (And.intro hla hcall))))
  have g1 : ((ka.length : Int) != (ca.length : Int)) = false := by rw [hkc]; simp
  have g1' : (ka.length != ca.length) = false := by rw [hkc]; simp
  have g2 : IntKind.i64.wrap ((ca.length : Int) + (oa.length : Int)) = (a.length : Int) := by rw [IntWalk.i64_in _ (by omega)]; omega
  have g3 : ((ca.length : Int) == (ca.length : Int)) = true := by simp
  clear h h' hal hka hca hoa hcb hkc hco hlb hla hcal hcall
  go_enter Try.func4, Try.ntmps4
  go_wp2_with fail
  refine (salive_any w).mono ?_
  rintro e w1 ⟨rfl, b1⟩
  have B1 := Lib.hid b1
  have D1 := Lib.hid b1
  clear b1
  have H1 := Lib.hid (H.out.up B1.out)
  have H1' := Lib.hid (H'.out.up B1.out)
  have OA : Hid (Own (w1.alloc (.cells #[] 3)) w1.heap.size 3 (.slice (some ⟨w1.heap.size, 0, none⟩) 0 0) []) := Lib.hid (Own.ofLit #[] (Nat.le_refl _) (by simp [maxLen]))
  have BA := Lib.hid (below_alloc w1 (.cells #[] 3))
  go_wp2_with (first
    | (at_builtin; refine app_src intsT w1 (w1.alloc (.cells #[] 3)) w1.heap.size _ _ _ _ [] (ints .i64 a) _ _ _ rfl rfl rfl rfl (by simp) OA.out (H1.out.below BA.out) (ints_one _ _) BA.out BA.out.size (by unfold maxLen; simp; omega) (by simp; omega) ?_; intro v2 w2 o2 b2 _ _; have O2 := Lib.hid o2; have B2 := Lib.hid b2; clear o2 b2)
    | (at_builtin; refine app_src intsT w1 w2 w1.heap.size _ _ _ v2 _ (ints .i64 b) _ _ _ rfl rfl rfl rfl (by simp) O2.out (H1'.out.below B2.out) (ints_one _ _) B2.out B2.out.size (by unfold maxLen; simp; omega) (by simp; omega) ?_; intro v3 w3 o3 b3 _ _; rw [show ([] ++ ints .i64 a) ++ ints .i64 b = ints .i64 al from HAL.out] at o3; obtain ⟨A3, c3, rfl, l3, hc3, _⟩ := o3.form; simp only [ints, List.length_map] at hc3 ⊢; have HC3 := Lib.hid hc3; clear hc3; have L3 := Lib.hid l3; have B3 := Lib.hid (below_then B1.out b3); clear o3 b3 l3)
    | fail)
  refine (skept_any A a c w3 (H.out.up B3.out) ha').mono ?_
  rintro e w4 ⟨v4, rfl, o4, b4⟩
  rw [HK.out] at o4
  obtain ⟨A4, c4, rfl, l4, _, _⟩ := o4.form
  have B4 := Lib.hid (below_then B3.out b4)
  have L4 := Lib.hid l4
  have L3a := Lib.hid (L3.out.up b4)
  simp only [ints, List.length_map]
  clear o4 b4 l4
  go_wp2_with fail
  refine (schars_any A a c w4 (H.out.up B4.out) ha').mono ?_
  rintro e w5 ⟨v5, rfl, o5, b5⟩
  rw [HC.out] at o5
  obtain ⟨A5, c5, rfl, l5, _, _⟩ := o5.form
  have B5 := Lib.hid (below_then B4.out b5)
  have L5 := Lib.hid l5
  have D5 := Lib.hid b5
  simp only [ints, List.length_map]
  clear o5 b5 l5
  go_wp2_with fail
  refine (sonly_any A a c w5 (H.out.up B5.out) ha').mono ?_
  rintro e w6 ⟨v6, rfl, o6, b6⟩
  rw [HO.out] at o6
  obtain ⟨A6, c6, rfl, l6, _, _⟩ := o6.form
  have B6 := Lib.hid (below_then B5.out b6)
  have L6 := Lib.hid l6
  have D6 := Lib.hid b6
  simp only [ints, List.length_map]
  clear o6 b6 l6
  go_wp2_with fail
  refine (schars_any A5 ca c5 w6 (L5.out.up D6.out) hc6).mono ?_
  rintro e w7 ⟨v7, rfl, o7, b7⟩
  rw [HCC.out] at o7
  obtain ⟨A7, c7, rfl, l7, _, _⟩ := o7.form
  have B7 := Lib.hid (below_then B6.out b7)
  have L7 := Lib.hid l7
  have D7 := Lib.hid b7
  simp only [ints, List.length_map]
  clear o7 b7 l7
  have L5b := Lib.hid ((L5.out.up D6.out).up D7.out)
  go_wp2_with fail
  refine (ints_ok A7 A5 ca c7 c5 w7 L7.out L5b.out hcl).mono ?_
  rintro e w8 ⟨rfl, b8⟩
  have B8 := Lib.hid (below_then B7.out b8)
  have D8 := Lib.hid b8
  clear b8
  have L5c := Lib.hid (L5b.out.up D8.out)
  go_wp2_with fail
  refine (sonly_any A5 ca c5 w8 L5c.out hc6).mono ?_
  rintro e w9 ⟨v9, rfl, o9, b9⟩
  rw [HOC.out] at o9
  obtain ⟨A9, c9, rfl, l9, _, _⟩ := o9.form
  have B9 := Lib.hid (below_then B8.out b9)
  have L9 := Lib.hid l9
  have D9 := Lib.hid b9
  simp only [ints, List.length_map]
  clear o9 b9 l9
  have L6b := Lib.hid (((L6.out.up D7.out).up D8.out).up D9.out)
  go_wp2_with fail
  refine (schars_any A6 oa c6 w9 L6b.out ho6).mono ?_
  rintro e w10 ⟨v10, rfl, o10, b10⟩
  rw [HCO.out] at o10
  obtain ⟨A10, c10, rfl, l10, _, _⟩ := o10.form
  have B10 := Lib.hid (below_then B9.out b10)
  have L10 := Lib.hid l10
  have D10 := Lib.hid b10
  simp only [ints, List.length_map]
  clear o10 b10 l10
  have L5d := Lib.hid ((L5c.out.up D9.out).up D10.out)
  go_wp2_with fail
  refine (ssame_any A a c A5 ca c5 w10 (H.out.up B10.out) L5d.out ha' hc6).mono ?_
  rintro e w11 ⟨rfl, b11⟩
  rw [HSM.out]
  have B11 := Lib.hid (below_then B10.out b11)
  have D11 := Lib.hid b11
  clear b11
  have L5e := Lib.hid (L5d.out.up D11.out)
  have L4z := Lib.hid (((((((L4.out.up D5.out).up D6.out).up D7.out).up D8.out).up D9.out).up D10.out).up D11.out)
  have L3z := Lib.hid ((((((((L3a.out).up D5.out).up D6.out).up D7.out).up D8.out).up D9.out).up D10.out).up D11.out)
  go_wp2_with fail
  clear g1 g1' g2
  go_loopw [9] (fun iv wr => ∃ i : Nat, i ≤ ka.length ∧ iv = .int .i64 i ∧ Lies wr wr.heap.size A3 (ints .i64 al) ∧ Lies wr wr.heap.size A4 (ints .i64 ka) ∧ Lies wr wr.heap.size A5 (ints .i64 ca) ∧ Below w.heap.size w wr) (fun iv _ => ka.length - (intOf iv).toNat)
  case atStart => exact ⟨0, by omega, rfl, L3z.out, L4z.out, L5e.out, B11.out⟩
  case round =>
    obtain ⟨i, hi, rfl, lal, lka, lca, bw⟩ := hrel
    have LAL := Lib.hid lal
    have LKA := Lib.hid lka
    have LCA := Lib.hid lca
    have BW := Lib.hid bw
    have LA := Lib.hid (H.out.up bw)
    clear lal lka lca bw
    by_cases hlt : i < ka.length
    · have hic : i < ca.length := by have := HLN.out.1; omega
      obtain ⟨q, hq, q1, q2, q3, q4⟩ := HKA.out i hlt hic
      obtain ⟨p1, hp1, _, hck⟩ := LKA.out.int hlt
      obtain ⟨p2, hp2, _, hcc⟩ := LCA.out.int hic
      obtain ⟨p3, hp3, _, hcx⟩ := LA.out.int hq
      rw [q1] at hck
      obtain ⟨x, hx⟩ : ∃ x, ca[i] = x := ⟨_, rfl⟩
      rw [hx] at hcc q2
      rw [q2] at hcx
      have b0 : (0 : Int) ≤ (i : Int) := by omega
      have b1 : (i : Int) < (ka.length : Int) := by omega
      have b2 : (i : Int) < (ca.length : Int) := by omega
      have b3 : (0 : Int) ≤ (q : Int) := by omega
      have b4 : (q : Int) < (a.length : Int) := by omega
      have e1 : decide ((q : Int) < 0) = false := by simp
      have e2 : decide (a.length ≤ q) = false := by simp; omega
      have e3 : (x != x) = false := by simp
      have Q3 := Lib.hid q3
      have Q4 := Lib.hid q4
      have LAL' : Hid (Lies wr.drew wr.drew.heap.size A3 (ints .i64 al)) := Lib.hid LAL.out
      have LKA' : Hid (Lies wr.drew wr.drew.heap.size A4 (ints .i64 ka)) := Lib.hid LKA.out
      have LCA' : Hid (Lies wr.drew wr.drew.heap.size A5 (ints .i64 ca)) := Lib.hid LCA.out
      have LA' : Hid (Lies wr.drew wr.drew.heap.size A (ints .i64 a)) := Lib.hid LA.out
      have BW' : Hid (Below w.heap.size w wr.drew) := Lib.hid (below_drawn BW.out 1)
      by_cases hi0 : i = 0
      · subst hi0
        have z1 : p1.add 0 = p1 := by simp [Addr.add]
        have z2 : p2.add 0 = p2 := by simp [Addr.add]
        rw [z1] at hck
        rw [z2] at hcc
        have hcr : wr.drew.cell? p1 = some (.int .i64 q) ∧ wr.drew.cell? p2 = some (.int .i64 x) ∧ wr.drew.cell? (p3.add q) = some (.int .i64 x) := ⟨hck, hcc, hcx⟩
        subst hp1
        subst hp2
        subst hp3
        clear q1 q2 q3 q4 hx z1 z2
        go_wp2_with fail
        clear hck hcc hcx
        refine wp_region_held_drew (S := fun w' => w'.cell? p1 = some (.int .i64 q) ∧ w'.cell? p2 = some (.int .i64 x) ∧ w'.cell? (p3.add q) = some (.int .i64 x)) (by kernel_rfl) (hcr) (fun hHeld => ?_)
        refine' wpAnyH_take (i := 0) (v := _) rfl (by kernel_rfl) (by kernel_rfl) (by kernel_rfl) (fun _ _ _ h => h) (Or.inl ⟨by rfl, fun u hu => ?_⟩) (by assumption) ?_
        rotate_left
        · (try dsimp only at hu)
          go_simp
          try with_reducible rfl
        try simp only [Act.put, List.getElem_toArray, List.getElem_cons_zero, List.setIfInBounds_toArray, List.set_cons_zero, List.set_cons_succ]
        refine' wpAnyH_take (i := 1) (v := _) rfl (by kernel_rfl) (by kernel_rfl) (by kernel_rfl) (fun _ _ _ h => h) (Or.inl ⟨by rfl, fun u hu => ?_⟩) (by assumption) ?_
        rotate_left
        · (try dsimp only at hu)
          go_simp
          try with_reducible rfl
        try simp only [Act.put, List.getElem_toArray, List.getElem_cons_zero, List.getElem_cons_succ, List.setIfInBounds_toArray, List.set_cons_zero, List.set_cons_succ]
        refine' wpAnyH_take (i := 2) (v := _) rfl (by kernel_rfl) (by kernel_rfl) (by kernel_rfl) (fun _ _ _ h => h) (Or.inl ⟨by rfl, fun u hu => ?_⟩) (by assumption) ?_
        rotate_left
        · (try dsimp only at hu)
          go_simp
          try with_reducible rfl
        try simp only [Act.put, List.getElem_toArray, List.getElem_cons_zero, List.getElem_cons_succ, List.setIfInBounds_toArray, List.set_cons_zero, List.set_cons_succ]
        refine' wpAnyH_take (i := 3) (v := _) rfl (by kernel_rfl) (by kernel_rfl) (by kernel_rfl) (fun _ _ _ h => h) (Or.inl ⟨by rfl, fun u hu => ?_⟩) (by assumption) ?_
        rotate_left
        · (try dsimp only at hu)
          go_simp
          try with_reducible rfl
        try simp only [Act.put, List.getElem_toArray, List.getElem_cons_zero, List.getElem_cons_succ, List.setIfInBounds_toArray, List.set_cons_zero, List.set_cons_succ]
        refine' wpAnyH_take (i := 4) (v := _) rfl (by kernel_rfl) (by kernel_rfl) (by kernel_rfl) (fun _ _ _ h => h) (Or.inl ⟨by rfl, fun u hu => ?_⟩) (by assumption) ?_
        rotate_left
        · (try dsimp only at hu)
          go_simp
          try with_reducible rfl
        try simp only [Act.put, List.getElem_toArray, List.getElem_cons_zero, List.getElem_cons_succ, List.setIfInBounds_toArray, List.set_cons_zero, List.set_cons_succ]
        refine' wpAnyH_take (i := 5) (v := _) rfl (by kernel_rfl) (by kernel_rfl) (by kernel_rfl) (fun _ _ _ h => h) (Or.inl ⟨by rfl, fun u hu => ?_⟩) (by assumption) ?_
        rotate_left
        · (try dsimp only at hu)
          go_simp
          try with_reducible rfl
        try simp only [Act.put, List.getElem_toArray, List.getElem_cons_zero, List.getElem_cons_succ, List.setIfInBounds_toArray, List.set_cons_zero, List.set_cons_succ]
        refine' wpAnyH_take (i := 6) (v := _) rfl (by kernel_rfl) (by kernel_rfl) (by kernel_rfl) (fun _ _ _ h => h) (Or.inl ⟨by rfl, fun u hu => ?_⟩) (by assumption) ?_
        rotate_left
        · (try dsimp only at hu)
          go_simp
          try with_reducible rfl
        try simp only [Act.put, List.getElem_toArray, List.getElem_cons_zero, List.getElem_cons_succ, List.setIfInBounds_toArray, List.set_cons_zero, List.set_cons_succ]
        refine' wpAnyH_take (i := 7) (v := _) rfl (by kernel_rfl) (by kernel_rfl) (by kernel_rfl) (fun _ _ _ h => h) (Or.inl ⟨by rfl, fun u hu => ?_⟩) (by assumption) ?_
        rotate_left
        · (try dsimp only at hu)
          go_simp
          try with_reducible rfl
        try simp only [Act.put, List.getElem_toArray, List.getElem_cons_zero, List.getElem_cons_succ, List.setIfInBounds_toArray, List.set_cons_zero, List.set_cons_succ]
        refine' wpAnyH_take (i := 8) (v := _) rfl (by kernel_rfl) (by kernel_rfl) (by kernel_rfl) (fun _ _ _ h => h) (Or.inl ⟨by rfl, fun u hu => ?_⟩) (by assumption) ?_
        rotate_left
        · (try dsimp only at hu)
          go_simp
          try with_reducible rfl
        try simp only [Act.put, List.getElem_toArray, List.getElem_cons_zero, List.getElem_cons_succ, List.setIfInBounds_toArray, List.set_cons_zero, List.set_cons_succ]
        refine' wpAnyH_take (i := 9) (v := _) rfl (by kernel_rfl) (by kernel_rfl) (by kernel_rfl) (fun _ _ _ h => h) (Or.inl ⟨by rfl, fun u hu => ?_⟩) (by assumption) ?_
        rotate_left
        · (try dsimp only at hu)
          go_simp
          try with_reducible rfl
        try simp only [Act.put, List.getElem_toArray, List.getElem_cons_zero, List.getElem_cons_succ, List.setIfInBounds_toArray, List.set_cons_zero, List.set_cons_succ]
        refine' wpAnyH_take (i := 10) (v := _) rfl (by kernel_rfl) (by kernel_rfl) (by kernel_rfl) (fun _ _ _ h => h) (Or.inl ⟨by rfl, fun u hu => ?_⟩) (by assumption) ?_
        rotate_left
        · (try dsimp only at hu)
          go_simp
          try with_reducible rfl
        try simp only [Act.put, List.getElem_toArray, List.getElem_cons_zero, List.getElem_cons_succ, List.setIfInBounds_toArray, List.set_cons_zero, List.set_cons_succ]
        refine' wpAnyH_take (i := 11) (v := _) rfl (by kernel_rfl) (by kernel_rfl) (by kernel_rfl) (fun _ _ _ h => h) (Or.inl ⟨by rfl, fun u hu => ?_⟩) (by assumption) ?_
        rotate_left
        · (try dsimp only at hu)
          go_simp
          try with_reducible rfl
        try simp only [Act.put, List.getElem_toArray, List.getElem_cons_zero, List.getElem_cons_succ, List.setIfInBounds_toArray, List.set_cons_zero, List.set_cons_succ]
        refine' wpAnyH_take (i := 12) (v := _) rfl (by kernel_rfl) (by kernel_rfl) (by kernel_rfl) (fun _ _ _ h => h) (Or.inl ⟨by rfl, fun u hu => ?_⟩) (by assumption) ?_
        rotate_left
        · (try dsimp only at hu)
          go_simp
          try with_reducible rfl
        try simp only [Act.put, List.getElem_toArray, List.getElem_cons_zero, List.getElem_cons_succ, List.setIfInBounds_toArray, List.set_cons_zero, List.set_cons_succ]
        refine' wpAnyH_take (i := 13) (v := _) rfl (by kernel_rfl) (by kernel_rfl) (by kernel_rfl) (fun _ _ _ h => h) (Or.inl ⟨by rfl, fun u hu => ?_⟩) (by assumption) ?_
        rotate_left
        · (try dsimp only at hu)
          go_simp
          try with_reducible rfl
        try simp only [Act.put, List.getElem_toArray, List.getElem_cons_zero, List.getElem_cons_succ, List.setIfInBounds_toArray, List.set_cons_zero, List.set_cons_succ]
        refine' wpAnyH_take (i := 14) (v := _) rfl (by kernel_rfl) (by kernel_rfl) (by kernel_rfl) (fun _ _ _ h => h) (Or.inl ⟨by rfl, fun u hu => ?_⟩) (by assumption) ?_
        rotate_left
        · (try dsimp only at hu)
          go_simp
          try with_reducible rfl
        try simp only [Act.put, List.getElem_toArray, List.getElem_cons_zero, List.getElem_cons_succ, List.setIfInBounds_toArray, List.set_cons_zero, List.set_cons_succ]
        refine' wpAnyH_take (i := 15) (v := _) rfl (by kernel_rfl) (by kernel_rfl) (by kernel_rfl) (fun _ _ _ h => h) (Or.inl ⟨by rfl, fun u hu => ?_⟩) (by assumption) ?_
        rotate_left
        · (try dsimp only at hu)
          go_simp
          try with_reducible rfl
        try simp only [Act.put, List.getElem_toArray, List.getElem_cons_zero, List.getElem_cons_succ, List.setIfInBounds_toArray, List.set_cons_zero, List.set_cons_succ]
        refine' wpAnyH_take (i := 16) (v := _) rfl (by kernel_rfl) (by kernel_rfl) (by kernel_rfl) (fun _ _ _ h => h) (Or.inl ⟨by rfl, fun u hu => ?_⟩) (by assumption) ?_
        rotate_left
        · (try dsimp only at hu)
          go_simp
          try with_reducible rfl
        try simp only [Act.put, List.getElem_toArray, List.getElem_cons_zero, List.getElem_cons_succ, List.setIfInBounds_toArray, List.set_cons_zero, List.set_cons_succ]
        refine' wpAnyH_take (i := 17) (v := _) rfl (by kernel_rfl) (by kernel_rfl) (by kernel_rfl) (fun _ _ _ h => h) (Or.inl ⟨by rfl, fun u hu => ?_⟩) (by assumption) ?_
        rotate_left
        · (try dsimp only at hu)
          go_simp
          try with_reducible rfl
        try simp only [Act.put, List.getElem_toArray, List.getElem_cons_zero, List.getElem_cons_succ, List.setIfInBounds_toArray, List.set_cons_zero, List.set_cons_succ]
        refine' wpAnyH_take (i := 18) (v := _) rfl (by kernel_rfl) (by kernel_rfl) (by kernel_rfl) (fun _ _ _ h => h) (Or.inl ⟨by rfl, fun u hu => ?_⟩) (by assumption) ?_
        rotate_left
        · (try dsimp only at hu)
          go_simp
          try with_reducible rfl
        try simp only [Act.put, List.getElem_toArray, List.getElem_cons_zero, List.getElem_cons_succ, List.setIfInBounds_toArray, List.set_cons_zero, List.set_cons_succ]
        refine' wpAnyH_take (i := 19) (v := _) rfl (by kernel_rfl) (by kernel_rfl) (by kernel_rfl) (fun _ _ _ h => h) (Or.inl ⟨by rfl, fun u hu => ?_⟩) (by assumption) ?_
        rotate_left
        · (try dsimp only at hu)
          go_simp
          try with_reducible rfl
        try simp only [Act.put, List.getElem_toArray, List.getElem_cons_zero, List.getElem_cons_succ, List.setIfInBounds_toArray, List.set_cons_zero, List.set_cons_succ]
        refine' wpAnyH_take (i := 20) (v := _) rfl (by kernel_rfl) (by kernel_rfl) (by kernel_rfl) (fun _ _ _ h => h) (Or.inl ⟨by rfl, fun u hu => ?_⟩) (by assumption) ?_
        rotate_left
        · (try dsimp only at hu)
          go_simp
          try with_reducible rfl
        try simp only [Act.put, List.getElem_toArray, List.getElem_cons_zero, List.getElem_cons_succ, List.setIfInBounds_toArray, List.set_cons_zero, List.set_cons_succ]
        refine' wpAnyH_take (i := 21) (v := _) rfl (by kernel_rfl) (by kernel_rfl) (by kernel_rfl) (fun _ _ _ h => h) (Or.inl ⟨by rfl, fun u hu => ?_⟩) (by assumption) ?_
        rotate_left
        · (try dsimp only at hu)
          go_simp
          try with_reducible rfl
        try simp only [Act.put, List.getElem_toArray, List.getElem_cons_zero, List.getElem_cons_succ, List.setIfInBounds_toArray, List.set_cons_zero, List.set_cons_succ]
        refine' wpAnyH_take (i := 22) (v := _) rfl (by kernel_rfl) (by kernel_rfl) (by kernel_rfl) (fun _ _ _ h => h) (Or.inl ⟨by rfl, fun u hu => ?_⟩) (by assumption) ?_
        rotate_left
        · (try dsimp only at hu)
          go_simp
          try with_reducible rfl
        try simp only [Act.put, List.getElem_toArray, List.getElem_cons_zero, List.getElem_cons_succ, List.setIfInBounds_toArray, List.set_cons_zero, List.set_cons_succ]
        refine' wpAnyH_take (i := 23) (v := _) rfl (by kernel_rfl) (by kernel_rfl) (by kernel_rfl) (fun _ _ _ h => h) (Or.inl ⟨by rfl, fun u hu => ?_⟩) (by assumption) ?_
        rotate_left
        · (try dsimp only at hu)
          go_simp
          try with_reducible rfl
        try simp only [Act.put, List.getElem_toArray, List.getElem_cons_zero, List.getElem_cons_succ, List.setIfInBounds_toArray, List.set_cons_zero, List.set_cons_succ]
        refine' wpAnyH_take (i := 24) (v := _) rfl (by kernel_rfl) (by kernel_rfl) (by kernel_rfl) (fun _ _ _ h => h) (Or.inl ⟨by rfl, fun u hu => ?_⟩) (by assumption) ?_
        rotate_left
        · (try dsimp only at hu)
          go_simp
          try with_reducible rfl
        try simp only [Act.put, List.getElem_toArray, List.getElem_cons_zero, List.getElem_cons_succ, List.setIfInBounds_toArray, List.set_cons_zero, List.set_cons_succ]
        refine' wpAnyH_take (i := 25) (v := _) rfl (by kernel_rfl) (by kernel_rfl) (by kernel_rfl) (fun _ _ _ h => h) (Or.inl ⟨by rfl, fun u hu => ?_⟩) (by assumption) ?_
        rotate_left
        · (try dsimp only at hu)
          go_simp
          try with_reducible rfl
        try simp only [Act.put, List.getElem_toArray, List.getElem_cons_zero, List.getElem_cons_succ, List.setIfInBounds_toArray, List.set_cons_zero, List.set_cons_succ]
        refine' wpAnyH_take (i := 26) (v := _) rfl (by kernel_rfl) (by kernel_rfl) (by kernel_rfl) (fun _ _ _ h => h) (Or.inl ⟨by rfl, fun u hu => ?_⟩) (by assumption) ?_
        rotate_left
        · (try dsimp only at hu)
          go_simp
          try with_reducible rfl
        try simp only [Act.put, List.getElem_toArray, List.getElem_cons_zero, List.getElem_cons_succ, List.setIfInBounds_toArray, List.set_cons_zero, List.set_cons_succ]
        refine' wpAnyH_take (i := 27) (v := _) rfl (by kernel_rfl) (by kernel_rfl) (by kernel_rfl) (fun _ _ _ h => h) (Or.inl ⟨by rfl, fun u hu => ?_⟩) (by assumption) ?_
        rotate_left
        · (try dsimp only at hu)
          go_simp
          try with_reducible rfl
        try simp only [Act.put, List.getElem_toArray, List.getElem_cons_zero, List.getElem_cons_succ, List.setIfInBounds_toArray, List.set_cons_zero, List.set_cons_succ]
        refine' wpAnyH_take (i := 28) (v := _) rfl (by kernel_rfl) (by kernel_rfl) (by kernel_rfl) (fun _ _ _ h => h) (Or.inl ⟨by rfl, fun u hu => ?_⟩) (by assumption) ?_
        rotate_left
        · (try dsimp only at hu)
          go_simp
          try with_reducible rfl
        try simp only [Act.put, List.getElem_toArray, List.getElem_cons_zero, List.getElem_cons_succ, List.setIfInBounds_toArray, List.set_cons_zero, List.set_cons_succ]
        refine' wpAnyH_take (i := 29) (v := _) rfl (by kernel_rfl) (by kernel_rfl) (by kernel_rfl) (fun _ _ _ h => h) (Or.inl ⟨by rfl, fun u hu => ?_⟩) (by assumption) ?_
        rotate_left
        · (try dsimp only at hu)
          go_simp
          try with_reducible rfl
        try simp only [Act.put, List.getElem_toArray, List.getElem_cons_zero, List.getElem_cons_succ, List.setIfInBounds_toArray, List.set_cons_zero, List.set_cons_succ]
        refine' wpAnyH_take (i := 30) (v := _) rfl (by kernel_rfl) (by kernel_rfl) (by kernel_rfl) (fun _ _ _ h => h) (Or.inl ⟨by rfl, fun u hu => ?_⟩) (by assumption) ?_
        rotate_left
        · (try dsimp only at hu)
          go_simp
          try with_reducible rfl
        try simp only [Act.put, List.getElem_toArray, List.getElem_cons_zero, List.getElem_cons_succ, List.setIfInBounds_toArray, List.set_cons_zero, List.set_cons_succ]
        refine' wpAnyH_take (i := 31) (v := _) rfl (by kernel_rfl) (by kernel_rfl) (by kernel_rfl) (fun _ _ _ h => h) (Or.inl ⟨by rfl, fun u hu => ?_⟩) (by assumption) ?_
        rotate_left
        · (try dsimp only at hu)
          go_simp
          try with_reducible rfl
        try simp only [Act.put, List.getElem_toArray, List.getElem_cons_zero, List.getElem_cons_succ, List.setIfInBounds_toArray, List.set_cons_zero, List.set_cons_succ]
        refine' wpAnyH_take (i := 32) (v := _) rfl (by kernel_rfl) (by kernel_rfl) (by kernel_rfl) (fun _ _ _ h => h) (Or.inl ⟨by rfl, fun u hu => ?_⟩) (by assumption) ?_
        rotate_left
        · (try dsimp only at hu)
          go_simp
          try with_reducible rfl
        try simp only [Act.put, List.getElem_toArray, List.getElem_cons_zero, List.getElem_cons_succ, List.setIfInBounds_toArray, List.set_cons_zero, List.set_cons_succ]
        refine' wpAnyH_take (i := 33) (v := _) rfl (by kernel_rfl) (by kernel_rfl) (by kernel_rfl) (fun _ _ _ h => h) (Or.inl ⟨by rfl, fun u hu => ?_⟩) (by assumption) ?_
        rotate_left
        · (try dsimp only at hu)
          go_simp
          try with_reducible rfl
        try simp only [Act.put, List.getElem_toArray, List.getElem_cons_zero, List.getElem_cons_succ, List.setIfInBounds_toArray, List.set_cons_zero, List.set_cons_succ]
        refine' wpAnyH_take (i := 35) (v := _) rfl (by kernel_rfl) (by kernel_rfl) (by kernel_rfl) (fun _ _ _ h => h) (Or.inl ⟨by rfl, fun u hu => ?_⟩) (by assumption) ?_
        rotate_left
        · (try dsimp only at hu)
          go_simp
          try with_reducible rfl
        try simp only [Act.put, List.getElem_toArray, List.getElem_cons_zero, List.getElem_cons_succ, List.setIfInBounds_toArray, List.set_cons_zero, List.set_cons_succ]
        refine wpAnyH_ready (rs := [34]) (by kernel_rfl) (by simp) ?_
        refine AllReadyH.cons rfl (fun K hK => ?_) AllReadyH.nil
        simp only [List.getElem_toArray, List.getElem_cons_zero, List.getElem_cons_succ]
        go_simp
        refine (srank_any (some p3) a c q wr.drew hac LA'.out ha').mono ?_
        rintro e u1 ⟨rfl, b_⟩
        rw [Q3.out]
        have LAL2 := Lib.hid (LAL'.out.up b_)
        have LKA2 := Lib.hid (LKA'.out.up b_)
        have LCA2 := Lib.hid (LCA'.out.up b_)
        have BW2 := Lib.hid (below_then BW'.out b_)
        have hcr2 : u1.cell? p1 = some (.int .i64 q) ∧ u1.cell? p2 = some (.int .i64 x) ∧ u1.cell? (p3.add q) = some (.int .i64 x) := ⟨(b_.cell (cell_in hcr.1)).trans hcr.1, (b_.cell (cell_in hcr.2.1)).trans hcr.2.1, (b_.cell (cell_in hcr.2.2)).trans hcr.2.2⟩
        clear b_
        go_wp2_with fail
        refine hK.out _ _ (hcr2) (fun hHeld => ?_)
        clear hK K
        try simp only [Act.put, List.getElem_toArray, List.getElem_cons_zero, List.getElem_cons_succ, List.setIfInBounds_toArray, List.set_cons_zero, List.set_cons_succ]
        refine' wpAnyH_take (i := 36) (v := _) rfl (by kernel_rfl) (by kernel_rfl) (by kernel_rfl) (fun _ _ _ h => h) (Or.inl ⟨by rfl, fun u hu => ?_⟩) (by assumption) ?_
        rotate_left
        · (try dsimp only at hu)
          go_simp
          try with_reducible rfl
        try simp only [Act.put, List.getElem_toArray, List.getElem_cons_zero, List.getElem_cons_succ, List.setIfInBounds_toArray, List.set_cons_zero, List.set_cons_succ]
        refine' wpAnyH_take (i := 37) (v := _) rfl (by kernel_rfl) (by kernel_rfl) (by kernel_rfl) (fun _ _ _ h => h) (Or.inl ⟨by rfl, fun u hu => ?_⟩) (by assumption) ?_
        rotate_left
        · (try dsimp only at hu)
          go_simp
          try with_reducible rfl
        try simp only [Act.put, List.getElem_toArray, List.getElem_cons_zero, List.getElem_cons_succ, List.setIfInBounds_toArray, List.set_cons_zero, List.set_cons_succ]
        refine' wpAnyH_take (i := 38) (v := _) rfl (by kernel_rfl) (by kernel_rfl) (by kernel_rfl) (fun _ _ _ h => h) (Or.inl ⟨by rfl, fun u hu => ?_⟩) (by assumption) ?_
        rotate_left
        · (try dsimp only at hu)
          go_simp
          try with_reducible rfl
        try simp only [Act.put, List.getElem_toArray, List.getElem_cons_zero, List.getElem_cons_succ, List.setIfInBounds_toArray, List.set_cons_zero, List.set_cons_succ]
        refine' wpAnyH_take (i := 39) (v := _) rfl (by kernel_rfl) (by kernel_rfl) (by kernel_rfl) (fun _ _ _ h => h) (Or.inl ⟨by rfl, fun u hu => ?_⟩) (by assumption) ?_
        rotate_left
        · (try dsimp only at hu)
          go_simp
          try with_reducible rfl
        try simp only [Act.put, List.getElem_toArray, List.getElem_cons_zero, List.getElem_cons_succ, List.setIfInBounds_toArray, List.set_cons_zero, List.set_cons_succ]
        refine' wpAnyH_take (i := 40) (v := _) rfl (by kernel_rfl) (by kernel_rfl) (by kernel_rfl) (fun _ _ _ h => h) (Or.inl ⟨by rfl, fun u hu => ?_⟩) (by assumption) ?_
        rotate_left
        · (try dsimp only at hu)
          go_simp
          try with_reducible rfl
        try simp only [Act.put, List.getElem_toArray, List.getElem_cons_zero, List.getElem_cons_succ, List.setIfInBounds_toArray, List.set_cons_zero, List.set_cons_succ]
        refine' wpAnyH_take (i := 41) (v := _) rfl (by kernel_rfl) (by kernel_rfl) (by kernel_rfl) (fun _ _ _ h => h) (Or.inl ⟨by rfl, fun u hu => ?_⟩) (by assumption) ?_
        rotate_left
        · (try dsimp only at hu)
          go_simp
          try with_reducible rfl
        try simp only [Act.put, List.getElem_toArray, List.getElem_cons_zero, List.getElem_cons_succ, List.setIfInBounds_toArray, List.set_cons_zero, List.set_cons_succ]
        refine' wpAnyH_take (i := 42) (v := _) rfl (by kernel_rfl) (by kernel_rfl) (by kernel_rfl) (fun _ _ _ h => h) (Or.inr ⟨by rfl, rfl⟩) (by assumption) ?_
        try simp only [Act.put, List.getElem_toArray, List.getElem_cons_zero, List.getElem_cons_succ, List.setIfInBounds_toArray, List.set_cons_zero, List.set_cons_succ]
        refine' wpAnyH_take (i := 43) (v := _) rfl (by kernel_rfl) (by kernel_rfl) (by kernel_rfl) (fun _ _ _ h => h) (Or.inr ⟨by rfl, rfl⟩) (by assumption) ?_
        try simp only [Act.put, List.getElem_toArray, List.getElem_cons_zero, List.getElem_cons_succ, List.setIfInBounds_toArray, List.set_cons_zero, List.set_cons_succ]
        refine' wpAnyH_take (i := 44) (v := _) rfl (by kernel_rfl) (by kernel_rfl) (by kernel_rfl) (fun _ _ _ h => h) (Or.inr ⟨by rfl, rfl⟩) (by assumption) ?_
        try simp only [Act.put, List.getElem_toArray, List.getElem_cons_zero, List.getElem_cons_succ, List.setIfInBounds_toArray, List.set_cons_zero, List.set_cons_succ]
        refine' wpAnyH_take (i := 45) (v := _) rfl (by kernel_rfl) (by kernel_rfl) (by kernel_rfl) (fun _ _ _ h => h) (Or.inr ⟨by rfl, rfl⟩) (by assumption) ?_
        try simp only [Act.put, List.getElem_toArray, List.getElem_cons_zero, List.getElem_cons_succ, List.setIfInBounds_toArray, List.set_cons_zero, List.set_cons_succ]
        refine' wpAnyH_take (i := 46) (v := _) rfl (by kernel_rfl) (by kernel_rfl) (by kernel_rfl) (fun _ _ _ h => h) (Or.inr ⟨by rfl, rfl⟩) (by assumption) ?_
        try simp only [Act.put, List.getElem_toArray, List.getElem_cons_zero, List.getElem_cons_succ, List.setIfInBounds_toArray, List.set_cons_zero, List.set_cons_succ]
        refine' wpAnyH_take (i := 47) (v := _) rfl (by kernel_rfl) (by kernel_rfl) (by kernel_rfl) (fun _ _ _ h => h) (Or.inr ⟨by rfl, rfl⟩) (by assumption) ?_
        try simp only [Act.put, List.getElem_toArray, List.getElem_cons_zero, List.getElem_cons_succ, List.setIfInBounds_toArray, List.set_cons_zero, List.set_cons_succ]
        refine' wpAnyH_take (i := 48) (v := _) rfl (by kernel_rfl) (by kernel_rfl) (by kernel_rfl) (fun _ _ _ h => h) (Or.inr ⟨by rfl, rfl⟩) (by assumption) ?_
        try simp only [Act.put, List.getElem_toArray, List.getElem_cons_zero, List.getElem_cons_succ, List.setIfInBounds_toArray, List.set_cons_zero, List.set_cons_succ]
        refine' wpAnyH_take (i := 49) (v := _) rfl (by kernel_rfl) (by kernel_rfl) (by kernel_rfl) (fun _ _ _ h => h) (Or.inr ⟨by rfl, rfl⟩) (by assumption) ?_
        try simp only [Act.put, List.getElem_toArray, List.getElem_cons_zero, List.getElem_cons_succ, List.setIfInBounds_toArray, List.set_cons_zero, List.set_cons_succ]
        refine' wpAnyH_take (i := 50) (v := _) rfl (by kernel_rfl) (by kernel_rfl) (by kernel_rfl) (fun _ _ _ h => h) (Or.inr ⟨by rfl, rfl⟩) (by assumption) ?_
        try simp only [Act.put, List.getElem_toArray, List.getElem_cons_zero, List.getElem_cons_succ, List.setIfInBounds_toArray, List.set_cons_zero, List.set_cons_succ]
        refine' wpAnyH_take (i := 51) (v := _) rfl (by kernel_rfl) (by kernel_rfl) (by kernel_rfl) (fun _ _ _ h => h) (Or.inr ⟨by rfl, rfl⟩) (by assumption) ?_
        try simp only [Act.put, List.getElem_toArray, List.getElem_cons_zero, List.getElem_cons_succ, List.setIfInBounds_toArray, List.set_cons_zero, List.set_cons_succ]
        refine' wpAnyH_take (i := 52) (v := _) rfl (by kernel_rfl) (by kernel_rfl) (by kernel_rfl) (fun _ _ _ h => h) (Or.inl ⟨by rfl, fun u hu => ?_⟩) (by assumption) ?_
        rotate_left
        · (try dsimp only at hu)
          go_simp
          try with_reducible rfl
        try simp only [Act.put, List.getElem_toArray, List.getElem_cons_zero, List.getElem_cons_succ, List.setIfInBounds_toArray, List.set_cons_zero, List.set_cons_succ]
        refine' wpAnyH_take (i := 53) (v := _) rfl (by kernel_rfl) (by kernel_rfl) (by kernel_rfl) (fun _ _ _ h => h) (Or.inl ⟨by rfl, fun u hu => ?_⟩) (by assumption) ?_
        rotate_left
        · (try dsimp only at hu)
          go_simp
          try with_reducible rfl
        try simp only [Act.put, List.getElem_toArray, List.getElem_cons_zero, List.getElem_cons_succ, List.setIfInBounds_toArray, List.set_cons_zero, List.set_cons_succ]
        refine wpAnyH_done (by kernel_rfl) ?_ _
        clear hcr hcr2
        go_wp2_with fail
        go_roundw
        case rel => exact ⟨1, by omega, by go_num, LAL2.out, LKA2.out, LCA2.out, BW2.out⟩
        case measure => simp [intOf]; omega
      · obtain ⟨p1', hp1', _, hcp⟩ := LKA.out.int (show i - 1 < ka.length by omega)
        obtain ⟨y, hy⟩ : ∃ y, ka[i - 1] = y := ⟨_, rfl⟩
        have hyq : y < (q : Int) := by rw [← hy]; exact q4 (i - 1) (by omega)
        rw [hy] at hcp
        have e4 : decide (y ≥ (q : Int)) = false := by simp; omega
        have e5 : decide (0 < i) = true := by simp; omega
        have hwi : IntKind.i64.wrap ((i : Int) - 1) = ((i - 1 : Nat) : Int) := by rw [IntWalk.i64_in _ (by omega)]; omega
        have b5 : (0 : Int) ≤ ((i - 1 : Nat) : Int) := by omega
        have b6 : ((i - 1 : Nat) : Int) < (ka.length : Int) := by omega
        rw [hp1] at hp1'
        injection hp1' with hp1'
        subst hp1'
        have hcr : wr.drew.cell? (p1.add i) = some (.int .i64 q) ∧ wr.drew.cell? (p2.add i) = some (.int .i64 x) ∧ wr.drew.cell? (p3.add q) = some (.int .i64 x) ∧ wr.drew.cell? (p1.add (i - 1)) = some (.int .i64 y) := ⟨hck, hcc, hcx, hcp⟩
        obtain ⟨i', hi'⟩ : ∃ n, i - 1 = n := ⟨_, rfl⟩
        rw [hi'] at hwi b5 b6 hcr hcp
        subst hp1
        subst hp2
        subst hp3
        clear q1 q2 q3 q4 hx hy hyq hi' hi0
        go_wp2_with fail
        clear hck hcc hcx hcp
        refine wp_region_held_drew (S := fun w' => w'.cell? (p1.add i) = some (.int .i64 q) ∧ w'.cell? (p2.add i) = some (.int .i64 x) ∧ w'.cell? (p3.add q) = some (.int .i64 x) ∧ w'.cell? (p1.add i') = some (.int .i64 y)) (by kernel_rfl) (hcr) (fun hHeld => ?_)
        refine' wpAnyH_take (i := 0) (v := _) rfl (by kernel_rfl) (by kernel_rfl) (by kernel_rfl) (fun _ _ _ h => h) (Or.inl ⟨by rfl, fun u hu => ?_⟩) (by assumption) ?_
        rotate_left
        · (try dsimp only at hu)
          go_simp
          try with_reducible rfl
        try simp only [Act.put, List.getElem_toArray, List.getElem_cons_zero, List.setIfInBounds_toArray, List.set_cons_zero, List.set_cons_succ]
        refine' wpAnyH_take (i := 1) (v := _) rfl (by kernel_rfl) (by kernel_rfl) (by kernel_rfl) (fun _ _ _ h => h) (Or.inl ⟨by rfl, fun u hu => ?_⟩) (by assumption) ?_
        rotate_left
        · (try dsimp only at hu)
          go_simp
          try with_reducible rfl
        try simp only [Act.put, List.getElem_toArray, List.getElem_cons_zero, List.getElem_cons_succ, List.setIfInBounds_toArray, List.set_cons_zero, List.set_cons_succ]
        refine' wpAnyH_take (i := 2) (v := _) rfl (by kernel_rfl) (by kernel_rfl) (by kernel_rfl) (fun _ _ _ h => h) (Or.inl ⟨by rfl, fun u hu => ?_⟩) (by assumption) ?_
        rotate_left
        · (try dsimp only at hu)
          go_simp
          try with_reducible rfl
        try simp only [Act.put, List.getElem_toArray, List.getElem_cons_zero, List.getElem_cons_succ, List.setIfInBounds_toArray, List.set_cons_zero, List.set_cons_succ]
        refine' wpAnyH_take (i := 3) (v := _) rfl (by kernel_rfl) (by kernel_rfl) (by kernel_rfl) (fun _ _ _ h => h) (Or.inl ⟨by rfl, fun u hu => ?_⟩) (by assumption) ?_
        rotate_left
        · (try dsimp only at hu)
          go_simp
          try with_reducible rfl
        try simp only [Act.put, List.getElem_toArray, List.getElem_cons_zero, List.getElem_cons_succ, List.setIfInBounds_toArray, List.set_cons_zero, List.set_cons_succ]
        refine' wpAnyH_take (i := 4) (v := _) rfl (by kernel_rfl) (by kernel_rfl) (by kernel_rfl) (fun _ _ _ h => h) (Or.inl ⟨by rfl, fun u hu => ?_⟩) (by assumption) ?_
        rotate_left
        · (try dsimp only at hu)
          go_simp
          try with_reducible rfl
        try simp only [Act.put, List.getElem_toArray, List.getElem_cons_zero, List.getElem_cons_succ, List.setIfInBounds_toArray, List.set_cons_zero, List.set_cons_succ]
        refine' wpAnyH_take (i := 5) (v := _) rfl (by kernel_rfl) (by kernel_rfl) (by kernel_rfl) (fun _ _ _ h => h) (Or.inl ⟨by rfl, fun u hu => ?_⟩) (by assumption) ?_
        rotate_left
        · (try dsimp only at hu)
          go_simp
          try with_reducible rfl
        try simp only [Act.put, List.getElem_toArray, List.getElem_cons_zero, List.getElem_cons_succ, List.setIfInBounds_toArray, List.set_cons_zero, List.set_cons_succ]
        refine' wpAnyH_take (i := 6) (v := _) rfl (by kernel_rfl) (by kernel_rfl) (by kernel_rfl) (fun _ _ _ h => h) (Or.inl ⟨by rfl, fun u hu => ?_⟩) (by assumption) ?_
        rotate_left
        · (try dsimp only at hu)
          go_simp
          try with_reducible rfl
        try simp only [Act.put, List.getElem_toArray, List.getElem_cons_zero, List.getElem_cons_succ, List.setIfInBounds_toArray, List.set_cons_zero, List.set_cons_succ]
        refine' wpAnyH_take (i := 7) (v := _) rfl (by kernel_rfl) (by kernel_rfl) (by kernel_rfl) (fun _ _ _ h => h) (Or.inl ⟨by rfl, fun u hu => ?_⟩) (by assumption) ?_
        rotate_left
        · (try dsimp only at hu)
          go_simp
          try with_reducible rfl
        try simp only [Act.put, List.getElem_toArray, List.getElem_cons_zero, List.getElem_cons_succ, List.setIfInBounds_toArray, List.set_cons_zero, List.set_cons_succ]
        refine' wpAnyH_take (i := 8) (v := _) rfl (by kernel_rfl) (by kernel_rfl) (by kernel_rfl) (fun _ _ _ h => h) (Or.inl ⟨by rfl, fun u hu => ?_⟩) (by assumption) ?_
        rotate_left
        · (try dsimp only at hu)
          go_simp
          try with_reducible rfl
        try simp only [Act.put, List.getElem_toArray, List.getElem_cons_zero, List.getElem_cons_succ, List.setIfInBounds_toArray, List.set_cons_zero, List.set_cons_succ]
        refine' wpAnyH_take (i := 9) (v := _) rfl (by kernel_rfl) (by kernel_rfl) (by kernel_rfl) (fun _ _ _ h => h) (Or.inl ⟨by rfl, fun u hu => ?_⟩) (by assumption) ?_
        rotate_left
        · (try dsimp only at hu)
          go_simp
          try with_reducible rfl
        try simp only [Act.put, List.getElem_toArray, List.getElem_cons_zero, List.getElem_cons_succ, List.setIfInBounds_toArray, List.set_cons_zero, List.set_cons_succ]
        refine' wpAnyH_take (i := 10) (v := _) rfl (by kernel_rfl) (by kernel_rfl) (by kernel_rfl) (fun _ _ _ h => h) (Or.inl ⟨by rfl, fun u hu => ?_⟩) (by assumption) ?_
        rotate_left
        · (try dsimp only at hu)
          go_simp
          try with_reducible rfl
        try simp only [Act.put, List.getElem_toArray, List.getElem_cons_zero, List.getElem_cons_succ, List.setIfInBounds_toArray, List.set_cons_zero, List.set_cons_succ]
        refine' wpAnyH_take (i := 11) (v := _) rfl (by kernel_rfl) (by kernel_rfl) (by kernel_rfl) (fun _ _ _ h => h) (Or.inl ⟨by rfl, fun u hu => ?_⟩) (by assumption) ?_
        rotate_left
        · (try dsimp only at hu)
          go_simp
          try with_reducible rfl
        try simp only [Act.put, List.getElem_toArray, List.getElem_cons_zero, List.getElem_cons_succ, List.setIfInBounds_toArray, List.set_cons_zero, List.set_cons_succ]
        refine' wpAnyH_take (i := 12) (v := _) rfl (by kernel_rfl) (by kernel_rfl) (by kernel_rfl) (fun _ _ _ h => h) (Or.inl ⟨by rfl, fun u hu => ?_⟩) (by assumption) ?_
        rotate_left
        · (try dsimp only at hu)
          go_simp
          try with_reducible rfl
        try simp only [Act.put, List.getElem_toArray, List.getElem_cons_zero, List.getElem_cons_succ, List.setIfInBounds_toArray, List.set_cons_zero, List.set_cons_succ]
        refine' wpAnyH_take (i := 13) (v := _) rfl (by kernel_rfl) (by kernel_rfl) (by kernel_rfl) (fun _ _ _ h => h) (Or.inl ⟨by rfl, fun u hu => ?_⟩) (by assumption) ?_
        rotate_left
        · (try dsimp only at hu)
          go_simp
          try with_reducible rfl
        try simp only [Act.put, List.getElem_toArray, List.getElem_cons_zero, List.getElem_cons_succ, List.setIfInBounds_toArray, List.set_cons_zero, List.set_cons_succ]
        refine' wpAnyH_take (i := 14) (v := _) rfl (by kernel_rfl) (by kernel_rfl) (by kernel_rfl) (fun _ _ _ h => h) (Or.inl ⟨by rfl, fun u hu => ?_⟩) (by assumption) ?_
        rotate_left
        · (try dsimp only at hu)
          go_simp
          try with_reducible rfl
        try simp only [Act.put, List.getElem_toArray, List.getElem_cons_zero, List.getElem_cons_succ, List.setIfInBounds_toArray, List.set_cons_zero, List.set_cons_succ]
        refine' wpAnyH_take (i := 15) (v := _) rfl (by kernel_rfl) (by kernel_rfl) (by kernel_rfl) (fun _ _ _ h => h) (Or.inl ⟨by rfl, fun u hu => ?_⟩) (by assumption) ?_
        rotate_left
        · (try dsimp only at hu)
          go_simp
          try with_reducible rfl
        try simp only [Act.put, List.getElem_toArray, List.getElem_cons_zero, List.getElem_cons_succ, List.setIfInBounds_toArray, List.set_cons_zero, List.set_cons_succ]
        refine' wpAnyH_take (i := 16) (v := _) rfl (by kernel_rfl) (by kernel_rfl) (by kernel_rfl) (fun _ _ _ h => h) (Or.inl ⟨by rfl, fun u hu => ?_⟩) (by assumption) ?_
        rotate_left
        · (try dsimp only at hu)
          go_simp
          try with_reducible rfl
        try simp only [Act.put, List.getElem_toArray, List.getElem_cons_zero, List.getElem_cons_succ, List.setIfInBounds_toArray, List.set_cons_zero, List.set_cons_succ]
        refine' wpAnyH_take (i := 17) (v := _) rfl (by kernel_rfl) (by kernel_rfl) (by kernel_rfl) (fun _ _ _ h => h) (Or.inl ⟨by rfl, fun u hu => ?_⟩) (by assumption) ?_
        rotate_left
        · (try dsimp only at hu)
          go_simp
          try with_reducible rfl
        try simp only [Act.put, List.getElem_toArray, List.getElem_cons_zero, List.getElem_cons_succ, List.setIfInBounds_toArray, List.set_cons_zero, List.set_cons_succ]
        refine' wpAnyH_take (i := 18) (v := _) rfl (by kernel_rfl) (by kernel_rfl) (by kernel_rfl) (fun _ _ _ h => h) (Or.inl ⟨by rfl, fun u hu => ?_⟩) (by assumption) ?_
        rotate_left
        · (try dsimp only at hu)
          go_simp
          try with_reducible rfl
        try simp only [Act.put, List.getElem_toArray, List.getElem_cons_zero, List.getElem_cons_succ, List.setIfInBounds_toArray, List.set_cons_zero, List.set_cons_succ]
        refine' wpAnyH_take (i := 19) (v := _) rfl (by kernel_rfl) (by kernel_rfl) (by kernel_rfl) (fun _ _ _ h => h) (Or.inl ⟨by rfl, fun u hu => ?_⟩) (by assumption) ?_
        rotate_left
        · (try dsimp only at hu)
          go_simp
          try with_reducible rfl
        try simp only [Act.put, List.getElem_toArray, List.getElem_cons_zero, List.getElem_cons_succ, List.setIfInBounds_toArray, List.set_cons_zero, List.set_cons_succ]
        refine' wpAnyH_take (i := 20) (v := _) rfl (by kernel_rfl) (by kernel_rfl) (by kernel_rfl) (fun _ _ _ h => h) (Or.inl ⟨by rfl, fun u hu => ?_⟩) (by assumption) ?_
        rotate_left
        · (try dsimp only at hu)
          go_simp
          try with_reducible rfl
        try simp only [Act.put, List.getElem_toArray, List.getElem_cons_zero, List.getElem_cons_succ, List.setIfInBounds_toArray, List.set_cons_zero, List.set_cons_succ]
        refine' wpAnyH_take (i := 21) (v := _) rfl (by kernel_rfl) (by kernel_rfl) (by kernel_rfl) (fun _ _ _ h => h) (Or.inl ⟨by rfl, fun u hu => ?_⟩) (by assumption) ?_
        rotate_left
        · (try dsimp only at hu)
          go_simp
          try with_reducible rfl
        try simp only [Act.put, List.getElem_toArray, List.getElem_cons_zero, List.getElem_cons_succ, List.setIfInBounds_toArray, List.set_cons_zero, List.set_cons_succ]
        refine' wpAnyH_take (i := 22) (v := _) rfl (by kernel_rfl) (by kernel_rfl) (by kernel_rfl) (fun _ _ _ h => h) (Or.inl ⟨by rfl, fun u hu => ?_⟩) (by assumption) ?_
        rotate_left
        · (try dsimp only at hu)
          go_simp
          try with_reducible rfl
        try simp only [Act.put, List.getElem_toArray, List.getElem_cons_zero, List.getElem_cons_succ, List.setIfInBounds_toArray, List.set_cons_zero, List.set_cons_succ]
        refine' wpAnyH_take (i := 23) (v := _) rfl (by kernel_rfl) (by kernel_rfl) (by kernel_rfl) (fun _ _ _ h => h) (Or.inl ⟨by rfl, fun u hu => ?_⟩) (by assumption) ?_
        rotate_left
        · (try dsimp only at hu)
          go_simp
          try with_reducible rfl
        try simp only [Act.put, List.getElem_toArray, List.getElem_cons_zero, List.getElem_cons_succ, List.setIfInBounds_toArray, List.set_cons_zero, List.set_cons_succ]
        refine' wpAnyH_take (i := 24) (v := _) rfl (by kernel_rfl) (by kernel_rfl) (by kernel_rfl) (fun _ _ _ h => h) (Or.inl ⟨by rfl, fun u hu => ?_⟩) (by assumption) ?_
        rotate_left
        · (try dsimp only at hu)
          go_simp
          try with_reducible rfl
        try simp only [Act.put, List.getElem_toArray, List.getElem_cons_zero, List.getElem_cons_succ, List.setIfInBounds_toArray, List.set_cons_zero, List.set_cons_succ]
        refine' wpAnyH_take (i := 25) (v := _) rfl (by kernel_rfl) (by kernel_rfl) (by kernel_rfl) (fun _ _ _ h => h) (Or.inl ⟨by rfl, fun u hu => ?_⟩) (by assumption) ?_
        rotate_left
        · (try dsimp only at hu)
          go_simp
          try with_reducible rfl
        try simp only [Act.put, List.getElem_toArray, List.getElem_cons_zero, List.getElem_cons_succ, List.setIfInBounds_toArray, List.set_cons_zero, List.set_cons_succ]
        refine' wpAnyH_take (i := 26) (v := _) rfl (by kernel_rfl) (by kernel_rfl) (by kernel_rfl) (fun _ _ _ h => h) (Or.inl ⟨by rfl, fun u hu => ?_⟩) (by assumption) ?_
        rotate_left
        · (try dsimp only at hu)
          go_simp
          try with_reducible rfl
        try simp only [Act.put, List.getElem_toArray, List.getElem_cons_zero, List.getElem_cons_succ, List.setIfInBounds_toArray, List.set_cons_zero, List.set_cons_succ]
        refine' wpAnyH_take (i := 27) (v := _) rfl (by kernel_rfl) (by kernel_rfl) (by kernel_rfl) (fun _ _ _ h => h) (Or.inl ⟨by rfl, fun u hu => ?_⟩) (by assumption) ?_
        rotate_left
        · (try dsimp only at hu)
          go_simp
          try with_reducible rfl
        try simp only [Act.put, List.getElem_toArray, List.getElem_cons_zero, List.getElem_cons_succ, List.setIfInBounds_toArray, List.set_cons_zero, List.set_cons_succ]
        refine' wpAnyH_take (i := 28) (v := _) rfl (by kernel_rfl) (by kernel_rfl) (by kernel_rfl) (fun _ _ _ h => h) (Or.inl ⟨by rfl, fun u hu => ?_⟩) (by assumption) ?_
        rotate_left
        · (try dsimp only at hu)
          go_simp
          try with_reducible rfl
        try simp only [Act.put, List.getElem_toArray, List.getElem_cons_zero, List.getElem_cons_succ, List.setIfInBounds_toArray, List.set_cons_zero, List.set_cons_succ]
        refine' wpAnyH_take (i := 29) (v := _) rfl (by kernel_rfl) (by kernel_rfl) (by kernel_rfl) (fun _ _ _ h => h) (Or.inl ⟨by rfl, fun u hu => ?_⟩) (by assumption) ?_
        rotate_left
        · (try dsimp only at hu)
          go_simp
          try with_reducible rfl
        try simp only [Act.put, List.getElem_toArray, List.getElem_cons_zero, List.getElem_cons_succ, List.setIfInBounds_toArray, List.set_cons_zero, List.set_cons_succ]
        refine' wpAnyH_take (i := 30) (v := _) rfl (by kernel_rfl) (by kernel_rfl) (by kernel_rfl) (fun _ _ _ h => h) (Or.inl ⟨by rfl, fun u hu => ?_⟩) (by assumption) ?_
        rotate_left
        · (try dsimp only at hu)
          go_simp
          try with_reducible rfl
        try simp only [Act.put, List.getElem_toArray, List.getElem_cons_zero, List.getElem_cons_succ, List.setIfInBounds_toArray, List.set_cons_zero, List.set_cons_succ]
        refine' wpAnyH_take (i := 31) (v := _) rfl (by kernel_rfl) (by kernel_rfl) (by kernel_rfl) (fun _ _ _ h => h) (Or.inl ⟨by rfl, fun u hu => ?_⟩) (by assumption) ?_
        rotate_left
        · (try dsimp only at hu)
          go_simp
          try with_reducible rfl
        try simp only [Act.put, List.getElem_toArray, List.getElem_cons_zero, List.getElem_cons_succ, List.setIfInBounds_toArray, List.set_cons_zero, List.set_cons_succ]
        refine' wpAnyH_take (i := 32) (v := _) rfl (by kernel_rfl) (by kernel_rfl) (by kernel_rfl) (fun _ _ _ h => h) (Or.inl ⟨by rfl, fun u hu => ?_⟩) (by assumption) ?_
        rotate_left
        · (try dsimp only at hu)
          go_simp
          try with_reducible rfl
        try simp only [Act.put, List.getElem_toArray, List.getElem_cons_zero, List.getElem_cons_succ, List.setIfInBounds_toArray, List.set_cons_zero, List.set_cons_succ]
        refine' wpAnyH_take (i := 33) (v := _) rfl (by kernel_rfl) (by kernel_rfl) (by kernel_rfl) (fun _ _ _ h => h) (Or.inl ⟨by rfl, fun u hu => ?_⟩) (by assumption) ?_
        rotate_left
        · (try dsimp only at hu)
          go_simp
          try with_reducible rfl
        try simp only [Act.put, List.getElem_toArray, List.getElem_cons_zero, List.getElem_cons_succ, List.setIfInBounds_toArray, List.set_cons_zero, List.set_cons_succ]
        refine' wpAnyH_take (i := 35) (v := _) rfl (by kernel_rfl) (by kernel_rfl) (by kernel_rfl) (fun _ _ _ h => h) (Or.inl ⟨by rfl, fun u hu => ?_⟩) (by assumption) ?_
        rotate_left
        · (try dsimp only at hu)
          go_simp
          try with_reducible rfl
        try simp only [Act.put, List.getElem_toArray, List.getElem_cons_zero, List.getElem_cons_succ, List.setIfInBounds_toArray, List.set_cons_zero, List.set_cons_succ]
        refine wpAnyH_ready (rs := [34]) (by kernel_rfl) (by simp) ?_
        refine AllReadyH.cons rfl (fun K hK => ?_) AllReadyH.nil
        simp only [List.getElem_toArray, List.getElem_cons_zero, List.getElem_cons_succ]
        go_simp
        refine (srank_any (some p3) a c q wr.drew hac LA'.out ha').mono ?_
        rintro e u1 ⟨rfl, b_⟩
        rw [Q3.out]
        have LAL2 := Lib.hid (LAL'.out.up b_)
        have LKA2 := Lib.hid (LKA'.out.up b_)
        have LCA2 := Lib.hid (LCA'.out.up b_)
        have BW2 := Lib.hid (below_then BW'.out b_)
        have hcr2 : u1.cell? (p1.add i) = some (.int .i64 q) ∧ u1.cell? (p2.add i) = some (.int .i64 x) ∧ u1.cell? (p3.add q) = some (.int .i64 x) ∧ u1.cell? (p1.add i') = some (.int .i64 y) := ⟨(b_.cell (cell_in hcr.1)).trans hcr.1, (b_.cell (cell_in hcr.2.1)).trans hcr.2.1, (b_.cell (cell_in hcr.2.2.1)).trans hcr.2.2.1, (b_.cell (cell_in hcr.2.2.2)).trans hcr.2.2.2⟩
        clear b_
        go_wp2_with fail
        refine hK.out _ _ (hcr2) (fun hHeld => ?_)
        clear hK K
        try simp only [Act.put, List.getElem_toArray, List.getElem_cons_zero, List.getElem_cons_succ, List.setIfInBounds_toArray, List.set_cons_zero, List.set_cons_succ]
        refine' wpAnyH_take (i := 36) (v := _) rfl (by kernel_rfl) (by kernel_rfl) (by kernel_rfl) (fun _ _ _ h => h) (Or.inl ⟨by rfl, fun u hu => ?_⟩) (by assumption) ?_
        rotate_left
        · (try dsimp only at hu)
          go_simp
          try with_reducible rfl
        try simp only [Act.put, List.getElem_toArray, List.getElem_cons_zero, List.getElem_cons_succ, List.setIfInBounds_toArray, List.set_cons_zero, List.set_cons_succ]
        refine' wpAnyH_take (i := 37) (v := _) rfl (by kernel_rfl) (by kernel_rfl) (by kernel_rfl) (fun _ _ _ h => h) (Or.inl ⟨by rfl, fun u hu => ?_⟩) (by assumption) ?_
        rotate_left
        · (try dsimp only at hu)
          go_simp
          try with_reducible rfl
        try simp only [Act.put, List.getElem_toArray, List.getElem_cons_zero, List.getElem_cons_succ, List.setIfInBounds_toArray, List.set_cons_zero, List.set_cons_succ]
        refine' wpAnyH_take (i := 38) (v := _) rfl (by kernel_rfl) (by kernel_rfl) (by kernel_rfl) (fun _ _ _ h => h) (Or.inl ⟨by rfl, fun u hu => ?_⟩) (by assumption) ?_
        rotate_left
        · (try dsimp only at hu)
          go_simp
          try with_reducible rfl
        try simp only [Act.put, List.getElem_toArray, List.getElem_cons_zero, List.getElem_cons_succ, List.setIfInBounds_toArray, List.set_cons_zero, List.set_cons_succ]
        refine' wpAnyH_take (i := 39) (v := _) rfl (by kernel_rfl) (by kernel_rfl) (by kernel_rfl) (fun _ _ _ h => h) (Or.inl ⟨by rfl, fun u hu => ?_⟩) (by assumption) ?_
        rotate_left
        · (try dsimp only at hu)
          go_simp
          try with_reducible rfl
        try simp only [Act.put, List.getElem_toArray, List.getElem_cons_zero, List.getElem_cons_succ, List.setIfInBounds_toArray, List.set_cons_zero, List.set_cons_succ]
        refine' wpAnyH_take (i := 40) (v := _) rfl (by kernel_rfl) (by kernel_rfl) (by kernel_rfl) (fun _ _ _ h => h) (Or.inl ⟨by rfl, fun u hu => ?_⟩) (by assumption) ?_
        rotate_left
        · (try dsimp only at hu)
          go_simp
          try with_reducible rfl
        try simp only [Act.put, List.getElem_toArray, List.getElem_cons_zero, List.getElem_cons_succ, List.setIfInBounds_toArray, List.set_cons_zero, List.set_cons_succ]
        refine' wpAnyH_take (i := 41) (v := _) rfl (by kernel_rfl) (by kernel_rfl) (by kernel_rfl) (fun _ _ _ h => h) (Or.inl ⟨by rfl, fun u hu => ?_⟩) (by assumption) ?_
        rotate_left
        · (try dsimp only at hu)
          go_simp
          try with_reducible rfl
        try simp only [Act.put, List.getElem_toArray, List.getElem_cons_zero, List.getElem_cons_succ, List.setIfInBounds_toArray, List.set_cons_zero, List.set_cons_succ]
        refine' wpAnyH_take (i := 42) (v := _) rfl (by kernel_rfl) (by kernel_rfl) (by kernel_rfl) (fun _ _ _ h => h) (Or.inl ⟨by rfl, fun u hu => ?_⟩) (by assumption) ?_
        rotate_left
        · (try dsimp only at hu)
          go_simp
          try with_reducible rfl
        try simp only [Act.put, List.getElem_toArray, List.getElem_cons_zero, List.getElem_cons_succ, List.setIfInBounds_toArray, List.set_cons_zero, List.set_cons_succ]
        refine' wpAnyH_take (i := 43) (v := _) rfl (by kernel_rfl) (by kernel_rfl) (by kernel_rfl) (fun _ _ _ h => h) (Or.inl ⟨by rfl, fun u hu => ?_⟩) (by assumption) ?_
        rotate_left
        · (try dsimp only at hu)
          go_simp
          try with_reducible rfl
        try simp only [Act.put, List.getElem_toArray, List.getElem_cons_zero, List.getElem_cons_succ, List.setIfInBounds_toArray, List.set_cons_zero, List.set_cons_succ]
        refine' wpAnyH_take (i := 44) (v := _) rfl (by kernel_rfl) (by kernel_rfl) (by kernel_rfl) (fun _ _ _ h => h) (Or.inl ⟨by rfl, fun u hu => ?_⟩) (by assumption) ?_
        rotate_left
        · (try dsimp only at hu)
          go_simp
          try with_reducible rfl
        try simp only [Act.put, List.getElem_toArray, List.getElem_cons_zero, List.getElem_cons_succ, List.setIfInBounds_toArray, List.set_cons_zero, List.set_cons_succ]
        refine' wpAnyH_take (i := 45) (v := _) rfl (by kernel_rfl) (by kernel_rfl) (by kernel_rfl) (fun _ _ _ h => h) (Or.inl ⟨by rfl, fun u hu => ?_⟩) (by assumption) ?_
        rotate_left
        · (try dsimp only at hu)
          go_simp
          try with_reducible rfl
        try simp only [Act.put, List.getElem_toArray, List.getElem_cons_zero, List.getElem_cons_succ, List.setIfInBounds_toArray, List.set_cons_zero, List.set_cons_succ]
        refine' wpAnyH_take (i := 46) (v := _) rfl (by kernel_rfl) (by kernel_rfl) (by kernel_rfl) (fun _ _ _ h => h) (Or.inl ⟨by rfl, fun u hu => ?_⟩) (by assumption) ?_
        rotate_left
        · (try dsimp only at hu)
          go_simp
          try with_reducible rfl
        try simp only [Act.put, List.getElem_toArray, List.getElem_cons_zero, List.getElem_cons_succ, List.setIfInBounds_toArray, List.set_cons_zero, List.set_cons_succ]
        refine' wpAnyH_take (i := 47) (v := _) rfl (by kernel_rfl) (by kernel_rfl) (by kernel_rfl) (fun _ _ _ h => h) (Or.inl ⟨by rfl, fun u hu => ?_⟩) (by assumption) ?_
        rotate_left
        · (try dsimp only at hu)
          go_simp
          try with_reducible rfl
        try simp only [Act.put, List.getElem_toArray, List.getElem_cons_zero, List.getElem_cons_succ, List.setIfInBounds_toArray, List.set_cons_zero, List.set_cons_succ]
        refine' wpAnyH_take (i := 48) (v := _) rfl (by kernel_rfl) (by kernel_rfl) (by kernel_rfl) (fun _ _ _ h => h) (Or.inl ⟨by rfl, fun u hu => ?_⟩) (by assumption) ?_
        rotate_left
        · (try dsimp only at hu)
          go_simp
          try with_reducible rfl
        try simp only [Act.put, List.getElem_toArray, List.getElem_cons_zero, List.getElem_cons_succ, List.setIfInBounds_toArray, List.set_cons_zero, List.set_cons_succ]
        refine' wpAnyH_take (i := 49) (v := _) rfl (by kernel_rfl) (by kernel_rfl) (by kernel_rfl) (fun _ _ _ h => h) (Or.inl ⟨by rfl, fun u hu => ?_⟩) (by assumption) ?_
        rotate_left
        · (try dsimp only at hu)
          go_simp
          try with_reducible rfl
        try simp only [Act.put, List.getElem_toArray, List.getElem_cons_zero, List.getElem_cons_succ, List.setIfInBounds_toArray, List.set_cons_zero, List.set_cons_succ]
        refine' wpAnyH_take (i := 50) (v := _) rfl (by kernel_rfl) (by kernel_rfl) (by kernel_rfl) (fun _ _ _ h => h) (Or.inl ⟨by rfl, fun u hu => ?_⟩) (by assumption) ?_
        rotate_left
        · (try dsimp only at hu)
          go_simp
          try with_reducible rfl
        try simp only [Act.put, List.getElem_toArray, List.getElem_cons_zero, List.getElem_cons_succ, List.setIfInBounds_toArray, List.set_cons_zero, List.set_cons_succ]
        refine' wpAnyH_take (i := 51) (v := _) rfl (by kernel_rfl) (by kernel_rfl) (by kernel_rfl) (fun _ _ _ h => h) (Or.inl ⟨by rfl, fun u hu => ?_⟩) (by assumption) ?_
        rotate_left
        · (try dsimp only at hu)
          go_simp
          try with_reducible rfl
        try simp only [Act.put, List.getElem_toArray, List.getElem_cons_zero, List.getElem_cons_succ, List.setIfInBounds_toArray, List.set_cons_zero, List.set_cons_succ]
        refine' wpAnyH_take (i := 52) (v := _) rfl (by kernel_rfl) (by kernel_rfl) (by kernel_rfl) (fun _ _ _ h => h) (Or.inl ⟨by rfl, fun u hu => ?_⟩) (by assumption) ?_
        rotate_left
        · (try dsimp only at hu)
          go_simp
          try with_reducible rfl
        try simp only [Act.put, List.getElem_toArray, List.getElem_cons_zero, List.getElem_cons_succ, List.setIfInBounds_toArray, List.set_cons_zero, List.set_cons_succ]
        refine' wpAnyH_take (i := 53) (v := _) rfl (by kernel_rfl) (by kernel_rfl) (by kernel_rfl) (fun _ _ _ h => h) (Or.inl ⟨by rfl, fun u hu => ?_⟩) (by assumption) ?_
        rotate_left
        · (try dsimp only at hu)
          go_simp
          try with_reducible rfl
        try simp only [Act.put, List.getElem_toArray, List.getElem_cons_zero, List.getElem_cons_succ, List.setIfInBounds_toArray, List.set_cons_zero, List.set_cons_succ]
        refine wpAnyH_done (by kernel_rfl) ?_ _
        clear hcr hcr2
        go_wp2_with fail
        go_roundw
        case rel => exact ⟨i + 1, by omega, by go_num, LAL2.out, LKA2.out, LCA2.out, BW2.out⟩
        case measure => simp [intOf]; omega
    · obtain rfl : i = ka.length := by omega
      have H2' := Lib.hid (H'.out.up BW.out)
      go_wp2_with fail
      refine (schars_any A3 al c3 wr LAL.out hl6).mono ?_
      rintro e u1 ⟨v1, rfl, o1, b1⟩
      rw [HCAL.out] at o1
      obtain ⟨A11, c11, rfl, l11, _, _⟩ := o1.form
      simp only [ints, List.length_map]
      have L11 := Lib.hid l11
      have BU1 := Lib.hid (below_then BW.out b1)
      have LAL3 := Lib.hid (LAL.out.up b1)
      have LCA3 := Lib.hid (LCA.out.up b1)
      have H3' := Lib.hid (H2'.out.up b1)
      have OB : Hid (Own (u1.alloc (.cells #[] 3)) u1.heap.size 3 (.slice (some ⟨u1.heap.size, 0, none⟩) 0 0) []) := Lib.hid (Own.ofLit #[] (Nat.le_refl _) (by simp [maxLen]))
      have BB := Lib.hid (below_alloc u1 (.cells #[] 3))
      clear o1 b1 l11
      go_wp2_with (first
        | (at_builtin; refine app_src intsT u1 (u1.alloc (.cells #[] 3)) u1.heap.size _ _ _ _ [] (ints .i64 ca) A5 _ c5 rfl rfl rfl rfl (by simp) OB.out (LCA3.out.below BB.out) (ints_one _ _) BB.out BB.out.size (by unfold maxLen; simp; omega) (by simp; omega) ?_; intro v2 u2 o2 b2 _ _; have O2 := Lib.hid o2; have B2u := Lib.hid b2; clear o2 b2)
        | fail)
      refine (schars_any A' b c' u2 (H3'.out.up B2u.out) hb').mono ?_
      rintro e u3 ⟨v3, rfl, o3, b3⟩
      rw [HB.out] at o3
      obtain ⟨A12, c12, rfl, l12, _, _⟩ := o3.form
      simp only [ints, List.length_map]
      have L12 := Lib.hid l12
      have O2b := Lib.hid (O2.out.below b3 (Nat.le_refl _))
      have B3u : Hid (Below u1.heap.size u1 u3) := Lib.hid (below_then B2u.out b3)
      clear o3 b3 l12
      go_wp2_with (first
        | (at_builtin; refine app_src intsT u1 u3 u1.heap.size _ _ _ v2 _ (ints .i64 cb) A12 _ c12 rfl rfl rfl rfl (by simp) O2b.out L12.out (ints_one _ _) B3u.out B3u.out.size (by have := HLN.out.2.2.1; unfold maxLen; simp; omega) (by have := HLN.out.2.2.1; simp; omega) ?_; intro v4 u4 o4 b4 _ _; rw [show ([] ++ ints .i64 ca) ++ ints .i64 cb = ints .i64 cal from HCB.out] at o4; obtain ⟨A13, c13, rfl, l13, _, _⟩ := o4.form; simp only [ints, List.length_map]; have L13 := Lib.hid l13; have B4u := Lib.hid b4; clear o4 b4 l13)
        | fail)
      refine (ints_ok A11 A13 cal c11 c13 u4 (L11.out.up B4u.out) L13.out hcal9).mono ?_
      rintro e u5 ⟨rfl, b5⟩
      have BU5 := Lib.hid (below_then BU1.out (below_then B4u.out b5))
      have LAL5 := Lib.hid ((LAL3.out.up B4u.out).up b5)
      clear b5
      go_wp2_with fail
      refine (srank_any A3 al c3 a.length u5 HC3.out LAL5.out hl6).mono ?_
      rintro e u6 ⟨rfl, b6⟩
      rw [HRA.out]
      have BU6 := Lib.hid (below_then BU5.out b6)
      clear b6
      go_wp2_with fail
      go_ret
      exact ⟨rfl, BU6.out⟩

set_option maxHeartbeats 1000000 in
theorem walk_long (w : World) (A : Option Addr) (a : List Int) (c : Nat) (A' : Option Addr) (b : List Int) (c' : Nat) (ha : a.length ≤ 9223372036854775807) (hb : b.length ≤ 9223372036854775807) (hh : 1000 < a.length ∨ 1000 < b.length) :
    Calls Try.prog 4 #[.slice A a.length c, .slice A' b.length c'] w fun e w' => e = .returned (.bool true) ∧ Below w.heap.size w w' := by
  by_cases h1 : 1000 < a.length
  · clear hh
    go_enter Try.func4, Try.ntmps4
    go_wp2_with fail
    refine (salive_any w).mono ?_
    rintro e w1 ⟨rfl, b1⟩
    have B1 := Lib.hid b1
    have D1 := Lib.hid b1
    clear b1
    go_wp2
    go_ret
    exact ⟨rfl, B1.out⟩
  · have h2 : 1000 < b.length := by omega
    clear hh
    go_enter Try.func4, Try.ntmps4
    go_wp2_with fail
    refine (salive_any w).mono ?_
    rintro e w1 ⟨rfl, b1⟩
    have B1 := Lib.hid b1
    have D1 := Lib.hid b1
    clear b1
    go_wp2
    go_ret
    exact ⟨rfl, B1.out⟩

theorem walk (w : World) (A : Option Addr) (a : List Int) (c : Nat) (hac : a.length ≤ c) (hm : c ≤ maxLen) (h : Lies w w.heap.size A (ints .i64 a)) (_ : ∀ n ∈ a, (Lit.int .i64 n).wf = true)
    (A' : Option Addr) (b : List Int) (c' : Nat) (_ : b.length ≤ c') (hm' : c' ≤ maxLen) (h' : Lies w w.heap.size A' (ints .i64 b)) (_ : ∀ n ∈ b, (Lit.int .i64 n).wf = true) :
    Calls Try.prog 4 #[.slice A a.length c, .slice A' b.length c'] w fun e w' => e = .returned (.bool true) ∧ Below w.heap.size w w' := by
  unfold maxLen at hm hm'
  by_cases hh : 1000 < a.length ∨ 1000 < b.length
  · exact walk_long w A a c A' b c' (by omega) (by omega) hh
  · exact walk_ok w A a c hac (by omega) h A' b c' (by omega) h'
-- WRAP
theorem spec : LawSpec Rows.stripPartsSpec 2 := ⟨rfl, fun H ds h => by
  match ds, h with
  | [d0, d1], _ => rfl⟩
theorem params_ok : ∀ t ∈ Try.f4.params.toList, Try.prog.readableRec t = true ∧ t < Try.prog.types.size := by
  rw [Try.params4]
  intro t ht
  simp only [List.mem_cons, List.mem_nil_iff, or_false] at ht
  rcases ht with rfl | rfl
  all_goals exact ⟨by kernel_rfl, of_decide_eq_true (by kernel_rfl)⟩

theorem contract (H : Type) (enc : TypeId × Value → H) (W : World) (base : Nat) (args : Array Value) (ds gs : List (DataW H)) (before : List MemPlace)
    (hval : ∀ (j : Nat) t v, Try.f4.params[j]? = some t → args[j]? = some v → Value.okWide Try.prog W .any base t v)
    (hW : DataW.Whole enc Try.prog Try.f4.params.toList Rows.stripPartsSpec.vars false W args.toList ds gs before) :
    Calls Try.prog 4 args W fun e W' => ∃ v, e = .returned v ∧ Rows.stripPartsSpec.post enc Try.prog Try.f4 false true false false W args v W' := by
  have hW' := hW
  obtain ⟨p, q, hA0, hV, rfl, hfz, hnd⟩ := hW
  have hA : DataW.TrodAll enc Try.prog W 0 (fun _ => true) true Try.f4.params.toList args.toList ds p := hA0
  rw [Try.params4] at hA hval
  obtain ⟨v0, vs0, d0, ds0, p0, q0, hargs, rfl, rfl, h0, r0⟩ := trodAll_cons hA
  obtain ⟨v1, vs1, d1, ds1, p1, q1, rfl, rfl, rfl, h1, r1⟩ := trodAll_cons r0
  obtain ⟨rfl, rfl, rfl⟩ := trodAll_nil r1
  obtain rfl : args = #[v0, v1] := by cases args; simp_all
  obtain ⟨A0, l0, c0, rfl, hc0, hm0, hl0, wf0⟩ := open_list Try.underlying22 Try.underlying3 (by kernel_rfl) (hval 0 22 v0 rfl rfl) h0
  obtain ⟨A1, l1, c1, rfl, hc1, hm1, hl1, wf1⟩ := open_list Try.underlying22 Try.underlying3 (by kernel_rfl) (hval 1 22 v1 rfl rfl) h1
  exact (walk W A0 l0 c0 hc0 hm0 hl0 wf0 A1 l1 c1 hc1 hm1 hl1 wf1).mono fun e W' ⟨he, hg⟩ => ⟨_, he, law_post spec (by rw [Try.params4]; rfl) (by kernel_rfl) params_ok (by kernel_rfl) Try.underlying4 hW' hg⟩

theorem own : ownKnob Try.prog.godebug = none := by kernel_rfl
set_option maxRecDepth 100000 in
theorem lifted (os : Os) (started : os.Started) (H : Type) (enc : TypeId × Value → H) :
    ReturnsInHanded {} Try.checked os 4 .any (Rows.stripPartsSpec.pre6 enc Try.prog Try.f4 Rows.stripPartsRow.domain false) (Rows.stripPartsSpec.post enc Try.prog Try.f4 false true false false) := by
  refine returnsInHanded_of_change (C := Try.checked) own started (by kernel_rfl) Try.func4
    (ChangeSpec.witness6 (enc := enc) (C := Try.checked) false ⟨#[], #[.slice none 0 0, .slice none 0 0], []⟩ 8 (by kernel_rfl) (by kernel_rfl) (by kernel_rfl) (by kernel_rfl)) ?_
  intro W base args ds gs before hval hW _ _
  exact contract H enc W base args ds gs before hval hW
theorem said : Rows.StripPartsSaid :=
  OpenClaim.holds_of_wide 4 Try.f4 rfl rfl rfl rfl rfl rfl rfl ⟨rfl, rfl, rfl, rfl, rfl⟩ rfl rfl rfl rfl rfl (by kernel_rfl) Try.func4 (by kernel_rfl)
    (of_decide_eq_true (by kernel_rfl)) (by unfold Func.isWrapper; first | (rw [if_pos (by decide +kernel)]; kernel_rfl) | (rw [if_neg (by decide +kernel)]; exact ⟨rfl, rfl⟩))
    (fun os started H enc _ => lifted os started H enc)
end Go.Proofs.Ytdblpcfbhhgfdaa.lawParts
