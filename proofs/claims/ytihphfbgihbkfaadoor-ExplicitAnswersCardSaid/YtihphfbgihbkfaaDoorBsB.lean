/- Layer 5's walks: First, Level, Isolate, the program's and the document's. -/
import Derived.Test.YtihphfbgihbkfaaDoorBsA
namespace Go.Proofs.YtihphfbgihbkfaaDoor
open Go.RowKit Reckon

theorem Lies.cut {w : World} {B b off : Nat} {l : List Int} (h : Lies w B (some ⟨b, off, none⟩) (ints .i64 l)) (i j : Nat) : Lies w B (some ⟨b, off + i, none⟩) (ints .i64 ((l.drop i).take j)) := by
  have := h.part i j
  simp only [ints, List.map_drop, List.map_take] at this ⊢
  simpa [add_plain] using this

theorem Lies.nums {w : World} {B : Nat} {A : Option Addr} {k : IntKind} {l : List Int} (h : Lies w B A (ints k l)) (hn : 0 < l.length) :
    ∃ p : Addr, A = some p ∧ p.block < B ∧ ∀ i (hi : i < l.length), w.cell? (p.add i) = some (.int k l[i]) := by
  obtain ⟨p, hA, hB, hc⟩ := h (by intro e; have := congrArg List.length e; simp at this; subst this; simp at hn)
  exact ⟨p, hA, hB, fun i hi => by rw [hc i (.int k l[i]) (by simp [hi])]⟩

set_option maxHeartbeats 1000000 in
theorem part_any (A : Option Addr) (l : List Int) (c : Nat) (f t : Int) (w : World) (h : Lies w w.heap.size A (ints .i64 l)) (hl : l.length ≤ 1000000) (hc : l.length ≤ c) :
    Calls Tryd.prog 56 #[.slice A l.length c, .int .i64 f, .int .i64 t] w fun e w' => ∃ A' c', e = .returned (.slice A' (partI l f t).length c') ∧ Lies w w.heap.size A' (ints .i64 (partI l f t)) ∧ w' = w := by
  obtain ⟨a, ha⟩ : ∃ a : Nat, (if f < 0 then (0 : Int) else f) = a := ⟨(max f 0).toNat, by split <;> omega⟩
  obtain ⟨m, hm⟩ : ∃ m : Int, (if (l.length : Int) < t then (l.length : Int) else t) = m := ⟨_, rfl⟩
  have hml : m ≤ l.length := by rw [← hm]; split <;> omega
  have hP : partI l f t = (l.drop a).take (m.toNat - a) := by
    have h1 : (max f 0).toNat = a := by split at ha <;> omega
    have h2 : min t l.length = m := by split at hm <;> omega
    rw [partI, h1, h2]
  rw [hP]
  clear hP
  by_cases hlt : (a : Int) < m
  · obtain ⟨n, rfl⟩ : ∃ n : Nat, m = n := ⟨m.toNat, by omega⟩
    obtain ⟨b, off, rfl, _, _⟩ := h.plainInts (by omega)
    have H := Lib.hid (h.cut a (n - a))
    have hlen : ((l.drop a).take ((n : Int).toNat - a)).length = n - a := by simp; omega
    have HLE := Lib.hid hlen
    have b1 : (a : Int) ≤ (n : Int) := by omega
    have b2 : (n : Int) ≤ (c : Int) := by omega
    have b3 : (0 : Int) ≤ (a : Int) := by omega
    have hge : decide ((a : Int) ≥ (n : Int)) = false := by simp; omega
    have hac : ¬ c = a := by omega
    clear hlen h
    go_enter Tryd.func56, Tryd.ntmps56
    go_wp2
    go_ret
    exact ⟨some ⟨b, off + a, none⟩, c - a, by rw [HLE.out]; rfl, H.out, rfl⟩
  · have hge : decide ((a : Int) ≥ m) = true := by simp; omega
    have hz : (l.drop a).take (m.toNat - a) = [] := by rw [show m.toNat - a = 0 by omega]; rfl
    rw [hz]
    clear h hz
    go_enter Tryd.func56, Tryd.ntmps56
    go_wp2
    go_ret
    exact ⟨none, ⟨0, rfl⟩, Lies.empty, rfl⟩

set_option maxHeartbeats 2000000 in
theorem first_any (A : Option Addr) (l : List Int) (c : Nat) (f t : Int) (w : World) (hT : ClsTabs w) (h : Lies w w.heap.size A (ints .i64 l)) (hl : l.length ≤ 1000000) (hc : l.length ≤ c) :
    Calls Tryd.prog 51 #[.slice A l.length c, .int .i64 f, .int .i64 t] w fun e w' => e = .returned (.int .i64 (firstP (partI l f t) 0)) ∧ Below w.heap.size w w' := by
  have H := Lib.hid h
  have HT := Lib.hid hT
  have hbig := hT.big
  have HP := Lib.hid (part_any A l c f t w h hl hc)
  have hxl : (partI l f t).length ≤ 1000000 := by simp [partI]; omega
  obtain ⟨xs, hx⟩ : ∃ xs, partI l f t = xs := ⟨_, rfl⟩
  rw [hx] at HP hxl ⊢
  obtain ⟨z, hz⟩ : ∃ z, firstP xs 0 = z := ⟨_, rfl⟩
  rw [hz]
  have HZ := Lib.hid hz
  clear h hT hx hz H
  go_enter Tryd.func51, Tryd.ntmps51
  go_wp2_with fail
  refine HP.out.mono ?_
  rintro e w1 ⟨A1, c1, rfl, l1, rfl⟩
  have L1 := Lib.hid l1
  clear l1 HP
  go_wp2
  go_loopw [7, 15] (fun ov iv wr => ∃ (k o : Nat), k ≤ xs.length ∧ ov = .int .i64 o ∧ iv = .int .i64 k ∧ o ≤ k ∧ Hid (firstP (xs.drop k) o = z) ∧ Below w1.heap.size w1 wr) (fun _ iv _ => xs.length - (intOf iv).toNat)
  case atStart => exact ⟨0, 0, by omega, rfl, rfl, by omega, HZ, Below.refl _ _⟩
  case round =>
    obtain ⟨k, o, hk, rfl, rfl, hok, HL, hb⟩ := hrel
    have HB := Lib.hid hb
    have hsz := hb.size
    clear hb
    by_cases hlt : k < xs.length
    · obtain ⟨p, rfl, hpb, hcell⟩ := (L1.out.below HB.out).int hlt
      have b0 : (0 : Int) ≤ (k : Int) := by omega
      have b1 : (k : Int) < (xs.length : Int) := by omega
      have hdrop : xs.drop k = xs[k] :: xs.drop (k + 1) := List.drop_eq_getElem_cons hlt
      obtain ⟨x, hx⟩ : ∃ x, xs[k] = x := ⟨_, rfl⟩
      rw [hx] at hcell hdrop
      have hl2 := HL.out
      rw [hdrop, firstP] at hl2
      clear hx hdrop HL
      rcases h10 : (x == 10) with _ | _
      · have n10 : ¬ x = 10 := by simpa using h10
        rw [if_neg n10] at hl2
        rcases ho : isOpens x with _ | _
        · rw [ho] at hl2
          simp only [Bool.false_eq_true, if_false] at hl2
          have HO := Lib.hid ho
          clear ho
          rcases h22 : (x == 22) with _ | _
          · have n22 : ¬ x = 22 := by simpa using h22
            rw [if_neg n22] at hl2
            have hr := side_range x
            have HS := Lib.hid (side_any x)
            obtain ⟨s, hs⟩ : ∃ s, side x = s := ⟨_, rfl⟩
            rw [hs] at hl2 hr HS
            clear hs
            rcases h0 : ((o : Int) == 0) with _ | _
            · rw [if_neg (by simp at h0; omega)] at hl2
              have HL3 := Lib.hid hl2
              clear hl2 n10 n22 hr HS
              go_wp2_with fail
              refine (opens_any x wr).mono ?_
              rintro e w4 ⟨rfl, b4⟩
              rw [HO.out]
              have B4 := Lib.hid (HB.out.trans (b4.mono hsz))
              clear b4
              go_wp2_with fail
              go_roundw
              case rel => exact ⟨k + 1, o, by omega, rfl, by go_num, by omega, HL3, B4.out⟩
              case measure => simp [intOf]; omega
            · obtain rfl : o = 0 := by simpa using h0
              rcases hr with rfl | hr
              · rw [if_neg (by omega)] at hl2
                have HL3 := Lib.hid hl2
                clear hl2 n10 n22
                go_wp2_with fail
                refine (opens_any x wr).mono ?_
                rintro e w4 ⟨rfl, b4⟩
                rw [HO.out]
                have B4 := Lib.hid (HB.out.trans (b4.mono hsz))
                clear b4
                go_wp2_with fail
                refine (HS.out w4 (HT.out.below B4.out hbig)).mono ?_
                rintro e w5 ⟨rfl, b5⟩
                have B5 := Lib.hid (B4.out.trans (b5.mono B4.out.size))
                clear b5
                go_wp2_with fail
                go_roundw
                case rel => exact ⟨k + 1, 0, by omega, rfl, by go_num, by omega, HL3, B5.out⟩
                case measure => simp [intOf]; omega
              · have hs0 : decide (s ≥ 0) = true := by rcases hr with rfl | rfl <;> decide
                rw [if_pos (by simp at hs0; omega)] at hl2
                subst hl2
                clear n10 n22 hr
                go_wp2_with fail
                refine (opens_any x wr).mono ?_
                rintro e w4 ⟨rfl, b4⟩
                rw [HO.out]
                have B4 := Lib.hid (HB.out.trans (b4.mono hsz))
                clear b4
                go_wp2_with fail
                refine (HS.out w4 (HT.out.below B4.out hbig)).mono ?_
                rintro e w5 ⟨rfl, b5⟩
                have B5 := Lib.hid (B4.out.trans (b5.mono B4.out.size))
                clear b5
                go_wp2_with fail
                refine (HS.out w5 (HT.out.below B5.out hbig)).mono ?_
                rintro e w6 ⟨rfl, b6⟩
                have B6 := Lib.hid (B5.out.trans (b6.mono B5.out.size))
                clear b6
                go_wp2_with fail
                go_ret
                exact ⟨rfl, B6.out⟩
          · have n22 : x = 22 := by simpa using h22
            rw [if_pos n22] at hl2
            have HL3 := Lib.hid hl2
            have hw : IntKind.i64.wrap ((o : Int) - 1) = (o : Int) - 1 := IntWalk.i64_in _ (by omega)
            have hm : (if (o : Int) - 1 < 0 then (0 : Int) else (o : Int) - 1) = ((o - 1 : Nat) : Int) := by split <;> omega
            clear hl2 n10 n22
            go_wp2_with fail
            refine (opens_any x wr).mono ?_
            rintro e w4 ⟨rfl, b4⟩
            rw [HO.out]
            have B4 := Lib.hid (HB.out.trans (b4.mono hsz))
            clear b4
            go_wp2_with fail
            go_roundw
            case rel => exact ⟨k + 1, o - 1, by omega, by first | rfl | go_num, by go_num, by omega, HL3, B4.out⟩
            case measure => simp [intOf]; omega
        · rw [ho, if_pos rfl] at hl2
          have HL3 := Lib.hid hl2
          have HO := Lib.hid ho
          clear hl2 n10 ho
          go_wp2_with fail
          refine (opens_any x wr).mono ?_
          rintro e w4 ⟨rfl, b4⟩
          rw [HO.out]
          have B4 := Lib.hid (HB.out.trans (b4.mono hsz))
          clear b4
          go_wp2_with fail
          go_roundw
          case rel => exact ⟨k + 1, o + 1, by omega, by go_num, by go_num, by omega, HL3, B4.out⟩
          case measure => simp [intOf]; omega
      · rw [if_pos (by simpa using h10)] at hl2
        subst hl2
        go_wp2
        go_ret
        exact ⟨rfl, HB.out⟩
    · have hl2 := HL.out
      rw [List.drop_of_length_le (by omega), firstP] at hl2
      subst hl2
      go_wp2
      go_ret
      exact ⟨rfl, HB.out⟩
end Go.Proofs.YtihphfbgihbkfaaDoor
