/- Layer 5's walks: end, Level, Isolate, the program's and the document's. -/
import Derived.Test.YtihphfbgihbkfaaDoorBsC
namespace Go.Proofs.YtihphfbgihbkfaaDoor
open Go.RowKit Reckon

theorem partI_all (l : List Int) : partI l 0 l.length = l := by
  have h1 : (max (0 : Int) 0).toNat = 0 := by decide
  have h2 : (min (l.length : Int) l.length).toNat = l.length := by omega
  rw [partI, h1, h2, List.drop_zero, Nat.sub_zero, List.take_length]

set_option maxHeartbeats 2000000 in
theorem end_any (A : Option Addr) (l : List Int) (c : Nat) (i : Nat) (w : World) (h : Lies w w.heap.size A (ints .i64 l)) (hl : l.length ≤ 1000000) (hc : l.length ≤ c) (hi : i < l.length) (h21 : l[i] = 21) :
    Calls Tryd.prog 52 #[.slice A l.length c, .int .i64 i] w fun e w' => e = .returned (.int .i64 (stopAt (l.drop (i + 1)) 1 (i + 1) : Nat)) ∧ Below w.heap.size w w' := by
  obtain ⟨z, hz⟩ : ∃ z, stopAt (l.drop (i + 1)) 1 (i + 1) = z := ⟨_, rfl⟩
  rw [hz]
  obtain ⟨b, off, rfl, _, _⟩ := h.plainInts (by omega)
  have h' := h.cut i (l.length - i)
  rw [List.take_of_length_le (by simp)] at h'
  obtain ⟨xs, hx⟩ : ∃ xs, l.drop i = xs := ⟨_, rfl⟩
  have hxl : l.length - i = xs.length := by rw [← hx]; simp
  have hdr : ∀ k, l.drop (i + k) = xs.drop k := fun k => by rw [← hx, List.drop_drop]
  rw [hdr 1] at hz
  rw [hx] at h'
  have hx0 : xs[0]? = some 21 := by rw [← hx, List.getElem?_drop, Nat.add_zero, List.getElem?_eq_getElem hi, h21]
  have H := Lib.hid h'
  have HZ := Lib.hid hz
  have HX := Lib.hid hx0
  have HT := Lib.hid hxl
  have b1 : (i : Int) ≤ (l.length : Int) := by omega
  have b3 : (0 : Int) ≤ (i : Int) := by omega
  have b4 : (l.length : Int) ≤ (c : Int) := by omega
  have hac : ¬ c = i := by omega
  have hxs : xs.length ≤ 1000000 := by omega
  clear h h' hdr hz hx hx0 h21
  go_enter Tryd.func52, Tryd.ntmps52
  go_wp2
  clear hxl
  go_loopw [5, 12] (fun ov iv wr => ∃ (k o : Nat), k ≤ xs.length ∧ ov = .int .i64 o ∧ iv = .int .i64 k ∧ o ≤ k ∧ Hid ((k = 0 ∧ o = 0) ∨ (1 ≤ k ∧ 1 ≤ o ∧ stopAt (xs.drop k) o (i + k) = z)) ∧ Below w.heap.size w wr) (fun _ iv _ => xs.length - (intOf iv).toNat)
  case atStart => exact ⟨0, 0, by omega, rfl, rfl, by omega, Lib.hid (.inl ⟨rfl, rfl⟩), Below.refl _ _⟩
  case round =>
    obtain ⟨k, o, hk, rfl, rfl, hok, HL, hb⟩ := hrel
    have HB := Lib.hid hb
    clear hb
    by_cases hlt : k < xs.length
    · obtain ⟨b', off', hA, hpb, hall⟩ := (H.out.below HB.out).plainInts (by omega)
      obtain ⟨rfl, rfl⟩ : b = b' ∧ off + i = off' := by simpa using hA
      have hcell := hall k hlt
      clear hall
      have b0 : (0 : Int) ≤ (k : Int) := by omega
      have b1 : (k : Int) < (xs.length : Int) := by omega
      have hdrop : xs.drop k = xs[k] :: xs.drop (k + 1) := List.drop_eq_getElem_cons hlt
      obtain ⟨x, hx⟩ : ∃ x, xs[k] = x := ⟨_, rfl⟩
      have hwi : IntKind.i64.wrap ((i : Int) + k) = ((i + k : Nat) : Int) := by rw [IntWalk.i64_in _ (by omega)]; omega
      rw [hx] at hcell hdrop
      have hl2 := HL.out
      rcases hl2 with ⟨rfl, rfl⟩ | ⟨hk1, ho1, hl2⟩
      · have : x = 21 := by
          have := HX.out
          rw [List.getElem?_eq_getElem hlt, hx] at this
          injection this
        subst this
        rw [Nat.add_zero] at hcell
        have HO : Hid (isOpens 21 = true) := Lib.hid (by decide)
        have h10 : ((21 : Int) == 10) = false := by decide
        clear hx hdrop hA
        go_wp2_with fail
        refine (opens_any 21 wr).mono ?_
        rintro e w1 ⟨rfl, b1⟩
        rw [HO.out]
        have B1 := Lib.hid (HB.out.trans (b1.mono HB.out.size))
        have D1 := Lib.hid b1
        clear b1
        go_wp2_with fail
        go_roundw
        case rel => exact ⟨1, 1, by omega, by go_num, by go_num, by omega, Lib.hid (.inr ⟨by omega, by omega, HZ.out⟩), B1.out⟩
        case measure => simp [intOf]; omega
      · rw [hdrop, stopAt] at hl2
        clear hx hdrop HL hA
        rcases h10 : (x == 10) with _ | _
        · have n10 : ¬ x = 10 := by simpa using h10
          rw [if_neg n10] at hl2
          rcases ho : isOpens x with _ | _
          · rw [ho] at hl2
            simp only [Bool.false_eq_true, if_false] at hl2
            have HO := Lib.hid ho
            clear ho
            rcases h22 : (x == 22) with _ | _
            · rw [if_neg (by simpa using h22)] at hl2
              have HL3 := Lib.hid hl2
              clear hl2 n10
              go_wp2_with fail
              refine (opens_any x wr).mono ?_
              rintro e w1 ⟨rfl, b1⟩
              rw [HO.out]
              have B1 := Lib.hid (HB.out.trans (b1.mono HB.out.size))
              have D1 := Lib.hid b1
              clear b1
              go_wp2_with fail
              go_roundw
              case rel => exact ⟨k + 1, o, by omega, rfl, by go_num, by omega, Lib.hid (.inr ⟨by omega, ho1, HL3.out⟩), B1.out⟩
              case measure => simp [intOf]; omega
            · rw [if_pos (by simpa using h22)] at hl2
              have hz1 : IntKind.i64.wrap ((o : Int) - 1) = ((o - 1 : Nat) : Int) := by rw [IntWalk.i64_in _ (by omega)]; omega
              by_cases hd1 : o ≤ 1
              · rw [if_pos hd1] at hl2
                obtain rfl : o = 1 := by omega
                subst hl2
                clear n10
                go_wp2_with fail
                refine (opens_any x wr).mono ?_
                rintro e w1 ⟨rfl, b1⟩
                rw [HO.out]
                have B1 := Lib.hid (HB.out.trans (b1.mono HB.out.size))
                have D1 := Lib.hid b1
                clear b1
                go_wp2_with fail
                go_ret
                exact ⟨rfl, B1.out⟩
              · rw [if_neg hd1] at hl2
                have hz0 : (((o - 1 : Nat) : Int) == 0) = false := by simp; omega
                have HL3 := Lib.hid hl2
                clear hl2 n10
                go_wp2_with fail
                refine (opens_any x wr).mono ?_
                rintro e w1 ⟨rfl, b1⟩
                rw [HO.out]
                have B1 := Lib.hid (HB.out.trans (b1.mono HB.out.size))
                have D1 := Lib.hid b1
                clear b1
                go_wp2_with fail
                go_roundw
                case rel => exact ⟨k + 1, o - 1, by omega, by first | rfl | go_num, by go_num, by omega, Lib.hid (.inr ⟨by omega, by omega, HL3.out⟩), B1.out⟩
                case measure => simp [intOf]; omega
          · rw [ho, if_pos rfl] at hl2
            have HO := Lib.hid ho
            have HL3 := Lib.hid hl2
            clear hl2 n10 ho
            go_wp2_with fail
            refine (opens_any x wr).mono ?_
            rintro e w1 ⟨rfl, b1⟩
            rw [HO.out]
            have B1 := Lib.hid (HB.out.trans (b1.mono HB.out.size))
            have D1 := Lib.hid b1
            clear b1
            go_wp2_with fail
            go_roundw
            case rel => exact ⟨k + 1, o + 1, by omega, by go_num, by go_num, by omega, Lib.hid (.inr ⟨by omega, by omega, HL3.out⟩), B1.out⟩
            case measure => simp [intOf]; omega
        · rw [if_pos (by simpa using h10)] at hl2
          subst hl2
          go_wp2_with fail
          go_ret
          exact ⟨rfl, HB.out⟩
    · rcases HL.out with ⟨rfl, _⟩ | ⟨_, _, hl2⟩
      · have := HX.out
        rw [List.getElem?_eq_none (by omega)] at this
        cases this
      · rw [List.drop_of_length_le (by omega), stopAt] at hl2
        go_wp2
        go_ret
        refine ⟨ret_int ?_, HB.out⟩
        have := HT.out
        omega

set_option maxHeartbeats 1000000 in
theorem isolate_any (A : Option Addr) (l : List Int) (c : Nat) (i : Int) (w : World) (hT : ClsTabs w) (h : Lies w w.heap.size A (ints .i64 l)) (hl : l.length ≤ 1000000) (hc : l.length ≤ c) :
    Calls Tryd.prog 43 #[.slice A l.length c, .int .i64 i] w fun e w' => e = .returned (.int .i64 (isolate l i)) ∧ Below w.heap.size w w' := by
  have H := Lib.hid h
  have HT := Lib.hid hT
  have hbig := hT.big
  obtain ⟨z, hz⟩ : ∃ z, isolate l i = z := ⟨_, rfl⟩
  rw [hz]
  rw [isolate] at hz
  clear h hT
  rcases h0 : decide (i < 0) with _ | _
  · obtain ⟨n, rfl⟩ : ∃ n : Nat, i = n := ⟨i.toNat, by simp at h0; omega⟩
    by_cases hn : n < l.length
    · have hge : decide ((n : Int) ≥ (l.length : Int)) = false := by simp; omega
      rw [if_neg (by omega), Int.toNat_natCast] at hz
      obtain ⟨p, rfl, _, hcell⟩ := H.out.int hn
      have b0 : (0 : Int) ≤ (n : Int) := by omega
      have b1 : (n : Int) < (l.length : Int) := by omega
      have hx' := at0_eq hn
      obtain ⟨x, hx⟩ : ∃ x, l[n] = x := ⟨_, rfl⟩
      rw [hx] at hcell hx'
      rw [hx'] at hz
      have HX := Lib.hid hx
      clear hx hx'
      rcases h19 : (x == 19) with _ | _
      · rw [if_neg (by simpa using h19)] at hz
        rcases h20 : (x == 20) with _ | _
        · rw [if_neg (by simpa using h20)] at hz
          rcases h21 : (x == 21) with _ | _
          · rw [if_neg (by simpa using h21)] at hz
            subst hz
            go_enter Tryd.func43, Tryd.ntmps43
            go_wp2_with fail
            go_ret
            exact ⟨rfl, Below.refl _ _⟩
          · rw [if_pos (by simpa using h21)] at hz
            have hse := stopAt_ge (l.drop (n + 1)) 1 (n + 1)
            have HE := Lib.hid (end_any (some p) l c n w H.out hl hc hn (by rw [HX.out]; simpa using h21))
            obtain ⟨s, hs⟩ : ∃ s, stopAt (l.drop (n + 1)) 1 (n + 1) = s := ⟨_, rfl⟩
            rw [hs] at hz HE hse
            have hpart : partI l ((n : Int) + 1) s = (l.drop (n + 1)).take (s - (n + 1)) := by
              rw [partI, show (max ((n : Int) + 1) 0).toNat = n + 1 by omega, show (min (s : Int) l.length).toNat = s by simp at hse; omega]
            obtain ⟨r, hr⟩ : ∃ r, firstP ((l.drop (n + 1)).take (s - (n + 1))) 0 = r := ⟨_, rfl⟩
            rw [hr] at hz
            have hm : (if r < 0 then (0 : Int) else r) = z := by rw [← hz]; split <;> omega
            have HPR : Hid (firstP (partI l ((n : Int) + 1) s) 0 = r) := Lib.hid (by rw [hpart, hr])
            clear hz hs hr hpart hse
            go_enter Tryd.func43, Tryd.ntmps43
            go_wp2_with fail
            refine (HE.out).mono ?_
            rintro e w1 ⟨rfl, b1⟩
            have B1 := Lib.hid b1
            have D1 := Lib.hid b1
            clear b1
            go_wp2_with fail
            refine (first_any (some p) l c ((n : Int) + 1) s w1 (HT.out.below B1.out hbig) (H.out.up B1.out) hl hc).mono ?_
            rintro e w2 ⟨rfl, b2⟩
            rw [HPR.out]
            have B2 := Lib.hid (below_then B1.out b2)
            have D2 := Lib.hid b2
            clear b2
            go_wp2_with fail
            go_ret
            exact ⟨rfl, B2.out⟩
        · rw [if_pos (by simpa using h20)] at hz
          subst hz
          go_enter Tryd.func43, Tryd.ntmps43
          go_wp2_with fail
          go_ret
          exact ⟨rfl, Below.refl _ _⟩
      · rw [if_pos (by simpa using h19)] at hz
        subst hz
        go_enter Tryd.func43, Tryd.ntmps43
        go_wp2_with fail
        go_ret
        exact ⟨rfl, Below.refl _ _⟩
    · have hge : decide ((n : Int) ≥ (l.length : Int)) = true := by simp; omega
      rw [if_pos (by omega)] at hz
      subst hz
      go_enter Tryd.func43, Tryd.ntmps43
      go_wp2_with fail
      go_ret
      exact ⟨rfl, Below.refl _ _⟩
  · rw [if_pos (by simp at h0; omega)] at hz
    subst hz
    go_enter Tryd.func43, Tryd.ntmps43
    go_wp2_with fail
    go_ret
    exact ⟨rfl, Below.refl _ _⟩

set_option maxHeartbeats 1000000 in
theorem risolate_any (A : Option Addr) (l : List Int) (c : Nat) (i : Int) (w : World) (h : Lies w w.heap.size A (ints .i64 l)) (hl : l.length ≤ 1000000) :
    Calls Tryd.prog 48 #[.slice A l.length c, .int .i64 i] w fun e w' => e = .returned (.int .i64 (isolate l i)) ∧ Below w.heap.size w w' := by
  have H := Lib.hid h
  obtain ⟨z, hz⟩ : ∃ z, isolate l i = z := ⟨_, rfl⟩
  rw [hz]
  rw [isolate] at hz
  clear h
  rcases h0 : decide (i < 0) with _ | _
  · obtain ⟨n, rfl⟩ : ∃ n : Nat, i = n := ⟨i.toNat, by simp at h0; omega⟩
    by_cases hn : n < l.length
    · have hge : decide ((n : Int) ≥ (l.length : Int)) = false := by simp; omega
      rw [if_neg (by omega), Int.toNat_natCast, isolate_end] at hz
      obtain ⟨p, rfl, _, hcell⟩ := H.out.int hn
      have b0 : (0 : Int) ≤ (n : Int) := by omega
      have b1 : (n : Int) < (l.length : Int) := by omega
      have hx' := at0_eq hn
      obtain ⟨x, hx⟩ : ∃ x, l[n] = x := ⟨_, rfl⟩
      rw [hx] at hcell hx'
      rw [hx'] at hz
      clear hx hx'
      rcases h19 : (x == 19) with _ | _
      · rw [if_neg (by simpa using h19)] at hz
        rcases h20 : (x == 20) with _ | _
        · rw [if_neg (by simpa using h20)] at hz
          rcases h21 : (x == 21) with _ | _
          · rw [if_neg (by simpa using h21)] at hz
            subst hz
            go_enter Tryd.func48, Tryd.ntmps48
            go_wp2_with fail
            go_ret
            exact ⟨rfl, Below.refl _ _⟩
          · rw [if_pos (by simpa using h21)] at hz
            have HE := Lib.hid (rend_any (some p) l c n w H.out hl hn)
            have hj := first_jump l n 0
            obtain ⟨s, hs⟩ : ∃ s, endOf l n = s := ⟨_, rfl⟩
            rw [hs] at hz HE hj
            obtain ⟨t, ht⟩ : ∃ t : Nat, (if 0 ≤ s then s.toNat else l.length) = t := ⟨_, rfl⟩
            rw [ht] at hz
            have htl : t ≤ l.length := by
              rcases hj with ⟨hj, _⟩ | ⟨e, he, _, he2, _⟩
              · rw [← ht, if_neg (by omega)]; omega
              · rw [← ht, if_pos (by omega)]; omega
            have hpart : partI l ((n : Int) + 1) t = (l.drop (n + 1)).take (t - (n + 1)) := by
              rw [partI, show (max ((n : Int) + 1) 0).toNat = n + 1 by omega, show (min (t : Int) l.length).toNat = t by omega]
            obtain ⟨r, hr⟩ : ∃ r, firstP ((l.drop (n + 1)).take (t - (n + 1))) 0 = r := ⟨_, rfl⟩
            rw [hr] at hz
            have hm : (if 0 < r then r else (0 : Int)) = z := by rw [← hz]; split <;> omega
            have HPR : Hid (firstP (partI l ((n : Int) + 1) t) 0 = r) := Lib.hid (by rw [hpart, hr])
            clear hz hs hr hpart hj
            rcases hs0 : decide (s < 0) with _ | _
            · rw [if_pos (by simpa using hs0)] at ht
              obtain ⟨m, rfl⟩ : ∃ m : Nat, s = m := ⟨s.toNat, by simp at hs0; omega⟩
              obtain rfl : m = t := by simpa using ht
              clear ht
              go_enter Tryd.func48, Tryd.ntmps48
              go_wp2_with fail
              refine (HE.out).mono ?_
              rintro e w1 ⟨rfl, b1⟩
              have B1 := Lib.hid b1
              have D1 := Lib.hid b1
              clear b1
              go_wp2_with fail
              refine (rfirst_any (some p) l c ((n : Int) + 1) m w1 (H.out.up B1.out) hl).mono ?_
              rintro e w2 ⟨rfl, b2⟩
              rw [HPR.out]
              have B2 := Lib.hid (below_then B1.out b2)
              have D2 := Lib.hid b2
              clear b2
              go_wp2_with fail
              go_ret
              exact ⟨rfl, B2.out⟩
            · rw [if_neg (by simpa using hs0)] at ht
              subst ht
              go_enter Tryd.func48, Tryd.ntmps48
              go_wp2_with fail
              refine (HE.out).mono ?_
              rintro e w1 ⟨rfl, b1⟩
              have B1 := Lib.hid b1
              have D1 := Lib.hid b1
              clear b1
              go_wp2_with fail
              refine (rfirst_any (some p) l c ((n : Int) + 1) l.length w1 (H.out.up B1.out) hl).mono ?_
              rintro e w2 ⟨rfl, b2⟩
              rw [HPR.out]
              have B2 := Lib.hid (below_then B1.out b2)
              have D2 := Lib.hid b2
              clear b2
              go_wp2_with fail
              go_ret
              exact ⟨rfl, B2.out⟩
        · rw [if_pos (by simpa using h20)] at hz
          subst hz
          go_enter Tryd.func48, Tryd.ntmps48
          go_wp2_with fail
          go_ret
          exact ⟨rfl, Below.refl _ _⟩
      · rw [if_pos (by simpa using h19)] at hz
        subst hz
        go_enter Tryd.func48, Tryd.ntmps48
        go_wp2_with fail
        go_ret
        exact ⟨rfl, Below.refl _ _⟩
    · have hge : decide ((n : Int) ≥ (l.length : Int)) = true := by simp; omega
      rw [if_pos (by omega)] at hz
      subst hz
      go_enter Tryd.func48, Tryd.ntmps48
      go_wp2_with fail
      go_ret
      exact ⟨rfl, Below.refl _ _⟩
  · rw [if_pos (by simp at h0; omega)] at hz
    subst hz
    go_enter Tryd.func48, Tryd.ntmps48
    go_wp2_with fail
    go_ret
    exact ⟨rfl, Below.refl _ _⟩
end Go.Proofs.YtihphfbgihbkfaaDoor
