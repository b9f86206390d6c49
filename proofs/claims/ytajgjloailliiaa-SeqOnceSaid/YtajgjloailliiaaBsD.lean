/- Layer 5's walks: end, Level, Isolate, the program's and the document's. -/
import Derived.Test.YtajgjloailliiaaBsC
namespace Go.Proofs.Ytajgjloailliiaa
open Go.RowKit Reckon

theorem partI_all (l : List Int) : partI l 0 l.length = l := by
  have h1 : (max (0 : Int) 0).toNat = 0 := by decide
  have h2 : (min (l.length : Int) l.length).toNat = l.length := by omega
  rw [partI, h1, h2, List.drop_zero, Nat.sub_zero, List.take_length]

set_option maxHeartbeats 1000000 in
theorem risolate_any (A : Option Addr) (l : List Int) (c : Nat) (i : Int) (w : World) (h : Lies w w.heap.size A (ints .i64 l)) (hl : l.length ≤ 1000000) :
    Calls Try.prog 50 #[.slice A l.length c, .int .i64 i] w fun e w' => e = .returned (.int .i64 (isolate l i)) ∧ Below w.heap.size w w' := by
  have H := Lib.hid h
  obtain ⟨z, hz⟩ : ∃ z, isolate l i = z := ⟨_, rfl⟩
  rw [hz]
  rw [isolate] at hz
  clear h
  rcases h0 : decide (i < 0) with _ | _
  · obtain ⟨n, rfl⟩ : ∃ n : Nat, i = n := ⟨i.toNat, by simp at h0; omega⟩
    by_cases hn : n < l.length
    · have hge : decide ((n : Int) ≥ (l.length : Int)) = false := by simp; omega
      rw [if_neg (by omega), Int.toNat_natCast, isolate_end] at hz
      obtain ⟨p, rfl, _, hcell⟩ := H.out.int hn
      have b0 : (0 : Int) ≤ (n : Int) := by omega
      have b1 : (n : Int) < (l.length : Int) := by omega
      have hx' := at0_eq hn
      obtain ⟨x, hx⟩ : ∃ x, l[n] = x := ⟨_, rfl⟩
      rw [hx] at hcell hx'
      rw [hx'] at hz
      clear hx hx'
      rcases h19 : (x == 19) with _ | _
      · rw [if_neg (by simpa using h19)] at hz
        rcases h20 : (x == 20) with _ | _
        · rw [if_neg (by simpa using h20)] at hz
          rcases h21 : (x == 21) with _ | _
          · rw [if_neg (by simpa using h21)] at hz
            subst hz
            go_enter Try.func50, Try.ntmps50
            go_wp2_with fail
            go_ret
            exact ⟨rfl, Below.refl _ _⟩
          · rw [if_pos (by simpa using h21)] at hz
            have HE := Lib.hid (rend_any (some p) l c n w H.out hl hn)
            have hj := first_jump l n 0
            obtain ⟨s, hs⟩ : ∃ s, endOf l n = s := ⟨_, rfl⟩
            rw [hs] at hz HE hj
            obtain ⟨t, ht⟩ : ∃ t : Nat, (if 0 ≤ s then s.toNat else l.length) = t := ⟨_, rfl⟩
            rw [ht] at hz
            have htl : t ≤ l.length := by
              rcases hj with ⟨hj, _⟩ | ⟨e, he, _, he2, _⟩
              · rw [← ht, if_neg (by omega)]; omega
              · rw [← ht, if_pos (by omega)]; omega
            have hpart : partI l ((n : Int) + 1) t = (l.drop (n + 1)).take (t - (n + 1)) := by
              rw [partI, show (max ((n : Int) + 1) 0).toNat = n + 1 by omega, show (min (t : Int) l.length).toNat = t by omega]
            obtain ⟨r, hr⟩ : ∃ r, firstP ((l.drop (n + 1)).take (t - (n + 1))) 0 = r := ⟨_, rfl⟩
            rw [hr] at hz
            have hm : (if 0 < r then r else (0 : Int)) = z := by rw [← hz]; split <;> omega
            have HPR : Hid (firstP (partI l ((n : Int) + 1) t) 0 = r) := Lib.hid (by rw [hpart, hr])
            clear hz hs hr hpart hj
            rcases hs0 : decide (s < 0) with _ | _
            · rw [if_pos (by simpa using hs0)] at ht
              obtain ⟨m, rfl⟩ : ∃ m : Nat, s = m := ⟨s.toNat, by simp at hs0; omega⟩
              obtain rfl : m = t := by simpa using ht
              clear ht
              go_enter Try.func50, Try.ntmps50
              go_wp2_with fail
              refine (HE.out).mono ?_
              rintro e w1 ⟨rfl, b1⟩
              have B1 := Lib.hid b1
              have D1 := Lib.hid b1
              clear b1
              go_wp2_with fail
              refine (rfirst_any (some p) l c ((n : Int) + 1) m w1 (H.out.up B1.out) hl).mono ?_
              rintro e w2 ⟨rfl, b2⟩
              rw [HPR.out]
              have B2 := Lib.hid (below_then B1.out b2)
              have D2 := Lib.hid b2
              clear b2
              go_wp2_with fail
              go_ret
              exact ⟨rfl, B2.out⟩
            · rw [if_neg (by simpa using hs0)] at ht
              subst ht
              go_enter Try.func50, Try.ntmps50
              go_wp2_with fail
              refine (HE.out).mono ?_
              rintro e w1 ⟨rfl, b1⟩
              have B1 := Lib.hid b1
              have D1 := Lib.hid b1
              clear b1
              go_wp2_with fail
              refine (rfirst_any (some p) l c ((n : Int) + 1) l.length w1 (H.out.up B1.out) hl).mono ?_
              rintro e w2 ⟨rfl, b2⟩
              rw [HPR.out]
              have B2 := Lib.hid (below_then B1.out b2)
              have D2 := Lib.hid b2
              clear b2
              go_wp2_with fail
              go_ret
              exact ⟨rfl, B2.out⟩
        · rw [if_pos (by simpa using h20)] at hz
          subst hz
          go_enter Try.func50, Try.ntmps50
          go_wp2_with fail
          go_ret
          exact ⟨rfl, Below.refl _ _⟩
      · rw [if_pos (by simpa using h19)] at hz
        subst hz
        go_enter Try.func50, Try.ntmps50
        go_wp2_with fail
        go_ret
        exact ⟨rfl, Below.refl _ _⟩
    · have hge : decide ((n : Int) ≥ (l.length : Int)) = true := by simp; omega
      rw [if_pos (by omega)] at hz
      subst hz
      go_enter Try.func50, Try.ntmps50
      go_wp2_with fail
      go_ret
      exact ⟨rfl, Below.refl _ _⟩
  · rw [if_pos (by simp at h0; omega)] at hz
    subst hz
    go_enter Try.func50, Try.ntmps50
    go_wp2_with fail
    go_ret
    exact ⟨rfl, Below.refl _ _⟩
end Go.Proofs.Ytajgjloailliiaa
