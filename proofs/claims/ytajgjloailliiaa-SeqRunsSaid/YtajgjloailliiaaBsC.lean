/- Layer 5's walks: the document's First; Level, Isolate. -/
import Derived.Test.YtajgjloailliiaaBsB
namespace Go.Proofs.Ytajgjloailliiaa
open Go.RowKit Reckon

theorem first_jump (l : List Int) (k m : Nat) : (endOf l k = -1 ∧ firstP ((l.drop (k + 1)).take m) 1 = -1) ∨
    ∃ e : Nat, endOf l k = e ∧ k < e ∧ e < l.length ∧ firstP ((l.drop (k + 1)).take m) 1 = if e < k + 1 + m then firstP ((l.drop (e + 1)).take (k + 1 + m - (e + 1))) 0 else -1 := by
  have h := firstP_jump (l.drop (k + 1)) 1 (k + 1) m (by omega)
  unfold endOf
  cases hl : look (l.drop (k + 1)) 1 (k + 1) with
  | run d => rw [hl] at h; exact .inl ⟨rfl, h⟩
  | done r =>
    rw [hl] at h
    cases r with
    | none => exact .inl ⟨rfl, h⟩
    | some e =>
      obtain ⟨h1, h2, h3⟩ := h
      have h4 : e < l.length := by simp at h2; omega
      refine .inr ⟨e, rfl, by omega, h4, ?_⟩
      rw [h3, List.drop_drop, show k + 1 + (e + 1 - (k + 1)) = e + 1 by omega, show m - (e + 1 - (k + 1)) = k + 1 + m - (e + 1) by omega]

set_option maxHeartbeats 2000000 in
theorem rfirst_any (A : Option Addr) (l : List Int) (c : Nat) (f t : Int) (w : World) (h : Lies w w.heap.size A (ints .i64 l)) (hl : l.length ≤ 1000000) :
    Calls Try.prog 53 #[.slice A l.length c, .int .i64 f, .int .i64 t] w fun e w' => e = .returned (.int .i64 (firstP (partI l f t) 0)) ∧ Below w.heap.size w w' := by
  obtain ⟨a, ha⟩ : ∃ a : Nat, (if 0 < f then f else (0 : Int)) = a := ⟨(max f 0).toNat, by split <;> omega⟩
  obtain ⟨m, hm⟩ : ∃ m : Int, (if (l.length : Int) < t then (l.length : Int) else t) = m := ⟨_, rfl⟩
  have hml : m ≤ l.length := by rw [← hm]; split <;> omega
  have hmt : ∀ e : Nat, e < l.length → (e < m.toNat ↔ (e : Int) < t) := fun e he => by split at hm <;> omega
  have hP : partI l f t = (l.drop a).take (m.toNat - a) := by
    have h1 : (max f 0).toNat = a := by split at ha <;> omega
    have h2 : min t l.length = m := by split at hm <;> omega
    rw [partI, h1, h2]
  rw [hP]
  obtain ⟨z, hz⟩ : ∃ z, firstP ((l.drop a).take (m.toNat - a)) 0 = z := ⟨_, rfl⟩
  rw [hz]
  have HZ := Lib.hid hz
  have HMT := Lib.hid hmt
  have H := Lib.hid h
  clear hP hz h hmt
  go_enter Try.func53, Try.ntmps53
  go_wp2
  go_loopw [7] (fun iv wr => ∃ k : Nat, iv = .int .i64 k ∧ Hid (firstP ((l.drop k).take (m.toNat - k)) 0 = z) ∧ Below w.heap.size w wr) (fun iv _ => m.toNat - (intOf iv).toNat)
  case atStart => exact ⟨a, rfl, HZ, Below.refl _ _⟩
  case round =>
    obtain ⟨k, rfl, HL, hb⟩ := hrel
    have HB := Lib.hid hb
    clear hb
    by_cases hlt : (k : Int) < m
    · have hkl : k < l.length := by omega
      have hkm : k < m.toNat := by omega
      obtain ⟨p, rfl, hpb, hcell⟩ := (H.out.below HB.out).int hkl
      have b0 : (0 : Int) ≤ (k : Int) := by omega
      have b1 : (k : Int) < (l.length : Int) := by omega
      have hdrop : (l.drop k).take (m.toNat - k) = l[k] :: (l.drop (k + 1)).take (m.toNat - (k + 1)) := by
        rw [List.drop_eq_getElem_cons hkl, show m.toNat - k = (m.toNat - (k + 1)) + 1 by omega, List.take_succ_cons]
      obtain ⟨x, hx⟩ : ∃ x, l[k] = x := ⟨_, rfl⟩
      rw [hx] at hcell hdrop
      have hl2 := HL.out
      rw [hdrop, firstP] at hl2
      clear hx hdrop HL
      rcases h10 : (x == 10) with _ | _
      · have n10 : ¬ x = 10 := by simpa using h10
        rw [if_neg n10] at hl2
        rcases ho : isOpens x with _ | _
        · rw [ho] at hl2
          simp only [Bool.false_eq_true, if_false] at hl2
          have HO := Lib.hid ho
          clear ho
          rcases h22 : (x == 22) with _ | _
          · have n22 : ¬ x = 22 := by simpa using h22
            rw [if_neg n22] at hl2
            clear n10 n22
            rcases h1 : (x == 1) with _ | _
            · rcases h2 : (x == 2) with _ | _
              · rcases h0 : (x == 0) with _ | _
                · have hw := wordOf_isEmpty x
                  by_cases hw0 : x < 0 ∨ 22 < x
                  · rw [decide_eq_true hw0] at hw
                    have hs : side x = 0 := by rw [side, if_pos (by omega)]
                    rw [hs, if_pos (by simp)] at hl2
                    subst hl2
                    clear hw0 hs
                    go_wp2_with fail
                    refine (ropens_any x _).mono ?_
                    rintro e wq ⟨rfl, rfl⟩
                    rw [HO.out]
                    go_wp2_with fail
                    refine (rword_any x wr).mono ?_
                    rintro e w1 ⟨rfl, b1⟩
                    have B1 := Lib.hid (HB.out.trans (b1.mono HB.out.size))
                    have D1 := Lib.hid b1
                    clear b1
                    go_wp2_with fail
                    go_ret
                    exact ⟨rfl, B1.out⟩
                  · rw [decide_eq_false hw0] at hw
                    have hs : side x = -1 := by
                      simp at h0 h1 h2
                      rw [side, if_neg (by omega), if_neg (by omega)]
                    rw [hs, if_neg (fun h => absurd h.2 (by decide))] at hl2
                    have HL3 := Lib.hid hl2
                    clear hl2 hw0 hs
                    go_wp2_with fail
                    refine (ropens_any x _).mono ?_
                    rintro e wq ⟨rfl, rfl⟩
                    rw [HO.out]
                    go_wp2_with fail
                    refine (rword_any x wr).mono ?_
                    rintro e w1 ⟨rfl, b1⟩
                    have B1 := Lib.hid (HB.out.trans (b1.mono HB.out.size))
                    have D1 := Lib.hid b1
                    clear b1
                    go_wp2_with fail
                    go_roundw
                    case rel => exact ⟨k + 1, by go_num, HL3, B1.out⟩
                    case measure => simp [intOf]; omega
                · have hs : side x = 0 := by simp at h0; rw [side, if_pos (by omega)]
                  rw [hs, if_pos (by simp)] at hl2
                  subst hl2
                  clear hs
                  go_wp2_with fail
                  refine (ropens_any x _).mono ?_
                  rintro e wq ⟨rfl, rfl⟩
                  rw [HO.out]
                  go_wp2_with fail
                  go_ret
                  exact ⟨rfl, HB.out⟩
              · have hs : side x = 1 := by simp at h2; subst h2; decide
                have h0 : (x == 0) = false := by simp at h2; subst h2; decide
                rw [hs, if_pos (by simp)] at hl2
                subst hl2
                clear hs
                go_wp2_with fail
                refine (ropens_any x _).mono ?_
                rintro e wq ⟨rfl, rfl⟩
                rw [HO.out]
                go_wp2_with fail
                go_ret
                exact ⟨rfl, HB.out⟩
            · have hs : side x = 1 := by simp at h1; subst h1; decide
              rw [hs, if_pos (by simp)] at hl2
              subst hl2
              clear hs
              go_wp2_with fail
              refine (ropens_any x _).mono ?_
              rintro e wq ⟨rfl, rfl⟩
              rw [HO.out]
              go_wp2_with fail
              go_ret
              exact ⟨rfl, HB.out⟩
          · have n22 : x = 22 := by simpa using h22
            subst n22
            have h1 : ((22 : Int) == 1) = false := by decide
            have h2 : ((22 : Int) == 2) = false := by decide
            have h0 : ((22 : Int) == 0) = false := by decide
            have hw : (wordOf 22).toList.isEmpty = false := by decide +kernel
            rw [if_pos rfl] at hl2
            have HL3 := Lib.hid hl2
            clear hl2 n10 h10 h22
            go_wp2_with fail
            refine (ropens_any 22 _).mono ?_
            rintro e wq ⟨rfl, rfl⟩
            rw [HO.out]
            go_wp2_with fail
            refine (rword_any 22 wr).mono ?_
            rintro e w1 ⟨rfl, b1⟩
            have B1 := Lib.hid (HB.out.trans (b1.mono HB.out.size))
            have D1 := Lib.hid b1
            clear b1
            go_wp2_with fail
            go_roundw
            case rel => exact ⟨k + 1, by go_num, HL3, B1.out⟩
            case measure => simp [intOf]; omega
        · rw [ho, if_pos rfl] at hl2
          have HO := Lib.hid ho
          clear n10 ho
          have hj := first_jump l k (m.toNat - (k + 1))
          simp only [Nat.zero_add] at hl2
          rw [hl2] at hj
          obtain ⟨ee, hee⟩ : ∃ ee, endOf l k = ee := ⟨_, rfl⟩
          have HR := Lib.hid (rend_any (some p) l c k wr (H.out.below HB.out |>.wider HB.out.size) hl hkl)
          rw [hee] at HR hj
          clear hee hl2
          rcases hj with ⟨rfl, rfl⟩ | ⟨e, rfl, he1, he2, hj⟩
          · go_wp2_with fail
            refine (ropens_any x _).mono ?_
            rintro e wq ⟨rfl, rfl⟩
            rw [HO.out]
            go_wp2_with fail
            refine (HR.out).mono ?_
            rintro e w1 ⟨rfl, b1⟩
            have B1 := Lib.hid (HB.out.trans (b1.mono HB.out.size))
            have D1 := Lib.hid b1
            clear b1
            go_wp2_with fail
            go_ret
            exact ⟨rfl, B1.out⟩
          · have hme := HMT.out e he2
            by_cases het : (e : Int) < t
            · have hge : decide ((e : Int) ≥ t) = false := by simp; omega
              rw [if_pos (by omega), show k + 1 + (m.toNat - (k + 1)) - (e + 1) = m.toNat - (e + 1) by omega] at hj
              have HL3 := Lib.hid hj.symm
              clear hj hme
              go_wp2_with fail
              refine (ropens_any x _).mono ?_
              rintro e wq ⟨rfl, rfl⟩
              rw [HO.out]
              go_wp2_with fail
              refine (HR.out).mono ?_
              rintro e w1 ⟨rfl, b1⟩
              have B1 := Lib.hid (HB.out.trans (b1.mono HB.out.size))
              have D1 := Lib.hid b1
              clear b1
              go_wp2_with fail
              go_roundw
              case rel => exact ⟨e + 1, by go_num, HL3, B1.out⟩
              case measure => simp [intOf]; omega
            · have hge : decide ((e : Int) ≥ t) = true := by simp; omega
              rw [if_neg (by omega)] at hj
              subst hj
              clear hme
              go_wp2_with fail
              refine (ropens_any x _).mono ?_
              rintro e wq ⟨rfl, rfl⟩
              rw [HO.out]
              go_wp2_with fail
              refine (HR.out).mono ?_
              rintro e w1 ⟨rfl, b1⟩
              have B1 := Lib.hid (HB.out.trans (b1.mono HB.out.size))
              have D1 := Lib.hid b1
              clear b1
              go_wp2_with fail
              go_ret
              exact ⟨rfl, B1.out⟩
      · rw [if_pos (by simpa using h10)] at hl2
        subst hl2
        go_wp2
        go_ret
        exact ⟨rfl, HB.out⟩
    · have hl2 := HL.out
      rw [show m.toNat - k = 0 by omega, List.take_zero, firstP] at hl2
      subst hl2
      go_wp2
      go_ret
      exact ⟨rfl, HB.out⟩
end Go.Proofs.Ytajgjloailliiaa
