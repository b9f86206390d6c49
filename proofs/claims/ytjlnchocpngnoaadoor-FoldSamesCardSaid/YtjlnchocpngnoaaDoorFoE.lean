/- The document's Kin. -/
import Derived.Test.YtjlnchocpngnoaaDoorFoD
namespace Go.Proofs.YtjlnchocpngnoaaDoor
open Go.RowKit Reckon

theorem ret_slice {A : Option Addr} {n m c : Nat} (h : n = m) : Ending.returned (.slice A n c) = .returned (.slice A m c) := by rw [h]
set_option maxHeartbeats 2000000 in
theorem rkin_any (c : Int) (w : World) : Calls Tryd.prog 15 #[.int .i64 c] w fun e w' => ∃ A' c', e = .returned (.slice A' (kin (fo c)).length c') ∧ Lies w' w'.heap.size A' (ints .i64 (kin (fo c))) ∧ Below w.heap.size w w' := by
  have HK := Lib.hid (kin_gath c)
  obtain ⟨G, hG⟩ : ∃ G, gath c = G := ⟨_, rfl⟩
  obtain ⟨t, ht⟩ : ∃ t, fo c = t := ⟨_, rfl⟩
  have HG := fun k => Lib.hid (gath_succ c k)
  have HZ := Lib.hid (gath_zero c)
  have HN := fun k => Lib.hid (gath_len c k)
  rw [hG, ht] at HK
  rw [hG] at HZ
  simp only [hG, ht] at HG HN
  rw [ht]
  have HT := Lib.hid ht
  clear hG ht
  go_enter Tryd.func15, Tryd.ntmps15
  go_wp2_with fail
  refine (rof_any c w).mono ?_
  rintro e wq ⟨rfl, rfl⟩
  rw [HT.out]
  go_wp2
  go_loopw [5, 4] (fun i v wr => ∃ (k : Nat) (A : Option Addr) (cp : Nat), k ≤ 7936 ∧ i = .int .i64 k ∧ v = .slice A (G k).length cp ∧ Lies wr wr.heap.size A (ints .i64 (G k)) ∧ (G k).length ≤ cp ∧ Below w.heap.size w wr) (fun i _ _ => 7936 - (intOf i).toNat)
  case atStart => exact ⟨0, none, 0, by omega, rfl, by rw [HZ.out]; rfl, by rw [HZ.out]; exact Lies.empty, by rw [HZ.out]; exact Nat.le_refl _, Below.refl _ _⟩
  case round =>
    obtain ⟨k, A, cp, hk, rfl, rfl, hl, hcp, hb⟩ := hrel
    have HL := Lib.hid hl
    have HB := Lib.hid hb
    have hlen : (G k).length ≤ 7936 := Nat.le_trans (HN k).out hk
    have hsz := hb.size
    replace HG := HG k
    clear hl hb HN
    by_cases hlt : k < 7936
    · have b1 : (k : Int) < 7936 := by omega
      rcases h1 : ((k : Int) != c) with _ | _
      · go_wp2
        go_roundw
        case rel =>
          refine ⟨k + 1, A, cp, by omega, by go_num, ?_, ?_, ?_, HB.out⟩
          · rw [HG.out, if_neg (by intro hh; exact hh.1 (by simpa using h1))]
          · rw [HG.out, if_neg (by intro hh; exact hh.1 (by simpa using h1))]; exact HL.out
          · rw [HG.out, if_neg (by intro hh; exact hh.1 (by simpa using h1))]; exact hcp
        case measure => simp [intOf]; omega
      rcases h2 : ((k : Int) != t) with _ | _
      · go_wp2
        go_roundw
        case rel =>
          refine ⟨k + 1, A, cp, by omega, by go_num, ?_, ?_, ?_, HB.out⟩
          · rw [HG.out, if_neg (by intro hh; exact hh.2.1 (by simpa using h2))]
          · rw [HG.out, if_neg (by intro hh; exact hh.2.1 (by simpa using h2))]; exact HL.out
          · rw [HG.out, if_neg (by intro hh; exact hh.2.1 (by simpa using h2))]; exact hcp
        case measure => simp [intOf]; omega
      obtain ⟨f, hf⟩ : ∃ f, fo (k : Int) = f := ⟨_, rfl⟩
      have HF := Lib.hid hf
      clear hf
      rcases h3 : (f != (k : Int)) with _ | _
      · go_wp2_with (go_at_call 8; refine (rof_any _ _).mono ?_; rintro e wq ⟨rfl, rfl⟩; rw [HF.out])
        go_roundw
        case rel =>
          refine ⟨k + 1, A, cp, by omega, by go_num, ?_, ?_, ?_, HB.out⟩
          · rw [HG.out, if_neg (by intro hh; exact hh.2.2.1 (by rw [HF.out]; simpa using h3))]
          · rw [HG.out, if_neg (by intro hh; exact hh.2.2.1 (by rw [HF.out]; simpa using h3))]; exact HL.out
          · rw [HG.out, if_neg (by intro hh; exact hh.2.2.1 (by rw [HF.out]; simpa using h3))]; exact hcp
        case measure => simp [intOf]; omega
      rcases h4 : (f == t) with _ | _
      · go_wp2_with (go_at_call 8; refine (rof_any _ _).mono ?_; rintro e wq ⟨rfl, rfl⟩; rw [HF.out])
        go_roundw
        case rel =>
          refine ⟨k + 1, A, cp, by omega, by go_num, ?_, ?_, ?_, HB.out⟩
          · rw [HG.out, if_neg (by intro hh; have := hh.2.2.2; rw [HF.out] at this; simp [this] at h4)]
          · rw [HG.out, if_neg (by intro hh; have := hh.2.2.2; rw [HF.out] at this; simp [this] at h4)]; exact HL.out
          · rw [HG.out, if_neg (by intro hh; have := hh.2.2.2; rw [HF.out] at this; simp [this] at h4)]; exact hcp
        case measure => simp [intOf]; omega
      · go_wp2_with (first
          | (go_at_call 8; refine (rof_any _ _).mono ?_; rintro e wq ⟨rfl, rfl⟩; rw [HF.out])
          | (go_at_call 19; refine (put_any A (G k) cp k wr HL.out (by omega) hcp).mono ?_; rintro e w2 ⟨A2, c2, rfl, l2, hc2, b2⟩; have L2 := Lib.hid l2; have B2 := Lib.hid (HB.out.trans (b2.mono hsz)); have HC2 := Lib.hid hc2; clear l2 b2 hc2))
        have HP : Hid ((k : Int) ≠ c ∧ (k : Int) ≠ t ∧ fo k ≠ k ∧ fo k = t) := Lib.hid ⟨by simpa using h1, by simpa using h2, by rw [HF.out]; simpa using h3, by rw [HF.out]; simpa using h4⟩
        go_roundw
        case rel =>
          refine ⟨k + 1, A2, c2, by omega, by go_num, ?_, ?_, ?_, B2.out⟩
          · rw [HG.out, if_pos HP.out]
          · rw [HG.out, if_pos HP.out]; exact L2.out
          · rw [HG.out, if_pos HP.out]; exact HC2.out
        case measure => simp [intOf]; omega
    · have e : k = 7936 := by omega
      subst e
      go_wp2_with fail
      refine (put_any A (G 7936) cp c wr HL.out (by omega) hcp).mono ?_
      rintro e w2 ⟨A2, c2, rfl, l2, hc2, b2⟩
      have L2 := Lib.hid l2
      have B2 := Lib.hid (HB.out.trans (b2.mono hsz))
      have hlen2 := putL_len (G 7936) c
      clear l2 b2
      go_wp2_with fail
      refine (put_any A2 (putL (G 7936) c) c2 t w2 L2.out (by omega) hc2).mono ?_
      rintro e w3 ⟨A3, c3, rfl, l3, hc3, b3⟩
      have L3 := Lib.hid l3
      have B3 := Lib.hid (B2.out.trans (b3.mono B2.out.size))
      clear l3 b3
      go_wp2
      go_ret
      exact ⟨A3, c3, ret_slice (by rw [HK.out]), by rw [HK.out]; exact L3.out, B3.out⟩
end Go.Proofs.YtjlnchocpngnoaaDoor
