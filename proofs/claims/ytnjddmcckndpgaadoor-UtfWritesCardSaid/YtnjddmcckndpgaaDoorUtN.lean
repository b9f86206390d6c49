/- The document's own Encode. -/
import Derived.Test.YtnjddmcckndpgaaDoorUtH
import Derived.Test.YtnjddmcckndpgaaDoorMem2
namespace Go.Proofs.YtnjddmcckndpgaaDoor
open Go.RowKit

theorem encAll_mono (l : List Int) (k : Nat) : (encAll (l.take k)).length ≤ (encAll l).length := by
  have : encAll l = encAll (l.take k) ++ encAll (l.drop k) := by
    rw [encAll, encAll, encAll, ← List.flatMap_append, List.take_append_drop]
  rw [this, List.length_append]; omega

set_option maxHeartbeats 1500000 in
theorem rencode_any (A : Option Addr) (l : List Int) (c : Nat) (w : World) (h : Lies w w.heap.size A (ints .i64 l)) (hl : l.length ≤ 5000) :
    Calls Tryd.prog 17 #[.slice A l.length c] w (Rowed2 w w.heap.size 5 (ints .u8 (encL l).1) (encL l).2) := by
  have H := Lib.hid h
  clear h
  go_enter Tryd.func17, Tryd.ntmps17
  go_wp2
  go_loop [5] (fun i => ∃ k : Nat, k ≤ l.length ∧ i = .int .i64 k ∧ allCh (l.take k) = true) (fun i => l.length - (intOf i).toNat)
  case atStart => exact ⟨0, Nat.zero_le _, rfl, rfl⟩
  case round =>
    obtain ⟨k, hk, rfl, hall⟩ := hrel
    have HA := Lib.hid hall
    clear hall
    by_cases hlt : k < l.length
    · obtain ⟨p, rfl, _, hc⟩ := H.out.int hlt
      have i0 : (0 : Int) ≤ (k : Int) := by omega
      have i1 : (k : Int) < (l.length : Int) := by omega
      rcases hr : isCh l[k] with _ | _
      · have HR := Lib.hid hr
        clear hr
        go_wp2_with (go_at_call 19; refine (rright_is _ _ _ HR.out).mono ?_; rintro e w' ⟨rfl, rfl⟩)
        go_ret2
        exact ⟨_, by rw [encL_bad (allCh_not k hlt HR.out)]; rfl, by rw [encL_bad (allCh_not k hlt HR.out)]; exact Own.empty _ _ _, Below.refl _ _⟩
      · have HR := Lib.hid hr
        clear hr
        have HT := Lib.hid (take_snoc l k hlt)
        go_wp2_with (go_at_call 19; refine (rright_is _ _ _ HR.out).mono ?_; rintro e w' ⟨rfl, rfl⟩)
        go_round
        case rel => exact ⟨k + 1, by omega, by go_num, by rw [HT.out, allCh_snoc, HA.out, HR.out]; rfl⟩
        case measure => simp [intOf]; omega
    · obtain rfl : k = l.length := by omega
      rw [List.take_of_length_le (Nat.le_refl _)] at HA
      clear hlt hk
      go_wp2
      go_loopw [4, 6] (fun v i wr => ∃ k : Nat, k ≤ l.length ∧ i = .int .i64 k ∧ Own wr w.heap.size 5 v (ints .u8 (encAll (l.take k))) ∧ Below w.heap.size w wr ∧ (encAll (l.take k)).length ≤ 4000) (fun _ i _ => l.length - (intOf i).toNat)
      case atStart => exact ⟨0, Nat.zero_le _, rfl, Own.empty _ _ _, Below.refl _ _, by simp [encAll]⟩
      case round =>
        obtain ⟨k, hk, rfl, hown, hb, hsz⟩ := hrel
        have hB := hb.size
        by_cases hlt : k < l.length
        · obtain ⟨p, rfl, _, hc⟩ := (H.out.below hb).int hlt
          have i0 : (0 : Int) ≤ (k : Int) := by omega
          have i1 : (k : Int) < (l.length : Int) := by omega
          have hch := allCh_at HA.out k hlt
          have HT := Lib.hid (take_snoc l k hlt)
          have hl4 := (encCh_len l[k]).1
          have HO := Lib.hid hown
          have HBB := Lib.hid hb
          obtain ⟨x, hx⟩ : ∃ x, l[k] = x := ⟨_, rfl⟩
          rw [hx] at hc hch HT hl4
          have hby : bytL x = encCh x := by simp [bytL, hch]
          have HY := Lib.hid hby
          have EQ : Hid (encAll (l.take (k + 1)) = encAll (l.take k) ++ encCh x) := by show _ = _; rw [HT.out, encAll_snoc]
          clear hown hb hx hch HT hby
          have b0 : (ints .u8 (encAll (l.take k))).length ≤ 4000 := by simpa using hsz
          have b1 : (ints .u8 (encCh x)).length ≤ 4 := by simpa using hl4
          go_wp2_with (first
            | (go_at_call 25; refine (bytes_any x _).mono ?_; rintro e w1 ⟨v1, rfl, o1, b1'⟩
               rw [HY.out] at o1
               obtain ⟨A1, c1, rfl, l1, _, _⟩ := o1.form
               have hO := Lib.hid (HO.out.below b1' (Nat.le_refl _))
               have hL := Lib.hid l1
               have hW := Lib.hid (HBB.out.trans (b1'.mono hB))
               have hS := Nat.le_trans hB b1'.size
               clear o1 l1 b1')
            | (at_builtin; refine app_src bytesT w _ w.heap.size _ _ _ _ _ (ints .u8 (encCh x)) _ _ _ rfl rfl rfl rfl (by simp) hO.out hL.out (ints_one _ _) hW.out hS (by unfold maxLen; omega) (by omega) ?_; intro v2 w2 o2 b2 _ _
               have o2' : Own w2 w.heap.size 5 v2 (ints .u8 (encAll (l.take (k + 1)))) := by rw [EQ.out, ints, List.map_append]; exact o2
               obtain ⟨A2, c2, rfl, _, _, _⟩ := o2'.form
               have hO2 := Lib.hid o2'
               have hB2 := Lib.hid b2
               clear o2 o2' b2
               simp only [ints, List.length_map] at hO2 ⊢
               obtain ⟨N, hN⟩ : ∃ N, (encAll (l.take (k + 1))).length = N := ⟨_, rfl⟩
               have HN := Lib.hid hN
               rw [hN] at hO2 ⊢
               clear hN))
          · rename_i hlong
            have hlong' : 4000 < (encAll (l.take (k + 1))).length := by rw [HN.out]; omega
            have htot : ¬ (encAll l).length ≤ 4000 := by have := encAll_mono l (k + 1); omega
            go_ret2
            exact ⟨_, by rw [encL_long HA.out htot]; rfl, by rw [encL_long HA.out htot]; exact Own.empty _ _ _, hB2.out⟩
          · go_roundw
            case rel => exact ⟨k + 1, by omega, by go_num, hO2.out, hB2.out, by rw [HN.out]; omega⟩
            case measure => simp [intOf]; omega
        · obtain rfl : k = l.length := by omega
          rw [List.take_of_length_le (Nat.le_refl _)] at hown hsz
          go_wp2
          go_ret2
          exact ⟨_, by rw [encL_ok HA.out hsz]; rfl, by rw [encL_ok HA.out hsz]; exact hown, hb⟩
end Go.Proofs.YtnjddmcckndpgaaDoor
