/- Encode: all characters' bytes, or why not. -/
import Derived.Test.YtnjddmcckndpgaaDoorUtB
namespace Go.Proofs.YtnjddmcckndpgaaDoor
open Go.RowKit

def encAll (l : List Int) : List Int := l.flatMap encCh
def allCh (l : List Int) : Bool := l.all isCh
theorem encCh_len (c : Int) : (encCh c).length ≤ 4 ∧ 1 ≤ (encCh c).length := by unfold encCh; (repeat' split) <;> simp
theorem szCh_len (c : Int) (h : isCh c = true) : szCh c = (encCh c).length := by
  unfold szCh lenCh encCh; rw [if_pos h]; (repeat' split) <;> simp
theorem encAll_snoc (l : List Int) (c : Int) : encAll (l ++ [c]) = encAll l ++ encCh c := by simp [encAll]
theorem encAll_len (l : List Int) : (encAll l).length ≤ 4 * l.length := by
  induction l with
  | nil => simp [encAll]
  | cons c l ih => have := encCh_len c; simp only [encAll, List.flatMap_cons, List.length_append, List.length_cons] at *; omega
theorem take_snoc (l : List Int) (k : Nat) (h : k < l.length) : l.take (k + 1) = l.take k ++ [l[k]] := by
  rw [List.take_succ_eq_append_getElem h]
theorem allCh_snoc (l : List Int) (c : Int) : allCh (l ++ [c]) = (allCh l && isCh c) := by simp [allCh]
theorem allCh_at {l : List Int} (h : allCh l = true) (k : Nat) (hk : k < l.length) : isCh l[k] = true := by
  simp only [allCh, List.all_eq_true] at h
  exact h _ (List.getElem_mem hk)
theorem allCh_not {l : List Int} (k : Nat) (hk : k < l.length) (h : isCh l[k] = false) : allCh l = false := by
  rcases h' : allCh l with _ | _
  · rfl
  · rw [allCh_at h' k hk] at h; cases h

/-- a row of its own, and a number -/
def Rowed2 (w : World) (B : Nat) (e : TypeId) (xs : List Value) (n : Int) (ed : Ending) (w' : World) : Prop :=
  ∃ v, ed = .returned (.tuple #[v, .int .i64 n]) ∧ Own w' B e v xs ∧ Below B w w'

/-- what Encode tells: bytes, and an error's number -/
def encL (l : List Int) : List Int × Int := if allCh l then (if (encAll l).length ≤ 4000 then (encAll l, 0) else ([], 2)) else ([], 1)
theorem encL_bad {l : List Int} (h : allCh l = false) : encL l = ([], 1) := by simp [encL, h]
theorem encL_long {l : List Int} (h : allCh l = true) (h' : ¬ (encAll l).length ≤ 4000) : encL l = ([], 2) := by rw [encL, if_pos h, if_neg h']
theorem encL_ok {l : List Int} (h : allCh l = true) (h' : (encAll l).length ≤ 4000) : encL l = (encAll l, 0) := by rw [encL, if_pos h, if_pos h']

set_option maxHeartbeats 2000000 in
theorem encode_any (A : Option Addr) (l : List Int) (c : Nat) (w : World) (h : Lies w w.heap.size A (ints .i64 l)) (hl : l.length ≤ 5000) :
    Calls Tryd.prog 16 #[.slice A l.length c] w (Rowed2 w w.heap.size 5 (ints .u8 (encL l).1) (encL l).2) := by
  have H := Lib.hid h
  clear h
  go_enter Tryd.func16, Tryd.ntmps16
  go_wp2
  go_loop [4, 12] (fun n i => ∃ k : Nat, k ≤ l.length ∧ i = .int .i64 k ∧ n = .int .i64 ((encAll (l.take k)).length : Int) ∧ allCh (l.take k) = true) (fun _ i => l.length - (intOf i).toNat)
  case atStart => exact ⟨0, Nat.zero_le _, rfl, rfl, rfl⟩
  case round =>
    obtain ⟨k, hk, rfl, rfl, hall⟩ := hrel
    have HA := Lib.hid hall
    clear hall
    by_cases hlt : k < l.length
    · obtain ⟨p, rfl, _, hc⟩ := H.out.int hlt
      have b0 : (encAll (l.take k)).length ≤ 4 * 5000 := Nat.le_trans (encAll_len _) (by simp; omega)
      rcases hr : isCh l[k] with _ | _
      · have HR := Lib.hid hr
        clear hr
        go_wp2_with (go_at_call 18; refine (right_no _ _ HR.out).mono ?_; rintro e w' ⟨rfl, rfl⟩)
        go_ret2
        exact ⟨_, by rw [encL_bad (allCh_not k hlt HR.out)]; rfl, by rw [encL_bad (allCh_not k hlt HR.out)]; exact Own.empty _ _ _, Below.refl _ _⟩
      · have HR := Lib.hid hr
        clear hr
        have b1 := encCh_len l[k]
        have HS := Lib.hid (szCh_len l[k] HR.out)
        have HT := Lib.hid (take_snoc l k hlt)
        go_wp2_with (first
          | (go_at_call 18; refine (right_yes _ _ HR.out).mono ?_; rintro e w' ⟨rfl, rfl⟩)
          | (go_at_call 20; refine (size_any _ _).mono ?_; rintro e w' ⟨rfl, rfl⟩; rw [HS.out]))
        go_round
        case rel => exact ⟨k + 1, by omega, by go_num, by rw [HT.out, encAll_snoc]; simp, by rw [HT.out, allCh_snoc, HA.out, HR.out]; rfl⟩
        case measure => simp [intOf]; omega
    · obtain rfl : k = l.length := by omega
      clear hlt hk
      rw [List.take_of_length_le (Nat.le_refl _)] at HA ⊢
      by_cases hs : (encAll l).length ≤ 4000
      · go_wp2_with (at_make; refine make_none bytesT w _ w.heap.size _ _ _ _ _ rfl rfl rfl rfl (Below.refl _ _) (Nat.le_refl _) (by omega) (by unfold maxLen; omega) ?_; intro w1 hown hb1)
        go_loopw [7, 30] (fun b i wr => ∃ k : Nat, k ≤ l.length ∧ i = .int .i64 k ∧ Own wr w.heap.size 5 b (ints .u8 (encAll (l.take k))) ∧ Below w.heap.size w wr) (fun _ i _ => l.length - (intOf i).toNat)
        case atStart => exact ⟨0, Nat.zero_le _, rfl, hown, hb1⟩
        case round =>
          obtain ⟨k, hk, rfl, hown, hb⟩ := hrel
          have hsz := hb.size
          by_cases hlt : k < l.length
          · obtain ⟨p, rfl, _, hc⟩ := (H.out.below hb).int hlt
            obtain ⟨c0, c1, c2⟩ := isCh_true.1 (allCh_at HA.out k hlt)
            have b0 : (ints .u8 (encAll (l.take k))).length ≤ 100000 := Nat.le_trans (by simpa using encAll_len _) (by simp; omega)
            have HT := Lib.hid (take_snoc l k hlt)
            have HO := Lib.hid hown
            clear hown
            go_wp2_with (go_at_call 24; refine (appendRune_any _ _ _ _ w w.heap.size c0 c1 c2 HO.out hb hsz b0).mono ?_; rintro e w2 ⟨v2, rfl, hown2, hb2⟩)
            go_roundw
            case rel => exact ⟨k + 1, by omega, by go_num, by rw [HT.out, encAll_snoc, ints, List.map_append]; exact hown2, hb2⟩
            case measure => simp [intOf]; omega
          · obtain rfl : k = l.length := by omega
            rw [List.take_of_length_le (Nat.le_refl _)] at hown
            go_wp2
            go_ret2
            exact ⟨_, by rw [encL_ok HA.out hs]; rfl, by rw [encL_ok HA.out hs]; exact hown, hb⟩
      · go_wp2
        go_ret2
        exact ⟨_, by rw [encL_long HA.out hs]; rfl, by rw [encL_long HA.out hs]; exact Own.empty _ _ _, Below.refl _ _⟩
end Go.Proofs.YtnjddmcckndpgaaDoor
