/- The document's own small functions of layer 1: Right, Offset, Bytes, Size. -/
import Derived.Test.YtnjddmcckndpgaaDoorUtE
namespace Go.Proofs.YtnjddmcckndpgaaDoor
open Go.RowKit

theorem Own.lit {w : World} {B : Nat} {e : TypeId} (cs : Array Value) (hB : B ≤ w.heap.size) (hm : cs.size ≤ maxLen) :
    Own (w.alloc (.cells cs e)) B e (.slice (some ⟨w.heap.size, 0, none⟩) cs.size cs.size) cs.toList := by
  have := World.ownsRow_lit (base := B) (e := e) (size := 1) w cs cs.size hB hm (by simp)
  unfold Own
  rw [Array.length_toList]
  exact this

set_option maxHeartbeats 400000 in
theorem rright_any (c : Int) (w : World) : Calls Tryd.prog 19 #[.int .i64 c] w fun e w' => e = .returned (.bool (isCh c)) ∧ w = w' := by
  by_cases h0 : 0 ≤ c
  · by_cases h1 : c ≤ 1114111
    · by_cases h2 : c < 55296
      all_goals
        go_enter Tryd.func19, Tryd.ntmps19
        go_wp2
        go_ret
        exact ⟨ret_bool (by rw [Bool.eq_iff_iff, isCh_true]; simp; omega), rfl⟩
    · go_enter Tryd.func19, Tryd.ntmps19
      go_wp2
      go_ret
      exact ⟨ret_bool (by rw [Bool.eq_iff_iff, isCh_true]; simp; omega), rfl⟩
  · go_enter Tryd.func19, Tryd.ntmps19
    go_wp2
    go_ret
    exact ⟨ret_bool (by rw [Bool.eq_iff_iff, isCh_true]; simp; omega), rfl⟩
theorem rright_is (c : Int) (w : World) (b : Bool) (h : isCh c = b) : Calls Tryd.prog 19 #[.int .i64 c] w fun e w' => e = .returned (.bool b) ∧ w = w' :=
  (rright_any c w).mono fun _ _ ⟨he, hw⟩ => ⟨by rw [he, h], hw⟩

set_option maxHeartbeats 400000 in
theorem roffset_any (A : Option Addr) (l : List Int) (c : Nat) (n : Int) (B : Nat) (w : World) (h : Lies w B A (ints .i64 l)) :
    Calls Tryd.prog 15 #[.slice A l.length c, .int .i64 n] w fun e w' => e = .returned (.int .i64 (nthI l n)) ∧ w = w' := by
  by_cases h0 : n < 0
  · go_enter Tryd.func15, Tryd.ntmps15
    go_wp2
    go_ret
    exact ⟨ret_int (by rw [nthI, if_neg (by omega)]), rfl⟩
  obtain ⟨k, rfl⟩ : ∃ k : Nat, n = k := ⟨n.toNat, by omega⟩
  by_cases h1 : k < l.length
  · obtain ⟨p, rfl, _, hc⟩ := h.int h1
    have hd : decide (l.length ≤ k) = false := by simp; omega
    have HR : Hid (nthI l k = l[k]) := by
      show nthI l k = l[k]
      rw [nthI, if_pos (by omega)]; simp [h1]
    clear h
    go_enter Tryd.func15, Tryd.ntmps15
    go_wp2
    go_ret
    exact ⟨ret_int HR.out.symm, rfl⟩
  · have hd : decide (l.length ≤ k) = true := by simp; omega
    clear h
    go_enter Tryd.func15, Tryd.ntmps15
    go_wp2
    go_ret
    exact ⟨ret_int (by rw [nthI, if_neg (by omega)]), rfl⟩

/-- a character's bytes; none of what isn't one -/
def bytL (c : Int) : List Int := if isCh c then encCh c else []

theorem rowed_lit {w : World} {e : TypeId} (cs : Array Value) {xs : List Value} (hm : cs.size ≤ maxLen) (hx : cs.toList = xs) :
    Rowed w w.heap.size e xs (.returned (.slice (some ⟨w.heap.size, 0, none⟩) cs.size cs.size)) (w.alloc (.cells cs e)) :=
  ⟨_, rfl, hx ▸ Own.lit cs (Nat.le_refl _) hm, (Below.refl _ _).alloc (Nat.le_refl _) _⟩

set_option maxHeartbeats 2000000 in
theorem bytes_any (c : Int) (w : World) : Calls Tryd.prog 25 #[.int .i64 c] w (Rowed w w.heap.size 5 (ints .u8 (bytL c))) := by
  rcases hc : isCh c with _ | _
  · have HC := Lib.hid hc
    clear hc
    go_enter Tryd.func25, Tryd.ntmps25
    go_wp2_with (go_at_call 19; refine (rright_is _ _ _ HC.out).mono ?_; rintro e w' ⟨rfl, rfl⟩)
    go_ret
    exact ⟨_, rfl, by simp [bytL, HC.out]; exact Own.empty _ _ _, Below.refl _ _⟩
  obtain ⟨h0, h1, h2⟩ := isCh_true.1 hc
  have HC := Lib.hid hc
  clear hc
  by_cases a1 : c < 128
  · go_enter Tryd.func25, Tryd.ntmps25
    go_wp2_with (go_at_call 19; refine (rright_is _ _ _ HC.out).mono ?_; rintro e w' ⟨rfl, rfl⟩)
    go_ret
    exact rowed_lit #[.int .u8 c] (by simp [maxLen]) (by simp [bytL, HC.out, encCh, a1])
  by_cases a2 : c < 2048
  · go_enter Tryd.func25, Tryd.ntmps25
    go_wp2_with (go_at_call 19; refine (rright_is _ _ _ HC.out).mono ?_; rintro e w' ⟨rfl, rfl⟩)
    go_ret
    exact rowed_lit #[.int .u8 (192 + c / 64), .int .u8 (128 + c % 64)] (by simp [maxLen]) (by simp [bytL, HC.out, encCh, show ¬ c < 128 by omega, show c < 2048 by omega])
  by_cases a3 : c < 65536
  · go_enter Tryd.func25, Tryd.ntmps25
    go_wp2_with (go_at_call 19; refine (rright_is _ _ _ HC.out).mono ?_; rintro e w' ⟨rfl, rfl⟩)
    go_ret
    exact rowed_lit #[.int .u8 (224 + c / 4096), .int .u8 (128 + c / 64 % 64), .int .u8 (128 + c % 64)] (by simp [maxLen]) (by simp [bytL, HC.out, encCh, show ¬ c < 128 by omega, show ¬ c < 2048 by omega, show c < 65536 by omega])
  · go_enter Tryd.func25, Tryd.ntmps25
    go_wp2_with (go_at_call 19; refine (rright_is _ _ _ HC.out).mono ?_; rintro e w' ⟨rfl, rfl⟩)
    go_ret
    exact rowed_lit #[.int .u8 (240 + c / 262144), .int .u8 (128 + c / 4096 % 64), .int .u8 (128 + c / 64 % 64), .int .u8 (128 + c % 64)] (by simp [maxLen]) (by simp [bytL, HC.out, encCh, show ¬ c < 128 by omega, show ¬ c < 2048 by omega, show ¬ c < 65536 by omega])

set_option maxHeartbeats 400000 in
theorem rsize_any (c : Int) (w : World) : Calls Tryd.prog 21 #[.int .i64 c] w fun e w' => e = .returned (.int .i64 ((bytL c).length : Int)) ∧ Below w.heap.size w w' := by
  go_enter Tryd.func21, Tryd.ntmps21
  go_wp2_with fail
  refine (bytes_any c _).mono ?_
  rintro e w1 ⟨v, rfl, hown, hb⟩
  obtain ⟨A, k, rfl, hl, _, _⟩ := hown.form
  have HB := Lib.hid hb
  have e1 : (ints .u8 (bytL c)).length = (bytL c).length := by simp
  clear hb hown hl
  go_wp2
  go_ret
  exact ⟨rfl, HB.out⟩
end Go.Proofs.YtnjddmcckndpgaaDoor
