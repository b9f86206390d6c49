/- Bytes of a character, appended: AppendRune. -/
import Derived.Test.YtnjddmcckndpgaaDoorUtA
namespace Go.Proofs.YtnjddmcckndpgaaDoor
open Go.RowKit

theorem bytesT : SliceOf Tryd.prog 22 5 (.int .u8 0) 1 := ⟨by kernel_rfl, by kernel_rfl, rfl⟩
theorem intsT : SliceOf Tryd.prog 24 3 (.int .i64 0) 8 := ⟨by kernel_rfl, by kernel_rfl, rfl⟩

/-- a character's bytes -/
def encCh (c : Int) : List Int :=
  if c < 128 then [c] else if c < 2048 then [192 + c / 64, 128 + c % 64]
  else if c < 65536 then [224 + c / 4096, 128 + c / 64 % 64, 128 + c % 64]
  else [240 + c / 262144, 128 + c / 4096 % 64, 128 + c / 64 % 64, 128 + c % 64]

/-- what a call of one result hands back: a row of its own -/
def Rowed (w : World) (B : Nat) (e : TypeId) (xs : List Value) (ed : Ending) (w' : World) : Prop :=
  ∃ v, ed = .returned v ∧ Own w' B e v xs ∧ Below B w w'

theorem rowed_ret {w0 w : World} {B : Nat} {e : TypeId} {xs ys : List Value} {v : Value} (h : Own w B e v ys) (hb : Below B w0 w) (he : ys = xs) : Rowed w0 B e xs (.returned v) w :=
  ⟨v, rfl, he ▸ h, hb⟩

set_option maxHeartbeats 1000000 in
theorem nonAscii_any (c : Int) (v : Value) (xs : List Value) (w w0 : World) (B : Nat) (h0 : 128 ≤ c) (h1 : c ≤ 1114111) (h2 : c < 55296 ∨ 57343 < c) (hown : Own w B 5 v xs) (hb : Below B w0 w) (hB : B ≤ w.heap.size) (hlen : xs.length ≤ 100000) :
    Calls Tryd.prog 29 #[v, .int .i32 c] w (Rowed w0 B 5 (xs ++ ints .u8 (encCh c))) := by
  have H := Lib.hid hown
  clear hown
  by_cases a1 : c ≤ 2047
  · go_enter Tryd.func29, Tryd.ntmps29
    go_wp2_with (at_builtin; refine app_lit bytesT w0 _ B _ _ _ _ v xs rfl rfl rfl rfl H.out (by simp [Value.oneCell']) hb hB (by unfold maxLen; simp; omega) (by simp; omega) ?_; intro v' w' hown' hb' _ _)
    go_ret
    exact rowed_ret hown' hb' (by simp [ints, encCh, show ¬ c < 128 by omega, show c < 2048 by omega])
  by_cases a2 : c ≤ 65535
  · rcases h2 with h2 | h2
    all_goals
      go_enter Tryd.func29, Tryd.ntmps29
      go_wp2_with (at_builtin; refine app_lit bytesT w0 _ B _ _ _ _ v xs rfl rfl rfl rfl H.out (by simp [Value.oneCell']) hb hB (by unfold maxLen; simp; omega) (by simp; omega) ?_; intro v' w' hown' hb' _ _)
      go_ret
      exact rowed_ret hown' hb' (by simp [ints, encCh, show ¬ c < 128 by omega, show ¬ c < 2048 by omega, show c < 65536 by omega])
  · go_enter Tryd.func29, Tryd.ntmps29
    go_wp2_with (at_builtin; refine app_lit bytesT w0 _ B _ _ _ _ v xs rfl rfl rfl rfl H.out (by simp [Value.oneCell']) hb hB (by unfold maxLen; simp; omega) (by simp; omega) ?_; intro v' w' hown' hb' _ _)
    go_ret
    exact rowed_ret hown' hb' (by simp [ints, encCh, show ¬ c < 128 by omega, show ¬ c < 2048 by omega, show ¬ c < 65536 by omega])

set_option maxHeartbeats 1000000 in
theorem appendRune_any (c : Int) (v : Value) (xs : List Value) (w w0 : World) (B : Nat) (h0 : 0 ≤ c) (h1 : c ≤ 1114111) (h2 : c < 55296 ∨ 57343 < c) (hown : Own w B 5 v xs) (hb : Below B w0 w) (hB : B ≤ w.heap.size) (hlen : xs.length ≤ 100000) :
    Calls Tryd.prog 24 #[v, .int .i32 c] w (Rowed w0 B 5 (xs ++ ints .u8 (encCh c))) := by
  have H := Lib.hid hown
  clear hown
  by_cases a1 : c ≤ 127
  · go_enter Tryd.func24, Tryd.ntmps24
    go_wp2_with (at_builtin; refine app_lit bytesT w0 _ B _ _ _ _ v xs rfl rfl rfl rfl H.out (by simp [Value.oneCell']) hb hB (by unfold maxLen; simp; omega) (by simp; omega) ?_; intro v' w' hown' hb' _ _)
    go_ret
    exact rowed_ret hown' hb' (by simp [ints, encCh, show c < 128 by omega])
  · go_enter Tryd.func24, Tryd.ntmps24
    go_wp2_with (go_at_call 29; refine (nonAscii_any c v xs _ w0 B (by omega) h1 h2 H.out hb hB hlen).mono ?_; rintro e w' ⟨v', rfl, hown', hb'⟩)
    go_ret
    exact rowed_ret hown' hb' rfl
end Go.Proofs.YtnjddmcckndpgaaDoor
