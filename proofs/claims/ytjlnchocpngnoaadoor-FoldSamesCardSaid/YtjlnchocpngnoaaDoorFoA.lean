/- A character, folded: the document's function of stretches, and the program's table. -/
import Derived.Test.YtjlnchocpngnoaaDoorPure
import Derived.Test.YtjlnchocpngnoaaDoorKit
import Derived.Deep.MidRow
namespace Go.Proofs.YtjlnchocpngnoaaDoor
open Go.RowKit Reckon

/-- a character, folded -/
def fo (c : Int) : Int :=
  if 65 ≤ c ∧ c ≤ 90 then c + 32 else if 181 ≤ c ∧ c ≤ 181 then c + 775 else if 192 ≤ c ∧ c ≤ 214 then c + 32 else if 216 ≤ c ∧ c ≤ 222 then c + 32 else if 913 ≤ c ∧ c ≤ 929 then c + 32
  else if 931 ≤ c ∧ c ≤ 937 then c + 32 else if 962 ≤ c ∧ c ≤ 962 then c + 1 else if 1024 ≤ c ∧ c ≤ 1039 then c + 80 else if 1040 ≤ c ∧ c ≤ 1071 then c + 32 else if 7838 ≤ c ∧ c ≤ 7838 then c + -7615 else c
/-- where folding turns, and what it is from there on -/
def foSteps : List (Int × AV) := [(65, .arg 32), (91, .arg 0), (181, .num .i64 956), (182, .arg 0), (192, .arg 32), (215, .arg 0), (216, .arg 32), (223, .arg 0), (913, .arg 32), (930, .arg 0), (931, .arg 32), (938, .arg 0),
  (962, .num .i64 963), (963, .arg 0), (1024, .arg 80), (1040, .arg 32), (1072, .arg 0), (7838, .num .i64 223), (7839, .arg 0)]
theorem val_if (c : Int) (p : Prop) [Decidable p] (x y : AV) : (if p then x else y).val c = if p then x.val c else y.val c := by split <;> rfl
theorem fo_val (c : Int) : (stepF c (.arg 0) foSteps).val c = .int .i64 (fo c) := by
  unfold foSteps
  simp only [stepF, val_if]
  simp only [AV.val]
  unfold fo
  have hs : c < 65 ∨ (65 ≤ c ∧ c < 91) ∨ (91 ≤ c ∧ c < 181) ∨ (181 ≤ c ∧ c < 182) ∨ (182 ≤ c ∧ c < 192) ∨ (192 ≤ c ∧ c < 215) ∨ (215 ≤ c ∧ c < 216) ∨ (216 ≤ c ∧ c < 223) ∨ (223 ≤ c ∧ c < 913) ∨ (913 ≤ c ∧ c < 930) ∨ (930 ≤ c ∧ c < 931) ∨ (931 ≤ c ∧ c < 938) ∨ (938 ≤ c ∧ c < 962) ∨ (962 ≤ c ∧ c < 963) ∨ (963 ≤ c ∧ c < 1024) ∨ (1024 ≤ c ∧ c < 1040) ∨ (1040 ≤ c ∧ c < 1072) ∨ (1072 ≤ c ∧ c < 7838) ∨ (7838 ≤ c ∧ c < 7839) ∨ 7839 ≤ c := by omega
  rcases hs with hs | hs | hs | hs | hs | hs | hs | hs | hs | hs | hs | hs | hs | hs | hs | hs | hs | hs | hs | hs
  all_goals
    repeat (first | rw [if_pos (by omega)] | rw [if_neg (by omega)])
    try exact congrArg _ (by omega)
noncomputable def rfoTab : List (Nat × Func) := [(8, Tryd.f8)]
theorem rfoTab_ok : TabOk Tryd.prog rfoTab := .cons Tryd.func8 (by kernel_rfl) (.nil)
theorem rof_any (c : Int) (w : World) : Calls Tryd.prog 8 #[.int .i64 c] w fun e w' => e = .returned (.int .i64 (fo c)) ∧ w = w' := by
  have h := calls_step rfoTab_ok (keep := 14) (m := 1) (f := 8) (v0 := .arg 0) (l := foSteps) (by kernel_rfl) c w
  rw [fo_val] at h
  exact h

/-- the table's rows -/
def rws : List (Int × Int × Int) := [(65, 90, 32), (181, 181, 775), (192, 214, 32), (216, 222, 32), (913, 929, 32), (931, 937, 32), (962, 962, 1), (1024, 1039, 80), (1040, 1071, 32), (7838, 7838, -7615)]
def foL : List (Int × Int × Int) → Int → Int
  | [], c => c
  | r :: l, c => if r.1 ≤ c ∧ c ≤ r.2.1 then c + r.2.2 else foL l c
theorem foL_eq (c : Int) : foL rws c = fo c := rfl
def rowCells : List Value := rws.flatMap fun r => [.int .i64 r.1, .int .i64 r.2.1, .int .i64 r.2.2]
/-- where the program keeps its table -/
structure FoTabs (w : World) : Prop where
  big : 0 < w.heap.size
  cells : w.rangeAt 0 0 rowCells
theorem FoTabs.below {w w' : World} {B : Nat} (h : FoTabs w) (hb : Below B w w') (hB : 0 < B) : FoTabs w' :=
  ⟨Nat.lt_of_lt_of_le h.big hb.size, fun i v hi => (hb.cell (p := ⟨_, _, none⟩) hB).trans (h.cells i v hi)⟩

theorem rws_small : ∀ r ∈ rws, 0 ≤ r.1 ∧ r.2.1 ≤ 8000 ∧ -8000 ≤ r.2.2 ∧ r.2.2 ≤ 8000 := by decide
theorem index_row0 (w : World) : (Instr.index 31 (.agg rowCells.toArray) (.int .i64 (0 : Nat))).run Tryd.prog w = .ok (.agg #[.int .i64 65, .int .i64 90, .int .i64 32]) w := by kernel_rfl
theorem index_row1 (w : World) : (Instr.index 31 (.agg rowCells.toArray) (.int .i64 (1 : Nat))).run Tryd.prog w = .ok (.agg #[.int .i64 181, .int .i64 181, .int .i64 775]) w := by kernel_rfl
theorem index_row2 (w : World) : (Instr.index 31 (.agg rowCells.toArray) (.int .i64 (2 : Nat))).run Tryd.prog w = .ok (.agg #[.int .i64 192, .int .i64 214, .int .i64 32]) w := by kernel_rfl
theorem index_row3 (w : World) : (Instr.index 31 (.agg rowCells.toArray) (.int .i64 (3 : Nat))).run Tryd.prog w = .ok (.agg #[.int .i64 216, .int .i64 222, .int .i64 32]) w := by kernel_rfl
theorem index_row4 (w : World) : (Instr.index 31 (.agg rowCells.toArray) (.int .i64 (4 : Nat))).run Tryd.prog w = .ok (.agg #[.int .i64 913, .int .i64 929, .int .i64 32]) w := by kernel_rfl
theorem index_row5 (w : World) : (Instr.index 31 (.agg rowCells.toArray) (.int .i64 (5 : Nat))).run Tryd.prog w = .ok (.agg #[.int .i64 931, .int .i64 937, .int .i64 32]) w := by kernel_rfl
theorem index_row6 (w : World) : (Instr.index 31 (.agg rowCells.toArray) (.int .i64 (6 : Nat))).run Tryd.prog w = .ok (.agg #[.int .i64 962, .int .i64 962, .int .i64 1]) w := by kernel_rfl
theorem index_row7 (w : World) : (Instr.index 31 (.agg rowCells.toArray) (.int .i64 (7 : Nat))).run Tryd.prog w = .ok (.agg #[.int .i64 1024, .int .i64 1039, .int .i64 80]) w := by kernel_rfl
theorem index_row8 (w : World) : (Instr.index 31 (.agg rowCells.toArray) (.int .i64 (8 : Nat))).run Tryd.prog w = .ok (.agg #[.int .i64 1040, .int .i64 1071, .int .i64 32]) w := by kernel_rfl
theorem index_row9 (w : World) : (Instr.index 31 (.agg rowCells.toArray) (.int .i64 (9 : Nat))).run Tryd.prog w = .ok (.agg #[.int .i64 7838, .int .i64 7838, .int .i64 (-7615)]) w := by kernel_rfl
theorem index_row (k : Nat) (r : Int × Int × Int) (hk : rws[k]? = some r) (w : World) : (Instr.index 31 (.agg rowCells.toArray) (.int .i64 k)).run Tryd.prog w = .ok (.agg #[.int .i64 r.1, .int .i64 r.2.1, .int .i64 r.2.2]) w := by
  have h10 : k < 10 := (List.getElem?_eq_some_iff.1 hk).1
  have : k = 0 ∨ k = 1 ∨ k = 2 ∨ k = 3 ∨ k = 4 ∨ k = 5 ∨ k = 6 ∨ k = 7 ∨ k = 8 ∨ k = 9 := by omega
  rcases this with rfl | rfl | rfl | rfl | rfl | rfl | rfl | rfl | rfl | rfl <;> cases hk
  · exact index_row0 w
  · exact index_row1 w
  · exact index_row2 w
  · exact index_row3 w
  · exact index_row4 w
  · exact index_row5 w
  · exact index_row6 w
  · exact index_row7 w
  · exact index_row8 w
  · exact index_row9 w

set_option maxHeartbeats 1000000 in
theorem of_any (c : Int) (w : World) (hT : FoTabs w) : Calls Tryd.prog 7 #[.int .i64 c] w fun e w' => e = .returned (.int .i64 (fo c)) ∧ Below w.heap.size w w' := by
  have HT := Lib.hid hT
  clear hT
  go_enter Tryd.func7, Tryd.ntmps7
  go_wp2_with (first
    | (refine wpList_load_mid rfl 31 _ rfl 0 0 rfl rowCells _ HT.out.cells Tryd.underlying31 rfl (by kernel_rfl) ?_)
    | fail)
  go_loopw [6] (fun i wr => ∃ k : Nat, k ≤ 10 ∧ i = .int .i64 k ∧ Hid (foL (rws.drop k) c = fo c) ∧ Below w.heap.size w wr) (fun i _ => 10 - (intOf i).toNat)
  case atStart => exact ⟨0, by omega, rfl, foL_eq c, Below.refl _ _⟩
  case round =>
    obtain ⟨k, hk, rfl, HF, hb⟩ := hrel
    have HB := Lib.hid hb
    have hsz := hb.size
    clear hb
    by_cases hlt : k < 10
    · have b1 : (k : Int) < 10 := by omega
      obtain ⟨r, hr⟩ : ∃ r, rws[k]? = some r := ⟨_, List.getElem?_eq_getElem (show k < rws.length from hlt)⟩
      have hx := index_row k r hr
      have hdrop : rws.drop k = r :: rws.drop (k + 1) := by
        obtain ⟨hk', hr'⟩ := List.getElem?_eq_some_iff.1 hr
        rw [← hr']; exact List.drop_eq_getElem_cons hk'
      have HD := Lib.hid hdrop
      have hbd := rws_small r (List.mem_of_getElem? hr)
      obtain ⟨a, b, m⟩ := r
      dsimp only at hx hbd
      clear hdrop hr
      rcases ha : decide (a ≤ c) with _ | _
      · go_wp2
        go_roundw
        case rel =>
          refine ⟨k + 1, by omega, by go_num, ?_, HB.out.alloc hsz _⟩
          have := HF.out
          rw [HD.out, foL, if_neg (show ¬ (a ≤ c ∧ c ≤ b) by simp at ha; omega)] at this
          exact this
        case measure => simp [intOf]; omega
      · rcases hbb : decide (c ≤ b) with _ | _
        · go_wp2
          go_roundw
          case rel =>
            refine ⟨k + 1, by omega, by go_num, ?_, HB.out.alloc hsz _⟩
            have := HF.out
            rw [HD.out, foL, if_neg (show ¬ (a ≤ c ∧ c ≤ b) by simp at hbb; omega)] at this
            exact this
          case measure => simp [intOf]; omega
        · have hsum : IntKind.i64.wrap (c + m) = c + m := by
            simp at ha hbb
            exact IntWalk.i64_in _ (by omega)
          go_wp2
          go_ret
          refine ⟨ret_int ?_, HB.out.alloc hsz _⟩
          rw [← HF.out, HD.out, foL, if_pos (show a ≤ c ∧ c ≤ b by simp at ha hbb; omega)]
    · go_wp2
      go_ret
      refine ⟨ret_int ?_, HB.out⟩
      have := HF.out
      rw [show k = 10 by omega] at this
      exact this
end Go.Proofs.YtjlnchocpngnoaaDoor
