/- A character's class: the program's function and the document's are one function of stretches. -/
import Derived.Test.YtadfleopbpomfaaPure
import Derived.Test.YtadfleopbpomfaaChecked
namespace Go.Proofs.Ytadfleopbpomfaa
open Go.RowKit Reckon

/-- where the class turns, and what it is from there on -/
def clsSteps : List (Int × AV) := [(0, .num .i64 9), (9, .num .i64 11), (10, .num .i64 10), (11, .num .i64 11), (12, .num .i64 12), (13, .num .i64 10), (14, .num .i64 9), (28, .num .i64 10), (31, .num .i64 11), (32, .num .i64 12),
  (33, .num .i64 13), (35, .num .i64 5), (38, .num .i64 13), (43, .num .i64 4), (44, .num .i64 7), (45, .num .i64 4), (46, .num .i64 7), (48, .num .i64 3), (58, .num .i64 7), (59, .num .i64 13),
  (65, .num .i64 0), (91, .num .i64 13), (97, .num .i64 0), (123, .num .i64 13), (127, .num .i64 9), (133, .num .i64 10), (134, .num .i64 9), (160, .num .i64 7), (161, .num .i64 13), (162, .num .i64 5),
  (166, .num .i64 13), (170, .num .i64 0), (171, .num .i64 13), (173, .num .i64 9), (174, .num .i64 13), (176, .num .i64 5), (178, .num .i64 3), (180, .num .i64 13), (181, .num .i64 0), (182, .num .i64 13),
  (185, .num .i64 3), (186, .num .i64 0), (187, .num .i64 13), (192, .num .i64 0), (215, .num .i64 13), (216, .num .i64 0), (247, .num .i64 13), (248, .num .i64 0), (768, .num .i64 8), (880, .num .i64 0),
  (1425, .num .i64 8), (1470, .num .i64 1), (1471, .num .i64 8), (1472, .num .i64 1), (1473, .num .i64 8), (1475, .num .i64 0), (1488, .num .i64 1), (1525, .num .i64 0), (1536, .num .i64 6), (1542, .num .i64 13),
  (1544, .num .i64 2), (1545, .num .i64 5), (1547, .num .i64 2), (1548, .num .i64 7), (1549, .num .i64 2), (1550, .num .i64 0), (1552, .num .i64 8), (1563, .num .i64 2), (1611, .num .i64 8), (1632, .num .i64 6),
  (1642, .num .i64 5), (1643, .num .i64 6), (1645, .num .i64 2), (1648, .num .i64 8), (1649, .num .i64 2), (1750, .num .i64 0), (8203, .num .i64 9), (8206, .num .i64 0), (8207, .num .i64 1), (8208, .num .i64 13),
  (8232, .num .i64 12), (8233, .num .i64 10), (8234, .num .i64 14), (8235, .num .i64 16), (8236, .num .i64 18), (8237, .num .i64 15), (8238, .num .i64 17), (8239, .num .i64 7), (8240, .num .i64 5), (8245, .num .i64 13),
  (8260, .num .i64 0), (8294, .num .i64 19), (8295, .num .i64 20), (8296, .num .i64 21), (8297, .num .i64 22), (8298, .num .i64 0), (8304, .num .i64 3), (8305, .num .i64 0), (8308, .num .i64 3), (8314, .num .i64 0),
  (8352, .num .i64 5), (8385, .num .i64 0), (8592, .num .i64 13), (8722, .num .i64 4), (8723, .num .i64 5), (8724, .num .i64 13), (9014, .num .i64 0), (12296, .num .i64 13), (12306, .num .i64 0), (65279, .num .i64 9),
  (65280, .num .i64 0), (128512, .num .i64 13), (128592, .num .i64 0)]
def AV.int : AV → Int
  | .num _ n => n
  | .arg n => n
  | .boo _ => 0
/-- a character's class -/
def cls (c : Int) : Int := AV.int (stepF c (.num .i64 0) clsSteps)
theorem cls_val (c : Int) : (stepF c (.num .i64 0) clsSteps).val c = .int .i64 (cls c) := by
  have h := stepF_all (c := c) (p := fun v => v = .num .i64 (AV.int v)) clsSteps (.num .i64 0) rfl (by decide)
  unfold cls
  rw [h]
  rfl
theorem cls_all {p : Int → Prop} (c : Int) (h0 : p 0) (h : ∀ x ∈ clsSteps, p (AV.int x.2)) : p (cls c) :=
  stepF_all (c := c) (p := fun v => p (AV.int v)) clsSteps (.num .i64 0) h0 h
theorem cls_range (c : Int) : 0 ≤ cls c ∧ cls c ≤ 22 := cls_all (p := fun n => 0 ≤ n ∧ n ≤ 22) c (by decide) (by decide)

noncomputable def clsTab : List (Nat × Func) := [(29, Try.f29), (35, Try.f35), (47, Try.f47)]
theorem clsTab_ok : TabOk Try.prog clsTab := .cons Try.func29 (by kernel_rfl) (.cons Try.func35 (by kernel_rfl) (.cons Try.func47 (by kernel_rfl) (.nil)))
theorem of_any (c : Int) (w : World) : Calls Try.prog 29 #[.int .i64 c] w fun e w' => e = .returned (.int .i64 (cls c)) ∧ w = w' := by
  have h := calls_step clsTab_ok (keep := 40) (m := 3) (f := 29) (v0 := .num .i64 0) (l := clsSteps) (by kernel_rfl) c w
  rw [cls_val] at h
  exact h
noncomputable def rclsTab : List (Nat × Func) := [(21, Try.f21)]
theorem rclsTab_ok : TabOk Try.prog rclsTab := .cons Try.func21 (by kernel_rfl) (.nil)
theorem rof_any (c : Int) (w : World) : Calls Try.prog 21 #[.int .i64 c] w fun e w' => e = .returned (.int .i64 (cls c)) ∧ w = w' := by
  have h := calls_step rclsTab_ok (keep := 14) (m := 1) (f := 21) (v0 := .num .i64 0) (l := clsSteps) (by kernel_rfl) c w
  rw [cls_val] at h
  exact h
end Go.Proofs.Ytadfleopbpomfaa
