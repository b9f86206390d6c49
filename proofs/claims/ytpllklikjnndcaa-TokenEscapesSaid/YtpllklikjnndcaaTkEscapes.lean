/- TokenEscapes: an escape is a character or a group alone, where there is one, and a wrong pattern, where there is none. Conditions: none. -/
import Derived.Test.YtpllklikjnndcaaTkV
import Derived.Test.YtpllklikjnndcaaLaw
import Derived.Test.YtpllklikjnndcaaRows
namespace Go.Proofs.Ytpllklikjnndcaa.lawEscapes
open Go.ChangeShapes Go.WideShapes Go.ChangeAt Go.RowKit

theorem of_escape (x : Int) : ofT [92, x] = (match escI x with
    | none => .error (0, 6)
    | some (z, true) => .ok [⟨12, z, 0, 0, 0⟩]
    | some (z, false) => .ok [⟨1, z, 0, 0, 0⟩]) := by
  rcases he : escI x with _ | ⟨z, g⟩
  · simp [ofT, readT, outT, outB, nxT, escT, he, plT]
  · cases g <;> simp [ofT, readT, outT, outB, nxT, escT, he, plT, chT]
theorem esc_sign {x : Int} (h : signI x = true) : escI x = some (x, false) := by
  have hx : ¬ x = 110 ∧ ¬ x = 116 ∧ ¬ (x = 100 ∨ x = 119 ∨ x = 115 ∨ x = 68 ∨ x = 87 ∨ x = 83) := by
    simp [signI] at h; omega
  unfold escI
  rw [if_neg hx.1, if_neg hx.2.1, if_neg hx.2.2, if_pos h]

set_option maxRecDepth 20000 in
set_option maxHeartbeats 4000000 in
theorem walk (w : World) (x : Int) (_ : (Lit.int .i64 x).wf = true) : Calls Try.prog 6 #[.int .i64 x] w fun e w' => e = .returned (.bool true) ∧ Below w.heap.size w w' := by
  have hof := of_escape x
  rcases hs : signI x with _ | _
  · rcases he : escI x with _ | ⟨z, g⟩
    · have HV : Hid (escV x = .tuple #[.int .i64 0, .bool false, .bool false]) := Lib.hid (by unfold escV; rw [he])
      have HF : Hid (ofT [92, x] = .error (0, 6)) := Lib.hid (by rw [hof, he])
      have HS := Lib.hid hs
      clear hs he hof
      go_enter Try.func6, Try.ntmps6
      go_wp2_with fail
      refine (tkalive_any w).mono ?_
      rintro e w1 ⟨rfl, b1⟩
      have B1 := Lib.hid b1
      clear b1
      go_wp2_with fail
      refine (tkescape_any x w1).mono ?_
      rintro e wq ⟨rfl, rfl⟩
      rw [HV.out]
      go_wp2_with fail
      have C2 := Lib.hid (tkof_any (w1.alloc (.cells #[.int .i64 92, .int .i64 x] 3)) 2 (some ⟨w1.heap.size, 0, none⟩) [92, x] (Lies.litUp (w := w1) (e := 3) #[.int .i64 92, .int .i64 x]) (by simp))
      rw [HF.out] at C2
      refine C2.out.mono ?_
      rintro e w2 ⟨rfl, b2⟩
      have B2 := Lib.hid (below_then (below_then B1.out (below_alloc w1 _)) b2)
      clear b2
      go_wp2_with fail
      refine (tksign_any x w2).mono ?_
      rintro e wq ⟨rfl, rfl⟩
      rw [HS.out]
      go_wp2_with fail
      go_ret
      exact ⟨rfl, B2.out⟩
    · have HV : Hid (escV x = .tuple #[.int .i64 z, .bool g, .bool true]) := Lib.hid (by unfold escV; rw [he])
      have HS := Lib.hid hs
      cases g
      · have HF : Hid (ofT [92, x] = .ok [⟨1, z, 0, 0, 0⟩]) := Lib.hid (by rw [hof, he])
        have heq := fun u => eq_tok ⟨1, z, 0, 0, 0⟩ u
        clear hs he hof
        go_enter Try.func6, Try.ntmps6
        go_wp2_with fail
        refine (tkalive_any w).mono ?_
        rintro e w1 ⟨rfl, b1⟩
        have B1 := Lib.hid b1
        clear b1
        go_wp2_with fail
        refine (tkescape_any x w1).mono ?_
        rintro e wq ⟨rfl, rfl⟩
        rw [HV.out]
        go_wp2_with fail
        have C2 := Lib.hid (tkof_any (w1.alloc (.cells #[.int .i64 92, .int .i64 x] 3)) 2 (some ⟨w1.heap.size, 0, none⟩) [92, x] (Lies.litUp (w := w1) (e := 3) #[.int .i64 92, .int .i64 x]) (by simp))
        rw [HF.out] at C2
        refine C2.out.mono ?_
        rintro e w2 ⟨⟨tv, rfl, o2⟩, b2⟩
        obtain ⟨g, cp, rfl, -, -, hgl, -⟩ := o2.block (by simp)
        have B2 := Lib.hid (below_then (below_then B1.out (below_alloc w1 _)) b2)
        obtain ⟨a0, a1, a2, a3, a4⟩ := tok_cells_at o2 rfl (k := 0) (by simp)
        simp only [List.getElem_cons_zero, Nat.zero_mul, Nat.zero_add] at a0 a1 a2 a3 a4
        simp only [List.length_cons, List.length_nil, Nat.zero_add]
        clear b2 o2
        go_wp2_with fail
        refine (tksign_any x w2).mono ?_
        rintro e wq ⟨rfl, rfl⟩
        rw [HS.out]
        go_wp2_with fail
        go_ret
        exact ⟨rfl, B2.out⟩
      · have HF : Hid (ofT [92, x] = .ok [⟨12, z, 0, 0, 0⟩]) := Lib.hid (by rw [hof, he])
        have heq := fun u => eq_tok ⟨12, z, 0, 0, 0⟩ u
        clear hs he hof
        go_enter Try.func6, Try.ntmps6
        go_wp2_with fail
        refine (tkalive_any w).mono ?_
        rintro e w1 ⟨rfl, b1⟩
        have B1 := Lib.hid b1
        clear b1
        go_wp2_with fail
        refine (tkescape_any x w1).mono ?_
        rintro e wq ⟨rfl, rfl⟩
        rw [HV.out]
        go_wp2_with fail
        have C2 := Lib.hid (tkof_any (w1.alloc (.cells #[.int .i64 92, .int .i64 x] 3)) 2 (some ⟨w1.heap.size, 0, none⟩) [92, x] (Lies.litUp (w := w1) (e := 3) #[.int .i64 92, .int .i64 x]) (by simp))
        rw [HF.out] at C2
        refine C2.out.mono ?_
        rintro e w2 ⟨⟨tv, rfl, o2⟩, b2⟩
        obtain ⟨g, cp, rfl, -, -, hgl, -⟩ := o2.block (by simp)
        have B2 := Lib.hid (below_then (below_then B1.out (below_alloc w1 _)) b2)
        obtain ⟨a0, a1, a2, a3, a4⟩ := tok_cells_at o2 rfl (k := 0) (by simp)
        simp only [List.getElem_cons_zero, Nat.zero_mul, Nat.zero_add] at a0 a1 a2 a3 a4
        simp only [List.length_cons, List.length_nil, Nat.zero_add]
        clear b2 o2
        go_wp2_with fail
        refine (tksign_any x w2).mono ?_
        rintro e wq ⟨rfl, rfl⟩
        rw [HS.out]
        go_wp2_with fail
        go_ret
        exact ⟨rfl, B2.out⟩
  · have he := esc_sign hs
    have HV : Hid (escV x = .tuple #[.int .i64 x, .bool false, .bool true]) := Lib.hid (by unfold escV; rw [he])
    have HS := Lib.hid hs
    have HF : Hid (ofT [92, x] = .ok [⟨1, x, 0, 0, 0⟩]) := Lib.hid (by rw [hof, he])
    have heq := fun u => eq_tok ⟨1, x, 0, 0, 0⟩ u
    clear hs he hof
    go_enter Try.func6, Try.ntmps6
    go_wp2_with fail
    refine (tkalive_any w).mono ?_
    rintro e w1 ⟨rfl, b1⟩
    have B1 := Lib.hid b1
    clear b1
    go_wp2_with fail
    refine (tkescape_any x w1).mono ?_
    rintro e wq ⟨rfl, rfl⟩
    rw [HV.out]
    go_wp2_with fail
    have C2 := Lib.hid (tkof_any (w1.alloc (.cells #[.int .i64 92, .int .i64 x] 3)) 2 (some ⟨w1.heap.size, 0, none⟩) [92, x] (Lies.litUp (w := w1) (e := 3) #[.int .i64 92, .int .i64 x]) (by simp))
    rw [HF.out] at C2
    refine C2.out.mono ?_
    rintro e w2 ⟨⟨tv, rfl, o2⟩, b2⟩
    obtain ⟨g, cp, rfl, -, -, hgl, -⟩ := o2.block (by simp)
    have B2 := Lib.hid (below_then (below_then B1.out (below_alloc w1 _)) b2)
    obtain ⟨a0, a1, a2, a3, a4⟩ := tok_cells_at o2 rfl (k := 0) (by simp)
    simp only [List.getElem_cons_zero, Nat.zero_mul, Nat.zero_add] at a0 a1 a2 a3 a4
    simp only [List.length_cons, List.length_nil, Nat.zero_add]
    clear b2 o2
    go_wp2_with fail
    refine (tksign_any x w2).mono ?_
    rintro e wq ⟨rfl, rfl⟩
    rw [HS.out]
    go_wp2_with fail
    go_ret
    exact ⟨rfl, B2.out⟩
-- WRAP
theorem spec : LawSpec Rows.tokenEscapesSpec 1 := ⟨rfl, fun H ds h => by
  match ds, h with
  | [d0], _ => rfl⟩
theorem params_ok : ∀ t ∈ Try.f6.params.toList, Try.prog.readableRec t = true ∧ t < Try.prog.types.size := by
  rw [Try.params6]
  intro t ht
  simp only [List.mem_cons, List.mem_nil_iff, or_false] at ht
  rcases ht with rfl
  all_goals exact ⟨by kernel_rfl, of_decide_eq_true (by kernel_rfl)⟩

set_option maxRecDepth 100000 in
theorem contract (H : Type) (enc : TypeId × Value → H) (W : World) (base : Nat) (args : Array Value) (ds gs : List (DataW H)) (before : List MemPlace)
    (hval : ∀ (j : Nat) t v, Try.f6.params[j]? = some t → args[j]? = some v → Value.okWide Try.prog W .any base t v)
    (hW : DataW.Whole enc Try.prog Try.f6.params.toList Rows.tokenEscapesSpec.vars false W args.toList ds gs before) :
    Calls Try.prog 6 args W fun e W' => ∃ v, e = .returned v ∧ Rows.tokenEscapesSpec.post enc Try.prog Try.f6 false true false false W args v W' := by
  have hW' := hW
  obtain ⟨p, q, hA0, hV, rfl, hfz, hnd⟩ := hW
  have hA : DataW.TrodAll enc Try.prog W 0 (fun _ => true) true Try.f6.params.toList args.toList ds p := hA0
  rw [Try.params6] at hA hval
  obtain ⟨v0, vs0, d0, ds0, p0, q0, hargs, rfl, rfl, h0, r0⟩ := trodAll_cons hA
  obtain ⟨rfl, rfl, rfl⟩ := trodAll_nil r0
  obtain rfl : args = #[v0] := by cases args; simp_all
  obtain ⟨a0, rfl, rfl, rfl, w0⟩ := open_int Try.underlying3 (hval 0 3 v0 rfl rfl) h0
  exact (walk W a0 w0).mono fun e W' ⟨he, hg⟩ => ⟨_, he, law_post spec (by rw [Try.params6]; rfl) (by kernel_rfl) params_ok (by kernel_rfl) Try.underlying4 hW' hg⟩

theorem own : ownKnob Try.prog.godebug = none := by kernel_rfl
set_option maxRecDepth 100000 in
theorem lifted (os : Os) (started : os.Started) (H : Type) (enc : TypeId × Value → H) :
    ReturnsInHanded {} Try.checked os 6 .any (Rows.tokenEscapesSpec.pre6 enc Try.prog Try.f6 Rows.tokenEscapesRow.domain false) (Rows.tokenEscapesSpec.post enc Try.prog Try.f6 false true false false) := by
  refine returnsInHanded_of_change (C := Try.checked) own started (by kernel_rfl) Try.func6
    (ChangeSpec.witness6 (enc := enc) (C := Try.checked) false ⟨#[], #[.int .i64 0], []⟩ 8 (by kernel_rfl) (by kernel_rfl) (by kernel_rfl) (by kernel_rfl)) ?_
  intro W base args ds gs before hval hW _ _
  exact contract H enc W base args ds gs before hval hW
set_option maxRecDepth 100000 in
theorem said : Rows.TokenEscapesSaid :=
  OpenClaim.holds_of_wide 6 Try.f6 rfl rfl rfl rfl rfl rfl rfl ⟨rfl, rfl, rfl, rfl, rfl⟩ rfl rfl rfl rfl rfl (by kernel_rfl) Try.func6 (by kernel_rfl)
    (of_decide_eq_true (by kernel_rfl)) (by unfold Func.isWrapper; first | (rw [if_pos (by decide +kernel)]; kernel_rfl) | (rw [if_neg (by decide +kernel)]; exact ⟨rfl, rfl⟩))
    (fun os started H enc _ => lifted os started H enc)
end Go.Proofs.Ytpllklikjnndcaa.lawEscapes
