/- Layer 9: the program's rule 5: runs of ET, one behind the other. -/
import Derived.Test.YtibconopcacelaaDoorWkC
import Derived.WalkMore
namespace Go.Proofs.YtibconopcacelaaDoor
open Go.RowKit

theorem near_run : ∀ (m : Nat) (rest : List Int), rest.head? ≠ some 5 → nearEN (List.replicate m 5 ++ rest) = decide (rest.head? = some 3)
  | 0, [], _ => rfl
  | 0, x :: r, h => by
    have hx : x ≠ 5 := by simpa using h
    show nearEN (x :: r) = _
    rw [nearEN]
    by_cases h3 : x = 3
    · simp [h3]
    · simp [h3, hx]
  | m + 1, rest, h => by
    rw [List.replicate_succ, List.cons_append, nearEN, near_run m rest h]
    simp
/-- behind what isn't an ET -/
def w5Rest : List Int → List Int
  | [] => []
  | x :: r => x :: rW5 (x == 3) r
theorem w5_rest (b : Bool) (rest : List Int) (h : rest.head? ≠ some 5) : rW5 b rest = w5Rest rest := by
  cases rest with
  | nil => rfl
  | cons x r =>
    have hx : x ≠ 5 := by simpa using h
    rw [rW5, if_neg (by simp [hx]), w5Rest]
    have e : (x == 5) = false := by simp [hx]
    rw [e, Bool.false_and, Bool.or_false]
theorem w5_run : ∀ (m : Nat) (b : Bool) (rest : List Int), rest.head? ≠ some 5 → rW5 b (List.replicate m 5 ++ rest) = List.replicate m (if b = true ∨ rest.head? = some 3 then 3 else 5) ++ w5Rest rest
  | 0, b, rest, h => w5_rest b rest h
  | m + 1, b, rest, h => by
    rw [List.replicate_succ, List.cons_append, rW5, near_run m rest h, w5_run m _ rest h, List.replicate_succ, List.cons_append]
    have e : (((5 : Int) == 3 || (5 : Int) == 5 && (b || decide (rest.head? = some 3))) = true ∨ rest.head? = some 3) ↔ (b = true ∨ rest.head? = some 3) := by
      simp
    have e2 : ((5 : Int) = 5 ∧ (b || decide (rest.head? = some 3)) = true) ↔ (b = true ∨ rest.head? = some 3) := by simp
    by_cases hq : b = true ∨ rest.head? = some 3
    · rw [if_pos (e2.2 hq), if_pos (e.2 hq), if_pos hq]
    · rw [if_neg (fun x => hq (e2.1 x)), if_neg (fun x => hq (e.1 x)), if_neg hq]

/-- what is known where a run begins: f places are done -/
structure RunAt (l : List Int) (f : Nat) (b : Bool) : Prop where
  split : (rW5 false l).drop f = rW5 b (l.drop f)
  ahead : f < l.length → isAt (mixL l (rW5 false l) f) ((f : Int) - 1) 3 = b
theorem run_start (l : List Int) : RunAt l 0 false := ⟨rfl, fun _ => by rw [isAt, decide_eq_false_iff_not]; omega⟩
theorem run_past (l : List Int) {f : Nat} (h : l.length ≤ f) : RunAt l f false :=
  ⟨by rw [List.drop_of_length_le (by rw [w5_length]; omega), List.drop_of_length_le h]; rfl, fun h2 => by omega⟩
/-- a run, from f to t: what stands there behind the rule, and the place behind it -/
theorem run_next {l : List Int} {f t : Nat} {b : Bool} (h : RunAt l f b) (hft : f ≤ t) (ht : t ≤ l.length) (h5 : ∀ j, f ≤ j → j < t → l[j]? = some 5) (hne : l[t]? ≠ some 5) :
    mixL l (rW5 false l) f = (rW5 false l).take f ++ List.replicate (t - f) 5 ++ l.drop t ∧
    (rW5 false l).take f ++ List.replicate (t - f) (if b = true ∨ l[t]? = some 3 then 3 else 5) ++ l.drop t = mixL l (rW5 false l) (t + 1) ∧
    RunAt l (t + 1) (decide (l[t]? = some 3)) := by
  have e1 : l.drop f = List.replicate (t - f) 5 ++ l.drop t := by
    apply List.ext_getElem?
    intro i
    rw [List.getElem?_drop]
    by_cases hi : i < t - f
    · rw [List.getElem?_append_left (by simpa using hi), List.getElem?_replicate, if_pos hi, h5 _ (by omega) (by omega)]
    · rw [List.getElem?_append_right (by simp; omega), List.length_replicate, List.getElem?_drop, show t + (i - (t - f)) = f + i by omega]
  have hh : (l.drop t).head? = l[t]? := by rw [List.head?_drop]
  have e2 := h.split
  rw [e1, w5_run _ _ _ (by rw [hh]; exact hne), hh] at e2
  have hlen := w5_length false l
  have hr5 : mixL l (rW5 false l) f = (rW5 false l).take f ++ List.replicate (t - f) 5 ++ l.drop t := by rw [mixL, e1, List.append_assoc]
  refine ⟨hr5, ?_⟩
  clear hr5 e1
  obtain ⟨X, hX⟩ : ∃ X, List.replicate (t - f) (if b = true ∨ l[t]? = some 3 then (3 : Int) else 5) = X := ⟨_, rfl⟩
  have hXl : X.length = t - f := by rw [← hX, List.length_replicate]
  rw [hX] at e2 ⊢
  obtain ⟨L, hL⟩ : ∃ L, rW5 false l = L := ⟨_, rfl⟩
  rw [hL] at e2 hlen
  have e3 : L.drop t = w5Rest (l.drop t) := by
    have := congrArg (List.drop (t - f)) e2
    rw [List.drop_drop, show f + (t - f) = t by omega, List.drop_append_of_le_length (by omega), List.drop_of_length_le (show X.length ≤ t - f by omega), List.nil_append] at this
    exact this
  have e6 : L.take t = L.take f ++ X := by
    have := congrArg (List.take (t - f)) e2
    rw [List.take_append_of_le_length (by omega), List.take_of_length_le (show X.length ≤ t - f by omega)] at this
    rw [← this, ← List.take_add, show f + (t - f) = t by omega]
  have e4 : ∀ hlt : t < l.length, L.drop t = l[t] :: rW5 (l[t] == 3) (l.drop (t + 1)) := fun hlt => by rw [e3, List.drop_eq_getElem_cons hlt]; rfl
  have e5 : ∀ hlt : t < l.length, L[t]? = some l[t] := fun hlt => by
    have := congrArg (·[0]?) (e4 hlt)
    simpa using this
  refine ⟨?_, ⟨?_, ?_⟩⟩
  · rw [hL]
    by_cases hlt : t < l.length
    · obtain ⟨h6, h7⟩ := List.getElem?_eq_some_iff.1 (e5 hlt)
      rw [mixL, take_snoc _ _ h6, h7, e6, List.drop_eq_getElem_cons hlt]
      simp only [List.append_assoc, List.singleton_append]
    · rw [mixL, List.drop_of_length_le (show l.length ≤ t by omega), List.drop_of_length_le (show l.length ≤ t + 1 by omega), List.take_of_length_le (show L.length ≤ t + 1 by omega), List.append_nil, List.append_nil, ← e6, List.take_of_length_le (by omega)]
  · rw [hL]
    by_cases hlt : t < l.length
    · have := congrArg List.tail (e4 hlt)
      rw [List.tail_drop, List.tail_cons] at this
      rw [this, List.getElem?_eq_getElem hlt]
      congr 1
      by_cases h3 : l[t] = 3 <;> simp [h3]
    · rw [List.drop_of_length_le (by omega), List.drop_of_length_le (by omega)]; rfl
  · intro hlt
    rw [hL]
    have e : ((((t + 1 : Nat) : Int)) - 1).toNat = t := by omega
    rw [isAt, e, mixL, List.getElem?_append_left (by rw [List.length_take]; omega), List.getElem?_take_of_lt (by omega), e5 (by omega), List.getElem?_eq_getElem (show t < l.length by omega)]
    congr 1
    rw [eq_iff_iff]
    exact ⟨fun h => h.2, fun h => ⟨by omega, h⟩⟩

theorem isAt_mix {l l' : List Int} (hl : l'.length = l.length) {f t : Nat} (hf : f ≤ l.length) (hft : f ≤ t) (m : Int) : isAt (mixL l l' f) t m = decide (l[t]? = some m) := by
  have e3 : (l'.take f).length = f := by rw [List.length_take]; omega
  rw [isAt, Int.toNat_natCast, mixL, List.getElem?_append_right (by omega), e3, List.getElem?_drop, show f + (t - f) = t by omega]
  congr 1
  rw [eq_iff_iff]
  exact ⟨fun h => h.2, fun h => ⟨by omega, h⟩⟩
theorem mixL_all {l l' : List Int} (hl : l'.length = l.length) (k : Nat) : (mixL l l' k).length = l.length := by
  simp [mixL]; omega

set_option maxRecDepth 20000 in
set_option maxHeartbeats 4000000 in
theorem terminators_any : Ruled 25 [] (rW5 false) := by
  intro B c A l w hl hB hO
  have h37 := fun (xs : Array Value) (u : World) => call_ok (N := 37) Tryd.func37 (by kernel_rfl) (by kernel_rfl) xs u
  have HC := Lib.hid h37
  clear h37
  show Calls _ _ #[.slice A l.length c] _ _
  by_cases hz : l.length = 0
  · obtain rfl := List.eq_nil_of_length_eq_zero hz
    have HO := Lib.hid hO
    clear hO hz
    go_enter Tryd.func25, Tryd.ntmps25
    go_wp2_with fail
    go_step3
    go_wp2
    go_step3
    go_wp2
    go_loopw [3] (fun i wr => i = .int .i64 0 ∧ wr = w) (fun _ _ => 0)
    case atStart => exact ⟨rfl, rfl⟩
    case round =>
      obtain ⟨rfl, rfl⟩ := hrel
      go_wp2
      rw [Exit.noGoto_normal]
      exact bodyPost_end (results_none rfl _ _ _) rfl ⟨rfl, HO.out, Below.refl _ _⟩
  have hi : (ints .i64 l).length = l.length := by simp [ints]
  obtain ⟨g, c', hv, hR⟩ := hO.inRow (by omega)
  injection hv with hA hx hc
  subst hA hc
  clear hx
  have hcl : l.length ≤ c := by
    obtain ⟨_, c1, hv, _, h2, _⟩ := hO.form
    injection hv with _ _ hc
    subst hc; rw [hi] at h2; exact h2
  have hcm : c ≤ maxLen := by
    obtain ⟨_, c1, hv, _, _, h2⟩ := hO.form
    injection hv with _ _ hc
    subst hc; exact h2
  unfold maxLen at hcm
  have HO := Lib.hid hO
  have HB := Lib.hid hB
  clear hO hR hB hi
  go_enter Tryd.func25, Tryd.ntmps25
  go_wp2_with fail
  go_step3
  go_wp2
  go_step3
  go_wp2
  go_loopw [3, 2] (fun fv tv wr => ∃ (f t : Nat) (b : Bool), f ≤ l.length + 1 ∧ fv = .int .i64 f ∧ tv = .int .i64 t ∧ Hid (RunAt l f b) ∧ Hid (Own wr B 3 (.slice (some ⟨g, 0, none⟩) l.length c) (ints .i64 (mixL l (rW5 false l) f))) ∧ Hid (Below B w wr)) (fun fv _ _ => l.length + 1 - (intOf fv).toNat)
  case atStart => exact ⟨0, 0, false, by omega, rfl, rfl, Lib.hid (run_start l), HO, Lib.hid (Below.refl _ _)⟩
  case round =>
    obtain ⟨f, t0, b, hf, rfl, rfl, HRA, HOr, HBr⟩ := hrel
    by_cases hlt : f < l.length
    · have b0 : (f : Int) < (l.length : Int) := by omega
      have hLI : Lies wr wr.heap.size (some ⟨g, 0, none⟩) (ints .i64 (mixL l (rW5 false l) f)) := by
        obtain ⟨_, _, hv, h2, _⟩ := HOr.out.form
        injection hv with hA _ _
        subst hA; exact h2
      have hml : (mixL l (rW5 false l) f).length = l.length := mixL_length (w5_length _ _) (by omega)
      have HIS : Hid (∀ i k : Int, Calls Tryd.prog 36 #[.slice (some ⟨g, 0, none⟩) l.length c, .int .i64 i, .int .i64 k] wr fun ed w' => ed = .returned (.bool (isAt (mixL l (rW5 false l) f) i k)) ∧ wr = w') := Lib.hid fun i k => by
        have := wis_any (some ⟨g, 0, none⟩) (mixL l (rW5 false l) f) c i k wr hLI (by omega)
        rw [hml] at this
        exact this
      have HML := Lib.hid hml
      clear hLI hml
      go_wp2_with fail
      go_loopw [2] (fun tv wx => ∃ t : Nat, f ≤ t ∧ t ≤ l.length ∧ tv = .int .i64 t ∧ Hid (∀ j, f ≤ j → j < t → l[j]? = some 5) ∧ wx = wr) (fun tv _ => l.length + 1 - (intOf tv).toNat)
      case atStart => exact ⟨f, by omega, by omega, rfl, Lib.hid (fun j h1 h2 => by omega), rfl⟩
      case round =>
        obtain ⟨t, hft, htl, rfl, H5, rfl⟩ := hrel
        rcases h5 : isAt (mixL l (rW5 false l) f) t 5 with _ | _
        · have HT5 := Lib.hid h5
          have hne : l[t]? ≠ some 5 := by
            rw [isAt_mix (w5_length _ _) (by omega) hft] at h5
            simpa using h5
          have HNX := Lib.hid (run_next HRA.out hft htl H5.out hne)
          have h3 : isAt (mixL l (rW5 false l) f) t 3 = decide (l[t]? = some 3) := isAt_mix (w5_length _ _) (by omega) hft 3
          have hw0 : IntKind.i64.wrap ((t : Int) + 1) = ((t + 1 : Nat) : Int) := by rw [IntWalk.i64_in _ (by omega)]; rfl
          have hw1 : IntKind.i64.wrap ((f : Int) - 1) = (f : Int) - 1 := IntWalk.i64_in _ (by omega)
          have HH3 := Lib.hid h3
          have HAH := Lib.hid (HRA.out.ahead hlt)
          clear h5 hne h3
          have HE : Hid ((b = true ∨ l[t]? = some 3) → Calls Tryd.prog 19 #[.slice (some ⟨g, f, none⟩) (t - f) (c - f), .func (.func 37) #[] #[]] wr fun ed w' =>
              ed = .returned (.tuple #[]) ∧ Own w' B 3 (.slice (some ⟨g, 0, none⟩) l.length c) (ints .i64 (mixL l (rW5 false l) (t + 1))) ∧ Below B wr w') := Lib.hid fun hbb => by
            obtain ⟨n1, n2, -⟩ := HNX.out
            rw [if_pos hbb] at n2
            have hlp : ((rW5 false l).take f).length = f := by rw [List.length_take, w5_length]; omega
            have hrl : (ints .i64 (mixL l (rW5 false l) f)).length = l.length := by rw [ints, List.length_map]; exact HML.out
            have hr : Row wr B 3 g c (ints .i64 ((rW5 false l).take f ++ List.replicate (t - f) 5 ++ l.drop t)) := by
              rw [← n1, Row, hrl]; exact HOr.out
            have h := each_any 37 [] HC.out B g c (c - f) ((rW5 false l).take f) (List.replicate (t - f) 5) (List.replicate (t - f) 3) (l.drop t) (by simp) (fun _ _ => True) wr
              (by rw [← n1, HML.out]; exact hl) hr trivial (fun k hk wx _ _ hrx => (term1_any k _ wx).mono fun ed w' ⟨h1, h2⟩ => by
                subst h2
                rw [List.length_replicate] at hk
                refine ⟨?_, trivial, hrx, Below.refl _ _⟩
                rw [h1, List.getD_eq_getElem?_getD, List.getElem?_replicate, if_pos hk]; rfl)
              (fun _ _ _ _ _ => trivial)
            rw [hlp, List.length_replicate] at h
            refine h.mono fun ed w' ⟨h1, _, h2, h3⟩ => ⟨h1, ?_, h3⟩
            rw [n2, Row, ints, List.length_map, mixL_all (w5_length _ _)] at h2
            exact h2
          have c1 : ¬ c = f := by omega
          have c2 : (f : Int) ≤ (t : Int) := by omega
          have c3 : (t : Int) ≤ (c : Int) := by omega
          have c4 : (0 : Int) ≤ (f : Int) := by omega
          rcases hb1 : b with _ | _
          · have HB1 := Lib.hid hb1
            rcases hb2 : decide (l[t]? = some 3) with _ | _
            · have HB2 := Lib.hid hb2
              clear hb1 hb2
              go_wp2_with fail
              refine (HIS.out t 5).mono ?_
              rintro e wq ⟨rfl, rfl⟩
              rw [HT5.out]
              go_wp2_with fail
              refine (HIS.out ((f : Int) - 1) 3).mono ?_
              rintro e wq ⟨rfl, rfl⟩
              rw [HAH.out, HB1.out]
              go_wp2_with fail
              refine (HIS.out t 3).mono ?_
              rintro e wq ⟨rfl, rfl⟩
              rw [HH3.out, HB2.out]
              go_wp2
              go_roundw
              case rel =>
                refine ⟨t + 1, t, _, by omega, by go_num, rfl, Lib.hid HNX.out.2.2, Lib.hid ?_, HBr⟩
                obtain ⟨n1, n2, -⟩ := HNX.out
                have hno : ¬ (b = true ∨ l[t]? = some 3) := by rw [HB1.out]; have := HB2.out; simpa using this
                rw [if_neg hno, ← n1] at n2
                rw [← n2]; exact HOr.out
              case measure => simp [intOf]; omega
            · have HB2 := Lib.hid hb2
              clear hb1 hb2
              go_wp2_with fail
              refine (HIS.out t 5).mono ?_
              rintro e wq ⟨rfl, rfl⟩
              rw [HT5.out]
              go_wp2_with fail
              refine (HIS.out ((f : Int) - 1) 3).mono ?_
              rintro e wq ⟨rfl, rfl⟩
              rw [HAH.out, HB1.out]
              go_wp2_with fail
              refine (HIS.out t 3).mono ?_
              rintro e wq ⟨rfl, rfl⟩
              rw [HH3.out, HB2.out]
              go_wp2_with fail
              refine (HE.out (.inr (of_decide_eq_true HB2.out))).mono ?_
              rintro e w2 ⟨rfl, o2, b2⟩
              have O2 := Lib.hid o2
              have B2 := Lib.hid (HBr.out.trans b2)
              clear o2 b2
              go_wp2
              go_roundw
              case rel => exact ⟨t + 1, t, _, by omega, by go_num, rfl, Lib.hid HNX.out.2.2, O2, B2⟩
              case measure => simp [intOf]; omega
          · have HB1 := Lib.hid hb1
            clear hb1
            go_wp2_with fail
            refine (HIS.out t 5).mono ?_
            rintro e wq ⟨rfl, rfl⟩
            rw [HT5.out]
            go_wp2_with fail
            refine (HIS.out ((f : Int) - 1) 3).mono ?_
            rintro e wq ⟨rfl, rfl⟩
            rw [HAH.out, HB1.out]
            go_wp2_with fail
            refine (HE.out (.inl HB1.out)).mono ?_
            rintro e w2 ⟨rfl, o2, b2⟩
            have O2 := Lib.hid o2
            have B2 := Lib.hid (HBr.out.trans b2)
            clear o2 b2
            go_wp2
            go_roundw
            case rel => exact ⟨t + 1, t, _, by omega, by go_num, rfl, Lib.hid HNX.out.2.2, O2, B2⟩
            case measure => simp [intOf]; omega
        · have HT5 := Lib.hid h5
          have h5' : l[t]? = some 5 := by
            rw [isAt_mix (w5_length _ _) (by omega) hft] at h5
            simpa using h5
          have hlt2 : t < l.length := by
            obtain ⟨h, _⟩ := List.getElem?_eq_some_iff.1 h5'
            exact h
          have H5' := Lib.hid h5'
          have hw0 : IntKind.i64.wrap ((t : Int) + 1) = ((t + 1 : Nat) : Int) := by rw [IntWalk.i64_in _ (by omega)]; rfl
          clear h5 h5'
          go_wp2_with fail
          refine (HIS.out t 5).mono ?_
          rintro e wq ⟨rfl, rfl⟩
          rw [HT5.out]
          go_wp2
          go_roundw
          case rel =>
            refine ⟨t + 1, by omega, by omega, by go_num, Lib.hid fun j h1 h2 => ?_, by first | rfl | trivial⟩
            by_cases hj : j = t
            · subst hj; exact H5'.out
            · exact H5.out j h1 (by omega)
          case measure => simp [intOf]; omega
    · go_wp2
      rw [Exit.noGoto_normal]
      refine bodyPost_end (results_none rfl _ _ _) rfl ⟨rfl, ?_, HBr.out⟩
      have := HOr.out
      rw [mixL, List.take_of_length_le (by rw [w5_length]; omega), List.drop_of_length_le (by omega), List.append_nil] at this
      exact this
end Go.Proofs.YtibconopcacelaaDoor
