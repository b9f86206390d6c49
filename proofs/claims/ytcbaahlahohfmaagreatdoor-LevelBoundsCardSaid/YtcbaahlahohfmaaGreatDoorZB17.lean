/- Shared texts, shaken for one claim. -/
import Derived.WalkMore
import Derived.Test.YtcbaahlahohfmaaGreatDoorZB1
import Derived.Test.YtcbaahlahohfmaaGreatDoorZB2
import Derived.Test.YtcbaahlahohfmaaGreatDoorZB3
import Derived.Test.YtcbaahlahohfmaaGreatDoorZB11
import Derived.Test.YtcbaahlahohfmaaGreatDoorZB12
import Derived.Test.YtcbaahlahohfmaaGreatDoorZB15
import Derived.Test.YtcbaahlahohfmaaGreatDoorZB16
namespace Go.Proofs.YtcbaahlahohfmaaGreatDoor
open Go.RowKit
theorem near_run : ∀ (m : Nat) (rest : List Int), rest.head? ≠ some 5 → nearEN (List.replicate m 5 ++ rest) = decide (rest.head? = some 3)
 | 0, [], _ => rfl
 | 0, x :: r, h => by
  have hx : x ≠ 5 := by simpa using h
  show nearEN (x :: r) = _
  rw [nearEN]
  by_cases h3 : x = 3
  ·simp [h3]
  ·simp [h3, hx]
 | m + 1, rest, h => by
  rw [List.replicate_succ, List.cons_append, nearEN, near_run m rest h]
  simp
def w5Rest : List Int → List Int
 | [] => []
 | x :: r => x :: rW5 (x == 3) r
theorem w5_rest (b : Bool) (rest : List Int) (h : rest.head? ≠ some 5) : rW5 b rest = w5Rest rest := by
 cases rest with
 | nil => rfl
 | cons x r =>
  have hx : x ≠ 5 := by simpa using h
  rw [rW5, if_neg (by simp [hx]), w5Rest]
  have e : (x == 5) = false := by simp [hx]
  rw [e, Bool.false_and, Bool.or_false]
theorem w5_run : ∀ (m : Nat) (b : Bool) (rest : List Int), rest.head? ≠ some 5 → rW5 b (List.replicate m 5 ++ rest) = List.replicate m (if b = true ∨ rest.head? = some 3 then 3 else 5) ++ w5Rest rest
 | 0, b, rest, h => w5_rest b rest h
 | m + 1, b, rest, h => by
  rw [List.replicate_succ, List.cons_append, rW5, near_run m rest h, w5_run m _ rest h, List.replicate_succ, List.cons_append]
  have e : (((5 : Int) == 3 || (5 : Int) == 5 && (b || decide (rest.head? = some 3))) = true ∨ rest.head? = some 3) ↔ (b = true ∨ rest.head? = some 3) := by
   simp
  have e2 : ((5 : Int) = 5 ∧ (b || decide (rest.head? = some 3)) = true) ↔ (b = true ∨ rest.head? = some 3) := by simp
  by_cases hq : b = true ∨ rest.head? = some 3
  ·rw [if_pos (e2.2 hq), if_pos (e.2 hq), if_pos hq]
  ·rw [if_neg (fun x => hq (e2.1 x)), if_neg (fun x => hq (e.1 x)), if_neg hq]
structure RunAt (l : List Int) (f : Nat) (b : Bool) : Prop where
 split : (rW5 false l).drop f = rW5 b (l.drop f)
 ahead : f < l.length → isAt (mixL l (rW5 false l) f) ((f : Int) - 1) 3 = b
theorem run_start (l : List Int) : RunAt l 0 false := ⟨rfl, fun _ => by rw [isAt, decide_eq_false_iff_not]; omega⟩
theorem run_next {l : List Int} {f t : Nat} {b : Bool} (h : RunAt l f b) (hft : f ≤ t) (ht : t ≤ l.length) (h5 : ∀ j, f ≤ j → j < t → l[j]? = some 5) (hne : l[t]? ≠ some 5) :
 mixL l (rW5 false l) f = (rW5 false l).take f ++ List.replicate (t - f) 5 ++ l.drop t ∧
 (rW5 false l).take f ++ List.replicate (t - f) (if b = true ∨ l[t]? = some 3 then 3 else 5) ++ l.drop t = mixL l (rW5 false l) (t + 1) ∧
 RunAt l (t + 1) (decide (l[t]? = some 3)) := by
 have e1 : l.drop f = List.replicate (t - f) 5 ++ l.drop t := by
  apply List.ext_getElem?
  intro i
  rw [List.getElem?_drop]
  by_cases hi : i < t - f
  ·rw [List.getElem?_append_left (by simpa using hi), List.getElem?_replicate, if_pos hi, h5 _ (by omega) (by omega)]
  ·rw [List.getElem?_append_right (by simp; omega), List.length_replicate, List.getElem?_drop, show t + (i - (t - f)) = f + i by omega]
 have hh : (l.drop t).head? = l[t]? := by rw [List.head?_drop]
 have e2 := h.split
 rw [e1, w5_run _ _ _ (by rw [hh]; exact hne), hh] at e2
 have hlen := w5_length false l
 have hr5 : mixL l (rW5 false l) f = (rW5 false l).take f ++ List.replicate (t - f) 5 ++ l.drop t := by rw [mixL, e1, List.append_assoc]
 refine ⟨hr5, ?_⟩
 clear hr5 e1
 obtain ⟨X, hX⟩ : ∃ X, List.replicate (t - f) (if b = true ∨ l[t]? = some 3 then (3 : Int) else 5) = X := ⟨_, rfl⟩
 have hXl : X.length = t - f := by rw [← hX, List.length_replicate]
 rw [hX] at e2 ⊢
 obtain ⟨L, hL⟩ : ∃ L, rW5 false l = L := ⟨_, rfl⟩
 rw [hL] at e2 hlen
 have e3 : L.drop t = w5Rest (l.drop t) := by
  have := congrArg (List.drop (t - f)) e2
  rw [List.drop_drop, show f + (t - f) = t by omega, List.drop_append_of_le_length (by omega), List.drop_of_length_le (show X.length ≤ t - f by omega), List.nil_append] at this
  exact this
 have e6 : L.take t = L.take f ++ X := by
  have := congrArg (List.take (t - f)) e2
  rw [List.take_append_of_le_length (by omega), List.take_of_length_le (show X.length ≤ t - f by omega)] at this
  rw [← this, ← List.take_add, show f + (t - f) = t by omega]
 have e4 : ∀ hlt : t < l.length, L.drop t = l[t] :: rW5 (l[t] == 3) (l.drop (t + 1)) := fun hlt => by rw [e3, List.drop_eq_getElem_cons hlt]; rfl
 have e5 : ∀ hlt : t < l.length, L[t]? = some l[t] := fun hlt => by
  have := congrArg (·[0]?) (e4 hlt)
  simpa using this
 refine ⟨?_, ⟨?_, ?_⟩⟩
 ·rw [hL]
  by_cases hlt : t < l.length
  ·obtain ⟨h6, h7⟩ := List.getElem?_eq_some_iff.1 (e5 hlt)
   rw [mixL, take_snoc _ _ h6, h7, e6, List.drop_eq_getElem_cons hlt]
   simp only [List.append_assoc, List.singleton_append]
  ·rw [mixL, List.drop_of_length_le (show l.length ≤ t by omega), List.drop_of_length_le (show l.length ≤ t + 1 by omega), List.take_of_length_le (show L.length ≤ t + 1 by omega), List.append_nil, List.append_nil, ← e6, List.take_of_length_le (by omega)]
 ·rw [hL]
  by_cases hlt : t < l.length
  ·have := congrArg List.tail (e4 hlt)
   rw [List.tail_drop, List.tail_cons] at this
   rw [this, List.getElem?_eq_getElem hlt]
   congr 1
   by_cases h3 : l[t] = 3 <;> simp [h3]
  ·rw [List.drop_of_length_le (by omega), List.drop_of_length_le (by omega)]; rfl
 ·intro hlt
  rw [hL]
  have e : ((((t + 1 : Nat) : Int)) - 1).toNat = t := by omega
  rw [isAt, e, mixL, List.getElem?_append_left (by rw [List.length_take]; omega), List.getElem?_take_of_lt (by omega), e5 (by omega), List.getElem?_eq_getElem (show t < l.length by omega)]
  congr 1
  rw [eq_iff_iff]
  exact ⟨fun h => h.2, fun h => ⟨by omega, h⟩⟩
theorem isAt_mix {l l' : List Int} (hl : l'.length = l.length) {f t : Nat} (hf : f ≤ l.length) (hft : f ≤ t) (m : Int) : isAt (mixL l l' f) t m = decide (l[t]? = some m) := by
 have e3 : (l'.take f).length = f := by rw [List.length_take]; omega
 rw [isAt, Int.toNat_natCast, mixL, List.getElem?_append_right (by omega), e3, List.getElem?_drop, show f + (t - f) = t by omega]
 congr 1
 rw [eq_iff_iff]
 exact ⟨fun h => h.2, fun h => ⟨by omega, h⟩⟩
set_option maxRecDepth 20000 in
set_option maxHeartbeats 4000000 in
theorem terminators_any : Ruled 138 [] (rW5 false) := by
 intro B c A l w hl hB hO
 have h37 := fun (xs : Array Value) (u : World) => call_ok (N := 167) Tryz.func167 (by kernel_rfl) (by kernel_rfl) xs u
 have HC := Lib.hid h37
 clear h37
 show Calls _ _ #[.slice A l.length c] _ _
 by_cases hz : l.length = 0
 ·obtain rfl := List.eq_nil_of_length_eq_zero hz
  have HO := Lib.hid hO
  clear hO hz
  go_enter Tryz.func138, Tryz.ntmps138
  go_wp2_with fail
  go_step3
  go_wp2
  go_step3
  go_wp2
  go_loopw [3] (fun i wr => i = .int .i64 0 ∧ wr = w) (fun _ _ => 0)
  case atStart => exact ⟨rfl, rfl⟩
  case round =>
   obtain ⟨rfl, rfl⟩ := hrel
   go_wp2
   rw [Exit.noGoto_normal]
   exact bodyPost_end (results_none rfl _ _ _) rfl ⟨rfl, HO.out, Below.refl _ _⟩
 have hi : (ints .i64 l).length = l.length := by simp [ints]
 obtain ⟨g, c', hv, hR⟩ := hO.inRow (by omega)
 injection hv with hA hx hc
 subst hA hc
 clear hx
 have hcl : l.length ≤ c := by
  obtain ⟨_, c1, hv, _, h2, _⟩ := hO.form
  injection hv with _ _ hc
  subst hc; rw [hi] at h2; exact h2
 have hcm : c ≤ maxLen := by
  obtain ⟨_, c1, hv, _, _, h2⟩ := hO.form
  injection hv with _ _ hc
  subst hc; exact h2
 unfold maxLen at hcm
 have HO := Lib.hid hO
 have HB := Lib.hid hB
 clear hO hR hB hi
 go_enter Tryz.func138, Tryz.ntmps138
 go_wp2_with fail
 go_step3
 go_wp2
 go_step3
 go_wp2
 go_loopw [3, 2] (fun fv tv wr => ∃ (f t : Nat) (b : Bool), f ≤ l.length + 1 ∧ fv = .int .i64 f ∧ tv = .int .i64 t ∧ Hid (RunAt l f b) ∧ Hid (Own wr B 3 (.slice (some ⟨g, 0, none⟩) l.length c) (ints .i64 (mixL l (rW5 false l) f))) ∧ Hid (Below B w wr)) (fun fv _ _ => l.length + 1 - (intOf fv).toNat)
 case atStart => exact ⟨0, 0, false, by omega, rfl, rfl, Lib.hid (run_start l), HO, Lib.hid (Below.refl _ _)⟩
 case round =>
  obtain ⟨f, t0, b, hf, rfl, rfl, HRA, HOr, HBr⟩ := hrel
  by_cases hlt : f < l.length
  ·have b0 : (f : Int) < (l.length : Int) := by omega
   have hLI : Lies wr wr.heap.size (some ⟨g, 0, none⟩) (ints .i64 (mixL l (rW5 false l) f)) := by
    obtain ⟨_, _, hv, h2, _⟩ := HOr.out.form
    injection hv with hA _ _
    subst hA; exact h2
   have hml : (mixL l (rW5 false l) f).length = l.length := mixL_length (w5_length _ _) (by omega)
   have HIS : Hid (∀ i k : Int, Calls Tryz.prog 166 #[.slice (some ⟨g, 0, none⟩) l.length c, .int .i64 i, .int .i64 k] wr fun ed w' => ed = .returned (.bool (isAt (mixL l (rW5 false l) f) i k)) ∧ wr = w') := Lib.hid fun i k => by
    have := wis_any (some ⟨g, 0, none⟩) (mixL l (rW5 false l) f) c i k wr hLI (by omega)
    rw [hml] at this
    exact this
   have HML := Lib.hid hml
   clear hLI hml
   go_wp2_with fail
   go_loopw [2] (fun tv wx => ∃ t : Nat, f ≤ t ∧ t ≤ l.length ∧ tv = .int .i64 t ∧ Hid (∀ j, f ≤ j → j < t → l[j]? = some 5) ∧ wx = wr) (fun tv _ => l.length + 1 - (intOf tv).toNat)
   case atStart => exact ⟨f, by omega, by omega, rfl, Lib.hid (fun j h1 h2 => by omega), rfl⟩
   case round =>
    obtain ⟨t, hft, htl, rfl, H5, rfl⟩ := hrel
    rcases h5 : isAt (mixL l (rW5 false l) f) t 5 with _ | _
    ·have HT5 := Lib.hid h5
     have hne : l[t]? ≠ some 5 := by
      rw [isAt_mix (w5_length _ _) (by omega) hft] at h5
      simpa using h5
     have HNX := Lib.hid (run_next HRA.out hft htl H5.out hne)
     have h3 : isAt (mixL l (rW5 false l) f) t 3 = decide (l[t]? = some 3) := isAt_mix (w5_length _ _) (by omega) hft 3
     have hw0 : IntKind.i64.wrap ((t : Int) + 1) = ((t + 1 : Nat) : Int) := by rw [IntWalk.i64_in _ (by omega)]; rfl
     have hw1 : IntKind.i64.wrap ((f : Int) - 1) = (f : Int) - 1 := IntWalk.i64_in _ (by omega)
     have HH3 := Lib.hid h3
     have HAH := Lib.hid (HRA.out.ahead hlt)
     clear h5 hne h3
     have HE : Hid ((b = true ∨ l[t]? = some 3) → Calls Tryz.prog 131 #[.slice (some ⟨g, f, none⟩) (t - f) (c - f), .func (.func 167) #[] #[]] wr fun ed w' =>
      ed = .returned (.tuple #[]) ∧ Own w' B 3 (.slice (some ⟨g, 0, none⟩) l.length c) (ints .i64 (mixL l (rW5 false l) (t + 1))) ∧ Below B wr w') := Lib.hid fun hbb => by
      obtain ⟨n1, n2, -⟩ := HNX.out
      rw [if_pos hbb] at n2
      have hlp : ((rW5 false l).take f).length = f := by rw [List.length_take, w5_length]; omega
      have hrl : (ints .i64 (mixL l (rW5 false l) f)).length = l.length := by rw [ints, List.length_map]; exact HML.out
      have hr : Row wr B 3 g c (ints .i64 ((rW5 false l).take f ++ List.replicate (t - f) 5 ++ l.drop t)) := by
       rw [← n1, Row, hrl]; exact HOr.out
      have h := each_any 167 [] HC.out B g c (c - f) ((rW5 false l).take f) (List.replicate (t - f) 5) (List.replicate (t - f) 3) (l.drop t) (by simp) (fun _ _ => True) wr
       (by rw [← n1, HML.out]; exact hl) hr trivial (fun k hk wx _ _ hrx => (term1_any k _ wx).mono fun ed w' ⟨h1, h2⟩ => by
        subst h2
        rw [List.length_replicate] at hk
        refine ⟨?_, trivial, hrx, Below.refl _ _⟩
        rw [h1, List.getD_eq_getElem?_getD, List.getElem?_replicate, if_pos hk]; rfl)
       (fun _ _ _ _ _ => trivial)
      rw [hlp, List.length_replicate] at h
      refine h.mono fun ed w' ⟨h1, _, h2, h3⟩ => ⟨h1, ?_, h3⟩
      rw [n2, Row, ints, List.length_map, mixL_all (w5_length _ _)] at h2
      exact h2
     have c1 : ¬ c = f := by omega
     have c2 : (f : Int) ≤ (t : Int) := by omega
     have c3 : (t : Int) ≤ (c : Int) := by omega
     have c4 : (0 : Int) ≤ (f : Int) := by omega
     rcases hb1 : b with _ | _
     ·have HB1 := Lib.hid hb1
      rcases hb2 : decide (l[t]? = some 3) with _ | _
      ·have HB2 := Lib.hid hb2
       clear hb1 hb2
       go_wp2_with fail
       refine (HIS.out t 5).mono ?_
       rintro e wq ⟨rfl, rfl⟩
       rw [HT5.out]
       go_wp2_with fail
       refine (HIS.out ((f : Int) - 1) 3).mono ?_
       rintro e wq ⟨rfl, rfl⟩
       rw [HAH.out, HB1.out]
       go_wp2_with fail
       refine (HIS.out t 3).mono ?_
       rintro e wq ⟨rfl, rfl⟩
       rw [HH3.out, HB2.out]
       go_wp2
       go_roundw
       case rel =>
        refine ⟨t + 1, t, _, by omega, by go_num, rfl, Lib.hid HNX.out.2.2, Lib.hid ?_, HBr⟩
        obtain ⟨n1, n2, -⟩ := HNX.out
        have hno : ¬ (b = true ∨ l[t]? = some 3) := by rw [HB1.out]; have := HB2.out; simpa using this
        rw [if_neg hno, ← n1] at n2
        rw [← n2]; exact HOr.out
       case measure => simp [intOf]; omega
      ·have HB2 := Lib.hid hb2
       clear hb1 hb2
       go_wp2_with fail
       refine (HIS.out t 5).mono ?_
       rintro e wq ⟨rfl, rfl⟩
       rw [HT5.out]
       go_wp2_with fail
       refine (HIS.out ((f : Int) - 1) 3).mono ?_
       rintro e wq ⟨rfl, rfl⟩
       rw [HAH.out, HB1.out]
       go_wp2_with fail
       refine (HIS.out t 3).mono ?_
       rintro e wq ⟨rfl, rfl⟩
       rw [HH3.out, HB2.out]
       go_wp2_with fail
       refine (HE.out (.inr (of_decide_eq_true HB2.out))).mono ?_
       rintro e w2 ⟨rfl, o2, b2⟩
       have O2 := Lib.hid o2
       have B2 := Lib.hid (HBr.out.trans b2)
       clear o2 b2
       go_wp2
       go_roundw
       case rel => exact ⟨t + 1, t, _, by omega, by go_num, rfl, Lib.hid HNX.out.2.2, O2, B2⟩
       case measure => simp [intOf]; omega
     ·have HB1 := Lib.hid hb1
      clear hb1
      go_wp2_with fail
      refine (HIS.out t 5).mono ?_
      rintro e wq ⟨rfl, rfl⟩
      rw [HT5.out]
      go_wp2_with fail
      refine (HIS.out ((f : Int) - 1) 3).mono ?_
      rintro e wq ⟨rfl, rfl⟩
      rw [HAH.out, HB1.out]
      go_wp2_with fail
      refine (HE.out (.inl HB1.out)).mono ?_
      rintro e w2 ⟨rfl, o2, b2⟩
      have O2 := Lib.hid o2
      have B2 := Lib.hid (HBr.out.trans b2)
      clear o2 b2
      go_wp2
      go_roundw
      case rel => exact ⟨t + 1, t, _, by omega, by go_num, rfl, Lib.hid HNX.out.2.2, O2, B2⟩
      case measure => simp [intOf]; omega
    ·have HT5 := Lib.hid h5
     have h5' : l[t]? = some 5 := by
      rw [isAt_mix (w5_length _ _) (by omega) hft] at h5
      simpa using h5
     have hlt2 : t < l.length := by
      obtain ⟨h, _⟩ := List.getElem?_eq_some_iff.1 h5'
      exact h
     have H5' := Lib.hid h5'
     have hw0 : IntKind.i64.wrap ((t : Int) + 1) = ((t + 1 : Nat) : Int) := by rw [IntWalk.i64_in _ (by omega)]; rfl
     clear h5 h5'
     go_wp2_with fail
     refine (HIS.out t 5).mono ?_
     rintro e wq ⟨rfl, rfl⟩
     rw [HT5.out]
     go_wp2
     go_roundw
     case rel =>
      refine ⟨t + 1, by omega, by omega, by go_num, Lib.hid fun j h1 h2 => ?_, by first | rfl | trivial⟩
      by_cases hj : j = t
      ·subst hj; exact H5'.out
      ·exact H5.out j h1 (by omega)
     case measure => simp [intOf]; omega
  ·go_wp2
   rw [Exit.noGoto_normal]
   refine bodyPost_end (results_none rfl _ _ _) rfl ⟨rfl, ?_, HBr.out⟩
   have := HOr.out
   rw [mixL, List.take_of_length_le (by rw [w5_length]; omega), List.drop_of_length_le (by omega), List.append_nil] at this
   exact this
end Go.Proofs.YtcbaahlahohfmaaGreatDoor
namespace Go.Proofs.YtcbaahlahohfmaaGreatDoor
open Go.RowKit
theorem ex3 (l : List Int) : (l.map fun k => if k ∈ ([2] : List Int) then (1 : Int) else k) = rW3 l := by
 rw [rW3]
 apply List.map_congr_left
 intro k _
 simp
theorem ex6 (l : List Int) : (l.map fun k => if k ∈ ([4, 5, 7] : List Int) then (13 : Int) else k) = rW6 l := by
 rw [rW6]
 apply List.map_congr_left
 intro k _
 simp
set_option maxRecDepth 20000 in
set_option maxHeartbeats 4000000 in
theorem rule_own (s : Int) (n : Nat) (h1 : 1 ≤ n) (h7 : n ≤ 7) : Ruled 92 [.int .i64 s, .int .i64 (n : Int)] (fun l => rulePlain l s n) := by
 intro B c A l w hl hB hO
 have HO := Lib.hid hO
 have HBB := Lib.hid hB
 clear hB
 show Calls _ _ #[.slice A l.length c, .int .i64 s, .int .i64 (n : Int)] _ _
 have h : n = 1 ∨ n = 2 ∨ n = 3 ∨ n = 4 ∨ n = 5 ∨ n = 6 ∨ n = 7 := by omega
 clear h1 h7
 rcases h with rfl | rfl | rfl | rfl | rfl | rfl | rfl
 ·clear hO
  go_enter Tryz.func92, Tryz.ntmps92
  go_wp2_with fail
  refine (marks_any s B c A l w hl HBB.out HO.out).mono ?_
  rintro e w1 ⟨rfl, o1, b1⟩
  have O1 := Lib.hid o1
  have B1 := Lib.hid b1
  clear o1 b1
  go_wp2
  exact bodyPost_end (results_none rfl _ _ _) rfl ⟨rfl, O1.out, B1.out⟩
 ·clear hO
  go_enter Tryz.func92, Tryz.ntmps92
  go_wp2_with fail
  refine (numbers_any s 2 6 B c A l w hl HBB.out HO.out).mono ?_
  rintro e w1 ⟨rfl, o1, b1⟩
  have O1 := Lib.hid o1
  have B1 := Lib.hid b1
  clear o1 b1
  go_wp2
  exact bodyPost_end (results_none rfl _ _ _) rfl ⟨rfl, O1.out, B1.out⟩
 ·have hap := own_fresh hO (Nat.le_refl _)
  have H := exchange_any 1 [2] 1 w.heap.size #[.int .i64 2] rfl (by decide) B c A l (w.alloc (.cells #[.int .i64 2] 3)) hl (by have := HBB.out; simp; omega) (hO.alloc _) (World.alloc_heap_new w _) hap
  rw [ex3] at H
  have HX := Lib.hid H
  clear hO H hap
  go_enter Tryz.func92, Tryz.ntmps92
  go_wp2_with fail
  refine HX.out.mono ?_
  rintro e w1 ⟨rfl, o1, b1⟩
  have O1 := Lib.hid o1
  have B1 := Lib.hid (((Below.refl B w).alloc HBB.out _).trans b1)
  clear o1 b1
  go_wp2
  exact bodyPost_end (results_none rfl _ _ _) rfl ⟨rfl, O1.out, B1.out⟩
 ·clear hO
  go_enter Tryz.func92, Tryz.ntmps92
  go_wp2_with fail
  refine (separators_any B c A l w hl HBB.out HO.out).mono ?_
  rintro e w1 ⟨rfl, o1, b1⟩
  have O1 := Lib.hid o1
  have B1 := Lib.hid b1
  clear o1 b1
  go_wp2
  exact bodyPost_end (results_none rfl _ _ _) rfl ⟨rfl, O1.out, B1.out⟩
 ·clear hO
  go_enter Tryz.func92, Tryz.ntmps92
  go_wp2_with fail
  refine (terminators_any B c A l w hl HBB.out HO.out).mono ?_
  rintro e w1 ⟨rfl, o1, b1⟩
  have O1 := Lib.hid o1
  have B1 := Lib.hid b1
  clear o1 b1
  go_wp2
  exact bodyPost_end (results_none rfl _ _ _) rfl ⟨rfl, O1.out, B1.out⟩
 ·have hap := own_fresh hO (Nat.le_refl _)
  have H := exchange_any 13 [4, 5, 7] 3 w.heap.size #[.int .i64 4, .int .i64 5, .int .i64 7] rfl (by decide) B c A l (w.alloc (.cells #[.int .i64 4, .int .i64 5, .int .i64 7] 3)) hl (by have := HBB.out; simp; omega) (hO.alloc _) (World.alloc_heap_new w _) hap
  rw [ex6] at H
  have HX := Lib.hid H
  clear hO H hap
  go_enter Tryz.func92, Tryz.ntmps92
  go_wp2_with fail
  refine HX.out.mono ?_
  rintro e w1 ⟨rfl, o1, b1⟩
  have O1 := Lib.hid o1
  have B1 := Lib.hid (((Below.refl B w).alloc HBB.out _).trans b1)
  clear o1 b1
  go_wp2
  exact bodyPost_end (results_none rfl _ _ _) rfl ⟨rfl, O1.out, B1.out⟩
 ·clear hO
  go_enter Tryz.func92, Tryz.ntmps92
  go_wp2_with fail
  refine (numbers_any s 0 0 B c A l w hl HBB.out HO.out).mono ?_
  rintro e w1 ⟨rfl, o1, b1⟩
  have O1 := Lib.hid o1
  have B1 := Lib.hid b1
  clear o1 b1
  go_wp2
  exact bodyPost_end (results_none rfl _ _ _) rfl ⟨rfl, O1.out, B1.out⟩
set_option maxHeartbeats 1000000 in
theorem wknown_any (A : Option Addr) (l : List Int) (c : Nat) (w : World) (hT : ClsTabs w) (h : Lies w w.heap.size A (ints .i64 l)) (hl : l.length ≤ 1000000) :
 Calls Tryz.prog 91 #[.slice A l.length c] w fun ed w' => ∃ A2 c2, ed = .returned (.slice A2 l.length c2) ∧ Own w' w.heap.size 3 (.slice A2 l.length c2) (ints .i64 (plainL l)) ∧ Below w.heap.size w w' := by
 have H := Lib.hid h
 have HT := Lib.hid hT
 have HC := Lib.hid fun (xs : Array Value) (u : World) => call_ok (N := 132) Tryz.func132 (by kernel_rfl) (by kernel_rfl) xs u
 clear h hT
 go_enter Tryz.func91, Tryz.ntmps91
 go_wp2_with fail
 refine (clone_any A l c w H.out hl).mono ?_
 rintro e w1 ⟨v1, rfl, o1, b1⟩
 obtain ⟨A1, c1, rfl, -, -, -⟩ := o1.form
 have hx : (ints .i64 l).length = l.length := by simp [ints]
 rw [hx] at o1 ⊢
 have HE := each_own 132 [] HC.out w.heap.size c1 A1 l (plainL l) (by simp [plainL]) (fun _ _ => True) w1 hl o1 trivial
  (fun k hk wr _ hbel ho => (known1_any k (l.getD k 0) wr (HT.out.below (b1.trans hbel) HT.out.big)).mono fun ed w' ⟨h1, h2⟩ => by
   subst h2
   rw [map_at plainK hk] at h1
   exact ⟨h1, trivial, ho, Below.refl _ _⟩)
  (fun _ _ _ _ _ _ _ => trivial)
 have HX := Lib.hid HE
 have B1 := Lib.hid b1
 clear HE o1 b1 hx
 go_wp2_with fail
 refine HX.out.mono ?_
 rintro e w2 ⟨rfl, -, o2, b2⟩
 have O2 := Lib.hid o2
 have B2 := Lib.hid (B1.out.trans b2)
 clear o2 b2
 go_wp2
 go_ret
 exact ⟨A1, c1, rfl, O2.out, B2.out⟩
def ruleChain (l : List Int) (sos : Int) : Nat → List Int
 | 0 => plainL l
 | n + 1 => rulePlain (ruleChain l sos n) (sideK sos) (n + 1)
theorem ruleChain_length (l : List Int) (sos : Int) : ∀ n, (ruleChain l sos n).length = l.length
 | 0 => by simp [ruleChain, plainL]
 | n + 1 => by rw [ruleChain, rulePlain_length, ruleChain_length]
theorem ruleChain_all (l : List Int) (sos : Int) : ruleChain l sos 7 = ofI l sos := (ofI_eq l sos).1.symm
set_option maxHeartbeats 1000000 in
theorem wof_any (A : Option Addr) (l : List Int) (c : Nat) (sos : Int) (w : World) (hT : ClsTabs w) (h : Lies w w.heap.size A (ints .i64 l)) (hl : l.length ≤ 1000) :
 Calls Tryz.prog 54 #[.slice A l.length c, .int .i64 sos] w fun ed w' => Rowed w w.heap.size 3 (ints .i64 (ofI l sos)) ed w' := by
 have H := Lib.hid h
 have HT := Lib.hid hT
 clear h hT
 go_enter Tryz.func54, Tryz.ntmps54
 go_wp2_with fail
 refine (wknown_any A l c w HT.out H.out (by omega)).mono ?_
 rintro e w1 ⟨A1, c1, rfl, o1, b1⟩
 have O1 := Lib.hid o1
 have B1 := Lib.hid b1
 clear o1 b1
 go_wp2_with fail
 go_loopw [6] (fun nv wr => ∃ n : Nat, n ≤ 7 ∧ nv = .int .i64 ((n + 1 : Nat) : Int) ∧ Hid (Own wr w.heap.size 3 (.slice A1 l.length c1) (ints .i64 (ruleChain l sos n))) ∧ Hid (Below w.heap.size w wr)) (fun nv _ => 8 - (intOf nv).toNat)
 case atStart => exact ⟨0, by omega, rfl, O1, B1⟩
 case round =>
  obtain ⟨n, hn, rfl, HO, HB⟩ := hrel
  by_cases hlt : n < 7
  ·have hR := rule_own (sideK sos) (n + 1) (by omega) (by omega) w.heap.size c1 A1 (ruleChain l sos n) wr (by rw [ruleChain_length]; omega) HB.out.size (by rw [ruleChain_length]; exact HO.out)
   rw [ruleChain_length] at hR
   change Calls _ _ _ _ (fun ed w' => _ ∧ Own w' _ _ _ (ints .i64 (ruleChain l sos (n + 1))) ∧ _) at hR
   have HX := Lib.hid hR
   clear hR
   have b1 : decide ((((n + 1 : Nat) : Int)) ≤ 7) = true := by simp; omega
   have b0 : (((n + 1 : Nat) : Int)) ≤ 7 := by omega
   have b2 : IntKind.i64.wrap (((n + 1 : Nat) : Int) + 1) = ((n + 1 + 1 : Nat) : Int) := by rw [IntWalk.i64_in _ (by omega)]; rfl
   generalize hz : ((n + 1 : Nat) : Int) = z at *
   have HZ := Lib.hid hz
   clear hz
   go_wp2_with fail
   refine (wside_any sos wr).mono ?_
   rintro e wq ⟨rfl, rfl⟩
   go_wp2_with fail
   refine HX.out.mono ?_
   rintro e w2 ⟨rfl, o2, b2'⟩
   have O2 := Lib.hid o2
   have B2 := Lib.hid (HB.out.trans b2')
   clear o2 b2'
   go_wp2
   go_roundw
   case rel => exact ⟨n + 1, by omega, rfl, O2, B2⟩
   case measure => rw [← HZ.out]; simp [intOf]; omega
  ·obtain rfl : n = 7 := by omega
   go_wp2
   go_ret
   exact ⟨_, rfl, by have := HO.out; rw [ruleChain_all] at this; exact this, HB.out⟩
end Go.Proofs.YtcbaahlahohfmaaGreatDoor
namespace Go.Proofs.YtcbaahlahohfmaaGreatDoor
open Go.RowKit
def Two (w w' : World) (g1 g2 : Nat) : Prop := w.heap.size ≤ w'.heap.size ∧ ∀ k, k < w.heap.size → k ≠ g1 → k ≠ g2 → w'.heap[k]? = w.heap[k]?
section
variable {w w' w'' : World} {g1 g2 : Nat}
theorem Two.refl (w : World) (g1 g2 : Nat) : Two w w g1 g2 := ⟨Nat.le_refl _, fun _ _ _ _ => rfl⟩
theorem Two.trans (h : Two w w' g1 g2) (h' : Two w' w'' g1 g2) : Two w w'' g1 g2 :=
 ⟨Nat.le_trans h.1 h'.1, fun k hk h1 h2 => (h'.2 k (Nat.lt_of_lt_of_le hk h.1) h1 h2).trans (h.2 k hk h1 h2)⟩
theorem Two.ofBelow (h : Below w.heap.size w w') : Two w w' g1 g2 := ⟨h.size, fun k hk _ _ => h.block k hk⟩
theorem Two.of1 (h : w.grownBy w' (some g1)) : Two w w' g1 g2 := ⟨h.size, fun k hk h1 _ => h.block k hk fun e => h1 (Option.some.inj e)⟩
theorem Two.of2 (h : w.grownBy w' (some g2)) : Two w w' g1 g2 := ⟨h.size, fun k hk _ h2 => h.block k hk fun e => h2 (Option.some.inj e)⟩
theorem Two.cell (h : Two w w' g1 g2) {p : Addr} (hp : p.block < w.heap.size) (h1 : p.block ≠ g1) (h2 : p.block ≠ g2) : w'.cell? p = w.cell? p := World.cell?_of_block (h.2 _ hp h1 h2)
theorem Lies.two {B : Nat} {A : Option Addr} {xs : List Value} (hl : Lies w B A xs) (h : Two w w' g1 g2) (hB : B ≤ w.heap.size) (h1 : ∀ p, A = some p → p.block ≠ g1) (h2 : ∀ p, A = some p → p.block ≠ g2) : Lies w' B A xs := fun hn => by
 obtain ⟨p, hA, hp, hc⟩ := hl hn
 refine ⟨p, hA, hp, fun i u hu => ?_⟩
 rw [h.cell (by rw [add_block]; omega) (by rw [add_block]; exact h1 p hA) (by rw [add_block]; exact h2 p hA)]
 exact hc i u hu
end
set_option maxRecDepth 20000 in
set_option maxHeartbeats 4000000 in
theorem lsettle_any (g1 c1 g2 c2 : Nat) (LV CL : List Int) (base : Int) (A : Option Addr) (chars : List Int) (c : Nat) (As : Option Addr) (cs : Nat) (S : Sq) (B : Nat) (w : World) (hT : ClsTabs w)
 (h1 : Row w B 3 g1 c1 (ints .i64 LV)) (h2 : Row w B 3 g2 c2 (ints .i64 CL)) (hne : g1 ≠ g2)
 (h : Lies w B A (ints .i64 chars)) (hs : Lies w w.heap.size As (ints .i64 S.pl)) (ns1 : ∀ p, As = some p → p.block ≠ g1) (ns2 : ∀ p, As = some p → p.block ≠ g2)
 (hp : ∀ x ∈ S.pl, 0 ≤ x ∧ x < (chars.length : Int)) (hL1 : LV.length = chars.length) (hL2 : CL.length = chars.length) (hl : chars.length ≤ 1000) (hpl : S.pl.length ≤ 1000) (hB : B ≤ w.heap.size)
 (E : List Int) (hE : nofI (ofB (pickL chars S.pl) (ofI (pickL CL S.pl) S.sos) (pickL CL S.pl) S.lev S.sos) S.lev S.sos S.eos = E) :
 Calls Tryz.prog 31 #[.agg #[.slice (some ⟨g1, 0, none⟩) LV.length c1, .slice (some ⟨g2, 0, none⟩) CL.length c2, .int .i64 base], .slice A chars.length c, .agg #[.slice As S.pl.length cs, .int .i64 S.lev, .int .i64 S.sos, .int .i64 S.eos]] w
  fun ed w' => ed = .returned (.tuple #[]) ∧ Row w' B 3 g1 c1 (ints .i64 (putN LV S.pl (nLevelsI E S.lev) S.pl.length)) ∧ Row w' B 3 g2 c2 (ints .i64 (putN CL S.pl E S.pl.length)) ∧ Below B w w' ∧ Two w w' g1 g2 := by
 obtain ⟨w0, hw0⟩ : ∃ u, (w.alloc (.cells #[.slice (some ⟨g1, 0, none⟩) LV.length c1, .slice (some ⟨g2, 0, none⟩) CL.length c2, .int .i64 base] 38)).alloc (.cells #[.slice As S.pl.length cs, .int .i64 S.lev, .int .i64 S.sos, .int .i64 S.eos] 49) = u := ⟨_, rfl⟩
 have D0 : Hid (Below w.heap.size w w0) := Lib.hid (hw0 ▸ (below_alloc w _).alloc (by simp) _)
 have HQ : Hid (g1 < w.heap.size ∧ g2 < w.heap.size ∧ w.heap.size + 1 < w0.heap.size ∧ B ≤ g1 ∧ B ≤ g2) := Lib.hid ⟨h1.inside.2, h2.inside.2, by rw [← hw0]; simp, h1.inside.1, h2.inside.1⟩
 have SK : Hid (∀ w', Two w0 w' g1 g2 → (w'.cell? ⟨w.heap.size, 0, none⟩ = some (.slice (some ⟨g1, 0, none⟩) LV.length c1) ∧ w'.cell? ⟨w.heap.size, 1, none⟩ = some (.slice (some ⟨g2, 0, none⟩) CL.length c2)) ∧
  w'.cell? ⟨w.heap.size + 1, 0, none⟩ = some (.slice As S.pl.length cs) ∧ w'.cell? ⟨w.heap.size + 1, 1, none⟩ = some (.int .i64 S.lev) ∧ w'.cell? ⟨w.heap.size + 1, 2, none⟩ = some (.int .i64 S.sos) ∧ w'.cell? ⟨w.heap.size + 1, 3, none⟩ = some (.int .i64 S.eos)) := Lib.hid fun w' hg => by
  have a1 : ∀ i, w'.cell? ⟨w.heap.size, i, none⟩ = w0.cell? ⟨w.heap.size, i, none⟩ := fun i => hg.cell (by have := HQ.out; show w.heap.size < _; omega) (by have := HQ.out; show w.heap.size ≠ _; omega) (by have := HQ.out; show w.heap.size ≠ _; omega)
  have a2 : ∀ i, w'.cell? ⟨w.heap.size + 1, i, none⟩ = w0.cell? ⟨w.heap.size + 1, i, none⟩ := fun i => hg.cell (by have := HQ.out; show w.heap.size + 1 < _; omega) (by have := HQ.out; show w.heap.size + 1 ≠ _; omega) (by have := HQ.out; show w.heap.size + 1 ≠ _; omega)
  have hz : (w.alloc (.cells #[.slice (some ⟨g1, 0, none⟩) LV.length c1, .slice (some ⟨g2, 0, none⟩) CL.length c2, .int .i64 base] 38)).heap.size = w.heap.size + 1 := by simp
  rw [a1, a1, a2, a2, a2, a2, ← hw0]
  refine ⟨⟨boxed (below_alloc _ _) rfl, boxed (below_alloc _ _) rfl⟩, ?_⟩
  rw [← hz]
  exact ⟨boxed (Below.refl _ _) rfl, boxed (Below.refl _ _) rfl, boxed (Below.refl _ _) rfl, boxed (Below.refl _ _) rfl⟩
 have HT := Lib.hid (hT.below D0.out hT.big)
 have R1 := Lib.hid (h1.below D0.out (Nat.le_refl _))
 have R2 := Lib.hid (h2.below D0.out (Nat.le_refl _))
 have H := Lib.hid ((h.below (D0.out.mono hB)).wider (Nat.le_trans hB D0.out.size))
 have HS := Lib.hid (hs.up D0.out)
 have NS1 := Lib.hid ns1
 have NS2 := Lib.hid ns2
 have HNE := Lib.hid hne
 have HP := Lib.hid hp
 have HP1 : Hid (∀ x ∈ S.pl, 0 ≤ x ∧ x < (LV.length : Int)) := Lib.hid (by rw [hL1]; exact hp)
 have HP2 : Hid (∀ x ∈ S.pl, 0 ≤ x ∧ x < (CL.length : Int)) := Lib.hid (by rw [hL2]; exact hp)
 have HL : Hid (LV.length ≤ 1000000 ∧ CL.length ≤ 1000000 ∧ chars.length ≤ 1000000 ∧ S.pl.length ≤ 1000000) := Lib.hid ⟨by omega, by omega, by omega, by omega⟩
 have HPL := Lib.hid hpl
 have HBw := Lib.hid hB
 obtain ⟨OC, hOC⟩ : ∃ O, pickL chars S.pl = O := ⟨_, rfl⟩
 obtain ⟨OW, hOW⟩ : ∃ O, pickL CL S.pl = O := ⟨_, rfl⟩
 obtain ⟨WK, hWK⟩ : ∃ O, ofI OW S.sos = O := ⟨_, rfl⟩
 obtain ⟨BR, hBR⟩ : ∃ O, ofB OC WK OW S.lev S.sos = O := ⟨_, rfl⟩
 rw [hOC, hOW, hWK, hBR] at hE
 have HLN : Hid (OC.length = S.pl.length ∧ OW.length = S.pl.length ∧ WK.length = S.pl.length ∧ BR.length = S.pl.length ∧ E.length = S.pl.length) := Lib.hid (by
  have e1 : OC.length = S.pl.length := by rw [← hOC, pick_length]
  have e2 : OW.length = S.pl.length := by rw [← hOW, pick_length]
  have e3 : WK.length = S.pl.length := by rw [← hWK, ofI_length, e2]
  have e4 : BR.length = S.pl.length := by rw [← hBR, (ofB_keeps OC WK OW S.lev S.sos).1, e3]
  exact ⟨e1, e2, e3, e4, by rw [← hE, nofI_length, e4]⟩)
 have HOC := Lib.hid hOC
 have HOW := Lib.hid hOW
 have HWK := Lib.hid hWK
 have HBR := Lib.hid hBR
 have HE := Lib.hid hE
 clear hT h1 h2 hne h hs ns1 ns2 hp hL1 hL2 hl hpl hB hOC hOW hWK hBR hE
 go_enter Tryz.func31, Tryz.ntmps31
 go_upto_region 1 with fail
 clear hw0
 obtain ⟨⟨-, s1⟩, s2, -⟩ := SK.out w0 (Two.refl _ _ _)
 go_wp2_with fail
 clear s1 s2
 refine (lpick_any (some ⟨g2, 0, none⟩) CL c2 As S.pl cs w0 (Lies.ofRow R2.out) HS.out HP2.out HL.out.2.1 HL.out.2.2.2).mono ?_
 rintro e wa ⟨va, rfl, oa, ba⟩
 rw [HOW.out] at oa
 obtain ⟨Aa, ca, hva, la, -, -⟩ := oa.form
 rw [ints, List.length_map] at hva
 subst hva
 have La := Lib.hid la
 have Ba := Lib.hid ba
 clear oa la ba
 obtain ⟨-, -, -, q2, -⟩ := SK.out wa (Two.ofBelow Ba.out)
 go_wp2_with fail
 clear q2
 refine (wof_any Aa OW ca S.sos wa (HT.out.below Ba.out HT.out.big) La.out (by rw [HLN.out.2.1]; exact HPL.out)).mono ?_
 rintro e wb ⟨vb, rfl, ob_, bb⟩
 rw [HWK.out] at ob_
 obtain ⟨Ab, cb, hvb, lb, -, -⟩ := ob_.form
 rw [ints, List.length_map] at hvb
 subst hvb
 have Lb := Lib.hid lb
 have Lab := Lib.hid (La.out.up bb)
 have Bb := Lib.hid (below_then Ba.out bb)
 clear ob_ lb bb
 go_upto_region 3 with fail
 have hq : wb.drew.cell? ⟨w.heap.size + 1, 0, none⟩ = some (.slice As S.pl.length cs) ∧ wb.drew.cell? ⟨w.heap.size + 1, 1, none⟩ = some (.int .i64 S.lev) ∧ wb.drew.cell? ⟨w.heap.size + 1, 2, none⟩ = some (.int .i64 S.sos) := by
  obtain ⟨-, k0, k1, k2, -⟩ := SK.out wb (Two.ofBelow Bb.out)
  exact ⟨k0, k1, k2⟩
 refine wp_region_E (S := fun w' => w'.cell? ⟨w.heap.size + 1, 0, none⟩ = some (.slice As S.pl.length cs) ∧ w'.cell? ⟨w.heap.size + 1, 1, none⟩ = some (.int .i64 S.lev) ∧ w'.cell? ⟨w.heap.size + 1, 2, none⟩ = some (.int .i64 S.sos)) [] (by kernel_rfl) (hq) (fun hHeld hZ => ?_)
 refine' eY 0 hHeld hZ fun hZ => ?_
 try simp only [Act.put,ZA,ZB,ZD,ZE,ZF]
 refine' eY 1 hHeld hZ fun hZ => ?_
 try simp only [Act.put,ZA,ZB,ZC,ZD,ZE,ZF]
 refine' eY 2 hHeld hZ fun hZ => ?_
 try simp only [Act.put,ZA,ZB,ZC,ZD,ZE,ZF]
 refine' eY 4 hHeld hZ fun hZ => ?_
 try simp only [Act.put,ZA,ZB,ZC,ZD,ZE,ZF]
 refine' eY 5 hHeld hZ fun hZ => ?_
 try simp only [Act.put,ZA,ZB,ZC,ZD,ZE,ZF]
 refine' eY 6 hHeld hZ fun hZ => ?_
 try simp only [Act.put,ZA,ZB,ZC,ZD,ZE,ZF]
 refine' eY 7 hHeld hZ fun hZ => ?_
 try simp only [Act.put,ZA,ZB,ZC,ZD,ZE,ZF]
 refine' eY 8 hHeld hZ fun hZ => ?_
 try simp only [Act.put,ZA,ZB,ZC,ZD,ZE,ZF]
 refine' eY 9 hHeld hZ fun hZ => ?_
 try simp only [Act.put,ZA,ZB,ZC,ZD,ZE,ZF]
 refine eA 3 fun K hK => ?_
 go_simp
 have BD : Hid (Below w0.heap.size w0 wb.drew) := Lib.hid (by exact below_same Bb.out rfl rfl rfl rfl)
 have LabD : Hid (Lies wb.drew wb.drew.heap.size Aa (ints .i64 OW)) := Lib.hid (Lies.sameHeap Lab.out rfl)
 have LbD : Hid (Lies wb.drew wb.drew.heap.size Ab (ints .i64 WK)) := Lib.hid (Lies.sameHeap Lb.out rfl)
 refine (lpick_any A chars c As S.pl cs wb.drew (H.out.up BD.out) (HS.out.up BD.out) HP.out HL.out.2.2.1 HL.out.2.2.2).mono ?_
 rintro e wp ⟨vp, rfl, op_, bp⟩
 rw [HOC.out] at op_
 obtain ⟨Ap, cp, hvp, lp, -, -⟩ := op_.form
 rw [ints, List.length_map] at hvp
 subst hvp
 have Lp := Lib.hid lp
 have Bp := Lib.hid (below_then BD.out bp)
 have Lap := Lib.hid (LabD.out.up bp)
 have Lbp := Lib.hid (LbD.out.up bp)
 clear op_ lp bp
 have hq2 : wp.cell? ⟨w.heap.size + 1, 0, none⟩ = some (.slice As S.pl.length cs) ∧ wp.cell? ⟨w.heap.size + 1, 1, none⟩ = some (.int .i64 S.lev) ∧ wp.cell? ⟨w.heap.size + 1, 2, none⟩ = some (.int .i64 S.sos) := by
  obtain ⟨-, k0, k1, k2, -⟩ := SK.out wp (Two.ofBelow Bp.out)
  exact ⟨k0, k1, k2⟩
 refine eB hK hZ (hq2) fun hHeld hZ => ?_
 clear hK K
 try simp only [Act.put,ZA,ZB,ZC,ZD,ZE,ZF]
 refine eA 10 fun K hK => ?_
 go_simp
 refine (bof_any Ap OC cp Ab WK cb Aa OW ca S.lev S.sos wp Lp.out Lbp.out Lap.out (by rw [HLN.out.1]; exact HPL.out) (by rw [HLN.out.2.2.1]; exact HPL.out) (by rw [HLN.out.2.1]; exact HPL.out)).mono ?_
 rintro e wq ⟨vq, rfl, oq, bq⟩
 rw [HBR.out] at oq
 obtain ⟨Aq, cq, hvq, lq, -, -⟩ := oq.form
 rw [ints, List.length_map] at hvq
 subst hvq
 have Lq := Lib.hid lq
 have Bq := Lib.hid (below_then Bp.out bq)
 clear oq lq bq
 have hq3 : wq.cell? ⟨w.heap.size + 1, 0, none⟩ = some (.slice As S.pl.length cs) ∧ wq.cell? ⟨w.heap.size + 1, 1, none⟩ = some (.int .i64 S.lev) ∧ wq.cell? ⟨w.heap.size + 1, 2, none⟩ = some (.int .i64 S.sos) := by
  obtain ⟨-, k0, k1, k2, -⟩ := SK.out wq (Two.ofBelow Bq.out)
  exact ⟨k0, k1, k2⟩
 refine eB hK hZ (hq3) fun hHeld hZ => ?_
 clear hK K
 try simp only [Act.put,ZA,ZB,ZC,ZD,ZE,ZF]
 refine' eX 11 hZ fun hZ => ?_
 try simp only [Act.put,ZA,ZB,ZC,ZD,ZE,ZF]
 refine wpAnyE_done (by kernel_rfl) ?_ _
 clear hZ
 clear hq hq2 hq3 hHeld
 obtain ⟨-, -, q1, q2, q3⟩ := SK.out wq (Two.ofBelow Bq.out)
 go_wp2_with fail
 clear q1 q2 q3
 refine (nof_any Aq BR cq S.lev S.sos S.eos wq Lq.out (by rw [HLN.out.2.2.2.1]; exact HPL.out)).mono ?_
 rintro e wf ⟨vf, rfl, of_, bf⟩
 rw [HE.out] at of_
 have EO : Hid (Own wf wq.heap.size 3 vf (ints .i64 E)) := Lib.hid of_
 obtain ⟨Ae, ce, hve, le_, -, -⟩ := of_.form
 rw [ints, List.length_map] at hve
 subst hve
 have Le := Lib.hid le_
 have BF := Lib.hid (below_then Bq.out bf)
 have NE : Hid (∀ p, Ae = some p → w0.heap.size ≤ p.block) := Lib.hid fun p hp => by
  have h1 := (Own.inside EO.out p.block (by rw [hp]; rfl)).1
  have h2 := Bq.out.size
  omega
 clear of_ bf le_
 obtain ⟨⟨-, q1⟩, q2, -⟩ := SK.out wf (Two.ofBelow BF.out)
 go_wp2_with fail
 clear q1 q2
 refine (lput_any g2 c2 CL As S.pl cs Ae E ce B wf (R2.out.below BF.out (Nat.le_refl _)) (HS.out.up BF.out) Le.out NS2.out (fun p hp => by have h1 := NE.out p hp; have h2 := HQ.out; omega) HP2.out HLN.out.2.2.2.2 HL.out.2.1 HL.out.2.2.2).mono ?_
 rintro e wg ⟨rfl, rg, bg, gg⟩
 have RG := Lib.hid rg
 have BG : Hid (Below B w0 wg) := Lib.hid ((BF.out.mono (by have := HBw.out; have := D0.out.size; omega)).trans bg)
 have TG : Hid (Two w0 wg g1 g2) := Lib.hid ((Two.ofBelow BF.out).trans (Two.of2 gg))
 have R1g : Hid (Row wg B 3 g1 c1 (ints .i64 LV)) := Lib.hid ((R1.out.below BF.out (Nat.le_refl _)).keep gg (fun e => HNE.out (Option.some.inj e).symm))
 have Leg : Hid (Lies wg wg.heap.size Ae (ints .i64 E)) := Lib.hid ((lies_grown Le.out gg (Nat.le_refl _) (fun p hp => by have h1 := NE.out p hp; have h2 := HQ.out; omega)).wider gg.size)
 have HSg : Hid (Lies wg wg.heap.size As (ints .i64 S.pl)) := Lib.hid ((lies_grown (HS.out.up BF.out) gg (Nat.le_refl _) NS2.out).wider gg.size)
 clear rg bg gg
 go_upto_region 6 with fail
 have hq : wg.drew.cell? ⟨w.heap.size, 0, none⟩ = some (.slice (some ⟨g1, 0, none⟩) LV.length c1) ∧ wg.drew.cell? ⟨w.heap.size + 1, 0, none⟩ = some (.slice As S.pl.length cs) ∧ wg.drew.cell? ⟨w.heap.size + 1, 1, none⟩ = some (.int .i64 S.lev) := by
  obtain ⟨⟨k0, -⟩, k1, k2, -⟩ := SK.out wg TG.out
  exact ⟨k0, k1, k2⟩
 refine wp_region_E (S := fun w' => w'.cell? ⟨w.heap.size, 0, none⟩ = some (.slice (some ⟨g1, 0, none⟩) LV.length c1) ∧ w'.cell? ⟨w.heap.size + 1, 0, none⟩ = some (.slice As S.pl.length cs) ∧ w'.cell? ⟨w.heap.size + 1, 1, none⟩ = some (.int .i64 S.lev)) [8] (by kernel_rfl) (hq) (fun hHeld hZ => ?_)
 refine' eY 0 hHeld hZ fun hZ => ?_
 try simp only [Act.put,ZA,ZB,ZD,ZE,ZF]
 refine' eY 1 hHeld hZ fun hZ => ?_
 try simp only [Act.put,ZA,ZB,ZC,ZD,ZE,ZF]
 refine' eY 2 hHeld hZ fun hZ => ?_
 try simp only [Act.put,ZA,ZB,ZC,ZD,ZE,ZF]
 refine' eY 3 hHeld hZ fun hZ => ?_
 try simp only [Act.put,ZA,ZB,ZC,ZD,ZE,ZF]
 refine' eY 4 hHeld hZ fun hZ => ?_
 try simp only [Act.put,ZA,ZB,ZC,ZD,ZE,ZF]
 refine' eY 5 hHeld hZ fun hZ => ?_
 try simp only [Act.put,ZA,ZB,ZC,ZD,ZE,ZF]
 refine' eY 6 hHeld hZ fun hZ => ?_
 try simp only [Act.put,ZA,ZB,ZC,ZD,ZE,ZF]
 refine eA 7 fun K hK => ?_
 go_simp
 have BD2 : Hid (Below wg.heap.size wg wg.drew) := Lib.hid (by exact below_same (Below.refl _ _) rfl rfl rfl rfl)
 refine (nlevels_any Ae E ce S.lev wg.drew (Lies.sameHeap Leg.out rfl) (by rw [HLN.out.2.2.2.2]; exact HPL.out)).mono ?_
 rintro e wh ⟨vh, rfl, oh, bh⟩
 have HO : Hid (Own wh wg.drew.heap.size 3 vh (ints .i64 (nLevelsI E S.lev))) := Lib.hid oh
 obtain ⟨Ah, ch, hvh, lh, -, -⟩ := oh.form
 rw [ints, List.length_map] at hvh
 subst hvh
 have Lh := Lib.hid lh
 have BH : Hid (Below wg.heap.size wg wh) := Lib.hid (below_then_drew bh)
 have NH : Hid (∀ p, Ah = some p → w0.heap.size ≤ p.block) := Lib.hid fun p hp => by
  have h1 := (Own.inside HO.out p.block (by rw [hp]; rfl)).1
  have h2 := TG.out.1
  have h3 : wg.drew.heap.size = wg.heap.size := rfl
  omega
 have TH : Hid (Two w0 wh g1 g2) := Lib.hid (TG.out.trans (Two.ofBelow BH.out))
 clear oh lh bh
 have hq2 : wh.cell? ⟨w.heap.size, 0, none⟩ = some (.slice (some ⟨g1, 0, none⟩) LV.length c1) ∧ wh.cell? ⟨w.heap.size + 1, 0, none⟩ = some (.slice As S.pl.length cs) ∧ wh.cell? ⟨w.heap.size + 1, 1, none⟩ = some (.int .i64 S.lev) := by
  obtain ⟨⟨k0, -⟩, k1, k2, -⟩ := SK.out wh TH.out
  exact ⟨k0, k1, k2⟩
 refine eB hK hZ (hq2) fun hHeld hZ => ?_
 clear hK K
 try simp only [Act.put,ZA,ZB,ZC,ZD,ZE,ZF]
 refine eA 8 fun K hK => ?_
 go_simp
 have hput := lput_any g1 c1 LV As S.pl cs Ah (nLevelsI E S.lev) ch B wh (R1g.out.below BH.out (Nat.le_refl _)) (HSg.out.up BH.out) Lh.out NS1.out (fun p hp => by have h1 := NH.out p hp; have h2 := HQ.out; omega) HP1.out (by rw [nLevelsI_length]; exact HLN.out.2.2.2.2) HL.out.1 HL.out.2.2.2
 refine hput.mono ?_
 rintro e wz ⟨rfl, rz, bz, gz⟩
 have RZ := Lib.hid rz
 have RZ2 : Hid (Row wz B 3 g2 c2 (ints .i64 (putN CL S.pl E S.pl.length))) := Lib.hid ((RG.out.below BH.out (Nat.le_refl _)).keep gz (fun e => HNE.out (Option.some.inj e)))
 have BZ : Hid (Below B w wz) := Lib.hid ((D0.out.mono HBw.out).trans (((BG.out.trans (BH.out.mono (by have := TG.out.1; have := D0.out.size; have := HBw.out; omega)))).trans bz))
 have TZ : Hid (Two w wz g1 g2) := Lib.hid ((Two.ofBelow D0.out).trans (TH.out.trans (Two.of1 gz)))
 clear hput rz bz gz hq hq2
 refine eE hK hZ fun hZ => ?_
 clear hK K
 try simp only [Act.put,ZA,ZB,ZC,ZD,ZE,ZF]
 refine wpAnyE_done (by kernel_rfl) ?_ _
 clear hZ
 clear hHeld
 (try simp only [Exit.inBlock, Exit.then])
 exact bodyPost_end (results_none rfl _ _ _) rfl ⟨rfl, RZ.out, RZ2.out, BZ.out, TZ.out⟩
end Go.Proofs.YtcbaahlahohfmaaGreatDoor
