/- Layer 5's walks: Match, the program's and the document's. -/
import Derived.Test.YtajgjloailliiaaBsD
import Derived.Test.YtajgjloailliiaaCells
namespace Go.Proofs.Ytajgjloailliiaa
open Go.RowKit Reckon

theorem listOf_zero (n : Nat) : List.replicate n (Value.int .i64 0) = ints .i64 (listOf n (fun _ => 0)) := by
  rw [ints, listOf, List.map_map]
  apply List.ext_getElem
  · simp
  · intro i h1 h2; simp
/-- the stack, as it lies -/
abbrev stk (st : List Nat) : List Value := ints .i64 (st.reverse.map fun p : Nat => (p : Int))
theorem mrun_len (l : List Int) : ∀ k, (mrun l k).1.length ≤ k := by
  intro k
  induction k with
  | zero => simp [mrun]
  | succ k ih =>
    simp only [mrun, mStep]
    repeat' split
    all_goals simp_all
    all_goals omega

set_option maxHeartbeats 4000000 in
theorem match_any (A : Option Addr) (l : List Int) (c : Nat) (w : World) (h : Lies w w.heap.size A (ints .i64 l)) (hl : l.length ≤ 1000000) :
    Calls Try.prog 32 #[.slice A l.length c] w (Rowed w w.heap.size 3 (ints .i64 (mt l))) := by
  have H := Lib.hid h
  clear h
  go_enter Try.func32, Try.ntmps32
  go_wp2_with (first
    | (refine make_row intsT w w w.heap.size _ _ .i64 .i64 l.length rfl rfl rfl rfl rfl (Below.refl _ _) (Nat.le_refl _) (by omega) (by unfold maxLen; omega) ?_; intro w2 r2 b2 g2)
    | fail)
  rw [listOf_zero] at r2
  have R2 := Lib.hid r2
  have B2 := Lib.hid b2
  clear r2 b2 g2
  go_wp2
  go_loopw [4, 13] (fun ov iv wr => ∃ (k : Nat), k ≤ l.length ∧ iv = .int .i64 k ∧ Row wr w.heap.size 3 w.heap.size l.length (ints .i64 (listOf l.length (mrun l k).2)) ∧ Own wr w.heap.size 3 ov (stk (mrun l k).1) ∧ Hid (ov.ownBlock ≠ some w.heap.size) ∧ Below w.heap.size w wr) (fun _ iv _ => l.length - (intOf iv).toNat)
  case atStart => exact ⟨0, by omega, rfl, R2.out, Own.empty _ _ _, Lib.hid (by simp [Value.ownBlock]), B2.out⟩
  case round =>
    obtain ⟨k, hk, rfl, hr, ho, HV, hb⟩ := hrel
    have HR := Lib.hid hr
    have HO := Lib.hid ho
    have HB := Lib.hid hb
    clear hr ho hb
    by_cases hlt : k < l.length
    · obtain ⟨p, rfl, hpb, hc⟩ := (H.out.below HB.out).int hlt
      have b0 : (0 : Int) ≤ (k : Int) := by omega
      have b1 : (k : Int) < (l.length : Int) := by omega
      have hmr : mrun l (k + 1) = mStep (mrun l k) k l[k] := by rw [mrun, at0_eq hlt]
      have hml := mrun_len l k
      have hall : ∀ q ∈ (mrun l k).1, q < k := fun q hq => ((minv l k hk).open_ q hq).1
      obtain ⟨x, hx⟩ : ∃ x, l[k] = x := ⟨_, rfl⟩
      rw [hx] at hc hmr
      obtain ⟨⟨st, f⟩, hst⟩ : ∃ s, mrun l k = s := ⟨_, rfl⟩
      rw [hst] at HR HO hml hmr hall
      simp only [mStep] at hmr
      simp only at HR HO hml hall
      have HALL := Lib.hid hall
      have HMR := Lib.hid hmr
      clear hx hst hmr hall
      rcases h10 : (x == 10) with _ | _
      · have n10 : ¬ x = 10 := by simpa using h10
        rcases ho : isOpens x with _ | _
        · have HO1 := Lib.hid ho
          rcases h22 : (x == 22) with _ | _
          · have n22 : ¬ x = 22 := by simpa using h22
            have hmr := HMR.out
            rw [if_neg n10, ho, if_neg Bool.false_ne_true, if_neg n22] at hmr
            have HM := Lib.hid hmr
            clear n10 n22 ho HMR hmr
            go_wp2_with (first
              | (refine store_row intsT wr w.heap.size _ _ w.heap.size k l.length .i64 (-1) _ w rfl rfl rfl rfl rfl HR.out (by simpa using hlt) HB.out ?_; intro w5 r5 b5 g5; rw [ints_set, listOf_set] at r5; have R5 := Lib.hid r5; have B5 := Lib.hid b5; have O5 := Lib.hid (HO.out.keepRow g5 HV.out); clear r5 b5 g5)
              | fail)
            go_wp2_with fail
            refine (opens_any x w5).mono ?_
            rintro e w6 ⟨rfl, b6⟩
            rw [HO1.out]
            have B6 := Lib.hid (B5.out.trans (b6.mono B5.out.size))
            have D6 := Lib.hid b6
            clear b6
            go_wp2_with fail
            go_roundw
            case rel => exact ⟨k + 1, by omega, by go_num, by rw [HM.out]; exact R5.out.below D6.out (Nat.le_refl _), by rw [HM.out]; exact O5.out.below D6.out (Nat.le_refl _), HV, B6.out⟩
            case measure => simp [intOf]; omega
          · have n22 : x = 22 := by simpa using h22
            have hmr := HMR.out
            rw [if_neg n10, ho, if_neg Bool.false_ne_true, if_pos n22] at hmr
            clear n10 n22 ho HMR
            rcases st with _ | ⟨p, st⟩
            · simp only at hmr
              have HM := Lib.hid hmr
              clear hmr
              obtain ⟨A', c', rfl, _, _, _⟩ := HO.out.form
              go_wp2_with (first
                | (refine store_row intsT wr w.heap.size _ _ w.heap.size k l.length .i64 (-1) _ w rfl rfl rfl rfl rfl HR.out (by simpa using hlt) HB.out ?_; intro w5 r5 b5 g5; rw [ints_set, listOf_set] at r5; have R5 := Lib.hid r5; have B5 := Lib.hid b5; have O5 := Lib.hid (HO.out.keepRow g5 HV.out); clear r5 b5 g5)
                | fail)
              go_wp2_with fail
              refine (opens_any x w5).mono ?_
              rintro e w6 ⟨rfl, b6⟩
              rw [HO1.out]
              have B6 := Lib.hid (B5.out.trans (b6.mono B5.out.size))
              have D6 := Lib.hid b6
              clear b6
              go_wp2_with fail
              go_roundw
              case rel => exact ⟨k + 1, by omega, by go_num, by rw [HM.out]; exact R5.out.below D6.out (Nat.le_refl _), by rw [HM.out]; exact O5.out.below D6.out (Nat.le_refl _), HV, B6.out⟩
              case measure => simp [intOf]; omega
            · simp only at hmr
              have HM := Lib.hid hmr
              clear hmr
              obtain ⟨g', c', rfl, hrow⟩ := HO.out.inRow (by simp)
              obtain ⟨q, hq⟩ : ∃ q, st.length = q := ⟨_, rfl⟩
              have hs : (stk (p :: st)).length = q + 1 := by simp [hq]
              rw [hs] at HV ⊢
              have hgg : ¬ g' = w.heap.size := fun e => HV.out (by rw [e]; rfl)
              have HQ := Lib.hid hq
              have HRW := Lib.hid hrow
              have hqk : q + 1 ≤ k := by simpa [hq] using hml
              have hw1 : IntKind.i64.wrap (((q + 1 : Nat) : Int) - 1) = (q : Int) := by rw [IntWalk.i64_in _ (by omega)]; omega
              have hgt : decide (((q + 1 : Nat) : Int) > 0) = true := by simp
              clear hs hq hrow hml
              go_wp2_with (first
                | (refine store_row intsT wr w.heap.size _ _ w.heap.size k l.length .i64 (-1) _ w rfl rfl rfl rfl rfl HR.out (by simpa using hlt) HB.out ?_; intro w5 r5 b5 g5; rw [ints_set, listOf_set] at r5; have R5 := Lib.hid r5; have B5 := Lib.hid b5; have O5 := Lib.hid (HRW.out.keep g5 (fun e => hgg (by injection e with e; exact e.symm))); clear r5 b5 g5)
                | fail)
              go_wp2_with fail
              refine (opens_any x w5).mono ?_
              rintro e w6 ⟨rfl, b6⟩
              rw [HO1.out]
              have B6 := Lib.hid (B5.out.trans (b6.mono B5.out.size))
              have D6 := Lib.hid b6
              clear b6
              have R6 := Lib.hid (R5.out.below D6.out (Nat.le_refl _))
              have O6 := Lib.hid (O5.out.below D6.out (Nat.le_refl _))
              have hpk : p < k := HALL.out p (by simp)
              have HC1 : Hid (w6.cell? ⟨g', q, none⟩ = some (.int .i64 p)) := by
                have := O6.out.cell (j := q) (by simp [HQ.out])
                exact Lib.hid (by simpa [HQ.out] using this)
              have hc1 := HC1.out
              obtain ⟨u2, hc2⟩ : ∃ u, w6.cell? ⟨w.heap.size, k, none⟩ = some u := ⟨_, R6.out.cell (j := k) (by simpa using hlt)⟩
              have hf2 := R6.out.free k
              have R7 := Lib.hid (R6.out.set k (.int .i64 p))
              obtain ⟨u3, hc3⟩ : ∃ u, (w6.setCell ⟨w.heap.size, k, none⟩ (.int .i64 p)).cell? ⟨w.heap.size, p, none⟩ = some u := ⟨_, R7.out.cell (j := p) (by simp; omega)⟩
              have hf3 : (w6.setCell ⟨w.heap.size, k, none⟩ (.int .i64 p)).frozen? ⟨w.heap.size, p, none⟩ = false := R7.out.free p
              have b2 : (0 : Int) ≤ (q : Int) := by omega
              have b3 : (q : Int) < ((q + 1 : Nat) : Int) := by omega
              have b4 : (0 : Int) ≤ (p : Int) := by omega
              have b5 : (p : Int) < (l.length : Int) := by omega
              go_wp2_with fail
              go_region
              have R8 := (R7.out.set p (.int .i64 k)).drewN 1
              rw [ints_set, ints_set, listOf_set, listOf_set] at R8
              have O8 := Row.drewN ((O6.out.keep (R6.out.setG k (.int .i64 p)) (fun e => hgg (by injection e with e; exact e.symm))).keep (R7.out.setG p (.int .i64 k)) (fun e => hgg (by injection e with e; exact e.symm))) 1
              have B8 := below_drawn (Row.setB (Row.setB B6.out R6.out k (.int .i64 p)) R7.out p (.int .i64 k)) 1
              have O8' := O8.own (n := q + 1) (by simp [HQ.out])
              clear R7 hc1 hc2 hc3 hf2 hf3 HC1 O8
              change Row ((w6.setCell ⟨w.heap.size, k, none⟩ (.int .i64 p)).setCell ⟨w.heap.size, p, none⟩ (.int .i64 k)).drew _ _ _ _ _ at R8
              change Own ((w6.setCell ⟨w.heap.size, k, none⟩ (.int .i64 p)).setCell ⟨w.heap.size, p, none⟩ (.int .i64 k)).drew _ _ _ _ at O8'
              change Below _ _ ((w6.setCell ⟨w.heap.size, k, none⟩ (.int .i64 p)).setCell ⟨w.heap.size, p, none⟩ (.int .i64 k)).drew at B8
              generalize ((w6.setCell ⟨w.heap.size, k, none⟩ (.int .i64 p)).setCell ⟨w.heap.size, p, none⟩ (.int .i64 k)).drew = w7 at R8 O8' B8 ⊢
              have HR8 := Lib.hid R8
              have HO8 := Lib.hid O8'
              have HB8 := Lib.hid B8
              clear R8 O8' B8
              go_wp2_with (first
                | (refine short_own intsT w7 w.heap.size _ _ .i64 q _ _ rfl rfl rfl rfl (by omega) HO8.out (by simp [HQ.out]) ?_; intro v9 o9 e9; have O9 := Lib.hid o9; have HV9 := Lib.hid (show v9.ownBlock ≠ some w.heap.size by rw [e9]; exact HV.out); clear o9 e9)
                | fail)
              go_roundw
              case rel =>
                refine ⟨k + 1, by omega, by go_num, by rw [HM.out]; exact HR8.out, ?_, HV9, HB8.out⟩
                rw [HM.out]
                have := O9.out
                rw [show ((q : Int)).toNat = q by omega] at this
                have e : (stk (p :: st)).take q = stk st := by
                  rw [stk, List.reverse_cons, List.map_append, ints, List.map_append, List.take_left' (by simp [HQ.out])]
                rw [e] at this
                exact this
              case measure => simp [intOf]; omega
        · have HO1 := Lib.hid ho
          have hmr := HMR.out
          rw [if_neg n10, if_pos ho] at hmr
          have HM := Lib.hid hmr
          clear n10 ho HMR hmr
          go_wp2_with (first
            | (refine store_row intsT wr w.heap.size _ _ w.heap.size k l.length .i64 (-1) _ w rfl rfl rfl rfl rfl HR.out (by simpa using hlt) HB.out ?_; intro w5 r5 b5 g5; rw [ints_set, listOf_set] at r5; have R5 := Lib.hid r5; have B5 := Lib.hid b5; have O5 := Lib.hid (HO.out.keepRow g5 HV.out); clear r5 b5 g5)
            | fail)
          go_wp2_with fail
          refine (opens_any x w5).mono ?_
          rintro e w6 ⟨rfl, b6⟩
          rw [HO1.out]
          have B6 := Lib.hid (B5.out.trans (b6.mono B5.out.size))
          have D6 := Lib.hid b6
          clear b6
          have O6 := Lib.hid (O5.out.below D6.out (Nat.le_refl _))
          have R6 := Lib.hid (R5.out.below D6.out (Nat.le_refl _))
          go_wp2_with (first
            | (at_builtin; refine app_lit intsT w _ w.heap.size _ _ _ _ _ _ rfl rfl rfl rfl O6.out (by simp [Value.oneCell']) B6.out B6.out.size (by unfold maxLen; simp; omega) (by simp; omega) ?_; intro v7 w7 o7 b7 g7 e7)
            | fail)
          go_roundw
          case rel =>
            refine ⟨k + 1, by omega, by go_num, ?_, ?_, Lib.hid (fresh_ne HV.out R6.out.inside.2 e7), b7⟩
            · rw [HM.out]; exact R6.out.keep g7 HV.out
            · rw [HM.out]; simpa [stk, ints] using o7
          case measure => simp [intOf]; omega
      · have hmr := HMR.out
        rw [if_pos (by simpa using h10)] at hmr
        have HM := Lib.hid hmr
        clear hmr HMR
        go_wp2_with (first
          | (refine store_row intsT wr w.heap.size _ _ w.heap.size k l.length .i64 (-1) _ w rfl rfl rfl rfl rfl HR.out (by simpa using hlt) HB.out ?_; intro w5 r5 b5 g5; rw [ints_set, listOf_set] at r5; have R5 := Lib.hid r5; have B5 := Lib.hid b5; have O5 := Lib.hid (HO.out.keepRow g5 HV.out); clear r5 b5 g5)
          | (refine short_own intsT w5 w.heap.size _ _ .i64 0 _ _ rfl rfl rfl rfl (by omega) O5.out (by simp) ?_; intro v6 o6 e6; have O6 := Lib.hid o6; have HV6 := Lib.hid (show v6.ownBlock ≠ some w.heap.size by rw [e6]; exact HV.out); clear o6 e6)
          | fail)
        go_roundw
        case rel => exact ⟨k + 1, by omega, by go_num, by rw [HM.out]; exact R5.out, by rw [HM.out]; simpa using O6.out, HV6, B5.out⟩
        case measure => simp [intOf]; omega
    · go_wp2
      go_ret
      obtain rfl : k = l.length := by omega
      refine rowed_ret (HR.out.own ?_) HB.out rfl
      simp

theorem fill_minus (k : Nat) : upd (fun j => if j < k then -1 else 0) k (-1) = fun j => if j < k + 1 then -1 else 0 := by
  funext j
  simp only [upd]
  by_cases h : j = k
  · rw [if_pos h, if_pos (by omega)]
  · rw [if_neg h]
    by_cases h' : j < k
    · rw [if_pos h', if_pos (by omega)]
    · rw [if_neg h', if_neg (by omega)]

set_option maxHeartbeats 4000000 in
theorem rmatch_any (A : Option Addr) (l : List Int) (c : Nat) (w : World) (h : Lies w w.heap.size A (ints .i64 l)) (hl : l.length ≤ 1000000) :
    Calls Try.prog 25 #[.slice A l.length c] w (Rowed w w.heap.size 3 (ints .i64 (mt l))) := by
  have H := Lib.hid h
  clear h
  go_enter Try.func25, Try.ntmps25
  go_wp2_with (first
    | (refine make_row intsT w w w.heap.size _ _ .i64 .i64 l.length rfl rfl rfl rfl rfl (Below.refl _ _) (Nat.le_refl _) (by omega) (by unfold maxLen; omega) ?_; intro w2 r2 b2 g2)
    | fail)
  rw [listOf_zero] at r2
  have R2 := Lib.hid r2
  have B2 := Lib.hid b2
  clear r2 b2 g2
  go_wp2
  go_loopw [4] (fun iv wr => ∃ (k : Nat), k ≤ l.length ∧ iv = .int .i64 k ∧ Row wr w.heap.size 3 w.heap.size l.length (ints .i64 (listOf l.length (fun j => if j < k then -1 else 0))) ∧ Below w.heap.size w wr) (fun iv _ => l.length - (intOf iv).toNat)
  case atStart => exact ⟨0, by omega, rfl, R2.out, B2.out⟩
  case round =>
    obtain ⟨k, hk, rfl, hr, hb⟩ := hrel
    have HR := Lib.hid hr
    have HB := Lib.hid hb
    clear hr hb
    by_cases hlt : k < l.length
    · have b0 : (0 : Int) ≤ (k : Int) := by omega
      have b1 : (k : Int) < (l.length : Int) := by omega
      go_wp2_with (first
        | (refine store_row intsT wr w.heap.size _ _ w.heap.size k l.length .i64 (-1) _ w rfl rfl rfl rfl rfl HR.out (by simpa using hlt) HB.out ?_; intro w5 r5 b5 g5; rw [ints_set, listOf_set, fill_minus] at r5; have R5 := Lib.hid r5; have B5 := Lib.hid b5; clear r5 b5 g5)
        | fail)
      go_roundw
      case rel => exact ⟨k + 1, by omega, by go_num, R5.out, B5.out⟩
      case measure => simp [intOf]; omega
    · have hz : listOf l.length (fun j => if j < k then -1 else 0) = listOf l.length (rrun l 0) := by
        apply List.map_congr_left
        intro j hj
        have : j < l.length := by simpa using hj
        rw [if_pos (by omega)]; rfl
      have HR1 : Hid (Row wr w.heap.size 3 w.heap.size l.length (ints .i64 (listOf l.length (rrun l 0)))) := Lib.hid (by rw [← hz]; exact HR.out)
      clear hz HR
      go_wp2
      go_loopw [5] (fun iv wr => ∃ (k : Nat), k ≤ l.length ∧ iv = .int .i64 k ∧ Row wr w.heap.size 3 w.heap.size l.length (ints .i64 (listOf l.length (rrun l k))) ∧ Below w.heap.size w wr) (fun iv _ => l.length - (intOf iv).toNat)
      case atStart => exact ⟨0, by omega, rfl, HR1.out, HB.out⟩
      case round =>
        clear HB HR1 hlt hk
        obtain ⟨k, hk, rfl, hr, hb⟩ := hrel
        have HR := Lib.hid hr
        have HB := Lib.hid hb
        clear hr hb
        by_cases hlt : k < l.length
        · obtain ⟨p, rfl, hpb, hc⟩ := (H.out.below HB.out).int hlt
          have b0 : (0 : Int) ≤ (k : Int) := by omega
          have b1 : (k : Int) < (l.length : Int) := by omega
          have HRR : Hid (rrun l (k + 1) = if isOpens l[k] then (if 0 ≤ endOf l k then upd (upd (rrun l k) k (endOf l k)) (endOf l k).toNat k else upd (rrun l k) k (endOf l k)) else rrun l k) := Lib.hid (by rw [rrun, at0_eq hlt])
          obtain ⟨x, hx⟩ : ∃ x, l[k] = x := ⟨_, rfl⟩
          rw [hx] at hc HRR
          obtain ⟨f, hf⟩ : ∃ f, rrun l k = f := ⟨_, rfl⟩
          rw [hf] at HR HRR
          clear hx hf
          rcases ho : isOpens x with _ | _
          · have HO := Lib.hid ho
            have HM := HRR.out
            rw [if_neg (by rw [ho]; simp)] at HM
            have HM := Lib.hid HM
            clear ho HRR
            go_wp2_with fail
            refine (ropens_any x _).mono ?_
            rintro e wq ⟨rfl, rfl⟩
            rw [HO.out]
            go_wp2_with fail
            go_roundw
            case rel => exact ⟨k + 1, by omega, by go_num, by rw [HM.out]; exact HR.out, HB.out⟩
            case measure => simp [intOf]; omega
          · have HO := Lib.hid ho
            have hj := first_jump l k 0
            have HE := Lib.hid (rend_any (some p) l c k wr ((H.out.below HB.out).wider HB.out.size) hl hlt)
            have HM := HRR.out
            rw [if_pos ho] at HM
            obtain ⟨ee, hee⟩ : ∃ ee, endOf l k = ee := ⟨_, rfl⟩
            rw [hee] at HE HM hj
            clear hee ho HRR
            rcases hj with ⟨rfl, _⟩ | ⟨e, rfl, he1, he2, _⟩
            · rw [if_neg (by omega)] at HM
              have HM := Lib.hid HM
              go_wp2_with fail
              refine (ropens_any x _).mono ?_
              rintro e wq ⟨rfl, rfl⟩
              rw [HO.out]
              go_wp2_with fail
              refine (HE.out).mono ?_
              rintro e w3 ⟨rfl, b3⟩
              have B3 := Lib.hid (HB.out.trans (b3.mono HB.out.size))
              have D3 := Lib.hid b3
              clear b3
              have R3 := Lib.hid (HR.out.below D3.out (Nat.le_refl _))
              go_wp2_with (first
                | (refine store_row intsT w3 w.heap.size _ _ w.heap.size k l.length .i64 (-1) _ w rfl rfl rfl rfl rfl R3.out (by simpa using hlt) B3.out ?_; intro w5 r5 b5 g5; rw [ints_set, listOf_set] at r5; have R5 := Lib.hid r5; have B5 := Lib.hid b5; clear r5 b5 g5)
                | fail)
              go_roundw
              case rel => exact ⟨k + 1, by omega, by go_num, by rw [HM.out]; exact R5.out, B5.out⟩
              case measure => simp [intOf]; omega
            · rw [if_pos (by omega), Int.toNat_natCast] at HM
              have HM := Lib.hid HM
              have b2 : (0 : Int) ≤ (e : Int) := by omega
              have b3 : (e : Int) < (l.length : Int) := by omega
              have hge : decide ((e : Int) ≥ 0) = true := by simp
              go_wp2_with fail
              refine (ropens_any x _).mono ?_
              rintro e wq ⟨rfl, rfl⟩
              rw [HO.out]
              go_wp2_with fail
              refine (HE.out).mono ?_
              rintro e w3 ⟨rfl, b3⟩
              have B3 := Lib.hid (HB.out.trans (b3.mono HB.out.size))
              have D3 := Lib.hid b3
              clear b3
              have R3 := Lib.hid (HR.out.below D3.out (Nat.le_refl _))
              go_wp2_with (first
                | (refine store_row intsT w3 w.heap.size _ _ w.heap.size k l.length .i64 e _ w rfl rfl rfl rfl rfl R3.out (by simpa using hlt) B3.out ?_; intro w5 r5 b5 g5; rw [ints_set, listOf_set] at r5; have R5 := Lib.hid r5; have B5 := Lib.hid b5; clear r5 b5 g5)
                | (refine store_row intsT w5 w.heap.size _ _ w.heap.size e l.length .i64 k _ w rfl rfl rfl rfl rfl R5.out (by simpa using he2) B5.out ?_; intro w6 r6 b6 g6; rw [ints_set, listOf_set] at r6; have R6 := Lib.hid r6; have B6 := Lib.hid b6; clear r6 b6 g6)
                | fail)
              go_roundw
              case rel => exact ⟨k + 1, by omega, by go_num, by rw [HM.out]; exact R6.out, B6.out⟩
              case measure => simp [intOf]; omega
        · obtain rfl : k = l.length := by omega
          rw [rrun_mt] at HR
          go_wp2
          go_ret
          refine rowed_ret (HR.out.own ?_) HB.out rfl
          simp [mt]
end Go.Proofs.Ytajgjloailliiaa
