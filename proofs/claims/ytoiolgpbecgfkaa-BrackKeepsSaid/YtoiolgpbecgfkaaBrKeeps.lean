/- BrackKeeps: for every three lists of numbers, every level and both directions, brackets that are paired, and marks behind them, become sides, or stay, and all else stays. Conditions: none. -/
import Derived.Test.YtoiolgpbecgfkaaBrV
import Derived.Test.YtoiolgpbecgfkaaLawC
import Derived.Deep.DeepCutAuto
import Derived.Test.YtoiolgpbecgfkaaRows
namespace Go.Proofs.Ytoiolgpbecgfkaa.lawKeeps
open Go.ChangeShapes Go.WideShapes Go.ChangeAt Go.RowKit

theorem boolsT : SliceOf Try.prog 41 4 (.bool false) 1 := ⟨by kernel_rfl, by kernel_rfl, rfl⟩
/-- all that the bracket at place c may turn is set -/
def Set (first : List Int) (ml : List Bool) (c : Nat) : Prop := ∀ t, Marked first c t → t < ml.length → ml[t]? = some true
theorem Set.more {first : List Int} {ml : List Bool} {c : Nat} (h : Set first ml c) (k : Nat) : Set first (ml.set k true) c := fun t ht hl => by
  rw [List.length_set] at hl
  rw [List.getElem?_set]
  split
  · rename_i e; subst e; simp [hl]
  · exact h t ht hl
theorem set_done {first : List Int} {ml : List Bool} {c k : Nat} (hf : first.length = ml.length) (hk : c + 1 ≤ k) (hk2 : k ≤ first.length) (h8 : ∀ j, c + 1 ≤ j → j < k → first.getD j 0 = 8) (hs : k = first.length ∨ first.getD k 0 ≠ 8) (hm : ∀ t, c ≤ t → t < k → ml[t]? = some true) : Set first ml c := fun t ht hl => by
  have := marksB_stop first c (k - (c + 1)) (by omega) (fun j hj => h8 (c + 1 + j) (by omega) (by omega)) (by
    rw [show c + 1 + (k - (c + 1)) = k by omega]; exact hs)
  have h2 := ht.2
  rw [this] at h2
  exact hm t ht.1 (by omega)
theorem set_map (ml : List Bool) (k : Nat) : (ml.map Value.bool).set k (.bool true) = (ml.set k true).map Value.bool := by rw [List.map_set]

theorem row_set {w : World} {B g N : Nat} {ml : List Bool} {k : Nat} (h : OwnN w B 4 1 (.slice (some ⟨g, 0, none⟩) (ml.map Value.bool).length N) (ml.map Value.bool).length ((ml.map Value.bool).set k (.bool true))) : Row w B 4 g N ((ml.set k true).map Value.bool) := by
  have e : ((ml.set k true).map Value.bool).length = (ml.map Value.bool).length := by simp
  unfold Row Own
  rw [e, ← set_map]
  exact h

/-- what is set behind the first i pairs -/
def Sets (P : List (Int × Int)) (first : List Int) (ml : List Bool) (i : Nat) : Prop := ∀ p ∈ P.take i, Set first ml p.1.toNat ∧ Set first ml p.2.toNat
theorem Sets.more {P : List (Int × Int)} {first : List Int} {ml : List Bool} {i : Nat} (h : Sets P first ml i) (k : Nat) : Sets P first (ml.set k true) i := fun p hp => ⟨(h p hp).1.more k, (h p hp).2.more k⟩
theorem Sets.next {P : List (Int × Int)} {first : List Int} {ml : List Bool} {i a b : Nat} (h : Sets P first ml i) (hi : i < P.length) (hab : P[i] = ((a : Int), (b : Int))) (h1 : Set first ml a) (h2 : Set first ml b) : Sets P first ml (i + 1) := fun p hp => by
  rw [List.take_succ_eq_append_getElem hi] at hp
  rcases List.mem_append.1 hp with hp | hp
  · exact h p hp
  · rw [List.mem_singleton.1 hp, hab]
    exact ⟨by simpa using h1, by simpa using h2⟩
/-- a place that isn't set has stayed; what has turned is a side -/
theorem stays {chars classes first : List Int} {level sos : Int} {ml : List Bool} (h : Sets (pairsI chars classes) first ml (pairsI chars classes).length) {i : Nat} (hi : i < classes.length) (hi' : i < (ofB chars classes first level sos).length) (him : i < ml.length) :
    (ml[i] = false → (ofB chars classes first level sos)[i] = classes[i]) ∧ ((ofB chars classes first level sos)[i] = classes[i] ∨ (ofB chars classes first level sos)[i] = 0 ∨ (ofB chars classes first level sos)[i] = 1) := by
  obtain ⟨h1, h2⟩ := (ofB_keeps chars classes first level sos).2 i hi hi'
  refine ⟨fun hm => h1 fun p hp => ?_, h2⟩
  have hs := h p (by rw [List.take_length]; exact hp)
  have key : ∀ c, Set first ml c → ¬ Marked first c i := fun c hc hM => by
    have := hc i hM him
    rw [List.getElem?_eq_getElem him, hm] at this
    cases this
  exact ⟨key _ hs.1, key _ hs.2⟩

set_option maxRecDepth 20000 in
set_option maxHeartbeats 8000000 in
theorem walk_ok (w : World) (A : Option Addr) (chars : List Int) (c : Nat) (A' : Option Addr) (classes : List Int) (c' : Nat) (A2 : Option Addr) (first : List Int) (c2 : Nat) (hl : chars.length ≤ 200) (hl' : classes.length ≤ 200) (hl2 : first.length ≤ 200)
    (h : Lies w w.heap.size A (ints .i64 chars)) (h' : Lies w w.heap.size A' (ints .i64 classes)) (h2 : Lies w w.heap.size A2 (ints .i64 first)) (level : Int) (bb : Bool) :
    Calls Try.prog 6 #[.agg #[.slice A chars.length c, .slice A' classes.length c', .slice A2 first.length c2], .int .i64 level, .bool bb] w fun e w' => e = .returned (.bool true) ∧ Below w.heap.size w w' := by
  obtain ⟨w0, hw0⟩ : ∃ u, w.alloc (.cells #[.slice A chars.length c, .slice A' classes.length c', .slice A2 first.length c2] 33) = u := ⟨_, rfl⟩
  obtain ⟨q, hq⟩ : ∃ q, w.heap.size = q := ⟨_, rfl⟩
  have B0 : Hid (Below w.heap.size w w0) := Lib.hid (hw0 ▸ below_alloc w _)
  have BX : Hid (∀ u, Below w0.heap.size w0 u → u.cell? ⟨q, 0, none⟩ = some (.slice A chars.length c) ∧ u.cell? ⟨q, 1, none⟩ = some (.slice A' classes.length c') ∧ u.cell? ⟨q, 2, none⟩ = some (.slice A2 first.length c2)) := by
    subst hw0 hq
    exact Lib.hid fun u hu => ⟨boxed hu rfl, boxed hu rfl, boxed hu rfl⟩
  have H := Lib.hid (h.up B0.out)
  have H' := Lib.hid (h'.up B0.out)
  have H2 := Lib.hid (h2.up B0.out)
  obtain ⟨n, hn⟩ : ∃ n : Int, (if bb then 1 else 0) = n := ⟨_, rfl⟩
  have HB0 := Lib.hid hn
  obtain ⟨R, hR⟩ : ∃ x, ofB chars classes first level n = x := ⟨_, rfl⟩
  have HR := Lib.hid hR
  have HRL : Hid (R.length = classes.length) := Lib.hid (by rw [← hR, (ofB_keeps chars classes first level n).1])
  obtain ⟨P, hP⟩ : ∃ P, pairsI chars classes = P := ⟨_, rfl⟩
  have HP := Lib.hid hP
  have STAY : Hid (∀ (ml : List Bool), ml.length = classes.length → Sets P first ml P.length → ∀ (i : Nat) (_ : i < classes.length) (hi' : i < R.length) (him : i < ml.length) (hic : i < classes.length), (ml[i] = false → R[i] = classes[i]) ∧ (R[i] = classes[i] ∨ R[i] = 0 ∨ R[i] = 1)) := Lib.hid (by
    subst hR hP
    intro ml _ hs i hi hi' him _
    exact stays hs hi hi' him)
  clear h h' h2 hR hn hP
  go_enter Try.func6, Try.ntmps6
  go_wp2_with fail
  clear hw0 hq
  refine (balive_any w0).mono ?_
  rintro e w1 ⟨rfl, b1⟩
  have B1 := Lib.hid b1
  have G := Lib.hid (H.out.up b1)
  have G' := Lib.hid (H'.out.up b1)
  have G2 := Lib.hid (H2.out.up b1)
  obtain ⟨x0, x1, x2⟩ := BX.out w1 b1
  clear b1
  go_upto_if 33 with fail
  go_cut [2, 7] (fun v1 v wx => v1 = .bool bb ∧ v = .int .i64 n ∧ w1 = wx)
  case first =>
    rcases bb with _ | _
    · have e : Hid ((0 : Int) = n) := Lib.hid (by rw [← HB0.out]; rfl)
      go_wp2_with fail
      go_meet
      exact ⟨rfl, by rw [e.out], rfl⟩
    · have e : Hid ((1 : Int) = n) := Lib.hid (by rw [← HB0.out]; rfl)
      go_wp2_with fail
      go_meet
      exact ⟨rfl, by rw [e.out], rfl⟩
  case rest =>
    obtain ⟨rfl, rfl, rfl⟩ := hcut
    go_wp2_with fail
    clear x0 x1 x2
    refine (bof_any A chars c A' classes c' A2 first c2 level n w1 G.out G'.out G2.out (by omega) (by omega) (by omega)).mono ?_
    rintro e w2 ⟨v2, rfl, o2, b2⟩
    rw [HR.out] at o2
    obtain ⟨A3, c3, hv2, l3, -, -⟩ := o2.form
    rw [ints, List.length_map, HRL.out] at hv2
    subst hv2
    have L3 := Lib.hid l3
    have B2 := Lib.hid (below_then B1.out b2)
    have KA := Lib.hid (G.out.up b2)
    have KB := Lib.hid (G'.out.up b2)
    have KC := Lib.hid (G2.out.up b2)
    obtain ⟨x0, x1, x2⟩ := BX.out w2 B2.out
    clear o2 b2 l3
    have dz : ((classes.length : Int) != (classes.length : Int)) = false := by simp
    by_cases he : chars.length = classes.length ∧ first.length = classes.length
    · have d1 : ((chars.length : Int) != (classes.length : Int)) = false := by simp [he.1]
      have d2 : ((first.length : Int) != (classes.length : Int)) = false := by simp [he.2]
      have HE := Lib.hid he
      clear he
      go_wp2_with fail
      clear x0 x1 x2
      refine (bpairs_any A chars c A' classes c' w2 KA.out KB.out (by omega) (by omega)).mono ?_
      rintro e w3 ⟨A4, c4, rfl, l4, b3⟩
      rw [HP.out] at l4 ⊢
      have L4 := Lib.hid l4
      have B3 := Lib.hid (below_then B2.out b3)
      have L33 := Lib.hid (L3.out.up b3)
      have MB := Lib.hid (KB.out.up b3)
      have MC := Lib.hid (KC.out.up b3)
      clear l4 b3
      go_wp2_with (first
        | (refine make_row boolsT w3 w3 w3.heap.size _ _ .i64 .i64 classes.length rfl rfl rfl rfl rfl (Below.refl _ _) (Nat.le_refl _) (by omega) (by unfold maxLen; omega) ?_; intro w4 r4 b4 g4; have R4 := Lib.hid r4; have B4 := Lib.hid b4; clear r4 b4 g4)
        | fail)
      have HNC : Hid (first.length = classes.length) := Lib.hid HE.out.2
      have HPV : Hid (∀ p ∈ P, ∃ a b : Nat, p = ((a : Int), (b : Int)) ∧ a < b ∧ b < classes.length) := Lib.hid (fun p hp => by
        rw [← HP.out, pairsI, if_pos HE.out.1] at hp
        obtain ⟨a, b, e1, e2, e3, _⟩ := (pinv chars classes chars.length).each p hp
        exact ⟨a, b, e1, e2, by have := HE.out.1; omega⟩)
      have hPl : P.length ≤ 200 := by
        rw [← HP.out, pairsI, if_pos HE.out.1]
        exact Nat.le_trans (pairs_le chars classes chars.length).1 hl
      clear d1 d2 dz
      go_loopw [11] (fun iv wr => ∃ (i : Nat) (ml : List Bool), i ≤ P.length ∧ iv = .int .i64 i ∧ Hid (ml.length = classes.length) ∧ Row wr w3.heap.size 4 w3.heap.size classes.length (ml.map Value.bool) ∧ Hid (Sets P first ml i) ∧ Below w3.heap.size w3 wr) (fun iv _ => P.length - (intOf iv).toNat)
      case atStart => exact ⟨0, List.replicate classes.length false, by omega, rfl, Lib.hid (by simp), by rw [List.map_replicate]; exact R4.out, Lib.hid (fun p hp => by simp at hp), B4.out⟩
      case round =>
        obtain ⟨i, ml, hi, rfl, HML, hr, HSE, hb⟩ := hrel
        have HRW := Lib.hid hr
        have HB := Lib.hid hb
        clear hr hb
        by_cases hlt : i < P.length
        · obtain ⟨a, b, hab, hlab, hbc⟩ := HPV.out _ (List.getElem_mem hlt)
          have HAB := Lib.hid hab
          have HLAB := Lib.hid (And.intro hlab hbc)
          go_wp2_with fail
          rename World => wx
          go_loopw [12] (fun jv wr => ∃ (j : Nat) (ml : List Bool), j ≤ 2 ∧ jv = .int .i64 j ∧ Hid (ml.length = classes.length) ∧ Row wr w3.heap.size 4 w3.heap.size classes.length (ml.map Value.bool) ∧ Hid (Sets P first ml i) ∧ Hid ((0 < j → Set first ml a) ∧ (1 < j → Set first ml b)) ∧ Below w3.heap.size w3 wr) (fun jv _ => 2 - (intOf jv).toNat)
          case atStart => exact ⟨0, ml, by omega, rfl, HML, HRW.out, HSE, Lib.hid ⟨fun h => absurd h (by omega), fun h => absurd h (by omega)⟩, HB.out⟩
          case round =>
            obtain ⟨j, ml, hj, rfl, HML, hr, HSE, HSJ, hb⟩ := hrel
            have HRW := Lib.hid hr
            have HB := Lib.hid hb
            clear hr hb
            obtain ⟨g, off, hA4, hg, p0, p1⟩ := prC_at (L4.out.up HB.out) hlt
            subst hA4
            rw [HAB.out] at p0 p1
            simp only at p0 p1
            have n0 : (0 : Int) ≤ (i : Int) := by omega
            have n1 : (i : Int) < (P.length : Int) := by omega
            rcases j with _ | _ | j
            · have hcl : a < classes.length := by have := HLAB.out; omega
              have c0 : (0 : Int) ≤ (a : Int) := by omega
              have c1 : (a : Int) < (classes.length : Int) := by omega
              have hwc : IntKind.i64.wrap ((a : Int) + 1) = (((a + 1 : Nat)) : Int) := by rw [IntWalk.i64_in _ (by omega)]; rfl
              have hro : OwnN wr w3.heap.size 4 1 (.slice (some ⟨w3.heap.size, 0, none⟩) (ml.map Value.bool).length classes.length) (ml.map Value.bool).length (ml.map Value.bool) := HRW.out
              have HRO := Lib.hid hro
              clear hro
              go_wp2_with (first
                | (refine store_cell (e := 4) wr w3.heap.size _ _ w3.heap.size a classes.length (.bool true) (ml.map Value.bool) w3 rfl rfl rfl (by kernel_rfl) rfl rfl rfl HRO.out (by have := HML.out; rw [List.length_map]; omega) HB.out ?_
                   intro w5 r5 b5 _
                   have R5 : Hid (Row w5 w3.heap.size 4 w3.heap.size classes.length ((ml.set a true).map Value.bool)) := Lib.hid (row_set r5)
                   have B5 := Lib.hid b5
                   clear r5 b5)
                | fail)
              have HM5 : Hid ((ml.set a true).length = classes.length) := Lib.hid (by rw [List.length_set]; exact HML.out)
              have HS5 : Hid (Sets P first (ml.set a true) i) := Lib.hid (HSE.out.more a)
              have HP5 : Hid (∀ t, a ≤ t → t < a + 1 → (ml.set a true)[t]? = some true) := Lib.hid (fun t h1 h2 => by
                have ht : t = a := by omega
                subst ht
                have := HML.out
                rw [List.getElem?_set_self (by omega)])
              generalize ml.set a true = ml5 at *
              clear p0 p1 HRW HRO
              rename World => wy
              go_loopw [13] (fun kv wr => ∃ (k : Nat) (ml : List Bool), a + 1 ≤ k ∧ k ≤ classes.length ∧ kv = .int .i64 k ∧ Hid (ml.length = classes.length) ∧ Row wr w3.heap.size 4 w3.heap.size classes.length (ml.map Value.bool) ∧ Hid (Sets P first ml i) ∧ Hid (∀ t, a ≤ t → t < k → ml[t]? = some true) ∧ Hid (∀ t, a + 1 ≤ t → t < k → first.getD t 0 = 8) ∧ Below w3.heap.size w3 wr) (fun kv _ => classes.length - (intOf kv).toNat)
              case atStart => exact ⟨a + 1, ml5, Nat.le_refl _, by omega, rfl, HM5, R5.out, HS5, HP5, Lib.hid (fun t h1 h2 => absurd h2 (by omega)), B5.out⟩
              case round =>
                obtain ⟨k, ml, hk1, hk2, rfl, HML, hr, HSE, HTR, H8, hb⟩ := hrel
                have HRW := Lib.hid hr
                have HB := Lib.hid hb
                clear hr hb
                obtain ⟨x0, x1, x2⟩ := BX.out wr (below_then B3.out HB.out)
                by_cases hkl : k < classes.length
                · have hkf : k < first.length := by have := HNC.out; omega
                  obtain ⟨pf, hpf, _, hcf⟩ := (MC.out.up HB.out).int hkf
                  subst hpf
                  obtain ⟨x, hx⟩ : ∃ x, first[k] = x := ⟨_, rfl⟩
                  have HX : Hid (first.getD k 0 = x) := Lib.hid (by simp [hkf, hx])
                  rw [hx] at hcf
                  have k0 : (0 : Int) ≤ (k : Int) := by omega
                  have k1 : (k : Int) < (classes.length : Int) := by omega
                  have k2 : (k : Int) < (first.length : Int) := by omega
                  have HKF := Lib.hid hkf
                  clear hx hkf
                  rcases h8 : (x == 8) with _ | _
                  · have HX8 : Hid (x ≠ 8) := Lib.hid (by simpa using h8)
                    have HDONE : Hid (Set first ml a) := Lib.hid (set_done (by have := HNC.out; have := HML.out; omega) hk1 (by have := HNC.out; omega) H8.out (.inr (by rw [HX.out]; exact HX8.out)) HTR.out)
                    go_wp2_with fail
                    go_roundw
                    case rel => exact ⟨1, ml, by omega, by first | rfl | go_num, HML, HRW.out, HSE, Lib.hid ⟨fun _ => HDONE.out, fun h => absurd h (by omega)⟩, HB.out⟩
                    case measure => simp [intOf]
                  · have HX8 : Hid (x = 8) := Lib.hid (by simpa using h8)
                    have hro : OwnN wr w3.heap.size 4 1 (.slice (some ⟨w3.heap.size, 0, none⟩) (ml.map Value.bool).length classes.length) (ml.map Value.bool).length (ml.map Value.bool) := HRW.out
                    have HRO := Lib.hid hro
                    clear hro
                    have hwk : IntKind.i64.wrap ((k : Int) + 1) = (((k + 1 : Nat)) : Int) := by rw [IntWalk.i64_in _ (by omega)]; rfl
                    go_wp2_with (first
                      | (refine store_cell (e := 4) wr w3.heap.size _ _ w3.heap.size k classes.length (.bool true) (ml.map Value.bool) w3 rfl rfl rfl (by kernel_rfl) rfl rfl rfl HRO.out (by have := HML.out; rw [List.length_map]; omega) HB.out ?_
                         intro w6 r6 b6 _
                         have R6 : Hid (Row w6 w3.heap.size 4 w3.heap.size classes.length ((ml.set k true).map Value.bool)) := Lib.hid (row_set r6)
                         have B6 := Lib.hid b6
                         clear r6 b6)
                      | fail)
                    go_roundw
                    case rel =>
                      refine ⟨k + 1, ml.set k true, by omega, by omega, by first | rfl | go_num, Lib.hid (by rw [List.length_set]; exact HML.out), R6.out, Lib.hid (HSE.out.more k), Lib.hid (fun t h1 h2 => ?_), Lib.hid (fun t h1 h2 => ?_), B6.out⟩
                      · rw [List.getElem?_set]
                        split
                        · have := HML.out; rw [if_pos (by omega)]
                        · exact HTR.out t h1 (by omega)
                      · by_cases htk : t = k
                        · subst htk; rw [HX.out]; exact HX8.out
                        · exact H8.out t h1 (by omega)
                    case measure => simp [intOf]; omega
                · have hke : k = classes.length := by omega
                  have HDONE : Hid (Set first ml a) := Lib.hid (set_done (by have := HNC.out; have := HML.out; omega) hk1 (by have := HNC.out; omega) H8.out (.inl (by have := HNC.out; omega)) HTR.out)
                  have k1 : ¬ (k : Int) < (classes.length : Int) := by omega
                  have k1' : ¬ k < classes.length := by omega
                  clear hke
                  go_wp2_with fail
                  go_roundw
                  case rel => exact ⟨1, ml, by omega, by first | rfl | go_num, HML, HRW.out, HSE, Lib.hid ⟨fun _ => HDONE.out, fun h => absurd h (by omega)⟩, HB.out⟩
                  case measure => simp [intOf]
            · have hcl : b < classes.length := by have := HLAB.out; omega
              have c0 : (0 : Int) ≤ (b : Int) := by omega
              have c1 : (b : Int) < (classes.length : Int) := by omega
              have hwc : IntKind.i64.wrap ((b : Int) + 1) = (((b + 1 : Nat)) : Int) := by rw [IntWalk.i64_in _ (by omega)]; rfl
              have hro : OwnN wr w3.heap.size 4 1 (.slice (some ⟨w3.heap.size, 0, none⟩) (ml.map Value.bool).length classes.length) (ml.map Value.bool).length (ml.map Value.bool) := HRW.out
              have HRO := Lib.hid hro
              clear hro
              go_wp2_with (first
                | (refine store_cell (e := 4) wr w3.heap.size _ _ w3.heap.size b classes.length (.bool true) (ml.map Value.bool) w3 rfl rfl rfl (by kernel_rfl) rfl rfl rfl HRO.out (by have := HML.out; rw [List.length_map]; omega) HB.out ?_
                   intro w5 r5 b5 _
                   have R5 : Hid (Row w5 w3.heap.size 4 w3.heap.size classes.length ((ml.set b true).map Value.bool)) := Lib.hid (row_set r5)
                   have B5 := Lib.hid b5
                   clear r5 b5)
                | fail)
              have HM5 : Hid ((ml.set b true).length = classes.length) := Lib.hid (by rw [List.length_set]; exact HML.out)
              have HS5 : Hid (Sets P first (ml.set b true) i) := Lib.hid (HSE.out.more b)
              have HP5 : Hid (∀ t, b ≤ t → t < b + 1 → (ml.set b true)[t]? = some true) := Lib.hid (fun t h1 h2 => by
                have ht : t = b := by omega
                subst ht
                have := HML.out
                rw [List.getElem?_set_self (by omega)])
              have HO5 : Hid (Set first (ml.set b true) a) := Lib.hid ((HSJ.out.1 (by omega)).more b)
              generalize ml.set b true = ml5 at *
              clear p0 p1 HRW HRO
              rename World => wy
              go_loopw [13] (fun kv wr => ∃ (k : Nat) (ml : List Bool), b + 1 ≤ k ∧ k ≤ classes.length ∧ kv = .int .i64 k ∧ Hid (ml.length = classes.length) ∧ Row wr w3.heap.size 4 w3.heap.size classes.length (ml.map Value.bool) ∧ Hid (Sets P first ml i) ∧ Hid (∀ t, b ≤ t → t < k → ml[t]? = some true) ∧ Hid (∀ t, b + 1 ≤ t → t < k → first.getD t 0 = 8) ∧ Hid (Set first ml a) ∧ Below w3.heap.size w3 wr) (fun kv _ => classes.length - (intOf kv).toNat)
              case atStart => exact ⟨b + 1, ml5, Nat.le_refl _, by omega, rfl, HM5, R5.out, HS5, HP5, Lib.hid (fun t h1 h2 => absurd h2 (by omega)), HO5, B5.out⟩
              case round =>
                obtain ⟨k, ml, hk1, hk2, rfl, HML, hr, HSE, HTR, H8, HOT, hb⟩ := hrel
                have HRW := Lib.hid hr
                have HB := Lib.hid hb
                clear hr hb
                obtain ⟨x0, x1, x2⟩ := BX.out wr (below_then B3.out HB.out)
                by_cases hkl : k < classes.length
                · have hkf : k < first.length := by have := HNC.out; omega
                  obtain ⟨pf, hpf, _, hcf⟩ := (MC.out.up HB.out).int hkf
                  subst hpf
                  obtain ⟨x, hx⟩ : ∃ x, first[k] = x := ⟨_, rfl⟩
                  have HX : Hid (first.getD k 0 = x) := Lib.hid (by simp [hkf, hx])
                  rw [hx] at hcf
                  have k0 : (0 : Int) ≤ (k : Int) := by omega
                  have k1 : (k : Int) < (classes.length : Int) := by omega
                  have k2 : (k : Int) < (first.length : Int) := by omega
                  have HKF := Lib.hid hkf
                  clear hx hkf
                  rcases h8 : (x == 8) with _ | _
                  · have HX8 : Hid (x ≠ 8) := Lib.hid (by simpa using h8)
                    have HDONE : Hid (Set first ml b) := Lib.hid (set_done (by have := HNC.out; have := HML.out; omega) hk1 (by have := HNC.out; omega) H8.out (.inr (by rw [HX.out]; exact HX8.out)) HTR.out)
                    go_wp2_with fail
                    go_roundw
                    case rel => exact ⟨2, ml, by omega, by first | rfl | go_num, HML, HRW.out, HSE, Lib.hid ⟨fun _ => HOT.out, fun _ => HDONE.out⟩, HB.out⟩
                    case measure => simp [intOf]
                  · have HX8 : Hid (x = 8) := Lib.hid (by simpa using h8)
                    have hro : OwnN wr w3.heap.size 4 1 (.slice (some ⟨w3.heap.size, 0, none⟩) (ml.map Value.bool).length classes.length) (ml.map Value.bool).length (ml.map Value.bool) := HRW.out
                    have HRO := Lib.hid hro
                    clear hro
                    have hwk : IntKind.i64.wrap ((k : Int) + 1) = (((k + 1 : Nat)) : Int) := by rw [IntWalk.i64_in _ (by omega)]; rfl
                    go_wp2_with (first
                      | (refine store_cell (e := 4) wr w3.heap.size _ _ w3.heap.size k classes.length (.bool true) (ml.map Value.bool) w3 rfl rfl rfl (by kernel_rfl) rfl rfl rfl HRO.out (by have := HML.out; rw [List.length_map]; omega) HB.out ?_
                         intro w6 r6 b6 _
                         have R6 : Hid (Row w6 w3.heap.size 4 w3.heap.size classes.length ((ml.set k true).map Value.bool)) := Lib.hid (row_set r6)
                         have B6 := Lib.hid b6
                         clear r6 b6)
                      | fail)
                    go_roundw
                    case rel =>
                      refine ⟨k + 1, ml.set k true, by omega, by omega, by first | rfl | go_num, Lib.hid (by rw [List.length_set]; exact HML.out), R6.out, Lib.hid (HSE.out.more k), Lib.hid (fun t h1 h2 => ?_), Lib.hid (fun t h1 h2 => ?_), Lib.hid (HOT.out.more k), B6.out⟩
                      · rw [List.getElem?_set]
                        split
                        · have := HML.out; rw [if_pos (by omega)]
                        · exact HTR.out t h1 (by omega)
                      · by_cases htk : t = k
                        · subst htk; rw [HX.out]; exact HX8.out
                        · exact H8.out t h1 (by omega)
                    case measure => simp [intOf]; omega
                · have hke : k = classes.length := by omega
                  have HDONE : Hid (Set first ml b) := Lib.hid (set_done (by have := HNC.out; have := HML.out; omega) hk1 (by have := HNC.out; omega) H8.out (.inl (by have := HNC.out; omega)) HTR.out)
                  have k1 : ¬ (k : Int) < (classes.length : Int) := by omega
                  have k1' : ¬ k < classes.length := by omega
                  clear hke
                  go_wp2_with fail
                  go_roundw
                  case rel => exact ⟨2, ml, by omega, by first | rfl | go_num, HML, HRW.out, HSE, Lib.hid ⟨fun _ => HOT.out, fun _ => HDONE.out⟩, HB.out⟩
                  case measure => simp [intOf]
            · have hj2 : j = 0 := by omega
              subst hj2
              have HNX : Hid (Sets P first ml (i + 1)) := Lib.hid (HSE.out.next hlt HAB.out (HSJ.out.1 (by omega)) (HSJ.out.2 (by omega)))
              clear p0 p1
              go_wp2_with fail
              go_roundw
              case rel => exact ⟨i + 1, ml, by omega, by go_num, HML, HRW.out, HNX, HB.out⟩
              case measure => simp [intOf]; omega
        · obtain rfl : i = P.length := by omega
          go_wp2_with fail
          rename World => wf
          go_loopw [14] (fun iv wr => ∃ i : Nat, i ≤ classes.length ∧ iv = .int .i64 i ∧ Below wf.heap.size wf wr) (fun iv _ => classes.length - (intOf iv).toNat)
          case atStart => exact ⟨0, by omega, rfl, Below.refl _ _⟩
          case round =>
            obtain ⟨i, hi, rfl, hbf⟩ := hrel
            have HBF := Lib.hid hbf
            clear hbf
            by_cases hlt : i < classes.length
            · have hir : i < R.length := by rw [HRL.out]; exact hlt
              have him : i < ml.length := by rw [HML.out]; exact hlt
              have hst := STAY.out ml HML.out HSE.out i hlt hir him hlt
              have BF3 := Lib.hid (HB.out.trans (HBF.out.mono HB.out.size))
              obtain ⟨pl, hpl, _, hcx⟩ := (L33.out.up BF3.out).int hir
              subst hpl
              obtain ⟨pc, hpc, _, hcy⟩ := (MB.out.up BF3.out).int hlt
              subst hpc
              have hcm := (HRW.out.below HBF.out (Nat.le_refl _)).cell (j := i) (by rw [List.length_map]; exact him)
              rw [List.getElem_map] at hcm
              obtain ⟨m, hm⟩ : ∃ z, ml[i] = z := ⟨_, rfl⟩
              obtain ⟨x, hx⟩ : ∃ z, R[i] = z := ⟨_, rfl⟩
              obtain ⟨y, hy⟩ : ∃ z, classes[i] = z := ⟨_, rfl⟩
              rw [hm, hx, hy] at hst
              rw [hm] at hcm
              rw [hx] at hcx
              rw [hy] at hcy
              obtain ⟨x0, x1, x2⟩ := BX.out wr (below_then B3.out BF3.out)
              have c0 : (0 : Int) ≤ (i : Int) := by omega
              have c1 : (i : Int) < (classes.length : Int) := by omega
              have hk0 : wr.drew.cell? ⟨w3.heap.size, i, none⟩ = some (.bool m) ∧ wr.drew.cell? (pl.add i) = some (.int .i64 x) ∧ wr.drew.cell? ⟨q, 1, none⟩ = some (.slice (some pc) classes.length c') ∧ wr.drew.cell? (pc.add i) = some (.int .i64 y) := ⟨hcm, hcx, x1, hcy⟩
              have BD : Hid (Below wf.heap.size wf wr.drew) := Lib.hid (by exact below_same HBF.out rfl rfl rfl rfl)
              clear hm hx hy hcm hcx hcy x0 x1 x2 hir him
              rcases hxy : (x != y) with _ | _
              · rcases m with _ | _
                · have TT := trivial
                  clear hst
                  go_wp2_with fail
                  refine wp_region_E (S := fun w' => w'.cell? ⟨w3.heap.size, i, none⟩ = some (.bool false) ∧ w'.cell? (pl.add i) = some (.int .i64 x) ∧ w'.cell? ⟨q, 1, none⟩ = some (.slice (some pc) classes.length c') ∧ w'.cell? (pc.add i) = some (.int .i64 y)) [] (by kernel_rfl) (hk0) (fun hHeld hClosed => ?_)
                  refine' wpAnyE_take (i := 0) (v := _) rfl (by kernel_rfl) (by kernel_rfl) (by kernel_rfl) (by kernel_rfl) (fun _ _ _ h => h) (Or.inl ⟨by rfl, fun u hu => ?_⟩) hHeld hClosed (fun hNext => ?_)
                  rotate_left
                  · (try dsimp only at hu)
                    go_simp
                    try with_reducible rfl
                  clear hClosed
                  have hClosed := hNext
                  clear hNext
                  try simp only [Act.put, List.getElem_toArray, List.getElem_cons_zero, List.setIfInBounds_toArray, List.set_cons_zero, List.set_cons_succ]
                  refine' wpAnyE_take (i := 1) (v := _) rfl (by kernel_rfl) (by kernel_rfl) (by kernel_rfl) (by kernel_rfl) (fun _ _ _ h => h) (Or.inl ⟨by rfl, fun u hu => ?_⟩) hHeld hClosed (fun hNext => ?_)
                  rotate_left
                  · (try dsimp only at hu)
                    go_simp
                    try with_reducible rfl
                  clear hClosed
                  have hClosed := hNext
                  clear hNext
                  try simp only [Act.put, List.getElem_toArray, List.getElem_cons_zero, List.getElem_cons_succ, List.setIfInBounds_toArray, List.set_cons_zero, List.set_cons_succ]
                  refine' wpAnyE_take (i := 2) (v := _) rfl (by kernel_rfl) (by kernel_rfl) (by kernel_rfl) (by kernel_rfl) (fun _ _ _ h => h) (Or.inl ⟨by rfl, fun u hu => ?_⟩) hHeld hClosed (fun hNext => ?_)
                  rotate_left
                  · (try dsimp only at hu)
                    go_simp
                    try with_reducible rfl
                  clear hClosed
                  have hClosed := hNext
                  clear hNext
                  try simp only [Act.put, List.getElem_toArray, List.getElem_cons_zero, List.getElem_cons_succ, List.setIfInBounds_toArray, List.set_cons_zero, List.set_cons_succ]
                  refine' wpAnyE_take (i := 3) (v := _) rfl (by kernel_rfl) (by kernel_rfl) (by kernel_rfl) (by kernel_rfl) (fun _ _ _ h => h) (Or.inl ⟨by rfl, fun u hu => ?_⟩) hHeld hClosed (fun hNext => ?_)
                  rotate_left
                  · (try dsimp only at hu)
                    go_simp
                    try with_reducible rfl
                  clear hClosed
                  have hClosed := hNext
                  clear hNext
                  try simp only [Act.put, List.getElem_toArray, List.getElem_cons_zero, List.getElem_cons_succ, List.setIfInBounds_toArray, List.set_cons_zero, List.set_cons_succ]
                  refine' wpAnyE_take (i := 4) (v := _) rfl (by kernel_rfl) (by kernel_rfl) (by kernel_rfl) (by kernel_rfl) (fun _ _ _ h => h) (Or.inl ⟨by rfl, fun u hu => ?_⟩) hHeld hClosed (fun hNext => ?_)
                  rotate_left
                  · (try dsimp only at hu)
                    go_simp
                    try with_reducible rfl
                  clear hClosed
                  have hClosed := hNext
                  clear hNext
                  try simp only [Act.put, List.getElem_toArray, List.getElem_cons_zero, List.getElem_cons_succ, List.setIfInBounds_toArray, List.set_cons_zero, List.set_cons_succ]
                  refine' wpAnyE_take (i := 5) (v := _) rfl (by kernel_rfl) (by kernel_rfl) (by kernel_rfl) (by kernel_rfl) (fun _ _ _ h => h) (Or.inl ⟨by rfl, fun u hu => ?_⟩) hHeld hClosed (fun hNext => ?_)
                  rotate_left
                  · (try dsimp only at hu)
                    go_simp
                    try with_reducible rfl
                  clear hClosed
                  have hClosed := hNext
                  clear hNext
                  try simp only [Act.put, List.getElem_toArray, List.getElem_cons_zero, List.getElem_cons_succ, List.setIfInBounds_toArray, List.set_cons_zero, List.set_cons_succ]
                  refine' wpAnyE_take (i := 6) (v := _) rfl (by kernel_rfl) (by kernel_rfl) (by kernel_rfl) (by kernel_rfl) (fun _ _ _ h => h) (Or.inl ⟨by rfl, fun u hu => ?_⟩) hHeld hClosed (fun hNext => ?_)
                  rotate_left
                  · (try dsimp only at hu)
                    go_simp
                    try with_reducible rfl
                  clear hClosed
                  have hClosed := hNext
                  clear hNext
                  try simp only [Act.put, List.getElem_toArray, List.getElem_cons_zero, List.getElem_cons_succ, List.setIfInBounds_toArray, List.set_cons_zero, List.set_cons_succ]
                  refine' wpAnyE_take (i := 7) (v := _) rfl (by kernel_rfl) (by kernel_rfl) (by kernel_rfl) (by kernel_rfl) (fun _ _ _ h => h) (Or.inl ⟨by rfl, fun u hu => ?_⟩) hHeld hClosed (fun hNext => ?_)
                  rotate_left
                  · (try dsimp only at hu)
                    go_simp
                    try with_reducible rfl
                  clear hClosed
                  have hClosed := hNext
                  clear hNext
                  try simp only [Act.put, List.getElem_toArray, List.getElem_cons_zero, List.getElem_cons_succ, List.setIfInBounds_toArray, List.set_cons_zero, List.set_cons_succ]
                  refine' wpAnyE_take (i := 8) (v := _) rfl (by kernel_rfl) (by kernel_rfl) (by kernel_rfl) (by kernel_rfl) (fun _ _ _ h => h) (Or.inl ⟨by rfl, fun u hu => ?_⟩) hHeld hClosed (fun hNext => ?_)
                  rotate_left
                  · (try dsimp only at hu)
                    go_simp
                    try with_reducible rfl
                  clear hClosed
                  have hClosed := hNext
                  clear hNext
                  try simp only [Act.put, List.getElem_toArray, List.getElem_cons_zero, List.getElem_cons_succ, List.setIfInBounds_toArray, List.set_cons_zero, List.set_cons_succ]
                  refine' wpAnyE_take (i := 9) (v := _) rfl (by kernel_rfl) (by kernel_rfl) (by kernel_rfl) (by kernel_rfl) (fun _ _ _ h => h) (Or.inl ⟨by rfl, fun u hu => ?_⟩) hHeld hClosed (fun hNext => ?_)
                  rotate_left
                  · (try dsimp only at hu)
                    go_simp
                    try with_reducible rfl
                  clear hClosed
                  have hClosed := hNext
                  clear hNext
                  try simp only [Act.put, List.getElem_toArray, List.getElem_cons_zero, List.getElem_cons_succ, List.setIfInBounds_toArray, List.set_cons_zero, List.set_cons_succ]
                  refine' wpAnyE_take (i := 10) (v := _) rfl (by kernel_rfl) (by kernel_rfl) (by kernel_rfl) (by kernel_rfl) (fun _ _ _ h => h) (Or.inl ⟨by rfl, fun u hu => ?_⟩) hHeld hClosed (fun hNext => ?_)
                  rotate_left
                  · (try dsimp only at hu)
                    go_simp
                    try with_reducible rfl
                  clear hClosed
                  have hClosed := hNext
                  clear hNext
                  try simp only [Act.put, List.getElem_toArray, List.getElem_cons_zero, List.getElem_cons_succ, List.setIfInBounds_toArray, List.set_cons_zero, List.set_cons_succ]
                  refine' wpAnyE_take (i := 11) (v := _) rfl (by kernel_rfl) (by kernel_rfl) (by kernel_rfl) (by kernel_rfl) (fun _ _ _ h => h) (Or.inl ⟨by rfl, fun u hu => ?_⟩) hHeld hClosed (fun hNext => ?_)
                  rotate_left
                  · (try dsimp only at hu)
                    go_simp
                    try with_reducible rfl
                  clear hClosed
                  have hClosed := hNext
                  clear hNext
                  try simp only [Act.put, List.getElem_toArray, List.getElem_cons_zero, List.getElem_cons_succ, List.setIfInBounds_toArray, List.set_cons_zero, List.set_cons_succ]
                  refine' wpAnyE_take (i := 12) (v := _) rfl (by kernel_rfl) (by kernel_rfl) (by kernel_rfl) (by kernel_rfl) (fun _ _ _ h => h) (Or.inl ⟨by rfl, fun u hu => ?_⟩) hHeld hClosed (fun hNext => ?_)
                  rotate_left
                  · (try dsimp only at hu)
                    go_simp
                    try with_reducible rfl
                  clear hClosed
                  have hClosed := hNext
                  clear hNext
                  try simp only [Act.put, List.getElem_toArray, List.getElem_cons_zero, List.getElem_cons_succ, List.setIfInBounds_toArray, List.set_cons_zero, List.set_cons_succ]
                  refine' wpAnyE_take (i := 13) (v := _) rfl (by kernel_rfl) (by kernel_rfl) (by kernel_rfl) (by kernel_rfl) (fun _ _ _ h => h) (Or.inl ⟨by rfl, fun u hu => ?_⟩) hHeld hClosed (fun hNext => ?_)
                  rotate_left
                  · (try dsimp only at hu)
                    go_simp
                    try with_reducible rfl
                  clear hClosed
                  have hClosed := hNext
                  clear hNext
                  try simp only [Act.put, List.getElem_toArray, List.getElem_cons_zero, List.getElem_cons_succ, List.setIfInBounds_toArray, List.set_cons_zero, List.set_cons_succ]
                  refine' wpAnyE_take (i := 14) (v := _) rfl (by kernel_rfl) (by kernel_rfl) (by kernel_rfl) (by kernel_rfl) (fun _ _ _ h => h) (Or.inl ⟨by rfl, fun u hu => ?_⟩) hHeld hClosed (fun hNext => ?_)
                  rotate_left
                  · (try dsimp only at hu)
                    go_simp
                    try with_reducible rfl
                  clear hClosed
                  have hClosed := hNext
                  clear hNext
                  try simp only [Act.put, List.getElem_toArray, List.getElem_cons_zero, List.getElem_cons_succ, List.setIfInBounds_toArray, List.set_cons_zero, List.set_cons_succ]
                  refine' wpAnyE_take (i := 15) (v := _) rfl (by kernel_rfl) (by kernel_rfl) (by kernel_rfl) (by kernel_rfl) (fun _ _ _ h => h) (Or.inl ⟨by rfl, fun u hu => ?_⟩) hHeld hClosed (fun hNext => ?_)
                  rotate_left
                  · (try dsimp only at hu)
                    go_simp
                    try with_reducible rfl
                  clear hClosed
                  have hClosed := hNext
                  clear hNext
                  try simp only [Act.put, List.getElem_toArray, List.getElem_cons_zero, List.getElem_cons_succ, List.setIfInBounds_toArray, List.set_cons_zero, List.set_cons_succ]
                  refine' wpAnyE_take (i := 16) (v := _) rfl (by kernel_rfl) (by kernel_rfl) (by kernel_rfl) (by kernel_rfl) (fun _ _ _ h => h) (Or.inl ⟨by rfl, fun u hu => ?_⟩) hHeld hClosed (fun hNext => ?_)
                  rotate_left
                  · (try dsimp only at hu)
                    go_simp
                    try with_reducible rfl
                  clear hClosed
                  have hClosed := hNext
                  clear hNext
                  try simp only [Act.put, List.getElem_toArray, List.getElem_cons_zero, List.getElem_cons_succ, List.setIfInBounds_toArray, List.set_cons_zero, List.set_cons_succ]
                  refine' wpAnyE_take (i := 17) (v := _) rfl (by kernel_rfl) (by kernel_rfl) (by kernel_rfl) (by kernel_rfl) (fun _ _ _ h => h) (Or.inl ⟨by rfl, fun u hu => ?_⟩) hHeld hClosed (fun hNext => ?_)
                  rotate_left
                  · (try dsimp only at hu)
                    go_simp
                    try with_reducible rfl
                  clear hClosed
                  have hClosed := hNext
                  clear hNext
                  try simp only [Act.put, List.getElem_toArray, List.getElem_cons_zero, List.getElem_cons_succ, List.setIfInBounds_toArray, List.set_cons_zero, List.set_cons_succ]
                  refine' wpAnyE_take (i := 18) (v := _) rfl (by kernel_rfl) (by kernel_rfl) (by kernel_rfl) (by kernel_rfl) (fun _ _ _ h => h) (Or.inl ⟨by rfl, fun u hu => ?_⟩) hHeld hClosed (fun hNext => ?_)
                  rotate_left
                  · (try dsimp only at hu)
                    go_simp
                    try with_reducible rfl
                  clear hClosed
                  have hClosed := hNext
                  clear hNext
                  try simp only [Act.put, List.getElem_toArray, List.getElem_cons_zero, List.getElem_cons_succ, List.setIfInBounds_toArray, List.set_cons_zero, List.set_cons_succ]
                  refine' wpAnyE_take (i := 19) (v := _) rfl (by kernel_rfl) (by kernel_rfl) (by kernel_rfl) (by kernel_rfl) (fun _ _ _ h => h) (Or.inl ⟨by rfl, fun u hu => ?_⟩) hHeld hClosed (fun hNext => ?_)
                  rotate_left
                  · (try dsimp only at hu)
                    go_simp
                    try with_reducible rfl
                  clear hClosed
                  have hClosed := hNext
                  clear hNext
                  try simp only [Act.put, List.getElem_toArray, List.getElem_cons_zero, List.getElem_cons_succ, List.setIfInBounds_toArray, List.set_cons_zero, List.set_cons_succ]
                  refine' wpAnyE_take (i := 20) (v := _) rfl (by kernel_rfl) (by kernel_rfl) (by kernel_rfl) (by kernel_rfl) (fun _ _ _ h => h) (Or.inl ⟨by rfl, fun u hu => ?_⟩) hHeld hClosed (fun hNext => ?_)
                  rotate_left
                  · (try dsimp only at hu)
                    go_simp
                    try with_reducible rfl
                  clear hClosed
                  have hClosed := hNext
                  clear hNext
                  try simp only [Act.put, List.getElem_toArray, List.getElem_cons_zero, List.getElem_cons_succ, List.setIfInBounds_toArray, List.set_cons_zero, List.set_cons_succ]
                  refine' wpAnyE_take (i := 21) (v := _) rfl (by kernel_rfl) (by kernel_rfl) (by kernel_rfl) (by kernel_rfl) (fun _ _ _ h => h) (Or.inl ⟨by rfl, fun u hu => ?_⟩) hHeld hClosed (fun hNext => ?_)
                  rotate_left
                  · (try dsimp only at hu)
                    go_simp
                    try with_reducible rfl
                  clear hClosed
                  have hClosed := hNext
                  clear hNext
                  try simp only [Act.put, List.getElem_toArray, List.getElem_cons_zero, List.getElem_cons_succ, List.setIfInBounds_toArray, List.set_cons_zero, List.set_cons_succ]
                  refine' wpAnyE_take (i := 22) (v := _) rfl (by kernel_rfl) (by kernel_rfl) (by kernel_rfl) (by kernel_rfl) (fun _ _ _ h => h) (Or.inl ⟨by rfl, fun u hu => ?_⟩) hHeld hClosed (fun hNext => ?_)
                  rotate_left
                  · (try dsimp only at hu)
                    go_simp
                    try with_reducible rfl
                  clear hClosed
                  have hClosed := hNext
                  clear hNext
                  try simp only [Act.put, List.getElem_toArray, List.getElem_cons_zero, List.getElem_cons_succ, List.setIfInBounds_toArray, List.set_cons_zero, List.set_cons_succ]
                  refine' wpAnyE_take (i := 23) (v := _) rfl (by kernel_rfl) (by kernel_rfl) (by kernel_rfl) (by kernel_rfl) (fun _ _ _ h => h) (Or.inl ⟨by rfl, fun u hu => ?_⟩) hHeld hClosed (fun hNext => ?_)
                  rotate_left
                  · (try dsimp only at hu)
                    go_simp
                    try with_reducible rfl
                  clear hClosed
                  have hClosed := hNext
                  clear hNext
                  try simp only [Act.put, List.getElem_toArray, List.getElem_cons_zero, List.getElem_cons_succ, List.setIfInBounds_toArray, List.set_cons_zero, List.set_cons_succ]
                  refine' wpAnyE_take (i := 24) (v := _) rfl (by kernel_rfl) (by kernel_rfl) (by kernel_rfl) (by kernel_rfl) (fun _ _ _ h => h) (Or.inl ⟨by rfl, fun u hu => ?_⟩) hHeld hClosed (fun hNext => ?_)
                  rotate_left
                  · (try dsimp only at hu)
                    go_simp
                    try with_reducible rfl
                  clear hClosed
                  have hClosed := hNext
                  clear hNext
                  try simp only [Act.put, List.getElem_toArray, List.getElem_cons_zero, List.getElem_cons_succ, List.setIfInBounds_toArray, List.set_cons_zero, List.set_cons_succ]
                  refine' wpAnyE_take (i := 25) (v := _) rfl (by kernel_rfl) (by kernel_rfl) (by kernel_rfl) (by kernel_rfl) (fun _ _ _ h => h) (Or.inl ⟨by rfl, fun u hu => ?_⟩) hHeld hClosed (fun hNext => ?_)
                  rotate_left
                  · (try dsimp only at hu)
                    go_simp
                    try with_reducible rfl
                  clear hClosed
                  have hClosed := hNext
                  clear hNext
                  try simp only [Act.put, List.getElem_toArray, List.getElem_cons_zero, List.getElem_cons_succ, List.setIfInBounds_toArray, List.set_cons_zero, List.set_cons_succ]
                  refine' wpAnyE_take (i := 26) (v := _) rfl (by kernel_rfl) (by kernel_rfl) (by kernel_rfl) (by kernel_rfl) (fun _ _ _ h => h) (Or.inl ⟨by rfl, fun u hu => ?_⟩) hHeld hClosed (fun hNext => ?_)
                  rotate_left
                  · (try dsimp only at hu)
                    go_simp
                    try with_reducible rfl
                  clear hClosed
                  have hClosed := hNext
                  clear hNext
                  try simp only [Act.put, List.getElem_toArray, List.getElem_cons_zero, List.getElem_cons_succ, List.setIfInBounds_toArray, List.set_cons_zero, List.set_cons_succ]
                  refine' wpAnyE_take (i := 27) (v := _) rfl (by kernel_rfl) (by kernel_rfl) (by kernel_rfl) (by kernel_rfl) (fun _ _ _ h => h) (Or.inl ⟨by rfl, fun u hu => ?_⟩) hHeld hClosed (fun hNext => ?_)
                  rotate_left
                  · (try dsimp only at hu)
                    go_simp
                    try with_reducible rfl
                  clear hClosed
                  have hClosed := hNext
                  clear hNext
                  try simp only [Act.put, List.getElem_toArray, List.getElem_cons_zero, List.getElem_cons_succ, List.setIfInBounds_toArray, List.set_cons_zero, List.set_cons_succ]
                  refine' wpAnyE_take (i := 28) (v := _) rfl (by kernel_rfl) (by kernel_rfl) (by kernel_rfl) (by kernel_rfl) (fun _ _ _ h => h) (Or.inl ⟨by rfl, fun u hu => ?_⟩) hHeld hClosed (fun hNext => ?_)
                  rotate_left
                  · (try dsimp only at hu)
                    go_simp
                    try with_reducible rfl
                  clear hClosed
                  have hClosed := hNext
                  clear hNext
                  try simp only [Act.put, List.getElem_toArray, List.getElem_cons_zero, List.getElem_cons_succ, List.setIfInBounds_toArray, List.set_cons_zero, List.set_cons_succ]
                  refine' wpAnyE_take (i := 29) (v := _) rfl (by kernel_rfl) (by kernel_rfl) (by kernel_rfl) (by kernel_rfl) (fun _ _ _ h => h) (Or.inr ⟨by rfl, rfl⟩) hHeld hClosed (fun hNext => ?_)
                  clear hClosed
                  have hClosed := hNext
                  clear hNext
                  try simp only [Act.put, List.getElem_toArray, List.getElem_cons_zero, List.getElem_cons_succ, List.setIfInBounds_toArray, List.set_cons_zero, List.set_cons_succ]
                  refine' wpAnyE_take (i := 30) (v := _) rfl (by kernel_rfl) (by kernel_rfl) (by kernel_rfl) (by kernel_rfl) (fun _ _ _ h => h) (Or.inr ⟨by rfl, rfl⟩) hHeld hClosed (fun hNext => ?_)
                  clear hClosed
                  have hClosed := hNext
                  clear hNext
                  try simp only [Act.put, List.getElem_toArray, List.getElem_cons_zero, List.getElem_cons_succ, List.setIfInBounds_toArray, List.set_cons_zero, List.set_cons_succ]
                  refine' wpAnyE_take (i := 31) (v := _) rfl (by kernel_rfl) (by kernel_rfl) (by kernel_rfl) (by kernel_rfl) (fun _ _ _ h => h) (Or.inr ⟨by rfl, rfl⟩) hHeld hClosed (fun hNext => ?_)
                  clear hClosed
                  have hClosed := hNext
                  clear hNext
                  try simp only [Act.put, List.getElem_toArray, List.getElem_cons_zero, List.getElem_cons_succ, List.setIfInBounds_toArray, List.set_cons_zero, List.set_cons_succ]
                  refine' wpAnyE_take (i := 32) (v := _) rfl (by kernel_rfl) (by kernel_rfl) (by kernel_rfl) (by kernel_rfl) (fun _ _ _ h => h) (Or.inr ⟨by rfl, rfl⟩) hHeld hClosed (fun hNext => ?_)
                  clear hClosed
                  have hClosed := hNext
                  clear hNext
                  try simp only [Act.put, List.getElem_toArray, List.getElem_cons_zero, List.getElem_cons_succ, List.setIfInBounds_toArray, List.set_cons_zero, List.set_cons_succ]
                  refine' wpAnyE_take (i := 33) (v := _) rfl (by kernel_rfl) (by kernel_rfl) (by kernel_rfl) (by kernel_rfl) (fun _ _ _ h => h) (Or.inr ⟨by rfl, rfl⟩) hHeld hClosed (fun hNext => ?_)
                  clear hClosed
                  have hClosed := hNext
                  clear hNext
                  try simp only [Act.put, List.getElem_toArray, List.getElem_cons_zero, List.getElem_cons_succ, List.setIfInBounds_toArray, List.set_cons_zero, List.set_cons_succ]
                  refine' wpAnyE_take (i := 34) (v := _) rfl (by kernel_rfl) (by kernel_rfl) (by kernel_rfl) (by kernel_rfl) (fun _ _ _ h => h) (Or.inl ⟨by rfl, fun u hu => ?_⟩) hHeld hClosed (fun hNext => ?_)
                  rotate_left
                  · (try dsimp only at hu)
                    go_simp
                    try with_reducible rfl
                  clear hClosed
                  have hClosed := hNext
                  clear hNext
                  try simp only [Act.put, List.getElem_toArray, List.getElem_cons_zero, List.getElem_cons_succ, List.setIfInBounds_toArray, List.set_cons_zero, List.set_cons_succ]
                  refine' wpAnyE_take (i := 35) (v := _) rfl (by kernel_rfl) (by kernel_rfl) (by kernel_rfl) (by kernel_rfl) (fun _ _ _ h => h) (Or.inl ⟨by rfl, fun u hu => ?_⟩) hHeld hClosed (fun hNext => ?_)
                  rotate_left
                  · (try dsimp only at hu)
                    go_simp
                    try with_reducible rfl
                  clear hClosed
                  have hClosed := hNext
                  clear hNext
                  try simp only [Act.put, List.getElem_toArray, List.getElem_cons_zero, List.getElem_cons_succ, List.setIfInBounds_toArray, List.set_cons_zero, List.set_cons_succ]
                  refine' wpAnyE_take (i := 36) (v := _) rfl (by kernel_rfl) (by kernel_rfl) (by kernel_rfl) (by kernel_rfl) (fun _ _ _ h => h) (Or.inr ⟨by rfl, rfl⟩) hHeld hClosed (fun hNext => ?_)
                  clear hClosed
                  have hClosed := hNext
                  clear hNext
                  try simp only [Act.put, List.getElem_toArray, List.getElem_cons_zero, List.getElem_cons_succ, List.setIfInBounds_toArray, List.set_cons_zero, List.set_cons_succ]
                  refine' wpAnyE_take (i := 37) (v := _) rfl (by kernel_rfl) (by kernel_rfl) (by kernel_rfl) (by kernel_rfl) (fun _ _ _ h => h) (Or.inr ⟨by rfl, rfl⟩) hHeld hClosed (fun hNext => ?_)
                  clear hClosed
                  have hClosed := hNext
                  clear hNext
                  try simp only [Act.put, List.getElem_toArray, List.getElem_cons_zero, List.getElem_cons_succ, List.setIfInBounds_toArray, List.set_cons_zero, List.set_cons_succ]
                  refine' wpAnyE_take (i := 38) (v := _) rfl (by kernel_rfl) (by kernel_rfl) (by kernel_rfl) (by kernel_rfl) (fun _ _ _ h => h) (Or.inr ⟨by rfl, rfl⟩) hHeld hClosed (fun hNext => ?_)
                  clear hClosed
                  have hClosed := hNext
                  clear hNext
                  try simp only [Act.put, List.getElem_toArray, List.getElem_cons_zero, List.getElem_cons_succ, List.setIfInBounds_toArray, List.set_cons_zero, List.set_cons_succ]
                  refine' wpAnyE_take (i := 39) (v := _) rfl (by kernel_rfl) (by kernel_rfl) (by kernel_rfl) (by kernel_rfl) (fun _ _ _ h => h) (Or.inr ⟨by rfl, rfl⟩) hHeld hClosed (fun hNext => ?_)
                  clear hClosed
                  have hClosed := hNext
                  clear hNext
                  try simp only [Act.put, List.getElem_toArray, List.getElem_cons_zero, List.getElem_cons_succ, List.setIfInBounds_toArray, List.set_cons_zero, List.set_cons_succ]
                  refine' wpAnyE_take (i := 40) (v := _) rfl (by kernel_rfl) (by kernel_rfl) (by kernel_rfl) (by kernel_rfl) (fun _ _ _ h => h) (Or.inr ⟨by rfl, rfl⟩) hHeld hClosed (fun hNext => ?_)
                  clear hClosed
                  have hClosed := hNext
                  clear hNext
                  try simp only [Act.put, List.getElem_toArray, List.getElem_cons_zero, List.getElem_cons_succ, List.setIfInBounds_toArray, List.set_cons_zero, List.set_cons_succ]
                  refine' wpAnyE_take (i := 41) (v := _) rfl (by kernel_rfl) (by kernel_rfl) (by kernel_rfl) (by kernel_rfl) (fun _ _ _ h => h) (Or.inl ⟨by rfl, fun u hu => ?_⟩) hHeld hClosed (fun hNext => ?_)
                  rotate_left
                  · (try dsimp only at hu)
                    go_simp
                    try with_reducible rfl
                  clear hClosed
                  have hClosed := hNext
                  clear hNext
                  try simp only [Act.put, List.getElem_toArray, List.getElem_cons_zero, List.getElem_cons_succ, List.setIfInBounds_toArray, List.set_cons_zero, List.set_cons_succ]
                  refine' wpAnyE_take (i := 42) (v := _) rfl (by kernel_rfl) (by kernel_rfl) (by kernel_rfl) (by kernel_rfl) (fun _ _ _ h => h) (Or.inl ⟨by rfl, fun u hu => ?_⟩) hHeld hClosed (fun hNext => ?_)
                  rotate_left
                  · (try dsimp only at hu)
                    go_simp
                    try with_reducible rfl
                  clear hClosed
                  have hClosed := hNext
                  clear hNext
                  try simp only [Act.put, List.getElem_toArray, List.getElem_cons_zero, List.getElem_cons_succ, List.setIfInBounds_toArray, List.set_cons_zero, List.set_cons_succ]
                  refine wpAnyE_done (by kernel_rfl) ?_ _
                  clear hClosed
                  clear hHeld hk0
                  go_wp2_with fail
                  go_roundw
                  case rel => exact ⟨i + 1, by omega, by go_num, BD.out⟩
                  case measure => simp [intOf]; omega
                · have TT := trivial
                  clear hst
                  go_wp2_with fail
                  refine wp_region_E (S := fun w' => w'.cell? ⟨w3.heap.size, i, none⟩ = some (.bool true) ∧ w'.cell? (pl.add i) = some (.int .i64 x) ∧ w'.cell? ⟨q, 1, none⟩ = some (.slice (some pc) classes.length c') ∧ w'.cell? (pc.add i) = some (.int .i64 y)) [] (by kernel_rfl) (hk0) (fun hHeld hClosed => ?_)
                  refine' wpAnyE_take (i := 0) (v := _) rfl (by kernel_rfl) (by kernel_rfl) (by kernel_rfl) (by kernel_rfl) (fun _ _ _ h => h) (Or.inl ⟨by rfl, fun u hu => ?_⟩) hHeld hClosed (fun hNext => ?_)
                  rotate_left
                  · (try dsimp only at hu)
                    go_simp
                    try with_reducible rfl
                  clear hClosed
                  have hClosed := hNext
                  clear hNext
                  try simp only [Act.put, List.getElem_toArray, List.getElem_cons_zero, List.setIfInBounds_toArray, List.set_cons_zero, List.set_cons_succ]
                  refine' wpAnyE_take (i := 1) (v := _) rfl (by kernel_rfl) (by kernel_rfl) (by kernel_rfl) (by kernel_rfl) (fun _ _ _ h => h) (Or.inl ⟨by rfl, fun u hu => ?_⟩) hHeld hClosed (fun hNext => ?_)
                  rotate_left
                  · (try dsimp only at hu)
                    go_simp
                    try with_reducible rfl
                  clear hClosed
                  have hClosed := hNext
                  clear hNext
                  try simp only [Act.put, List.getElem_toArray, List.getElem_cons_zero, List.getElem_cons_succ, List.setIfInBounds_toArray, List.set_cons_zero, List.set_cons_succ]
                  refine' wpAnyE_take (i := 2) (v := _) rfl (by kernel_rfl) (by kernel_rfl) (by kernel_rfl) (by kernel_rfl) (fun _ _ _ h => h) (Or.inl ⟨by rfl, fun u hu => ?_⟩) hHeld hClosed (fun hNext => ?_)
                  rotate_left
                  · (try dsimp only at hu)
                    go_simp
                    try with_reducible rfl
                  clear hClosed
                  have hClosed := hNext
                  clear hNext
                  try simp only [Act.put, List.getElem_toArray, List.getElem_cons_zero, List.getElem_cons_succ, List.setIfInBounds_toArray, List.set_cons_zero, List.set_cons_succ]
                  refine' wpAnyE_take (i := 3) (v := _) rfl (by kernel_rfl) (by kernel_rfl) (by kernel_rfl) (by kernel_rfl) (fun _ _ _ h => h) (Or.inl ⟨by rfl, fun u hu => ?_⟩) hHeld hClosed (fun hNext => ?_)
                  rotate_left
                  · (try dsimp only at hu)
                    go_simp
                    try with_reducible rfl
                  clear hClosed
                  have hClosed := hNext
                  clear hNext
                  try simp only [Act.put, List.getElem_toArray, List.getElem_cons_zero, List.getElem_cons_succ, List.setIfInBounds_toArray, List.set_cons_zero, List.set_cons_succ]
                  refine' wpAnyE_take (i := 4) (v := _) rfl (by kernel_rfl) (by kernel_rfl) (by kernel_rfl) (by kernel_rfl) (fun _ _ _ h => h) (Or.inl ⟨by rfl, fun u hu => ?_⟩) hHeld hClosed (fun hNext => ?_)
                  rotate_left
                  · (try dsimp only at hu)
                    go_simp
                    try with_reducible rfl
                  clear hClosed
                  have hClosed := hNext
                  clear hNext
                  try simp only [Act.put, List.getElem_toArray, List.getElem_cons_zero, List.getElem_cons_succ, List.setIfInBounds_toArray, List.set_cons_zero, List.set_cons_succ]
                  refine' wpAnyE_take (i := 5) (v := _) rfl (by kernel_rfl) (by kernel_rfl) (by kernel_rfl) (by kernel_rfl) (fun _ _ _ h => h) (Or.inl ⟨by rfl, fun u hu => ?_⟩) hHeld hClosed (fun hNext => ?_)
                  rotate_left
                  · (try dsimp only at hu)
                    go_simp
                    try with_reducible rfl
                  clear hClosed
                  have hClosed := hNext
                  clear hNext
                  try simp only [Act.put, List.getElem_toArray, List.getElem_cons_zero, List.getElem_cons_succ, List.setIfInBounds_toArray, List.set_cons_zero, List.set_cons_succ]
                  refine' wpAnyE_take (i := 6) (v := _) rfl (by kernel_rfl) (by kernel_rfl) (by kernel_rfl) (by kernel_rfl) (fun _ _ _ h => h) (Or.inr ⟨by rfl, rfl⟩) hHeld hClosed (fun hNext => ?_)
                  clear hClosed
                  have hClosed := hNext
                  clear hNext
                  try simp only [Act.put, List.getElem_toArray, List.getElem_cons_zero, List.getElem_cons_succ, List.setIfInBounds_toArray, List.set_cons_zero, List.set_cons_succ]
                  refine' wpAnyE_take (i := 7) (v := _) rfl (by kernel_rfl) (by kernel_rfl) (by kernel_rfl) (by kernel_rfl) (fun _ _ _ h => h) (Or.inr ⟨by rfl, rfl⟩) hHeld hClosed (fun hNext => ?_)
                  clear hClosed
                  have hClosed := hNext
                  clear hNext
                  try simp only [Act.put, List.getElem_toArray, List.getElem_cons_zero, List.getElem_cons_succ, List.setIfInBounds_toArray, List.set_cons_zero, List.set_cons_succ]
                  refine' wpAnyE_take (i := 8) (v := _) rfl (by kernel_rfl) (by kernel_rfl) (by kernel_rfl) (by kernel_rfl) (fun _ _ _ h => h) (Or.inr ⟨by rfl, rfl⟩) hHeld hClosed (fun hNext => ?_)
                  clear hClosed
                  have hClosed := hNext
                  clear hNext
                  try simp only [Act.put, List.getElem_toArray, List.getElem_cons_zero, List.getElem_cons_succ, List.setIfInBounds_toArray, List.set_cons_zero, List.set_cons_succ]
                  refine' wpAnyE_take (i := 9) (v := _) rfl (by kernel_rfl) (by kernel_rfl) (by kernel_rfl) (by kernel_rfl) (fun _ _ _ h => h) (Or.inr ⟨by rfl, rfl⟩) hHeld hClosed (fun hNext => ?_)
                  clear hClosed
                  have hClosed := hNext
                  clear hNext
                  try simp only [Act.put, List.getElem_toArray, List.getElem_cons_zero, List.getElem_cons_succ, List.setIfInBounds_toArray, List.set_cons_zero, List.set_cons_succ]
                  refine' wpAnyE_take (i := 10) (v := _) rfl (by kernel_rfl) (by kernel_rfl) (by kernel_rfl) (by kernel_rfl) (fun _ _ _ h => h) (Or.inr ⟨by rfl, rfl⟩) hHeld hClosed (fun hNext => ?_)
                  clear hClosed
                  have hClosed := hNext
                  clear hNext
                  try simp only [Act.put, List.getElem_toArray, List.getElem_cons_zero, List.getElem_cons_succ, List.setIfInBounds_toArray, List.set_cons_zero, List.set_cons_succ]
                  refine' wpAnyE_take (i := 11) (v := _) rfl (by kernel_rfl) (by kernel_rfl) (by kernel_rfl) (by kernel_rfl) (fun _ _ _ h => h) (Or.inr ⟨by rfl, rfl⟩) hHeld hClosed (fun hNext => ?_)
                  clear hClosed
                  have hClosed := hNext
                  clear hNext
                  try simp only [Act.put, List.getElem_toArray, List.getElem_cons_zero, List.getElem_cons_succ, List.setIfInBounds_toArray, List.set_cons_zero, List.set_cons_succ]
                  refine' wpAnyE_take (i := 12) (v := _) rfl (by kernel_rfl) (by kernel_rfl) (by kernel_rfl) (by kernel_rfl) (fun _ _ _ h => h) (Or.inr ⟨by rfl, rfl⟩) hHeld hClosed (fun hNext => ?_)
                  clear hClosed
                  have hClosed := hNext
                  clear hNext
                  try simp only [Act.put, List.getElem_toArray, List.getElem_cons_zero, List.getElem_cons_succ, List.setIfInBounds_toArray, List.set_cons_zero, List.set_cons_succ]
                  refine' wpAnyE_take (i := 13) (v := _) rfl (by kernel_rfl) (by kernel_rfl) (by kernel_rfl) (by kernel_rfl) (fun _ _ _ h => h) (Or.inr ⟨by rfl, rfl⟩) hHeld hClosed (fun hNext => ?_)
                  clear hClosed
                  have hClosed := hNext
                  clear hNext
                  try simp only [Act.put, List.getElem_toArray, List.getElem_cons_zero, List.getElem_cons_succ, List.setIfInBounds_toArray, List.set_cons_zero, List.set_cons_succ]
                  refine' wpAnyE_take (i := 14) (v := _) rfl (by kernel_rfl) (by kernel_rfl) (by kernel_rfl) (by kernel_rfl) (fun _ _ _ h => h) (Or.inr ⟨by rfl, rfl⟩) hHeld hClosed (fun hNext => ?_)
                  clear hClosed
                  have hClosed := hNext
                  clear hNext
                  try simp only [Act.put, List.getElem_toArray, List.getElem_cons_zero, List.getElem_cons_succ, List.setIfInBounds_toArray, List.set_cons_zero, List.set_cons_succ]
                  refine' wpAnyE_take (i := 15) (v := _) rfl (by kernel_rfl) (by kernel_rfl) (by kernel_rfl) (by kernel_rfl) (fun _ _ _ h => h) (Or.inr ⟨by rfl, rfl⟩) hHeld hClosed (fun hNext => ?_)
                  clear hClosed
                  have hClosed := hNext
                  clear hNext
                  try simp only [Act.put, List.getElem_toArray, List.getElem_cons_zero, List.getElem_cons_succ, List.setIfInBounds_toArray, List.set_cons_zero, List.set_cons_succ]
                  refine' wpAnyE_take (i := 16) (v := _) rfl (by kernel_rfl) (by kernel_rfl) (by kernel_rfl) (by kernel_rfl) (fun _ _ _ h => h) (Or.inl ⟨by rfl, fun u hu => ?_⟩) hHeld hClosed (fun hNext => ?_)
                  rotate_left
                  · (try dsimp only at hu)
                    go_simp
                    try with_reducible rfl
                  clear hClosed
                  have hClosed := hNext
                  clear hNext
                  try simp only [Act.put, List.getElem_toArray, List.getElem_cons_zero, List.getElem_cons_succ, List.setIfInBounds_toArray, List.set_cons_zero, List.set_cons_succ]
                  refine' wpAnyE_take (i := 17) (v := _) rfl (by kernel_rfl) (by kernel_rfl) (by kernel_rfl) (by kernel_rfl) (fun _ _ _ h => h) (Or.inl ⟨by rfl, fun u hu => ?_⟩) hHeld hClosed (fun hNext => ?_)
                  rotate_left
                  · (try dsimp only at hu)
                    go_simp
                    try with_reducible rfl
                  clear hClosed
                  have hClosed := hNext
                  clear hNext
                  try simp only [Act.put, List.getElem_toArray, List.getElem_cons_zero, List.getElem_cons_succ, List.setIfInBounds_toArray, List.set_cons_zero, List.set_cons_succ]
                  refine' wpAnyE_take (i := 18) (v := _) rfl (by kernel_rfl) (by kernel_rfl) (by kernel_rfl) (by kernel_rfl) (fun _ _ _ h => h) (Or.inl ⟨by rfl, fun u hu => ?_⟩) hHeld hClosed (fun hNext => ?_)
                  rotate_left
                  · (try dsimp only at hu)
                    go_simp
                    try with_reducible rfl
                  clear hClosed
                  have hClosed := hNext
                  clear hNext
                  try simp only [Act.put, List.getElem_toArray, List.getElem_cons_zero, List.getElem_cons_succ, List.setIfInBounds_toArray, List.set_cons_zero, List.set_cons_succ]
                  refine' wpAnyE_take (i := 19) (v := _) rfl (by kernel_rfl) (by kernel_rfl) (by kernel_rfl) (by kernel_rfl) (fun _ _ _ h => h) (Or.inl ⟨by rfl, fun u hu => ?_⟩) hHeld hClosed (fun hNext => ?_)
                  rotate_left
                  · (try dsimp only at hu)
                    go_simp
                    try with_reducible rfl
                  clear hClosed
                  have hClosed := hNext
                  clear hNext
                  try simp only [Act.put, List.getElem_toArray, List.getElem_cons_zero, List.getElem_cons_succ, List.setIfInBounds_toArray, List.set_cons_zero, List.set_cons_succ]
                  refine' wpAnyE_take (i := 20) (v := _) rfl (by kernel_rfl) (by kernel_rfl) (by kernel_rfl) (by kernel_rfl) (fun _ _ _ h => h) (Or.inl ⟨by rfl, fun u hu => ?_⟩) hHeld hClosed (fun hNext => ?_)
                  rotate_left
                  · (try dsimp only at hu)
                    go_simp
                    try with_reducible rfl
                  clear hClosed
                  have hClosed := hNext
                  clear hNext
                  try simp only [Act.put, List.getElem_toArray, List.getElem_cons_zero, List.getElem_cons_succ, List.setIfInBounds_toArray, List.set_cons_zero, List.set_cons_succ]
                  refine' wpAnyE_take (i := 21) (v := _) rfl (by kernel_rfl) (by kernel_rfl) (by kernel_rfl) (by kernel_rfl) (fun _ _ _ h => h) (Or.inl ⟨by rfl, fun u hu => ?_⟩) hHeld hClosed (fun hNext => ?_)
                  rotate_left
                  · (try dsimp only at hu)
                    go_simp
                    try with_reducible rfl
                  clear hClosed
                  have hClosed := hNext
                  clear hNext
                  try simp only [Act.put, List.getElem_toArray, List.getElem_cons_zero, List.getElem_cons_succ, List.setIfInBounds_toArray, List.set_cons_zero, List.set_cons_succ]
                  refine' wpAnyE_take (i := 22) (v := _) rfl (by kernel_rfl) (by kernel_rfl) (by kernel_rfl) (by kernel_rfl) (fun _ _ _ h => h) (Or.inl ⟨by rfl, fun u hu => ?_⟩) hHeld hClosed (fun hNext => ?_)
                  rotate_left
                  · (try dsimp only at hu)
                    go_simp
                    try with_reducible rfl
                  clear hClosed
                  have hClosed := hNext
                  clear hNext
                  try simp only [Act.put, List.getElem_toArray, List.getElem_cons_zero, List.getElem_cons_succ, List.setIfInBounds_toArray, List.set_cons_zero, List.set_cons_succ]
                  refine' wpAnyE_take (i := 23) (v := _) rfl (by kernel_rfl) (by kernel_rfl) (by kernel_rfl) (by kernel_rfl) (fun _ _ _ h => h) (Or.inl ⟨by rfl, fun u hu => ?_⟩) hHeld hClosed (fun hNext => ?_)
                  rotate_left
                  · (try dsimp only at hu)
                    go_simp
                    try with_reducible rfl
                  clear hClosed
                  have hClosed := hNext
                  clear hNext
                  try simp only [Act.put, List.getElem_toArray, List.getElem_cons_zero, List.getElem_cons_succ, List.setIfInBounds_toArray, List.set_cons_zero, List.set_cons_succ]
                  refine' wpAnyE_take (i := 24) (v := _) rfl (by kernel_rfl) (by kernel_rfl) (by kernel_rfl) (by kernel_rfl) (fun _ _ _ h => h) (Or.inl ⟨by rfl, fun u hu => ?_⟩) hHeld hClosed (fun hNext => ?_)
                  rotate_left
                  · (try dsimp only at hu)
                    go_simp
                    try with_reducible rfl
                  clear hClosed
                  have hClosed := hNext
                  clear hNext
                  try simp only [Act.put, List.getElem_toArray, List.getElem_cons_zero, List.getElem_cons_succ, List.setIfInBounds_toArray, List.set_cons_zero, List.set_cons_succ]
                  refine' wpAnyE_take (i := 25) (v := _) rfl (by kernel_rfl) (by kernel_rfl) (by kernel_rfl) (by kernel_rfl) (fun _ _ _ h => h) (Or.inl ⟨by rfl, fun u hu => ?_⟩) hHeld hClosed (fun hNext => ?_)
                  rotate_left
                  · (try dsimp only at hu)
                    go_simp
                    try with_reducible rfl
                  clear hClosed
                  have hClosed := hNext
                  clear hNext
                  try simp only [Act.put, List.getElem_toArray, List.getElem_cons_zero, List.getElem_cons_succ, List.setIfInBounds_toArray, List.set_cons_zero, List.set_cons_succ]
                  refine' wpAnyE_take (i := 26) (v := _) rfl (by kernel_rfl) (by kernel_rfl) (by kernel_rfl) (by kernel_rfl) (fun _ _ _ h => h) (Or.inl ⟨by rfl, fun u hu => ?_⟩) hHeld hClosed (fun hNext => ?_)
                  rotate_left
                  · (try dsimp only at hu)
                    go_simp
                    try with_reducible rfl
                  clear hClosed
                  have hClosed := hNext
                  clear hNext
                  try simp only [Act.put, List.getElem_toArray, List.getElem_cons_zero, List.getElem_cons_succ, List.setIfInBounds_toArray, List.set_cons_zero, List.set_cons_succ]
                  refine' wpAnyE_take (i := 27) (v := _) rfl (by kernel_rfl) (by kernel_rfl) (by kernel_rfl) (by kernel_rfl) (fun _ _ _ h => h) (Or.inl ⟨by rfl, fun u hu => ?_⟩) hHeld hClosed (fun hNext => ?_)
                  rotate_left
                  · (try dsimp only at hu)
                    go_simp
                    try with_reducible rfl
                  clear hClosed
                  have hClosed := hNext
                  clear hNext
                  try simp only [Act.put, List.getElem_toArray, List.getElem_cons_zero, List.getElem_cons_succ, List.setIfInBounds_toArray, List.set_cons_zero, List.set_cons_succ]
                  refine' wpAnyE_take (i := 28) (v := _) rfl (by kernel_rfl) (by kernel_rfl) (by kernel_rfl) (by kernel_rfl) (fun _ _ _ h => h) (Or.inl ⟨by rfl, fun u hu => ?_⟩) hHeld hClosed (fun hNext => ?_)
                  rotate_left
                  · (try dsimp only at hu)
                    go_simp
                    try with_reducible rfl
                  clear hClosed
                  have hClosed := hNext
                  clear hNext
                  try simp only [Act.put, List.getElem_toArray, List.getElem_cons_zero, List.getElem_cons_succ, List.setIfInBounds_toArray, List.set_cons_zero, List.set_cons_succ]
                  refine' wpAnyE_take (i := 29) (v := _) rfl (by kernel_rfl) (by kernel_rfl) (by kernel_rfl) (by kernel_rfl) (fun _ _ _ h => h) (Or.inr ⟨by rfl, rfl⟩) hHeld hClosed (fun hNext => ?_)
                  clear hClosed
                  have hClosed := hNext
                  clear hNext
                  try simp only [Act.put, List.getElem_toArray, List.getElem_cons_zero, List.getElem_cons_succ, List.setIfInBounds_toArray, List.set_cons_zero, List.set_cons_succ]
                  refine' wpAnyE_take (i := 30) (v := _) rfl (by kernel_rfl) (by kernel_rfl) (by kernel_rfl) (by kernel_rfl) (fun _ _ _ h => h) (Or.inr ⟨by rfl, rfl⟩) hHeld hClosed (fun hNext => ?_)
                  clear hClosed
                  have hClosed := hNext
                  clear hNext
                  try simp only [Act.put, List.getElem_toArray, List.getElem_cons_zero, List.getElem_cons_succ, List.setIfInBounds_toArray, List.set_cons_zero, List.set_cons_succ]
                  refine' wpAnyE_take (i := 31) (v := _) rfl (by kernel_rfl) (by kernel_rfl) (by kernel_rfl) (by kernel_rfl) (fun _ _ _ h => h) (Or.inr ⟨by rfl, rfl⟩) hHeld hClosed (fun hNext => ?_)
                  clear hClosed
                  have hClosed := hNext
                  clear hNext
                  try simp only [Act.put, List.getElem_toArray, List.getElem_cons_zero, List.getElem_cons_succ, List.setIfInBounds_toArray, List.set_cons_zero, List.set_cons_succ]
                  refine' wpAnyE_take (i := 32) (v := _) rfl (by kernel_rfl) (by kernel_rfl) (by kernel_rfl) (by kernel_rfl) (fun _ _ _ h => h) (Or.inr ⟨by rfl, rfl⟩) hHeld hClosed (fun hNext => ?_)
                  clear hClosed
                  have hClosed := hNext
                  clear hNext
                  try simp only [Act.put, List.getElem_toArray, List.getElem_cons_zero, List.getElem_cons_succ, List.setIfInBounds_toArray, List.set_cons_zero, List.set_cons_succ]
                  refine' wpAnyE_take (i := 33) (v := _) rfl (by kernel_rfl) (by kernel_rfl) (by kernel_rfl) (by kernel_rfl) (fun _ _ _ h => h) (Or.inr ⟨by rfl, rfl⟩) hHeld hClosed (fun hNext => ?_)
                  clear hClosed
                  have hClosed := hNext
                  clear hNext
                  try simp only [Act.put, List.getElem_toArray, List.getElem_cons_zero, List.getElem_cons_succ, List.setIfInBounds_toArray, List.set_cons_zero, List.set_cons_succ]
                  refine' wpAnyE_take (i := 34) (v := _) rfl (by kernel_rfl) (by kernel_rfl) (by kernel_rfl) (by kernel_rfl) (fun _ _ _ h => h) (Or.inl ⟨by rfl, fun u hu => ?_⟩) hHeld hClosed (fun hNext => ?_)
                  rotate_left
                  · (try dsimp only at hu)
                    go_simp
                    try with_reducible rfl
                  clear hClosed
                  have hClosed := hNext
                  clear hNext
                  try simp only [Act.put, List.getElem_toArray, List.getElem_cons_zero, List.getElem_cons_succ, List.setIfInBounds_toArray, List.set_cons_zero, List.set_cons_succ]
                  refine' wpAnyE_take (i := 35) (v := _) rfl (by kernel_rfl) (by kernel_rfl) (by kernel_rfl) (by kernel_rfl) (fun _ _ _ h => h) (Or.inl ⟨by rfl, fun u hu => ?_⟩) hHeld hClosed (fun hNext => ?_)
                  rotate_left
                  · (try dsimp only at hu)
                    go_simp
                    try with_reducible rfl
                  clear hClosed
                  have hClosed := hNext
                  clear hNext
                  try simp only [Act.put, List.getElem_toArray, List.getElem_cons_zero, List.getElem_cons_succ, List.setIfInBounds_toArray, List.set_cons_zero, List.set_cons_succ]
                  refine' wpAnyE_take (i := 36) (v := _) rfl (by kernel_rfl) (by kernel_rfl) (by kernel_rfl) (by kernel_rfl) (fun _ _ _ h => h) (Or.inr ⟨by rfl, rfl⟩) hHeld hClosed (fun hNext => ?_)
                  clear hClosed
                  have hClosed := hNext
                  clear hNext
                  try simp only [Act.put, List.getElem_toArray, List.getElem_cons_zero, List.getElem_cons_succ, List.setIfInBounds_toArray, List.set_cons_zero, List.set_cons_succ]
                  refine' wpAnyE_take (i := 37) (v := _) rfl (by kernel_rfl) (by kernel_rfl) (by kernel_rfl) (by kernel_rfl) (fun _ _ _ h => h) (Or.inr ⟨by rfl, rfl⟩) hHeld hClosed (fun hNext => ?_)
                  clear hClosed
                  have hClosed := hNext
                  clear hNext
                  try simp only [Act.put, List.getElem_toArray, List.getElem_cons_zero, List.getElem_cons_succ, List.setIfInBounds_toArray, List.set_cons_zero, List.set_cons_succ]
                  refine' wpAnyE_take (i := 38) (v := _) rfl (by kernel_rfl) (by kernel_rfl) (by kernel_rfl) (by kernel_rfl) (fun _ _ _ h => h) (Or.inr ⟨by rfl, rfl⟩) hHeld hClosed (fun hNext => ?_)
                  clear hClosed
                  have hClosed := hNext
                  clear hNext
                  try simp only [Act.put, List.getElem_toArray, List.getElem_cons_zero, List.getElem_cons_succ, List.setIfInBounds_toArray, List.set_cons_zero, List.set_cons_succ]
                  refine' wpAnyE_take (i := 39) (v := _) rfl (by kernel_rfl) (by kernel_rfl) (by kernel_rfl) (by kernel_rfl) (fun _ _ _ h => h) (Or.inr ⟨by rfl, rfl⟩) hHeld hClosed (fun hNext => ?_)
                  clear hClosed
                  have hClosed := hNext
                  clear hNext
                  try simp only [Act.put, List.getElem_toArray, List.getElem_cons_zero, List.getElem_cons_succ, List.setIfInBounds_toArray, List.set_cons_zero, List.set_cons_succ]
                  refine' wpAnyE_take (i := 40) (v := _) rfl (by kernel_rfl) (by kernel_rfl) (by kernel_rfl) (by kernel_rfl) (fun _ _ _ h => h) (Or.inr ⟨by rfl, rfl⟩) hHeld hClosed (fun hNext => ?_)
                  clear hClosed
                  have hClosed := hNext
                  clear hNext
                  try simp only [Act.put, List.getElem_toArray, List.getElem_cons_zero, List.getElem_cons_succ, List.setIfInBounds_toArray, List.set_cons_zero, List.set_cons_succ]
                  refine' wpAnyE_take (i := 41) (v := _) rfl (by kernel_rfl) (by kernel_rfl) (by kernel_rfl) (by kernel_rfl) (fun _ _ _ h => h) (Or.inl ⟨by rfl, fun u hu => ?_⟩) hHeld hClosed (fun hNext => ?_)
                  rotate_left
                  · (try dsimp only at hu)
                    go_simp
                    try with_reducible rfl
                  clear hClosed
                  have hClosed := hNext
                  clear hNext
                  try simp only [Act.put, List.getElem_toArray, List.getElem_cons_zero, List.getElem_cons_succ, List.setIfInBounds_toArray, List.set_cons_zero, List.set_cons_succ]
                  refine' wpAnyE_take (i := 42) (v := _) rfl (by kernel_rfl) (by kernel_rfl) (by kernel_rfl) (by kernel_rfl) (fun _ _ _ h => h) (Or.inl ⟨by rfl, fun u hu => ?_⟩) hHeld hClosed (fun hNext => ?_)
                  rotate_left
                  · (try dsimp only at hu)
                    go_simp
                    try with_reducible rfl
                  clear hClosed
                  have hClosed := hNext
                  clear hNext
                  try simp only [Act.put, List.getElem_toArray, List.getElem_cons_zero, List.getElem_cons_succ, List.setIfInBounds_toArray, List.set_cons_zero, List.set_cons_succ]
                  refine wpAnyE_done (by kernel_rfl) ?_ _
                  clear hClosed
                  clear hHeld hk0
                  go_wp2_with fail
                  go_roundw
                  case rel => exact ⟨i + 1, by omega, by go_num, BD.out⟩
                  case measure => simp [intOf]; omega
              · have hne : x ≠ y := by simpa using hxy
                obtain rfl : m = true := by
                  cases m with
                  | true => rfl
                  | false => exact absurd (hst.1 rfl) hne
                rcases (hst.2.resolve_left hne) with h0 | h1
                · have e0 : (x != 0) = false := by simpa using h0
                  clear h0 hne
                  clear hst
                  go_wp2_with fail
                  refine wp_region_E (S := fun w' => w'.cell? ⟨w3.heap.size, i, none⟩ = some (.bool true) ∧ w'.cell? (pl.add i) = some (.int .i64 x) ∧ w'.cell? ⟨q, 1, none⟩ = some (.slice (some pc) classes.length c') ∧ w'.cell? (pc.add i) = some (.int .i64 y)) [] (by kernel_rfl) (hk0) (fun hHeld hClosed => ?_)
                  refine' wpAnyE_take (i := 0) (v := _) rfl (by kernel_rfl) (by kernel_rfl) (by kernel_rfl) (by kernel_rfl) (fun _ _ _ h => h) (Or.inl ⟨by rfl, fun u hu => ?_⟩) hHeld hClosed (fun hNext => ?_)
                  rotate_left
                  · (try dsimp only at hu)
                    go_simp
                    try with_reducible rfl
                  clear hClosed
                  have hClosed := hNext
                  clear hNext
                  try simp only [Act.put, List.getElem_toArray, List.getElem_cons_zero, List.setIfInBounds_toArray, List.set_cons_zero, List.set_cons_succ]
                  refine' wpAnyE_take (i := 1) (v := _) rfl (by kernel_rfl) (by kernel_rfl) (by kernel_rfl) (by kernel_rfl) (fun _ _ _ h => h) (Or.inl ⟨by rfl, fun u hu => ?_⟩) hHeld hClosed (fun hNext => ?_)
                  rotate_left
                  · (try dsimp only at hu)
                    go_simp
                    try with_reducible rfl
                  clear hClosed
                  have hClosed := hNext
                  clear hNext
                  try simp only [Act.put, List.getElem_toArray, List.getElem_cons_zero, List.getElem_cons_succ, List.setIfInBounds_toArray, List.set_cons_zero, List.set_cons_succ]
                  refine' wpAnyE_take (i := 2) (v := _) rfl (by kernel_rfl) (by kernel_rfl) (by kernel_rfl) (by kernel_rfl) (fun _ _ _ h => h) (Or.inl ⟨by rfl, fun u hu => ?_⟩) hHeld hClosed (fun hNext => ?_)
                  rotate_left
                  · (try dsimp only at hu)
                    go_simp
                    try with_reducible rfl
                  clear hClosed
                  have hClosed := hNext
                  clear hNext
                  try simp only [Act.put, List.getElem_toArray, List.getElem_cons_zero, List.getElem_cons_succ, List.setIfInBounds_toArray, List.set_cons_zero, List.set_cons_succ]
                  refine' wpAnyE_take (i := 3) (v := _) rfl (by kernel_rfl) (by kernel_rfl) (by kernel_rfl) (by kernel_rfl) (fun _ _ _ h => h) (Or.inl ⟨by rfl, fun u hu => ?_⟩) hHeld hClosed (fun hNext => ?_)
                  rotate_left
                  · (try dsimp only at hu)
                    go_simp
                    try with_reducible rfl
                  clear hClosed
                  have hClosed := hNext
                  clear hNext
                  try simp only [Act.put, List.getElem_toArray, List.getElem_cons_zero, List.getElem_cons_succ, List.setIfInBounds_toArray, List.set_cons_zero, List.set_cons_succ]
                  refine' wpAnyE_take (i := 4) (v := _) rfl (by kernel_rfl) (by kernel_rfl) (by kernel_rfl) (by kernel_rfl) (fun _ _ _ h => h) (Or.inl ⟨by rfl, fun u hu => ?_⟩) hHeld hClosed (fun hNext => ?_)
                  rotate_left
                  · (try dsimp only at hu)
                    go_simp
                    try with_reducible rfl
                  clear hClosed
                  have hClosed := hNext
                  clear hNext
                  try simp only [Act.put, List.getElem_toArray, List.getElem_cons_zero, List.getElem_cons_succ, List.setIfInBounds_toArray, List.set_cons_zero, List.set_cons_succ]
                  refine' wpAnyE_take (i := 5) (v := _) rfl (by kernel_rfl) (by kernel_rfl) (by kernel_rfl) (by kernel_rfl) (fun _ _ _ h => h) (Or.inl ⟨by rfl, fun u hu => ?_⟩) hHeld hClosed (fun hNext => ?_)
                  rotate_left
                  · (try dsimp only at hu)
                    go_simp
                    try with_reducible rfl
                  clear hClosed
                  have hClosed := hNext
                  clear hNext
                  try simp only [Act.put, List.getElem_toArray, List.getElem_cons_zero, List.getElem_cons_succ, List.setIfInBounds_toArray, List.set_cons_zero, List.set_cons_succ]
                  refine' wpAnyE_take (i := 6) (v := _) rfl (by kernel_rfl) (by kernel_rfl) (by kernel_rfl) (by kernel_rfl) (fun _ _ _ h => h) (Or.inr ⟨by rfl, rfl⟩) hHeld hClosed (fun hNext => ?_)
                  clear hClosed
                  have hClosed := hNext
                  clear hNext
                  try simp only [Act.put, List.getElem_toArray, List.getElem_cons_zero, List.getElem_cons_succ, List.setIfInBounds_toArray, List.set_cons_zero, List.set_cons_succ]
                  refine' wpAnyE_take (i := 7) (v := _) rfl (by kernel_rfl) (by kernel_rfl) (by kernel_rfl) (by kernel_rfl) (fun _ _ _ h => h) (Or.inr ⟨by rfl, rfl⟩) hHeld hClosed (fun hNext => ?_)
                  clear hClosed
                  have hClosed := hNext
                  clear hNext
                  try simp only [Act.put, List.getElem_toArray, List.getElem_cons_zero, List.getElem_cons_succ, List.setIfInBounds_toArray, List.set_cons_zero, List.set_cons_succ]
                  refine' wpAnyE_take (i := 8) (v := _) rfl (by kernel_rfl) (by kernel_rfl) (by kernel_rfl) (by kernel_rfl) (fun _ _ _ h => h) (Or.inr ⟨by rfl, rfl⟩) hHeld hClosed (fun hNext => ?_)
                  clear hClosed
                  have hClosed := hNext
                  clear hNext
                  try simp only [Act.put, List.getElem_toArray, List.getElem_cons_zero, List.getElem_cons_succ, List.setIfInBounds_toArray, List.set_cons_zero, List.set_cons_succ]
                  refine' wpAnyE_take (i := 9) (v := _) rfl (by kernel_rfl) (by kernel_rfl) (by kernel_rfl) (by kernel_rfl) (fun _ _ _ h => h) (Or.inr ⟨by rfl, rfl⟩) hHeld hClosed (fun hNext => ?_)
                  clear hClosed
                  have hClosed := hNext
                  clear hNext
                  try simp only [Act.put, List.getElem_toArray, List.getElem_cons_zero, List.getElem_cons_succ, List.setIfInBounds_toArray, List.set_cons_zero, List.set_cons_succ]
                  refine' wpAnyE_take (i := 10) (v := _) rfl (by kernel_rfl) (by kernel_rfl) (by kernel_rfl) (by kernel_rfl) (fun _ _ _ h => h) (Or.inr ⟨by rfl, rfl⟩) hHeld hClosed (fun hNext => ?_)
                  clear hClosed
                  have hClosed := hNext
                  clear hNext
                  try simp only [Act.put, List.getElem_toArray, List.getElem_cons_zero, List.getElem_cons_succ, List.setIfInBounds_toArray, List.set_cons_zero, List.set_cons_succ]
                  refine' wpAnyE_take (i := 11) (v := _) rfl (by kernel_rfl) (by kernel_rfl) (by kernel_rfl) (by kernel_rfl) (fun _ _ _ h => h) (Or.inr ⟨by rfl, rfl⟩) hHeld hClosed (fun hNext => ?_)
                  clear hClosed
                  have hClosed := hNext
                  clear hNext
                  try simp only [Act.put, List.getElem_toArray, List.getElem_cons_zero, List.getElem_cons_succ, List.setIfInBounds_toArray, List.set_cons_zero, List.set_cons_succ]
                  refine' wpAnyE_take (i := 12) (v := _) rfl (by kernel_rfl) (by kernel_rfl) (by kernel_rfl) (by kernel_rfl) (fun _ _ _ h => h) (Or.inr ⟨by rfl, rfl⟩) hHeld hClosed (fun hNext => ?_)
                  clear hClosed
                  have hClosed := hNext
                  clear hNext
                  try simp only [Act.put, List.getElem_toArray, List.getElem_cons_zero, List.getElem_cons_succ, List.setIfInBounds_toArray, List.set_cons_zero, List.set_cons_succ]
                  refine' wpAnyE_take (i := 13) (v := _) rfl (by kernel_rfl) (by kernel_rfl) (by kernel_rfl) (by kernel_rfl) (fun _ _ _ h => h) (Or.inr ⟨by rfl, rfl⟩) hHeld hClosed (fun hNext => ?_)
                  clear hClosed
                  have hClosed := hNext
                  clear hNext
                  try simp only [Act.put, List.getElem_toArray, List.getElem_cons_zero, List.getElem_cons_succ, List.setIfInBounds_toArray, List.set_cons_zero, List.set_cons_succ]
                  refine' wpAnyE_take (i := 14) (v := _) rfl (by kernel_rfl) (by kernel_rfl) (by kernel_rfl) (by kernel_rfl) (fun _ _ _ h => h) (Or.inr ⟨by rfl, rfl⟩) hHeld hClosed (fun hNext => ?_)
                  clear hClosed
                  have hClosed := hNext
                  clear hNext
                  try simp only [Act.put, List.getElem_toArray, List.getElem_cons_zero, List.getElem_cons_succ, List.setIfInBounds_toArray, List.set_cons_zero, List.set_cons_succ]
                  refine' wpAnyE_take (i := 15) (v := _) rfl (by kernel_rfl) (by kernel_rfl) (by kernel_rfl) (by kernel_rfl) (fun _ _ _ h => h) (Or.inr ⟨by rfl, rfl⟩) hHeld hClosed (fun hNext => ?_)
                  clear hClosed
                  have hClosed := hNext
                  clear hNext
                  try simp only [Act.put, List.getElem_toArray, List.getElem_cons_zero, List.getElem_cons_succ, List.setIfInBounds_toArray, List.set_cons_zero, List.set_cons_succ]
                  refine' wpAnyE_take (i := 16) (v := _) rfl (by kernel_rfl) (by kernel_rfl) (by kernel_rfl) (by kernel_rfl) (fun _ _ _ h => h) (Or.inl ⟨by rfl, fun u hu => ?_⟩) hHeld hClosed (fun hNext => ?_)
                  rotate_left
                  · (try dsimp only at hu)
                    go_simp
                    try with_reducible rfl
                  clear hClosed
                  have hClosed := hNext
                  clear hNext
                  try simp only [Act.put, List.getElem_toArray, List.getElem_cons_zero, List.getElem_cons_succ, List.setIfInBounds_toArray, List.set_cons_zero, List.set_cons_succ]
                  refine' wpAnyE_take (i := 17) (v := _) rfl (by kernel_rfl) (by kernel_rfl) (by kernel_rfl) (by kernel_rfl) (fun _ _ _ h => h) (Or.inl ⟨by rfl, fun u hu => ?_⟩) hHeld hClosed (fun hNext => ?_)
                  rotate_left
                  · (try dsimp only at hu)
                    go_simp
                    try with_reducible rfl
                  clear hClosed
                  have hClosed := hNext
                  clear hNext
                  try simp only [Act.put, List.getElem_toArray, List.getElem_cons_zero, List.getElem_cons_succ, List.setIfInBounds_toArray, List.set_cons_zero, List.set_cons_succ]
                  refine' wpAnyE_take (i := 18) (v := _) rfl (by kernel_rfl) (by kernel_rfl) (by kernel_rfl) (by kernel_rfl) (fun _ _ _ h => h) (Or.inl ⟨by rfl, fun u hu => ?_⟩) hHeld hClosed (fun hNext => ?_)
                  rotate_left
                  · (try dsimp only at hu)
                    go_simp
                    try with_reducible rfl
                  clear hClosed
                  have hClosed := hNext
                  clear hNext
                  try simp only [Act.put, List.getElem_toArray, List.getElem_cons_zero, List.getElem_cons_succ, List.setIfInBounds_toArray, List.set_cons_zero, List.set_cons_succ]
                  refine' wpAnyE_take (i := 19) (v := _) rfl (by kernel_rfl) (by kernel_rfl) (by kernel_rfl) (by kernel_rfl) (fun _ _ _ h => h) (Or.inl ⟨by rfl, fun u hu => ?_⟩) hHeld hClosed (fun hNext => ?_)
                  rotate_left
                  · (try dsimp only at hu)
                    go_simp
                    try with_reducible rfl
                  clear hClosed
                  have hClosed := hNext
                  clear hNext
                  try simp only [Act.put, List.getElem_toArray, List.getElem_cons_zero, List.getElem_cons_succ, List.setIfInBounds_toArray, List.set_cons_zero, List.set_cons_succ]
                  refine' wpAnyE_take (i := 20) (v := _) rfl (by kernel_rfl) (by kernel_rfl) (by kernel_rfl) (by kernel_rfl) (fun _ _ _ h => h) (Or.inl ⟨by rfl, fun u hu => ?_⟩) hHeld hClosed (fun hNext => ?_)
                  rotate_left
                  · (try dsimp only at hu)
                    go_simp
                    try with_reducible rfl
                  clear hClosed
                  have hClosed := hNext
                  clear hNext
                  try simp only [Act.put, List.getElem_toArray, List.getElem_cons_zero, List.getElem_cons_succ, List.setIfInBounds_toArray, List.set_cons_zero, List.set_cons_succ]
                  refine' wpAnyE_take (i := 21) (v := _) rfl (by kernel_rfl) (by kernel_rfl) (by kernel_rfl) (by kernel_rfl) (fun _ _ _ h => h) (Or.inl ⟨by rfl, fun u hu => ?_⟩) hHeld hClosed (fun hNext => ?_)
                  rotate_left
                  · (try dsimp only at hu)
                    go_simp
                    try with_reducible rfl
                  clear hClosed
                  have hClosed := hNext
                  clear hNext
                  try simp only [Act.put, List.getElem_toArray, List.getElem_cons_zero, List.getElem_cons_succ, List.setIfInBounds_toArray, List.set_cons_zero, List.set_cons_succ]
                  refine' wpAnyE_take (i := 22) (v := _) rfl (by kernel_rfl) (by kernel_rfl) (by kernel_rfl) (by kernel_rfl) (fun _ _ _ h => h) (Or.inl ⟨by rfl, fun u hu => ?_⟩) hHeld hClosed (fun hNext => ?_)
                  rotate_left
                  · (try dsimp only at hu)
                    go_simp
                    try with_reducible rfl
                  clear hClosed
                  have hClosed := hNext
                  clear hNext
                  try simp only [Act.put, List.getElem_toArray, List.getElem_cons_zero, List.getElem_cons_succ, List.setIfInBounds_toArray, List.set_cons_zero, List.set_cons_succ]
                  refine' wpAnyE_take (i := 23) (v := _) rfl (by kernel_rfl) (by kernel_rfl) (by kernel_rfl) (by kernel_rfl) (fun _ _ _ h => h) (Or.inl ⟨by rfl, fun u hu => ?_⟩) hHeld hClosed (fun hNext => ?_)
                  rotate_left
                  · (try dsimp only at hu)
                    go_simp
                    try with_reducible rfl
                  clear hClosed
                  have hClosed := hNext
                  clear hNext
                  try simp only [Act.put, List.getElem_toArray, List.getElem_cons_zero, List.getElem_cons_succ, List.setIfInBounds_toArray, List.set_cons_zero, List.set_cons_succ]
                  refine' wpAnyE_take (i := 24) (v := _) rfl (by kernel_rfl) (by kernel_rfl) (by kernel_rfl) (by kernel_rfl) (fun _ _ _ h => h) (Or.inl ⟨by rfl, fun u hu => ?_⟩) hHeld hClosed (fun hNext => ?_)
                  rotate_left
                  · (try dsimp only at hu)
                    go_simp
                    try with_reducible rfl
                  clear hClosed
                  have hClosed := hNext
                  clear hNext
                  try simp only [Act.put, List.getElem_toArray, List.getElem_cons_zero, List.getElem_cons_succ, List.setIfInBounds_toArray, List.set_cons_zero, List.set_cons_succ]
                  refine' wpAnyE_take (i := 25) (v := _) rfl (by kernel_rfl) (by kernel_rfl) (by kernel_rfl) (by kernel_rfl) (fun _ _ _ h => h) (Or.inl ⟨by rfl, fun u hu => ?_⟩) hHeld hClosed (fun hNext => ?_)
                  rotate_left
                  · (try dsimp only at hu)
                    go_simp
                    try with_reducible rfl
                  clear hClosed
                  have hClosed := hNext
                  clear hNext
                  try simp only [Act.put, List.getElem_toArray, List.getElem_cons_zero, List.getElem_cons_succ, List.setIfInBounds_toArray, List.set_cons_zero, List.set_cons_succ]
                  refine' wpAnyE_take (i := 26) (v := _) rfl (by kernel_rfl) (by kernel_rfl) (by kernel_rfl) (by kernel_rfl) (fun _ _ _ h => h) (Or.inl ⟨by rfl, fun u hu => ?_⟩) hHeld hClosed (fun hNext => ?_)
                  rotate_left
                  · (try dsimp only at hu)
                    go_simp
                    try with_reducible rfl
                  clear hClosed
                  have hClosed := hNext
                  clear hNext
                  try simp only [Act.put, List.getElem_toArray, List.getElem_cons_zero, List.getElem_cons_succ, List.setIfInBounds_toArray, List.set_cons_zero, List.set_cons_succ]
                  refine' wpAnyE_take (i := 27) (v := _) rfl (by kernel_rfl) (by kernel_rfl) (by kernel_rfl) (by kernel_rfl) (fun _ _ _ h => h) (Or.inl ⟨by rfl, fun u hu => ?_⟩) hHeld hClosed (fun hNext => ?_)
                  rotate_left
                  · (try dsimp only at hu)
                    go_simp
                    try with_reducible rfl
                  clear hClosed
                  have hClosed := hNext
                  clear hNext
                  try simp only [Act.put, List.getElem_toArray, List.getElem_cons_zero, List.getElem_cons_succ, List.setIfInBounds_toArray, List.set_cons_zero, List.set_cons_succ]
                  refine' wpAnyE_take (i := 28) (v := _) rfl (by kernel_rfl) (by kernel_rfl) (by kernel_rfl) (by kernel_rfl) (fun _ _ _ h => h) (Or.inl ⟨by rfl, fun u hu => ?_⟩) hHeld hClosed (fun hNext => ?_)
                  rotate_left
                  · (try dsimp only at hu)
                    go_simp
                    try with_reducible rfl
                  clear hClosed
                  have hClosed := hNext
                  clear hNext
                  try simp only [Act.put, List.getElem_toArray, List.getElem_cons_zero, List.getElem_cons_succ, List.setIfInBounds_toArray, List.set_cons_zero, List.set_cons_succ]
                  refine' wpAnyE_take (i := 29) (v := _) rfl (by kernel_rfl) (by kernel_rfl) (by kernel_rfl) (by kernel_rfl) (fun _ _ _ h => h) (Or.inl ⟨by rfl, fun u hu => ?_⟩) hHeld hClosed (fun hNext => ?_)
                  rotate_left
                  · (try dsimp only at hu)
                    go_simp
                    try with_reducible rfl
                  clear hClosed
                  have hClosed := hNext
                  clear hNext
                  try simp only [Act.put, List.getElem_toArray, List.getElem_cons_zero, List.getElem_cons_succ, List.setIfInBounds_toArray, List.set_cons_zero, List.set_cons_succ]
                  refine' wpAnyE_take (i := 30) (v := _) rfl (by kernel_rfl) (by kernel_rfl) (by kernel_rfl) (by kernel_rfl) (fun _ _ _ h => h) (Or.inl ⟨by rfl, fun u hu => ?_⟩) hHeld hClosed (fun hNext => ?_)
                  rotate_left
                  · (try dsimp only at hu)
                    go_simp
                    try with_reducible rfl
                  clear hClosed
                  have hClosed := hNext
                  clear hNext
                  try simp only [Act.put, List.getElem_toArray, List.getElem_cons_zero, List.getElem_cons_succ, List.setIfInBounds_toArray, List.set_cons_zero, List.set_cons_succ]
                  refine' wpAnyE_take (i := 31) (v := _) rfl (by kernel_rfl) (by kernel_rfl) (by kernel_rfl) (by kernel_rfl) (fun _ _ _ h => h) (Or.inl ⟨by rfl, fun u hu => ?_⟩) hHeld hClosed (fun hNext => ?_)
                  rotate_left
                  · (try dsimp only at hu)
                    go_simp
                    try with_reducible rfl
                  clear hClosed
                  have hClosed := hNext
                  clear hNext
                  try simp only [Act.put, List.getElem_toArray, List.getElem_cons_zero, List.getElem_cons_succ, List.setIfInBounds_toArray, List.set_cons_zero, List.set_cons_succ]
                  refine' wpAnyE_take (i := 32) (v := _) rfl (by kernel_rfl) (by kernel_rfl) (by kernel_rfl) (by kernel_rfl) (fun _ _ _ h => h) (Or.inl ⟨by rfl, fun u hu => ?_⟩) hHeld hClosed (fun hNext => ?_)
                  rotate_left
                  · (try dsimp only at hu)
                    go_simp
                    try with_reducible rfl
                  clear hClosed
                  have hClosed := hNext
                  clear hNext
                  try simp only [Act.put, List.getElem_toArray, List.getElem_cons_zero, List.getElem_cons_succ, List.setIfInBounds_toArray, List.set_cons_zero, List.set_cons_succ]
                  refine' wpAnyE_take (i := 33) (v := _) rfl (by kernel_rfl) (by kernel_rfl) (by kernel_rfl) (by kernel_rfl) (fun _ _ _ h => h) (Or.inl ⟨by rfl, fun u hu => ?_⟩) hHeld hClosed (fun hNext => ?_)
                  rotate_left
                  · (try dsimp only at hu)
                    go_simp
                    try with_reducible rfl
                  clear hClosed
                  have hClosed := hNext
                  clear hNext
                  try simp only [Act.put, List.getElem_toArray, List.getElem_cons_zero, List.getElem_cons_succ, List.setIfInBounds_toArray, List.set_cons_zero, List.set_cons_succ]
                  refine' wpAnyE_take (i := 34) (v := _) rfl (by kernel_rfl) (by kernel_rfl) (by kernel_rfl) (by kernel_rfl) (fun _ _ _ h => h) (Or.inl ⟨by rfl, fun u hu => ?_⟩) hHeld hClosed (fun hNext => ?_)
                  rotate_left
                  · (try dsimp only at hu)
                    go_simp
                    try with_reducible rfl
                  clear hClosed
                  have hClosed := hNext
                  clear hNext
                  try simp only [Act.put, List.getElem_toArray, List.getElem_cons_zero, List.getElem_cons_succ, List.setIfInBounds_toArray, List.set_cons_zero, List.set_cons_succ]
                  refine' wpAnyE_take (i := 35) (v := _) rfl (by kernel_rfl) (by kernel_rfl) (by kernel_rfl) (by kernel_rfl) (fun _ _ _ h => h) (Or.inl ⟨by rfl, fun u hu => ?_⟩) hHeld hClosed (fun hNext => ?_)
                  rotate_left
                  · (try dsimp only at hu)
                    go_simp
                    try with_reducible rfl
                  clear hClosed
                  have hClosed := hNext
                  clear hNext
                  try simp only [Act.put, List.getElem_toArray, List.getElem_cons_zero, List.getElem_cons_succ, List.setIfInBounds_toArray, List.set_cons_zero, List.set_cons_succ]
                  refine' wpAnyE_take (i := 36) (v := _) rfl (by kernel_rfl) (by kernel_rfl) (by kernel_rfl) (by kernel_rfl) (fun _ _ _ h => h) (Or.inr ⟨by rfl, rfl⟩) hHeld hClosed (fun hNext => ?_)
                  clear hClosed
                  have hClosed := hNext
                  clear hNext
                  try simp only [Act.put, List.getElem_toArray, List.getElem_cons_zero, List.getElem_cons_succ, List.setIfInBounds_toArray, List.set_cons_zero, List.set_cons_succ]
                  refine' wpAnyE_take (i := 37) (v := _) rfl (by kernel_rfl) (by kernel_rfl) (by kernel_rfl) (by kernel_rfl) (fun _ _ _ h => h) (Or.inr ⟨by rfl, rfl⟩) hHeld hClosed (fun hNext => ?_)
                  clear hClosed
                  have hClosed := hNext
                  clear hNext
                  try simp only [Act.put, List.getElem_toArray, List.getElem_cons_zero, List.getElem_cons_succ, List.setIfInBounds_toArray, List.set_cons_zero, List.set_cons_succ]
                  refine' wpAnyE_take (i := 38) (v := _) rfl (by kernel_rfl) (by kernel_rfl) (by kernel_rfl) (by kernel_rfl) (fun _ _ _ h => h) (Or.inr ⟨by rfl, rfl⟩) hHeld hClosed (fun hNext => ?_)
                  clear hClosed
                  have hClosed := hNext
                  clear hNext
                  try simp only [Act.put, List.getElem_toArray, List.getElem_cons_zero, List.getElem_cons_succ, List.setIfInBounds_toArray, List.set_cons_zero, List.set_cons_succ]
                  refine' wpAnyE_take (i := 39) (v := _) rfl (by kernel_rfl) (by kernel_rfl) (by kernel_rfl) (by kernel_rfl) (fun _ _ _ h => h) (Or.inr ⟨by rfl, rfl⟩) hHeld hClosed (fun hNext => ?_)
                  clear hClosed
                  have hClosed := hNext
                  clear hNext
                  try simp only [Act.put, List.getElem_toArray, List.getElem_cons_zero, List.getElem_cons_succ, List.setIfInBounds_toArray, List.set_cons_zero, List.set_cons_succ]
                  refine' wpAnyE_take (i := 40) (v := _) rfl (by kernel_rfl) (by kernel_rfl) (by kernel_rfl) (by kernel_rfl) (fun _ _ _ h => h) (Or.inr ⟨by rfl, rfl⟩) hHeld hClosed (fun hNext => ?_)
                  clear hClosed
                  have hClosed := hNext
                  clear hNext
                  try simp only [Act.put, List.getElem_toArray, List.getElem_cons_zero, List.getElem_cons_succ, List.setIfInBounds_toArray, List.set_cons_zero, List.set_cons_succ]
                  refine' wpAnyE_take (i := 41) (v := _) rfl (by kernel_rfl) (by kernel_rfl) (by kernel_rfl) (by kernel_rfl) (fun _ _ _ h => h) (Or.inl ⟨by rfl, fun u hu => ?_⟩) hHeld hClosed (fun hNext => ?_)
                  rotate_left
                  · (try dsimp only at hu)
                    go_simp
                    try with_reducible rfl
                  clear hClosed
                  have hClosed := hNext
                  clear hNext
                  try simp only [Act.put, List.getElem_toArray, List.getElem_cons_zero, List.getElem_cons_succ, List.setIfInBounds_toArray, List.set_cons_zero, List.set_cons_succ]
                  refine' wpAnyE_take (i := 42) (v := _) rfl (by kernel_rfl) (by kernel_rfl) (by kernel_rfl) (by kernel_rfl) (fun _ _ _ h => h) (Or.inl ⟨by rfl, fun u hu => ?_⟩) hHeld hClosed (fun hNext => ?_)
                  rotate_left
                  · (try dsimp only at hu)
                    go_simp
                    try with_reducible rfl
                  clear hClosed
                  have hClosed := hNext
                  clear hNext
                  try simp only [Act.put, List.getElem_toArray, List.getElem_cons_zero, List.getElem_cons_succ, List.setIfInBounds_toArray, List.set_cons_zero, List.set_cons_succ]
                  refine wpAnyE_done (by kernel_rfl) ?_ _
                  clear hClosed
                  clear hHeld hk0
                  go_wp2_with fail
                  go_roundw
                  case rel => exact ⟨i + 1, by omega, by go_num, BD.out⟩
                  case measure => simp [intOf]; omega
                · have e0 : (x != 0) = true := by rw [h1]; decide
                  have e1 : (x != 1) = false := by simpa using h1
                  clear h1 hne
                  clear hst
                  go_wp2_with fail
                  refine wp_region_E (S := fun w' => w'.cell? ⟨w3.heap.size, i, none⟩ = some (.bool true) ∧ w'.cell? (pl.add i) = some (.int .i64 x) ∧ w'.cell? ⟨q, 1, none⟩ = some (.slice (some pc) classes.length c') ∧ w'.cell? (pc.add i) = some (.int .i64 y)) [] (by kernel_rfl) (hk0) (fun hHeld hClosed => ?_)
                  refine' wpAnyE_take (i := 0) (v := _) rfl (by kernel_rfl) (by kernel_rfl) (by kernel_rfl) (by kernel_rfl) (fun _ _ _ h => h) (Or.inl ⟨by rfl, fun u hu => ?_⟩) hHeld hClosed (fun hNext => ?_)
                  rotate_left
                  · (try dsimp only at hu)
                    go_simp
                    try with_reducible rfl
                  clear hClosed
                  have hClosed := hNext
                  clear hNext
                  try simp only [Act.put, List.getElem_toArray, List.getElem_cons_zero, List.setIfInBounds_toArray, List.set_cons_zero, List.set_cons_succ]
                  refine' wpAnyE_take (i := 1) (v := _) rfl (by kernel_rfl) (by kernel_rfl) (by kernel_rfl) (by kernel_rfl) (fun _ _ _ h => h) (Or.inl ⟨by rfl, fun u hu => ?_⟩) hHeld hClosed (fun hNext => ?_)
                  rotate_left
                  · (try dsimp only at hu)
                    go_simp
                    try with_reducible rfl
                  clear hClosed
                  have hClosed := hNext
                  clear hNext
                  try simp only [Act.put, List.getElem_toArray, List.getElem_cons_zero, List.getElem_cons_succ, List.setIfInBounds_toArray, List.set_cons_zero, List.set_cons_succ]
                  refine' wpAnyE_take (i := 2) (v := _) rfl (by kernel_rfl) (by kernel_rfl) (by kernel_rfl) (by kernel_rfl) (fun _ _ _ h => h) (Or.inl ⟨by rfl, fun u hu => ?_⟩) hHeld hClosed (fun hNext => ?_)
                  rotate_left
                  · (try dsimp only at hu)
                    go_simp
                    try with_reducible rfl
                  clear hClosed
                  have hClosed := hNext
                  clear hNext
                  try simp only [Act.put, List.getElem_toArray, List.getElem_cons_zero, List.getElem_cons_succ, List.setIfInBounds_toArray, List.set_cons_zero, List.set_cons_succ]
                  refine' wpAnyE_take (i := 3) (v := _) rfl (by kernel_rfl) (by kernel_rfl) (by kernel_rfl) (by kernel_rfl) (fun _ _ _ h => h) (Or.inl ⟨by rfl, fun u hu => ?_⟩) hHeld hClosed (fun hNext => ?_)
                  rotate_left
                  · (try dsimp only at hu)
                    go_simp
                    try with_reducible rfl
                  clear hClosed
                  have hClosed := hNext
                  clear hNext
                  try simp only [Act.put, List.getElem_toArray, List.getElem_cons_zero, List.getElem_cons_succ, List.setIfInBounds_toArray, List.set_cons_zero, List.set_cons_succ]
                  refine' wpAnyE_take (i := 4) (v := _) rfl (by kernel_rfl) (by kernel_rfl) (by kernel_rfl) (by kernel_rfl) (fun _ _ _ h => h) (Or.inl ⟨by rfl, fun u hu => ?_⟩) hHeld hClosed (fun hNext => ?_)
                  rotate_left
                  · (try dsimp only at hu)
                    go_simp
                    try with_reducible rfl
                  clear hClosed
                  have hClosed := hNext
                  clear hNext
                  try simp only [Act.put, List.getElem_toArray, List.getElem_cons_zero, List.getElem_cons_succ, List.setIfInBounds_toArray, List.set_cons_zero, List.set_cons_succ]
                  refine' wpAnyE_take (i := 5) (v := _) rfl (by kernel_rfl) (by kernel_rfl) (by kernel_rfl) (by kernel_rfl) (fun _ _ _ h => h) (Or.inl ⟨by rfl, fun u hu => ?_⟩) hHeld hClosed (fun hNext => ?_)
                  rotate_left
                  · (try dsimp only at hu)
                    go_simp
                    try with_reducible rfl
                  clear hClosed
                  have hClosed := hNext
                  clear hNext
                  try simp only [Act.put, List.getElem_toArray, List.getElem_cons_zero, List.getElem_cons_succ, List.setIfInBounds_toArray, List.set_cons_zero, List.set_cons_succ]
                  refine' wpAnyE_take (i := 6) (v := _) rfl (by kernel_rfl) (by kernel_rfl) (by kernel_rfl) (by kernel_rfl) (fun _ _ _ h => h) (Or.inr ⟨by rfl, rfl⟩) hHeld hClosed (fun hNext => ?_)
                  clear hClosed
                  have hClosed := hNext
                  clear hNext
                  try simp only [Act.put, List.getElem_toArray, List.getElem_cons_zero, List.getElem_cons_succ, List.setIfInBounds_toArray, List.set_cons_zero, List.set_cons_succ]
                  refine' wpAnyE_take (i := 7) (v := _) rfl (by kernel_rfl) (by kernel_rfl) (by kernel_rfl) (by kernel_rfl) (fun _ _ _ h => h) (Or.inr ⟨by rfl, rfl⟩) hHeld hClosed (fun hNext => ?_)
                  clear hClosed
                  have hClosed := hNext
                  clear hNext
                  try simp only [Act.put, List.getElem_toArray, List.getElem_cons_zero, List.getElem_cons_succ, List.setIfInBounds_toArray, List.set_cons_zero, List.set_cons_succ]
                  refine' wpAnyE_take (i := 8) (v := _) rfl (by kernel_rfl) (by kernel_rfl) (by kernel_rfl) (by kernel_rfl) (fun _ _ _ h => h) (Or.inr ⟨by rfl, rfl⟩) hHeld hClosed (fun hNext => ?_)
                  clear hClosed
                  have hClosed := hNext
                  clear hNext
                  try simp only [Act.put, List.getElem_toArray, List.getElem_cons_zero, List.getElem_cons_succ, List.setIfInBounds_toArray, List.set_cons_zero, List.set_cons_succ]
                  refine' wpAnyE_take (i := 9) (v := _) rfl (by kernel_rfl) (by kernel_rfl) (by kernel_rfl) (by kernel_rfl) (fun _ _ _ h => h) (Or.inr ⟨by rfl, rfl⟩) hHeld hClosed (fun hNext => ?_)
                  clear hClosed
                  have hClosed := hNext
                  clear hNext
                  try simp only [Act.put, List.getElem_toArray, List.getElem_cons_zero, List.getElem_cons_succ, List.setIfInBounds_toArray, List.set_cons_zero, List.set_cons_succ]
                  refine' wpAnyE_take (i := 10) (v := _) rfl (by kernel_rfl) (by kernel_rfl) (by kernel_rfl) (by kernel_rfl) (fun _ _ _ h => h) (Or.inr ⟨by rfl, rfl⟩) hHeld hClosed (fun hNext => ?_)
                  clear hClosed
                  have hClosed := hNext
                  clear hNext
                  try simp only [Act.put, List.getElem_toArray, List.getElem_cons_zero, List.getElem_cons_succ, List.setIfInBounds_toArray, List.set_cons_zero, List.set_cons_succ]
                  refine' wpAnyE_take (i := 11) (v := _) rfl (by kernel_rfl) (by kernel_rfl) (by kernel_rfl) (by kernel_rfl) (fun _ _ _ h => h) (Or.inr ⟨by rfl, rfl⟩) hHeld hClosed (fun hNext => ?_)
                  clear hClosed
                  have hClosed := hNext
                  clear hNext
                  try simp only [Act.put, List.getElem_toArray, List.getElem_cons_zero, List.getElem_cons_succ, List.setIfInBounds_toArray, List.set_cons_zero, List.set_cons_succ]
                  refine' wpAnyE_take (i := 12) (v := _) rfl (by kernel_rfl) (by kernel_rfl) (by kernel_rfl) (by kernel_rfl) (fun _ _ _ h => h) (Or.inr ⟨by rfl, rfl⟩) hHeld hClosed (fun hNext => ?_)
                  clear hClosed
                  have hClosed := hNext
                  clear hNext
                  try simp only [Act.put, List.getElem_toArray, List.getElem_cons_zero, List.getElem_cons_succ, List.setIfInBounds_toArray, List.set_cons_zero, List.set_cons_succ]
                  refine' wpAnyE_take (i := 13) (v := _) rfl (by kernel_rfl) (by kernel_rfl) (by kernel_rfl) (by kernel_rfl) (fun _ _ _ h => h) (Or.inr ⟨by rfl, rfl⟩) hHeld hClosed (fun hNext => ?_)
                  clear hClosed
                  have hClosed := hNext
                  clear hNext
                  try simp only [Act.put, List.getElem_toArray, List.getElem_cons_zero, List.getElem_cons_succ, List.setIfInBounds_toArray, List.set_cons_zero, List.set_cons_succ]
                  refine' wpAnyE_take (i := 14) (v := _) rfl (by kernel_rfl) (by kernel_rfl) (by kernel_rfl) (by kernel_rfl) (fun _ _ _ h => h) (Or.inr ⟨by rfl, rfl⟩) hHeld hClosed (fun hNext => ?_)
                  clear hClosed
                  have hClosed := hNext
                  clear hNext
                  try simp only [Act.put, List.getElem_toArray, List.getElem_cons_zero, List.getElem_cons_succ, List.setIfInBounds_toArray, List.set_cons_zero, List.set_cons_succ]
                  refine' wpAnyE_take (i := 15) (v := _) rfl (by kernel_rfl) (by kernel_rfl) (by kernel_rfl) (by kernel_rfl) (fun _ _ _ h => h) (Or.inr ⟨by rfl, rfl⟩) hHeld hClosed (fun hNext => ?_)
                  clear hClosed
                  have hClosed := hNext
                  clear hNext
                  try simp only [Act.put, List.getElem_toArray, List.getElem_cons_zero, List.getElem_cons_succ, List.setIfInBounds_toArray, List.set_cons_zero, List.set_cons_succ]
                  refine' wpAnyE_take (i := 16) (v := _) rfl (by kernel_rfl) (by kernel_rfl) (by kernel_rfl) (by kernel_rfl) (fun _ _ _ h => h) (Or.inl ⟨by rfl, fun u hu => ?_⟩) hHeld hClosed (fun hNext => ?_)
                  rotate_left
                  · (try dsimp only at hu)
                    go_simp
                    try with_reducible rfl
                  clear hClosed
                  have hClosed := hNext
                  clear hNext
                  try simp only [Act.put, List.getElem_toArray, List.getElem_cons_zero, List.getElem_cons_succ, List.setIfInBounds_toArray, List.set_cons_zero, List.set_cons_succ]
                  refine' wpAnyE_take (i := 17) (v := _) rfl (by kernel_rfl) (by kernel_rfl) (by kernel_rfl) (by kernel_rfl) (fun _ _ _ h => h) (Or.inl ⟨by rfl, fun u hu => ?_⟩) hHeld hClosed (fun hNext => ?_)
                  rotate_left
                  · (try dsimp only at hu)
                    go_simp
                    try with_reducible rfl
                  clear hClosed
                  have hClosed := hNext
                  clear hNext
                  try simp only [Act.put, List.getElem_toArray, List.getElem_cons_zero, List.getElem_cons_succ, List.setIfInBounds_toArray, List.set_cons_zero, List.set_cons_succ]
                  refine' wpAnyE_take (i := 18) (v := _) rfl (by kernel_rfl) (by kernel_rfl) (by kernel_rfl) (by kernel_rfl) (fun _ _ _ h => h) (Or.inl ⟨by rfl, fun u hu => ?_⟩) hHeld hClosed (fun hNext => ?_)
                  rotate_left
                  · (try dsimp only at hu)
                    go_simp
                    try with_reducible rfl
                  clear hClosed
                  have hClosed := hNext
                  clear hNext
                  try simp only [Act.put, List.getElem_toArray, List.getElem_cons_zero, List.getElem_cons_succ, List.setIfInBounds_toArray, List.set_cons_zero, List.set_cons_succ]
                  refine' wpAnyE_take (i := 19) (v := _) rfl (by kernel_rfl) (by kernel_rfl) (by kernel_rfl) (by kernel_rfl) (fun _ _ _ h => h) (Or.inl ⟨by rfl, fun u hu => ?_⟩) hHeld hClosed (fun hNext => ?_)
                  rotate_left
                  · (try dsimp only at hu)
                    go_simp
                    try with_reducible rfl
                  clear hClosed
                  have hClosed := hNext
                  clear hNext
                  try simp only [Act.put, List.getElem_toArray, List.getElem_cons_zero, List.getElem_cons_succ, List.setIfInBounds_toArray, List.set_cons_zero, List.set_cons_succ]
                  refine' wpAnyE_take (i := 20) (v := _) rfl (by kernel_rfl) (by kernel_rfl) (by kernel_rfl) (by kernel_rfl) (fun _ _ _ h => h) (Or.inl ⟨by rfl, fun u hu => ?_⟩) hHeld hClosed (fun hNext => ?_)
                  rotate_left
                  · (try dsimp only at hu)
                    go_simp
                    try with_reducible rfl
                  clear hClosed
                  have hClosed := hNext
                  clear hNext
                  try simp only [Act.put, List.getElem_toArray, List.getElem_cons_zero, List.getElem_cons_succ, List.setIfInBounds_toArray, List.set_cons_zero, List.set_cons_succ]
                  refine' wpAnyE_take (i := 21) (v := _) rfl (by kernel_rfl) (by kernel_rfl) (by kernel_rfl) (by kernel_rfl) (fun _ _ _ h => h) (Or.inl ⟨by rfl, fun u hu => ?_⟩) hHeld hClosed (fun hNext => ?_)
                  rotate_left
                  · (try dsimp only at hu)
                    go_simp
                    try with_reducible rfl
                  clear hClosed
                  have hClosed := hNext
                  clear hNext
                  try simp only [Act.put, List.getElem_toArray, List.getElem_cons_zero, List.getElem_cons_succ, List.setIfInBounds_toArray, List.set_cons_zero, List.set_cons_succ]
                  refine' wpAnyE_take (i := 22) (v := _) rfl (by kernel_rfl) (by kernel_rfl) (by kernel_rfl) (by kernel_rfl) (fun _ _ _ h => h) (Or.inl ⟨by rfl, fun u hu => ?_⟩) hHeld hClosed (fun hNext => ?_)
                  rotate_left
                  · (try dsimp only at hu)
                    go_simp
                    try with_reducible rfl
                  clear hClosed
                  have hClosed := hNext
                  clear hNext
                  try simp only [Act.put, List.getElem_toArray, List.getElem_cons_zero, List.getElem_cons_succ, List.setIfInBounds_toArray, List.set_cons_zero, List.set_cons_succ]
                  refine' wpAnyE_take (i := 23) (v := _) rfl (by kernel_rfl) (by kernel_rfl) (by kernel_rfl) (by kernel_rfl) (fun _ _ _ h => h) (Or.inl ⟨by rfl, fun u hu => ?_⟩) hHeld hClosed (fun hNext => ?_)
                  rotate_left
                  · (try dsimp only at hu)
                    go_simp
                    try with_reducible rfl
                  clear hClosed
                  have hClosed := hNext
                  clear hNext
                  try simp only [Act.put, List.getElem_toArray, List.getElem_cons_zero, List.getElem_cons_succ, List.setIfInBounds_toArray, List.set_cons_zero, List.set_cons_succ]
                  refine' wpAnyE_take (i := 24) (v := _) rfl (by kernel_rfl) (by kernel_rfl) (by kernel_rfl) (by kernel_rfl) (fun _ _ _ h => h) (Or.inl ⟨by rfl, fun u hu => ?_⟩) hHeld hClosed (fun hNext => ?_)
                  rotate_left
                  · (try dsimp only at hu)
                    go_simp
                    try with_reducible rfl
                  clear hClosed
                  have hClosed := hNext
                  clear hNext
                  try simp only [Act.put, List.getElem_toArray, List.getElem_cons_zero, List.getElem_cons_succ, List.setIfInBounds_toArray, List.set_cons_zero, List.set_cons_succ]
                  refine' wpAnyE_take (i := 25) (v := _) rfl (by kernel_rfl) (by kernel_rfl) (by kernel_rfl) (by kernel_rfl) (fun _ _ _ h => h) (Or.inl ⟨by rfl, fun u hu => ?_⟩) hHeld hClosed (fun hNext => ?_)
                  rotate_left
                  · (try dsimp only at hu)
                    go_simp
                    try with_reducible rfl
                  clear hClosed
                  have hClosed := hNext
                  clear hNext
                  try simp only [Act.put, List.getElem_toArray, List.getElem_cons_zero, List.getElem_cons_succ, List.setIfInBounds_toArray, List.set_cons_zero, List.set_cons_succ]
                  refine' wpAnyE_take (i := 26) (v := _) rfl (by kernel_rfl) (by kernel_rfl) (by kernel_rfl) (by kernel_rfl) (fun _ _ _ h => h) (Or.inl ⟨by rfl, fun u hu => ?_⟩) hHeld hClosed (fun hNext => ?_)
                  rotate_left
                  · (try dsimp only at hu)
                    go_simp
                    try with_reducible rfl
                  clear hClosed
                  have hClosed := hNext
                  clear hNext
                  try simp only [Act.put, List.getElem_toArray, List.getElem_cons_zero, List.getElem_cons_succ, List.setIfInBounds_toArray, List.set_cons_zero, List.set_cons_succ]
                  refine' wpAnyE_take (i := 27) (v := _) rfl (by kernel_rfl) (by kernel_rfl) (by kernel_rfl) (by kernel_rfl) (fun _ _ _ h => h) (Or.inl ⟨by rfl, fun u hu => ?_⟩) hHeld hClosed (fun hNext => ?_)
                  rotate_left
                  · (try dsimp only at hu)
                    go_simp
                    try with_reducible rfl
                  clear hClosed
                  have hClosed := hNext
                  clear hNext
                  try simp only [Act.put, List.getElem_toArray, List.getElem_cons_zero, List.getElem_cons_succ, List.setIfInBounds_toArray, List.set_cons_zero, List.set_cons_succ]
                  refine' wpAnyE_take (i := 28) (v := _) rfl (by kernel_rfl) (by kernel_rfl) (by kernel_rfl) (by kernel_rfl) (fun _ _ _ h => h) (Or.inl ⟨by rfl, fun u hu => ?_⟩) hHeld hClosed (fun hNext => ?_)
                  rotate_left
                  · (try dsimp only at hu)
                    go_simp
                    try with_reducible rfl
                  clear hClosed
                  have hClosed := hNext
                  clear hNext
                  try simp only [Act.put, List.getElem_toArray, List.getElem_cons_zero, List.getElem_cons_succ, List.setIfInBounds_toArray, List.set_cons_zero, List.set_cons_succ]
                  refine' wpAnyE_take (i := 29) (v := _) rfl (by kernel_rfl) (by kernel_rfl) (by kernel_rfl) (by kernel_rfl) (fun _ _ _ h => h) (Or.inl ⟨by rfl, fun u hu => ?_⟩) hHeld hClosed (fun hNext => ?_)
                  rotate_left
                  · (try dsimp only at hu)
                    go_simp
                    try with_reducible rfl
                  clear hClosed
                  have hClosed := hNext
                  clear hNext
                  try simp only [Act.put, List.getElem_toArray, List.getElem_cons_zero, List.getElem_cons_succ, List.setIfInBounds_toArray, List.set_cons_zero, List.set_cons_succ]
                  refine' wpAnyE_take (i := 30) (v := _) rfl (by kernel_rfl) (by kernel_rfl) (by kernel_rfl) (by kernel_rfl) (fun _ _ _ h => h) (Or.inl ⟨by rfl, fun u hu => ?_⟩) hHeld hClosed (fun hNext => ?_)
                  rotate_left
                  · (try dsimp only at hu)
                    go_simp
                    try with_reducible rfl
                  clear hClosed
                  have hClosed := hNext
                  clear hNext
                  try simp only [Act.put, List.getElem_toArray, List.getElem_cons_zero, List.getElem_cons_succ, List.setIfInBounds_toArray, List.set_cons_zero, List.set_cons_succ]
                  refine' wpAnyE_take (i := 31) (v := _) rfl (by kernel_rfl) (by kernel_rfl) (by kernel_rfl) (by kernel_rfl) (fun _ _ _ h => h) (Or.inl ⟨by rfl, fun u hu => ?_⟩) hHeld hClosed (fun hNext => ?_)
                  rotate_left
                  · (try dsimp only at hu)
                    go_simp
                    try with_reducible rfl
                  clear hClosed
                  have hClosed := hNext
                  clear hNext
                  try simp only [Act.put, List.getElem_toArray, List.getElem_cons_zero, List.getElem_cons_succ, List.setIfInBounds_toArray, List.set_cons_zero, List.set_cons_succ]
                  refine' wpAnyE_take (i := 32) (v := _) rfl (by kernel_rfl) (by kernel_rfl) (by kernel_rfl) (by kernel_rfl) (fun _ _ _ h => h) (Or.inl ⟨by rfl, fun u hu => ?_⟩) hHeld hClosed (fun hNext => ?_)
                  rotate_left
                  · (try dsimp only at hu)
                    go_simp
                    try with_reducible rfl
                  clear hClosed
                  have hClosed := hNext
                  clear hNext
                  try simp only [Act.put, List.getElem_toArray, List.getElem_cons_zero, List.getElem_cons_succ, List.setIfInBounds_toArray, List.set_cons_zero, List.set_cons_succ]
                  refine' wpAnyE_take (i := 33) (v := _) rfl (by kernel_rfl) (by kernel_rfl) (by kernel_rfl) (by kernel_rfl) (fun _ _ _ h => h) (Or.inl ⟨by rfl, fun u hu => ?_⟩) hHeld hClosed (fun hNext => ?_)
                  rotate_left
                  · (try dsimp only at hu)
                    go_simp
                    try with_reducible rfl
                  clear hClosed
                  have hClosed := hNext
                  clear hNext
                  try simp only [Act.put, List.getElem_toArray, List.getElem_cons_zero, List.getElem_cons_succ, List.setIfInBounds_toArray, List.set_cons_zero, List.set_cons_succ]
                  refine' wpAnyE_take (i := 34) (v := _) rfl (by kernel_rfl) (by kernel_rfl) (by kernel_rfl) (by kernel_rfl) (fun _ _ _ h => h) (Or.inl ⟨by rfl, fun u hu => ?_⟩) hHeld hClosed (fun hNext => ?_)
                  rotate_left
                  · (try dsimp only at hu)
                    go_simp
                    try with_reducible rfl
                  clear hClosed
                  have hClosed := hNext
                  clear hNext
                  try simp only [Act.put, List.getElem_toArray, List.getElem_cons_zero, List.getElem_cons_succ, List.setIfInBounds_toArray, List.set_cons_zero, List.set_cons_succ]
                  refine' wpAnyE_take (i := 35) (v := _) rfl (by kernel_rfl) (by kernel_rfl) (by kernel_rfl) (by kernel_rfl) (fun _ _ _ h => h) (Or.inl ⟨by rfl, fun u hu => ?_⟩) hHeld hClosed (fun hNext => ?_)
                  rotate_left
                  · (try dsimp only at hu)
                    go_simp
                    try with_reducible rfl
                  clear hClosed
                  have hClosed := hNext
                  clear hNext
                  try simp only [Act.put, List.getElem_toArray, List.getElem_cons_zero, List.getElem_cons_succ, List.setIfInBounds_toArray, List.set_cons_zero, List.set_cons_succ]
                  refine' wpAnyE_take (i := 36) (v := _) rfl (by kernel_rfl) (by kernel_rfl) (by kernel_rfl) (by kernel_rfl) (fun _ _ _ h => h) (Or.inl ⟨by rfl, fun u hu => ?_⟩) hHeld hClosed (fun hNext => ?_)
                  rotate_left
                  · (try dsimp only at hu)
                    go_simp
                    try with_reducible rfl
                  clear hClosed
                  have hClosed := hNext
                  clear hNext
                  try simp only [Act.put, List.getElem_toArray, List.getElem_cons_zero, List.getElem_cons_succ, List.setIfInBounds_toArray, List.set_cons_zero, List.set_cons_succ]
                  refine' wpAnyE_take (i := 37) (v := _) rfl (by kernel_rfl) (by kernel_rfl) (by kernel_rfl) (by kernel_rfl) (fun _ _ _ h => h) (Or.inl ⟨by rfl, fun u hu => ?_⟩) hHeld hClosed (fun hNext => ?_)
                  rotate_left
                  · (try dsimp only at hu)
                    go_simp
                    try with_reducible rfl
                  clear hClosed
                  have hClosed := hNext
                  clear hNext
                  try simp only [Act.put, List.getElem_toArray, List.getElem_cons_zero, List.getElem_cons_succ, List.setIfInBounds_toArray, List.set_cons_zero, List.set_cons_succ]
                  refine' wpAnyE_take (i := 38) (v := _) rfl (by kernel_rfl) (by kernel_rfl) (by kernel_rfl) (by kernel_rfl) (fun _ _ _ h => h) (Or.inl ⟨by rfl, fun u hu => ?_⟩) hHeld hClosed (fun hNext => ?_)
                  rotate_left
                  · (try dsimp only at hu)
                    go_simp
                    try with_reducible rfl
                  clear hClosed
                  have hClosed := hNext
                  clear hNext
                  try simp only [Act.put, List.getElem_toArray, List.getElem_cons_zero, List.getElem_cons_succ, List.setIfInBounds_toArray, List.set_cons_zero, List.set_cons_succ]
                  refine' wpAnyE_take (i := 39) (v := _) rfl (by kernel_rfl) (by kernel_rfl) (by kernel_rfl) (by kernel_rfl) (fun _ _ _ h => h) (Or.inl ⟨by rfl, fun u hu => ?_⟩) hHeld hClosed (fun hNext => ?_)
                  rotate_left
                  · (try dsimp only at hu)
                    go_simp
                    try with_reducible rfl
                  clear hClosed
                  have hClosed := hNext
                  clear hNext
                  try simp only [Act.put, List.getElem_toArray, List.getElem_cons_zero, List.getElem_cons_succ, List.setIfInBounds_toArray, List.set_cons_zero, List.set_cons_succ]
                  refine' wpAnyE_take (i := 40) (v := _) rfl (by kernel_rfl) (by kernel_rfl) (by kernel_rfl) (by kernel_rfl) (fun _ _ _ h => h) (Or.inl ⟨by rfl, fun u hu => ?_⟩) hHeld hClosed (fun hNext => ?_)
                  rotate_left
                  · (try dsimp only at hu)
                    go_simp
                    try with_reducible rfl
                  clear hClosed
                  have hClosed := hNext
                  clear hNext
                  try simp only [Act.put, List.getElem_toArray, List.getElem_cons_zero, List.getElem_cons_succ, List.setIfInBounds_toArray, List.set_cons_zero, List.set_cons_succ]
                  refine' wpAnyE_take (i := 41) (v := _) rfl (by kernel_rfl) (by kernel_rfl) (by kernel_rfl) (by kernel_rfl) (fun _ _ _ h => h) (Or.inl ⟨by rfl, fun u hu => ?_⟩) hHeld hClosed (fun hNext => ?_)
                  rotate_left
                  · (try dsimp only at hu)
                    go_simp
                    try with_reducible rfl
                  clear hClosed
                  have hClosed := hNext
                  clear hNext
                  try simp only [Act.put, List.getElem_toArray, List.getElem_cons_zero, List.getElem_cons_succ, List.setIfInBounds_toArray, List.set_cons_zero, List.set_cons_succ]
                  refine' wpAnyE_take (i := 42) (v := _) rfl (by kernel_rfl) (by kernel_rfl) (by kernel_rfl) (by kernel_rfl) (fun _ _ _ h => h) (Or.inl ⟨by rfl, fun u hu => ?_⟩) hHeld hClosed (fun hNext => ?_)
                  rotate_left
                  · (try dsimp only at hu)
                    go_simp
                    try with_reducible rfl
                  clear hClosed
                  have hClosed := hNext
                  clear hNext
                  try simp only [Act.put, List.getElem_toArray, List.getElem_cons_zero, List.getElem_cons_succ, List.setIfInBounds_toArray, List.set_cons_zero, List.set_cons_succ]
                  refine wpAnyE_done (by kernel_rfl) ?_ _
                  clear hClosed
                  clear hHeld hk0
                  go_wp2_with fail
                  go_roundw
                  case rel => exact ⟨i + 1, by omega, by go_num, BD.out⟩
                  case measure => simp [intOf]; omega
            · obtain rfl : i = classes.length := by omega
              go_wp2_with fail
              go_ret
              exact ⟨rfl, B0.out.trans ((below_then (below_then B3.out HB.out) HBF.out).mono B0.out.size)⟩
    · have hRc : R = classes := by rw [← HR.out, ofB, if_neg he]
      rw [hRc] at L3
      have LC := Lib.hid L3.out
      clear hRc
      rcases d1 : ((chars.length : Int) != (classes.length : Int)) with _ | _
      · have d2 : ((first.length : Int) != (classes.length : Int)) = true := by
          simp at d1 ⊢
          omega
        clear he
        go_wp2_with fail
        clear x0 x1 x2
        refine (ints_ok A3 A' classes c3 c' w2 LC.out KB.out (by omega)).mono ?_
        rintro e w3 ⟨rfl, b3⟩
        have B3 := Lib.hid (below_then B2.out b3)
        clear b3
        go_wp2
        go_ret
        exact ⟨rfl, B0.out.trans (B3.out.mono B0.out.size)⟩
      · clear he
        go_wp2_with fail
        clear x0 x1 x2
        refine (ints_ok A3 A' classes c3 c' w2 LC.out KB.out (by omega)).mono ?_
        rintro e w3 ⟨rfl, b3⟩
        have B3 := Lib.hid (below_then B2.out b3)
        clear b3
        go_wp2
        go_ret
        exact ⟨rfl, B0.out.trans (B3.out.mono B0.out.size)⟩

set_option maxRecDepth 20000 in
set_option maxHeartbeats 1000000 in
theorem walk_long (w : World) (A : Option Addr) (n : Nat) (c : Nat) (A' : Option Addr) (m c' : Nat) (A2 : Option Addr) (k c2 : Nat) (hl : n ≤ 9223372036854775807) (hl' : m ≤ 9223372036854775807) (hl2 : k ≤ 9223372036854775807) (hh : 200 < n ∨ 200 < m ∨ 200 < k) (level : Int) (bb : Bool) :
    Calls Try.prog 6 #[.agg #[.slice A n c, .slice A' m c', .slice A2 k c2], .int .i64 level, .bool bb] w fun e w' => e = .returned (.bool true) ∧ Below w.heap.size w w' := by
  have BX : Hid (∀ u, Below (w.alloc (.cells #[.slice A n c, .slice A' m c', .slice A2 k c2] 33)).heap.size (w.alloc (.cells #[.slice A n c, .slice A' m c', .slice A2 k c2] 33)) u → u.cell? ⟨w.heap.size, 0, none⟩ = some (.slice A n c) ∧ u.cell? ⟨w.heap.size, 1, none⟩ = some (.slice A' m c') ∧ u.cell? ⟨w.heap.size, 2, none⟩ = some (.slice A2 k c2)) :=
    Lib.hid fun u hu => ⟨boxed hu rfl, boxed hu rfl, boxed hu rfl⟩
  have B0 : Hid (Below w.heap.size w (w.alloc (.cells #[.slice A n c, .slice A' m c', .slice A2 k c2] 33))) := Lib.hid (below_alloc w _)
  by_cases h1 : 200 < n
  · clear hh
    go_enter Try.func6, Try.ntmps6
    go_wp2_with fail
    refine (balive_any _).mono ?_
    rintro e w1 ⟨rfl, b1⟩
    have B1 := Lib.hid b1
    have D1 := Lib.hid b1
    clear b1
    obtain ⟨x0, x1, x2⟩ := BX.out w1 B1.out
    go_wp2
    go_ret
    exact ⟨rfl, below_then B0.out B1.out⟩
  · by_cases h3 : 200 < m
    · clear hh
      go_enter Try.func6, Try.ntmps6
      go_wp2_with fail
      refine (balive_any _).mono ?_
      rintro e w1 ⟨rfl, b1⟩
      have B1 := Lib.hid b1
      have D1 := Lib.hid b1
      clear b1
      obtain ⟨x0, x1, x2⟩ := BX.out w1 B1.out
      go_wp2
      go_ret
      exact ⟨rfl, below_then B0.out B1.out⟩
    · have h4 : 200 < k := by omega
      clear hh
      go_enter Try.func6, Try.ntmps6
      go_wp2_with fail
      refine (balive_any _).mono ?_
      rintro e w1 ⟨rfl, b1⟩
      have B1 := Lib.hid b1
      have D1 := Lib.hid b1
      clear b1
      obtain ⟨x0, x1, x2⟩ := BX.out w1 B1.out
      go_wp2
      go_ret
      exact ⟨rfl, below_then B0.out B1.out⟩

theorem walk (w : World) (A : Option Addr) (l : List Int) (c : Nat) (A' : Option Addr) (m : List Int) (c' : Nat) (A2 : Option Addr) (k : List Int) (c2 : Nat) (h : l.length ≤ c ∧ c ≤ maxLen ∧ Lies w w.heap.size A (ints .i64 l)) (h' : m.length ≤ c' ∧ c' ≤ maxLen ∧ Lies w w.heap.size A' (ints .i64 m)) (h2 : k.length ≤ c2 ∧ c2 ≤ maxLen ∧ Lies w w.heap.size A2 (ints .i64 k))
    (level : Int) (_ : (Lit.int .i64 level).wf = true) (bb : Bool) :
    Calls Try.prog 6 #[.agg #[.slice A l.length c, .slice A' m.length c', .slice A2 k.length c2], .int .i64 level, .bool bb] w fun e w' => e = .returned (.bool true) ∧ Below w.heap.size w w' := by
  unfold maxLen at h h' h2
  by_cases hh : 200 < l.length ∨ 200 < m.length ∨ 200 < k.length
  · exact walk_long w A _ c A' _ c' A2 _ c2 (by omega) (by omega) (by omega) hh level bb
  · exact walk_ok w A l c A' m c' A2 k c2 (by omega) (by omega) (by omega) h.2.2 h'.2.2 h2.2.2 level bb
-- WRAP
theorem spec : LawSpec Rows.brackKeepsSpec 3 := ⟨rfl, fun H ds h => by
  match ds, h with
  | [d0, d1, d2], _ => rfl⟩
theorem params_ok : ∀ t ∈ Try.f6.params.toList, Try.prog.readableRec t = true ∧ t < Try.prog.types.size := by
  rw [Try.params6]
  intro t ht
  simp only [List.mem_cons, List.mem_nil_iff, or_false] at ht
  rcases ht with rfl | rfl | rfl
  all_goals exact ⟨by kernel_rfl, of_decide_eq_true (by kernel_rfl)⟩

theorem contract (H : Type) (enc : TypeId × Value → H) (W : World) (base : Nat) (args : Array Value) (ds gs : List (DataW H)) (before : List MemPlace)
    (hval : ∀ (j : Nat) t v, Try.f6.params[j]? = some t → args[j]? = some v → Value.okWide Try.prog W .any base t v)
    (hW : DataW.Whole enc Try.prog Try.f6.params.toList Rows.brackKeepsSpec.vars false W args.toList ds gs before) :
    Calls Try.prog 6 args W fun e W' => ∃ v, e = .returned v ∧ Rows.brackKeepsSpec.post enc Try.prog Try.f6 false true false false W args v W' := by
  have hW' := hW
  obtain ⟨p, q, hA0, hV, rfl, hfz, hnd⟩ := hW
  have hA : DataW.TrodAll enc Try.prog W 0 (fun _ => true) true Try.f6.params.toList args.toList ds p := hA0
  rw [Try.params6] at hA hval
  obtain ⟨v0, vs0, d0, ds0, p0, q0, hargs, rfl, rfl, h0, r0⟩ := trodAll_cons hA
  obtain ⟨v1, vs1, d1, ds1, p1, q1, rfl, rfl, rfl, h1, r1⟩ := trodAll_cons r0
  obtain ⟨v2, vs2, d2, ds2, p2, q2, rfl, rfl, rfl, h2, r2⟩ := trodAll_cons r1
  obtain ⟨rfl, rfl, rfl⟩ := trodAll_nil r2
  obtain rfl : args = #[v0, v1, v2] := by cases args; simp_all
  obtain ⟨A0, l0, c0, A0', l0', c0', A0q, l0q, c0q, rfl, t0, t0', t0q⟩ := open_lists3 Try.underlying33 (by kernel_rfl) (by kernel_rfl) Try.underlying22 Try.underlying22 Try.underlying22 Try.underlying3 (by kernel_rfl) (hval 0 33 v0 rfl rfl) h0
  obtain ⟨a1, rfl, rfl, rfl, w1⟩ := open_int Try.underlying3 (hval 1 3 v1 rfl rfl) h1
  obtain ⟨a2, rfl, rfl, rfl⟩ := open_bool Try.underlying4 (hval 2 4 v2 rfl rfl) h2
  exact (walk W A0 l0 c0 A0' l0' c0' A0q l0q c0q t0 t0' t0q a1 w1 a2).mono fun e W' ⟨he, hg⟩ => ⟨_, he, law_post spec (by rw [Try.params6]; rfl) (by kernel_rfl) params_ok (by kernel_rfl) Try.underlying4 hW' hg⟩

theorem own : ownKnob Try.prog.godebug = none := by kernel_rfl
set_option maxRecDepth 100000 in
theorem lifted (os : Os) (started : os.Started) (H : Type) (enc : TypeId × Value → H) :
    ReturnsInHanded {} Try.checked os 6 .any (Rows.brackKeepsSpec.pre6 enc Try.prog Try.f6 Rows.brackKeepsRow.domain false) (Rows.brackKeepsSpec.post enc Try.prog Try.f6 false true false false) := by
  refine returnsInHanded_of_change (C := Try.checked) own started (by kernel_rfl) Try.func6
    (ChangeSpec.witness6 (enc := enc) (C := Try.checked) false ⟨#[], #[.agg #[.slice none 0 0, .slice none 0 0, .slice none 0 0], .int .i64 0, .bool false], []⟩ 8 (by kernel_rfl) (by kernel_rfl) (by kernel_rfl) (by kernel_rfl)) ?_
  intro W base args ds gs before hval hW _ _
  exact contract H enc W base args ds gs before hval hW
theorem said : Rows.BrackKeepsSaid :=
  OpenClaim.holds_of_wide 6 Try.f6 rfl rfl rfl rfl rfl rfl rfl ⟨rfl, rfl, rfl, rfl, rfl⟩ rfl rfl rfl rfl rfl (by kernel_rfl) Try.func6 (by kernel_rfl)
    (of_decide_eq_true (by kernel_rfl)) (by unfold Func.isWrapper; first | (rw [if_pos (by decide +kernel)]; kernel_rfl) | (rw [if_neg (by decide +kernel)]; exact ⟨rfl, rfl⟩))
    (fun os started H enc _ => lifted os started H enc)
end Go.Proofs.Ytoiolgpbecgfkaa.lawKeeps
