/- Shared texts, shaken for one claim. -/
import Derived.Test.YtadfleopbpomfaaZA2
import Derived.Test.YtadfleopbpomfaaZA21
namespace Go.Proofs.Ytadfleopbpomfaa
open Go.RowKit
def eK (p k : Int) (nx : Option Int) : Int := if k = 5 ∧ (p = 3 ∨ nx = some 3) then 3 else k
def eP : Int → List Int → List Int
 | _, [] => []
 | p, k :: l => eK p k l.head? :: eP (eK p k l.head?) l
theorem eP_length : ∀ (p : Int) (l : List Int), (eP p l).length = l.length
 | _, [] => rfl
 | p, k :: l => by rw [eP, List.length_cons, List.length_cons, eP_length]
theorem eP_at : ∀ (p : Int) (l : List Int) (k : Nat), k < l.length → eK ((p :: eP p l).getD k 0) (l.getD k 0) l[k + 1]? = (eP p l).getD k 0
 | _, [], k, h => by simp at h
 | p, x :: l, 0, _ => by
  show eK p x (x :: l)[0 + 1]? = _
  rw [Nat.zero_add, List.getElem?_cons_succ, ← List.head?_eq_getElem?]
  rfl
 | p, x :: l, k + 1, h => by
  have := eP_at (eK p x l.head?) l k (by simpa using h)
  rw [List.getElem?_cons_succ]
  exact this
theorem eK_other {p k : Int} {nx : Option Int} (h : k ≠ 5) : eK p k nx = k := by rw [eK, if_neg (fun e => h e.1)]
theorem eK_stay {p : Int} {nx : Option Int} (h1 : p ≠ 3) (h2 : nx ≠ some 3) : eK p 5 nx = 5 := by rw [eK, if_neg (by rintro ⟨_, h | h⟩ <;> contradiction)]
theorem eK_turn {p : Int} {nx : Option Int} (h : p = 3 ∨ nx = some 3) : eK p 5 nx = 3 := by rw [eK, if_pos ⟨rfl, h⟩]
theorem near_pass : ∀ (q : Int) (l : List Int), q ≠ 3 → nearEN (eP q l) = nearEN l
 | _, [], _ => rfl
 | q, x :: l, hq => by
  rw [eP, nearEN, nearEN]
  by_cases h5 : x = 5
  ·subst h5
   by_cases hh : l.head? = some 3
   ·rw [eK_turn (.inr hh)]
    cases l with
    | nil => simp at hh
    | cons y l =>
     have hy : y = 3 := by simpa using hh
     subst hy
     simp [nearEN]
   ·rw [eK_stay hq hh, near_pass 5 l (by decide)]
  ·rw [eK_other h5]
   have e : (x == 5) = false := by simp [h5]
   rw [e, Bool.false_and, Bool.false_and]
theorem same_close : ∀ (l : List Int) (p : Int) (b : Bool), (p = 3 → b = true) → rW5 b (eP p l) = rW5 b l
 | [], _, _, _ => rfl
 | k :: l, p, b, h => by
  rw [eP, rW5, rW5]
  by_cases h5 : k = 5
  ·subst h5
   by_cases ht : p = 3 ∨ l.head? = some 3
   ·have hb : (b || nearEN l) = true := by
     rcases ht with ht | ht
     ·rw [h ht, Bool.true_or]
     ·cases l with
      | nil => simp at ht
      | cons y l =>
       have hy : y = 3 := by simpa using ht
       subst hy
       simp [nearEN]
    rw [eK_turn ht, hb, if_neg (by rintro ⟨h, _⟩; exact absurd h (by decide)), if_pos ⟨rfl, rfl⟩]
    have := same_close l 3 true (fun _ => rfl)
    simpa using this
   ·have h3 : p ≠ 3 := fun e => ht (.inl e)
    rw [eK_stay h3 (fun e => ht (.inr e)), near_pass 5 l (by decide)]
    rw [same_close l 5 _ (fun e => absurd e (by decide))]
  ·rw [eK_other h5]
   have e : (k == 5) = false := by simp [h5]
   rw [if_neg (fun x => h5 x.1), if_neg (fun x => h5 x.1), e, Bool.false_and, Bool.or_false, Bool.false_and, Bool.or_false]
   rw [same_close l k (k == 3) (fun e => by simp [e])]
theorem near_none : ∀ l : List Int, eP 5 l = l → l.head? ≠ some 3 → nearEN l = false
 | [], _, _ => rfl
 | x :: l, h, hh => by
  have h3 : x ≠ 3 := by simpa using hh
  rw [eP] at h
  injection h with h1 h2
  rw [h1] at h2
  by_cases h5 : x = 5
  ·subst h5
   have hn : l.head? ≠ some 3 := fun e => by rw [eK_turn (.inr e)] at h1; exact absurd h1 (by decide)
   rw [nearEN, near_none l h2 hn]
   decide
  ·rw [nearEN]
   simp [h3, h5]
theorem fixed_close : ∀ (l : List Int) (p : Int) (b : Bool), (b = true → p = 3) → eP p l = l → rW5 b l = l
 | [], _, _, _, _ => rfl
 | k :: l, p, b, hb, h => by
  rw [eP] at h
  injection h with h1 h2
  rw [h1] at h2
  rw [rW5]
  by_cases h5 : k = 5
  ·subst h5
   have hp : p ≠ 3 := fun e => by rw [eK_turn (.inl e)] at h1; exact absurd h1 (by decide)
   have hh : l.head? ≠ some 3 := fun e => by rw [eK_turn (.inr e)] at h1; exact absurd h1 (by decide)
   have hbf : b = false := by cases b with
    | false => rfl
    | true => exact absurd (hb rfl) hp
   rw [hbf, near_none l h2 hh, if_neg (by rintro ⟨_, h⟩; exact absurd h (by decide))]
   have := fixed_close l 5 false (fun e => by cases e) h2
   simpa using this
  ·have e : (k == 5) = false := by simp [h5]
   rw [if_neg (fun x => h5 x.1), e, Bool.false_and, Bool.or_false, fixed_close l k (k == 3) (fun e => by simpa using e) h2]
theorem count_pass : ∀ (l : List Int) (p : Int), (eP p l).count 5 ≤ l.count 5 ∧ (eP p l ≠ l → (eP p l).count 5 < l.count 5)
 | [], _ => ⟨Nat.le_refl _, fun h => absurd rfl h⟩
 | k :: l, p => by
  obtain ⟨h1, h2⟩ := count_pass l (eK p k l.head?)
  rw [eP, List.count_cons, List.count_cons]
  by_cases ht : k = 5 ∧ (p = 3 ∨ l.head? = some 3)
  ·obtain ⟨rfl, ht⟩ := ht
   rw [eK_turn ht] at h1 h2 ⊢
   have e3 : ((3 : Int) == 5) = false := by decide
   have e5 : ((5 : Int) == 5) = true := by decide
   rw [e3, e5, if_neg (by decide), if_pos rfl]
   exact ⟨by omega, fun _ => by omega⟩
  ·have e : eK p k l.head? = k := by rw [eK, if_neg ht]
   rw [e] at h1 h2 ⊢
   exact ⟨by omega, fun hne => by
    have := h2 (fun e2 => hne (by rw [e2]))
    omega⟩
def ePass (l : List Int) : Nat → List Int
 | 0 => l
 | n + 1 => eP (-1) (ePass l n)
theorem eN_length (l : List Int) : ∀ n, (ePass l n).length = l.length
 | 0 => rfl
 | n + 1 => by rw [ePass, eP_length, eN_length]
theorem eN_close (l : List Int) : ∀ n, rW5 false (ePass l n) = rW5 false l
 | 0 => rfl
 | n + 1 => by rw [ePass, same_close _ _ _ (fun e => absurd e (by decide)), eN_close l n]
theorem eN_stop (l : List Int) : ∀ n, eP (-1) (ePass l n) = ePass l n ∨ (ePass l n).count 5 + n ≤ l.count 5
 | 0 => .inr (Nat.le_refl _)
 | n + 1 => by
  rcases eN_stop l n with h | h
  ·left; rw [ePass, h, h]
  ·by_cases he : eP (-1) (ePass l n) = ePass l n
   ·left; rw [ePass, he, he]
   ·right
    have := (count_pass (ePass l n) (-1)).2 he
    rw [ePass]
    omega
theorem ePass_all (l : List Int) : ePass l (l.length + 1) = rW5 false l := by
 have h : eP (-1) (ePass l (l.length + 1)) = ePass l (l.length + 1) := by
  rcases eN_stop l (l.length + 1) with h | h
  ·exact h
  ·have : l.count 5 ≤ l.length := List.count_le_length
   omega
 rw [← eN_close l (l.length + 1), fixed_close _ (-1) false (fun e => by cases e) h]
theorem ofI_plain (l : List Int) (sos : Int) : ofI (plainL l) sos = ofI l sos := by
 rw [(ofI_eq (plainL l) sos).1, (ofI_eq l sos).1, plainL_of (plainL_free l)]
end Go.Proofs.Ytadfleopbpomfaa
namespace Go.Proofs.Ytadfleopbpomfaa
open Go.RowKit
theorem rside09_any (s : Int) (w : World) : Calls Try.prog 76 #[.int .i64 s] w fun ed w' => ed = .returned (.int .i64 (sideK s)) ∧ w = w' := by
 rcases h : (s == 1) with _ | _
 ·have hz : sideK s = 0 := by rw [sideK, if_neg (by simpa using h)]
  rw [hz]
  go_enter Try.func76, Try.ntmps76
  go_wp2
  go_ret
  exact ⟨rfl, rfl⟩
 ·have hz : sideK s = 1 := by rw [sideK, if_pos (by simpa using h)]
  rw [hz]
  go_enter Try.func76, Try.ntmps76
  go_wp2
  go_ret
  exact ⟨rfl, rfl⟩
set_option maxRecDepth 20000 in
set_option maxHeartbeats 4000000 in
theorem rmarks09_any (s : Int) (hs01 : s = 0 ∨ s = 1) : Ruled 77 [.int .i64 s] (rW1 s) := by
 refine ruled_of (w1_length s) ?_ ?_
 ·intro A c w
  show Calls _ _ #[.slice A 0 c, .int .i64 s] _ _
  go_enter Try.func77, Try.ntmps77
  go_wp2_with fail
  go_loopw [4] (fun i wr => i = .int .i64 0 ∧ w = wr) (fun _ _ => 0)
  case atStart => exact ⟨rfl, rfl⟩
  case round =>
   obtain ⟨rfl, rfl⟩ := hrel
   go_wp2
   exact bodyPost_end (results_none rfl _ _ _) rfl ⟨rfl, rfl⟩
 ·intro B c g l w hpos hl hB hr
  show Calls _ _ #[.slice (some ⟨g, 0, none⟩) l.length c, .int .i64 s] _ _
  obtain ⟨L', hL'⟩ : ∃ x, rW1 s l = x := ⟨_, rfl⟩
  have HLL : Hid (L'.length = l.length) := Lib.hid (by rw [← hL', w1_length])
  have HAT : Hid (∀ k, k < l.length → w1K ((s :: L').getD k 0) (l.getD k 0) = L'.getD k 0) := Lib.hid fun k hk => by rw [← hL']; exact w1_at s l k hk
  rw [hL']
  have HR : Hid (Row w B 3 g c (ints .i64 (mixL l L' 0))) := Lib.hid (by rw [mixL_zero]; exact hr)
  clear hr hL' hB
  go_enter Try.func77, Try.ntmps77
  go_wp2_with fail
  go_loopw [4] (fun i wr => ∃ k : Nat, k ≤ l.length ∧ i = .int .i64 k ∧ Hid (Row wr B 3 g c (ints .i64 (mixL l L' k))) ∧ Hid (Below B w wr)) (fun i _ => l.length - (intOf i).toNat)
  case atStart => exact ⟨0, by omega, rfl, HR, Lib.hid (Below.refl _ _)⟩
  case round =>
   obtain ⟨k, hk, rfl, HRk, HB⟩ := hrel
   by_cases hlt : k < l.length
   ·obtain ⟨x, hx⟩ : ∃ x, l.getD k 0 = x := ⟨_, rfl⟩
    have hc : wr.cell? ⟨g, k, none⟩ = some (.int .i64 x) := row_int HRk.out (by rw [mix_at HLL.out hk (Nat.le_refl _), List.getElem?_eq_getElem hlt, ← getD_at hlt, hx])
    have hat := HAT.out k hlt
    rw [hx] at hat
    have HX := Lib.hid hx
    have k0 : (0 : Int) ≤ (k : Int) := by omega
    have k1 : (k : Int) < (l.length : Int) := by omega
    have hjl : k < (ints .i64 (mixL l L' k)).length := by rw [ints, List.length_map, mixL_all HLL.out]; exact hlt
    have HJL := Lib.hid hjl
    clear hjl hx
    rcases h8 : (x != 8) with _ | _
    ·obtain rfl : x = 8 := by simpa using h8
     rcases k with _ | j
     ·have HV : Hid (L'.getD 0 0 = s) := Lib.hid (by
       rw [← hat, List.getD_cons_zero, w1K, if_pos rfl, if_neg]
       rcases hs01 with rfl | rfl <;> decide)
      clear hat
      go_wp2_with (first
       | (refine store_row intsT wr B _ _ g 0 c .i64 s (ints .i64 (mixL l L' (0))) w rfl rfl rfl rfl rfl HRk.out HJL.out HB.out ?_; intro w5 r5 b5 g5; have R5 := Lib.hid r5; have B5 := Lib.hid b5; clear r5 b5 g5)
       | fail)
      go_roundw
      case rel => exact ⟨0 + 1, by omega, by go_num, Lib.hid (by have := R5.out; rw [ints_set, ← HV.out, mix_put HLL.out (by omega)] at this; exact this), B5⟩
      case measure => simp [intOf]; omega
     ·obtain ⟨y, hy⟩ : ∃ y, L'.getD j 0 = y := ⟨_, rfl⟩
      have hcy : wr.cell? ⟨g, j, none⟩ = some (.int .i64 y) := row_int HRk.out (by rw [mix_done HLL.out hk (by omega), hy])
      have hv : L'.getD (j + 1) 0 = if isOpens y ∨ y = 22 then 13 else y := by rw [← hat, List.getD_cons_succ, hy, w1K, if_pos rfl]
      have j0 : (0 : Int) ≤ (j : Int) := by omega
      have j1 : (j : Int) < (l.length : Int) := by omega
      clear hat hy
      rcases ho : isOpens y with _ | _
      ·have HO := Lib.hid ho
       rcases h2 : (y == 22) with _ | _
       ·have HV : Hid (L'.getD (j + 1) 0 = y) := Lib.hid (by rw [hv, ho, if_neg (by simpa using h2)])
        clear hv ho
        go_wp2_with fail
        refine (ropens_any y wr).mono ?_
        rintro e wq ⟨rfl, rfl⟩
        rw [HO.out]
        go_wp2_with (first
         | (refine store_row intsT wr B _ _ g (j + 1) c .i64 y (ints .i64 (mixL l L' ((j + 1)))) w rfl rfl rfl rfl rfl HRk.out HJL.out HB.out ?_; intro w5 r5 b5 g5; have R5 := Lib.hid r5; have B5 := Lib.hid b5; clear r5 b5 g5)
         | fail)
        go_roundw
        case rel => exact ⟨(j + 1) + 1, by omega, by go_num, Lib.hid (by have := R5.out; rw [ints_set, ← HV.out, mix_put HLL.out (by omega)] at this; exact this), B5⟩
        case measure => simp [intOf]; omega
       ·have HV : Hid (L'.getD (j + 1) 0 = 13) := Lib.hid (by rw [hv, if_pos (.inr (by simpa using h2))])
        clear hv ho
        go_wp2_with fail
        refine (ropens_any y wr).mono ?_
        rintro e wq ⟨rfl, rfl⟩
        rw [HO.out]
        go_wp2_with (first
         | (refine store_row intsT wr B _ _ g (j + 1) c .i64 13 (ints .i64 (mixL l L' ((j + 1)))) w rfl rfl rfl rfl rfl HRk.out HJL.out HB.out ?_; intro w5 r5 b5 g5; have R5 := Lib.hid r5; have B5 := Lib.hid b5; clear r5 b5 g5)
         | fail)
        go_roundw
        case rel => exact ⟨(j + 1) + 1, by omega, by go_num, Lib.hid (by have := R5.out; rw [ints_set, ← HV.out, mix_put HLL.out (by omega)] at this; exact this), B5⟩
        case measure => simp [intOf]; omega
      ·have HO := Lib.hid ho
       have HV : Hid (L'.getD (j + 1) 0 = 13) := Lib.hid (by rw [hv, if_pos (.inl ho)])
       clear hv ho
       go_wp2_with fail
       refine (ropens_any y wr).mono ?_
       rintro e wq ⟨rfl, rfl⟩
       rw [HO.out]
       go_wp2_with (first
        | (refine store_row intsT wr B _ _ g (j + 1) c .i64 13 (ints .i64 (mixL l L' ((j + 1)))) w rfl rfl rfl rfl rfl HRk.out HJL.out HB.out ?_; intro w5 r5 b5 g5; have R5 := Lib.hid r5; have B5 := Lib.hid b5; clear r5 b5 g5)
        | fail)
       go_roundw
       case rel => exact ⟨(j + 1) + 1, by omega, by go_num, Lib.hid (by have := R5.out; rw [ints_set, ← HV.out, mix_put HLL.out (by omega)] at this; exact this), B5⟩
       case measure => simp [intOf]; omega
    ·have HS : Hid (mixL l L' k = mixL l L' (k + 1)) := Lib.hid (mix_stay HLL.out hlt (by rw [← hat, HX.out, w1K, if_neg (by simpa using h8)]))
     clear hat
     go_wp2_with fail
     go_roundw
     case rel => exact ⟨k + 1, by omega, by go_num, by rw [← HS.out]; exact HRk, HB⟩
     case measure => simp [intOf]; omega
   ·obtain rfl : k = l.length := by omega
    go_wp2
    exact bodyPost_end (results_none rfl _ _ _) rfl ⟨rfl, by have := HRk.out; rw [mixL_end HLL.out (Nat.le_refl _)] at this; exact this, HB.out⟩
end Go.Proofs.Ytadfleopbpomfaa
namespace Go.Proofs.Ytadfleopbpomfaa
open Go.RowKit
def atL (l : List Int) (i : Int) : Int := if 0 ≤ i then (l[i.toNat]?).getD (-1) else -1
set_option maxHeartbeats 1000000 in
theorem rat09_any (A : Option Addr) (l : List Int) (c : Nat) (i : Int) (w : World) (h : Lies w w.heap.size A (ints .i64 l)) :
 Calls Try.prog 91 #[.slice A l.length c, .int .i64 i] w fun ed w' => ed = .returned (.int .i64 (atL l i)) ∧ w = w' := by
 have H := Lib.hid h
 clear h
 by_cases h0 : i < 0
 ·have hz : atL l i = -1 := by rw [atL, if_neg (by omega)]
  rw [hz]
  clear H
  go_enter Try.func91, Try.ntmps91
  go_wp2
  go_ret
  exact ⟨rfl, rfl⟩
 obtain ⟨n, rfl⟩ : ∃ n : Nat, i = n := ⟨i.toNat, by omega⟩
 clear h0
 by_cases hlt : n < l.length
 ·obtain ⟨p, rfl, _, hc⟩ := H.out.int hlt
  have hz : atL l n = l[n] := by rw [atL, if_pos (by omega), Int.toNat_natCast, List.getElem?_eq_getElem hlt, Option.getD_some]
  rw [hz]
  obtain ⟨x, hx⟩ : ∃ x, l[n] = x := ⟨_, rfl⟩
  rw [hx] at hc ⊢
  have b0 : (0 : Int) ≤ (n : Int) := by omega
  have b1 : (n : Int) < (l.length : Int) := by omega
  have b2 : decide ((l.length : Int) ≤ (n : Int)) = false := by simp; omega
  clear hx hz H
  go_enter Try.func91, Try.ntmps91
  go_wp2
  go_ret
  exact ⟨rfl, rfl⟩
 ·have hz : atL l n = -1 := by rw [atL, if_pos (by omega), Int.toNat_natCast, List.getElem?_eq_none (by omega)]; rfl
  rw [hz]
  clear H hz
  go_enter Try.func91, Try.ntmps91
  go_wp2
  go_ret
  exact ⟨rfl, rfl⟩
theorem at_next {l l' : List Int} (hl : l'.length = l.length) {k : Nat} (hk : k ≤ l.length) : atL (mixL l l' k) ((k : Int) + 1) = (l[k + 1]?).getD (-1) := by
 rw [atL, if_pos (by omega), show ((k : Int) + 1).toNat = k + 1 by omega, mix_at hl hk (by omega)]
theorem at_prev {l l' : List Int} (hl : l'.length = l.length) {k : Nat} (hk : k ≤ l.length) : atL (mixL l l' k) ((k : Int) - 1) = ((-1 : Int) :: l').getD k 0 := by
 cases k with
 | zero => rfl
 | succ j => rw [atL, if_pos (by omega), show (((j + 1 : Nat) : Int) - 1).toNat = j by omega, mix_done hl hk (by omega), Option.getD_some, List.getD_cons_succ]
theorem nx_some {nx : Option Int} {m : Int} (hm : m ≠ -1) : nx = some m ↔ nx.getD (-1) = m := by
 cases nx with
 | none => simp; omega
 | some x => simp
theorem w4_by (p x : Int) (nx : Option Int) : w4K p x nx = if (x = 4 ∧ p = 3 ∧ nx.getD (-1) = 3) ∨ (x = 7 ∧ p = nx.getD (-1) ∧ (p = 3 ∨ p = 6)) then p else x := by
 have e : ((x = 4 ∧ p = 3 ∧ nx = some 3) ∨ (x = 7 ∧ (p = 3 ∨ p = 6) ∧ nx = some p)) ↔ ((x = 4 ∧ p = 3 ∧ nx.getD (-1) = 3) ∨ (x = 7 ∧ p = nx.getD (-1) ∧ (p = 3 ∨ p = 6))) := by
  rw [nx_some (m := 3) (by decide)]
  constructor
  ·rintro (h | ⟨h1, h2, h3⟩)
   ·exact .inl h
   ·exact .inr ⟨h1, ((nx_some (by omega)).1 h3).symm, h2⟩
  ·rintro (h | ⟨h1, h2, h3⟩)
   ·exact .inl h
   ·exact .inr ⟨h1, h3, (nx_some (by omega)).2 h2.symm⟩
 rw [w4K]
 by_cases hq : (x = 4 ∧ p = 3 ∧ nx.getD (-1) = 3) ∨ (x = 7 ∧ p = nx.getD (-1) ∧ (p = 3 ∨ p = 6))
 ·rw [if_pos (e.2 hq), if_pos hq]
 ·rw [if_neg (fun h => hq (e.1 h)), if_neg hq]
theorem e_by (p x : Int) (nx : Option Int) : eK p x nx = if x = 5 ∧ (p = 3 ∨ nx.getD (-1) = 3) then 3 else x := by
 have e : (x = 5 ∧ (p = 3 ∨ nx = some 3)) ↔ (x = 5 ∧ (p = 3 ∨ nx.getD (-1) = 3)) := by rw [nx_some (m := 3) (by decide)]
 rw [eK]
 by_cases hq : x = 5 ∧ (p = 3 ∨ nx.getD (-1) = 3)
 ·rw [if_pos (e.2 hq), if_pos hq]
 ·rw [if_neg (fun h => hq (e.1 h)), if_neg hq]
set_option maxRecDepth 20000 in
set_option maxHeartbeats 4000000 in
theorem rparts09_any : Ruled 78 [] (rW4 (-1)) := by
 refine ruled_of (w4_length (-1)) ?_ ?_
 ·intro A c w
  show Calls _ _ #[.slice A 0 c] _ _
  go_enter Try.func78, Try.ntmps78
  go_wp2_with fail
  go_loopw [2] (fun i wr => i = .int .i64 0 ∧ w = wr) (fun _ _ => 0)
  case atStart => exact ⟨rfl, rfl⟩
  case round =>
   obtain ⟨rfl, rfl⟩ := hrel
   go_wp2
   exact bodyPost_end (results_none rfl _ _ _) rfl ⟨rfl, rfl⟩
 ·intro B c g l w hpos hl hB hr
  show Calls _ _ #[.slice (some ⟨g, 0, none⟩) l.length c] _ _
  obtain ⟨L', hL'⟩ : ∃ x, rW4 (-1) l = x := ⟨_, rfl⟩
  have HLL : Hid (L'.length = l.length) := Lib.hid (by rw [← hL', w4_length])
  have HAT : Hid (∀ k, k < l.length → w4K (((-1) :: L').getD k 0) (l.getD k 0) l[k + 1]? = L'.getD k 0) := Lib.hid fun k hk => by rw [← hL']; exact w4_at (-1) l k hk
  rw [hL']
  have HR : Hid (Row w B 3 g c (ints .i64 (mixL l L' 0))) := Lib.hid (by rw [mixL_zero]; exact hr)
  clear hr hL' hB
  go_enter Try.func78, Try.ntmps78
  go_wp2_with fail
  go_loopw [2] (fun i wr => ∃ k : Nat, k ≤ l.length ∧ i = .int .i64 k ∧ Hid (Row wr B 3 g c (ints .i64 (mixL l L' k))) ∧ Hid (Below B w wr)) (fun i _ => l.length - (intOf i).toNat)
  case atStart => exact ⟨0, by omega, rfl, HR, Lib.hid (Below.refl _ _)⟩
  case round =>
   obtain ⟨k, hk, rfl, HRk, HB⟩ := hrel
   by_cases hlt : k < l.length
   ·obtain ⟨x, hx⟩ : ∃ x, l.getD k 0 = x := ⟨_, rfl⟩
    have hc : wr.cell? ⟨g, k, none⟩ = some (.int .i64 x) := row_int HRk.out (by rw [mix_at HLL.out hk (Nat.le_refl _), List.getElem?_eq_getElem hlt, ← getD_at hlt, hx])
    have hat := HAT.out k hlt
    rw [hx, w4_by] at hat
    have HX := Lib.hid hx
    have k0 : (0 : Int) ≤ (k : Int) := by omega
    have k1 : (k : Int) < (l.length : Int) := by omega
    have hml : (mixL l L' k).length = l.length := mixL_all HLL.out k
    have HJL : Hid (k < (ints .i64 (mixL l L' k)).length) := Lib.hid (by rw [ints, List.length_map, hml]; exact hlt)
    have HATC : Hid (∀ i : Int, Calls Try.prog 91 #[.slice (some ⟨g, 0, none⟩) l.length c, .int .i64 i] wr fun ed w' => ed = .returned (.int .i64 (atL (mixL l L' k) i)) ∧ wr = w') := Lib.hid fun i => by
     have := rat09_any (some ⟨g, 0, none⟩) (mixL l L' k) c i wr (row_lies HRk.out)
     rw [hml] at this
     exact this
    obtain ⟨p, hp⟩ : ∃ p, ((-1 : Int) :: L').getD k 0 = p := ⟨_, rfl⟩
    obtain ⟨b, hb⟩ : ∃ b, (l[k + 1]?).getD (-1) = b := ⟨_, rfl⟩
    rw [hp, hb] at hat
    have HP : Hid (atL (mixL l L' k) ((k : Int) - 1) = p) := Lib.hid (by rw [at_prev HLL.out hk, hp])
    have HN : Hid (atL (mixL l L' k) ((k : Int) + 1) = b) := Lib.hid (by rw [at_next HLL.out hk, hb])
    have HAT2 := Lib.hid hat
    have hw1 : IntKind.i64.wrap ((k : Int) - 1) = (k : Int) - 1 := IntWalk.i64_in _ (by omega)
    have hw2 : IntKind.i64.wrap ((k : Int) + 1) = (k : Int) + 1 := IntWalk.i64_in _ (by omega)
    clear hx hml hp hb hat
    go_wp2_with fail
    refine (HATC.out ((k : Int) - 1)).mono ?_
    rintro e wq ⟨rfl, rfl⟩
    rw [HP.out]
    go_wp2_with fail
    refine (HATC.out ((k : Int) + 1)).mono ?_
    rintro e wq ⟨rfl, rfl⟩
    rw [HN.out]
    rcases e4 : (x == 4) with _ | _
    ·rcases e7 : (x == 7) with _ | _
     ·have HV : Hid (L'.getD k 0 = l.getD k 0) := Lib.hid (by rw [← HAT2.out, HX.out, if_neg]; simp only [beq_eq_false_iff_ne] at e4 e7; rintro (⟨h, _⟩ | ⟨h, _⟩) <;> contradiction)
      go_wp2_with fail
      go_roundw
      case rel => exact ⟨k + 1, by omega, by go_num, by rw [← mix_stay HLL.out (by omega) HV.out]; exact HRk, HB⟩
      case measure => simp [intOf]; omega
     ·rcases epb : (p == b) with _ | _
      ·have HV : Hid (L'.getD k 0 = l.getD k 0) := Lib.hid (by rw [← HAT2.out, HX.out, if_neg]; simp only [beq_eq_false_iff_ne] at e4 epb; rintro (⟨h, _⟩ | ⟨_, h, _⟩) <;> contradiction)
       go_wp2_with fail
       go_roundw
       case rel => exact ⟨k + 1, by omega, by go_num, by rw [← mix_stay HLL.out (by omega) HV.out]; exact HRk, HB⟩
       case measure => simp [intOf]; omega
      ·rcases e3 : (p == 3) with _ | _
       ·rcases e6 : (p == 6) with _ | _
        ·have HV : Hid (L'.getD k 0 = l.getD k 0) := Lib.hid (by rw [← HAT2.out, HX.out, if_neg]; simp only [beq_eq_false_iff_ne] at e4 e3 e6; rintro (⟨h, _⟩ | ⟨_, _, h | h⟩) <;> contradiction)
         go_wp2_with fail
         go_roundw
         case rel => exact ⟨k + 1, by omega, by go_num, by rw [← mix_stay HLL.out (by omega) HV.out]; exact HRk, HB⟩
         case measure => simp [intOf]; omega
        ·have HV : Hid (L'.getD k 0 = p) := Lib.hid (by rw [← HAT2.out, if_pos]; exact .inr ⟨by simpa using e7, by simpa using epb, .inr (by simpa using e6)⟩)
         go_wp2_with (first
          | (refine store_row intsT wr B _ _ g k c .i64 p (ints .i64 (mixL l L' (k))) w rfl rfl rfl rfl rfl HRk.out HJL.out HB.out ?_; intro w5 r5 b5 g5; have R5 := Lib.hid r5; have B5 := Lib.hid b5; clear r5 b5 g5)
          | fail)
         go_roundw
         case rel => exact ⟨k + 1, by omega, by go_num, Lib.hid (by have := R5.out; rw [ints_set, ← HV.out, mix_put HLL.out (by omega)] at this; exact this), B5⟩
         case measure => simp [intOf]; omega
       ·have HV : Hid (L'.getD k 0 = p) := Lib.hid (by rw [← HAT2.out, if_pos]; exact .inr ⟨by simpa using e7, by simpa using epb, .inl (by simpa using e3)⟩)
        go_wp2_with (first
         | (refine store_row intsT wr B _ _ g k c .i64 p (ints .i64 (mixL l L' (k))) w rfl rfl rfl rfl rfl HRk.out HJL.out HB.out ?_; intro w5 r5 b5 g5; have R5 := Lib.hid r5; have B5 := Lib.hid b5; clear r5 b5 g5)
         | fail)
        go_roundw
        case rel => exact ⟨k + 1, by omega, by go_num, Lib.hid (by have := R5.out; rw [ints_set, ← HV.out, mix_put HLL.out (by omega)] at this; exact this), B5⟩
        case measure => simp [intOf]; omega
    ·have e7 : (x == 7) = false := by simp only [beq_iff_eq] at e4; simp [e4]
     rcases e3 : (p == 3) with _ | _
     ·have HV : Hid (L'.getD k 0 = l.getD k 0) := Lib.hid (by rw [← HAT2.out, HX.out, if_neg]; simp only [beq_eq_false_iff_ne] at e7 e3; rintro (⟨_, h, _⟩ | ⟨h, _⟩) <;> contradiction)
      go_wp2_with fail
      go_roundw
      case rel => exact ⟨k + 1, by omega, by go_num, by rw [← mix_stay HLL.out (by omega) HV.out]; exact HRk, HB⟩
      case measure => simp [intOf]; omega
     ·rcases eb : (b == 3) with _ | _
      ·have HV : Hid (L'.getD k 0 = l.getD k 0) := Lib.hid (by rw [← HAT2.out, HX.out, if_neg]; simp only [beq_eq_false_iff_ne] at e7 eb; rintro (⟨_, _, h⟩ | ⟨h, _⟩) <;> contradiction)
       go_wp2_with fail
       go_roundw
       case rel => exact ⟨k + 1, by omega, by go_num, by rw [← mix_stay HLL.out (by omega) HV.out]; exact HRk, HB⟩
       case measure => simp [intOf]; omega
      ·have HV : Hid (L'.getD k 0 = p) := Lib.hid (by rw [← HAT2.out, if_pos]; exact .inl ⟨by simpa using e4, by simpa using e3, by simpa using eb⟩)
       go_wp2_with (first
        | (refine store_row intsT wr B _ _ g k c .i64 p (ints .i64 (mixL l L' (k))) w rfl rfl rfl rfl rfl HRk.out HJL.out HB.out ?_; intro w5 r5 b5 g5; have R5 := Lib.hid r5; have B5 := Lib.hid b5; clear r5 b5 g5)
        | fail)
       go_roundw
       case rel => exact ⟨k + 1, by omega, by go_num, Lib.hid (by have := R5.out; rw [ints_set, ← HV.out, mix_put HLL.out (by omega)] at this; exact this), B5⟩
       case measure => simp [intOf]; omega
   ·obtain rfl : k = l.length := by omega
    go_wp2
    exact bodyPost_end (results_none rfl _ _ _) rfl ⟨rfl, by have := HRk.out; rw [mixL_end HLL.out (Nat.le_refl _)] at this; exact this, HB.out⟩
set_option maxRecDepth 20000 in
set_option maxHeartbeats 4000000 in
theorem rends09_any : Ruled 79 [] (rW5 false) := by
 refine ruled_of (w5_length false) ?_ ?_
 ·intro A c w
  show Calls _ _ #[.slice A 0 c] _ _
  go_enter Try.func79, Try.ntmps79
  go_wp2_with fail
  go_loopw [2] (fun nv wr => ∃ n : Nat, n ≤ 1 ∧ nv = .int .i64 n ∧ w = wr) (fun nv _ => 1 - (intOf nv).toNat)
  case atStart => exact ⟨0, by omega, rfl, rfl⟩
  case round =>
   obtain ⟨n, hn, rfl, rfl⟩ := hrel
   rcases n with _ | n
   ·go_wp2_with fail
    go_loopw [3] (fun i wx => i = .int .i64 0 ∧ w = wx) (fun _ _ => 0)
    case atStart => exact ⟨rfl, rfl⟩
    case round =>
     obtain ⟨rfl, rfl⟩ := hrel
     go_wp2_with fail
     go_roundw
     case rel => exact ⟨1, by omega, rfl, by first | rfl | trivial⟩
     case measure => simp [intOf]
   ·obtain rfl : n = 0 := by omega
    go_wp2
    exact bodyPost_end (results_none rfl _ _ _) rfl ⟨rfl, rfl⟩
 ·intro B c g l w hpos hl hB hr
  show Calls _ _ #[.slice (some ⟨g, 0, none⟩) l.length c] _ _
  have HR : Hid (Row w B 3 g c (ints .i64 (ePass l 0))) := Lib.hid hr
  clear hr hB
  go_enter Try.func79, Try.ntmps79
  go_wp2_with fail
  go_loopw [2] (fun nv wr => ∃ n : Nat, n ≤ l.length + 1 ∧ nv = .int .i64 n ∧ Hid (Row wr B 3 g c (ints .i64 (ePass l n))) ∧ Hid (Below B w wr)) (fun nv _ => l.length + 1 - (intOf nv).toNat)
  case atStart => exact ⟨0, by omega, rfl, HR, Lib.hid (Below.refl _ _)⟩
  case round =>
   obtain ⟨n, hn, rfl, HRn, HBn⟩ := hrel
   by_cases hnl : n ≤ l.length
   ·have n1 : (n : Int) ≤ (l.length : Int) := by omega
    obtain ⟨X, hX⟩ : ∃ X, ePass l n = X := ⟨_, rfl⟩
    obtain ⟨L', hL'⟩ : ∃ x, eP (-1) X = x := ⟨_, rfl⟩
    have HXL : Hid (X.length = l.length) := Lib.hid (by rw [← hX, eN_length])
    have HLL : Hid (L'.length = X.length) := Lib.hid (by rw [← hL', eP_length])
    have HAT : Hid (∀ k, k < X.length → eK (((-1) :: L').getD k 0) (X.getD k 0) X[k + 1]? = L'.getD k 0) := Lib.hid fun k hk => by rw [← hL']; exact eP_at (-1) X k hk
    have HNX : Hid (ePass l (n + 1) = L') := Lib.hid (by rw [ePass, hX, hL'])
    have HR0 : Hid (Row wr B 3 g c (ints .i64 (mixL X L' 0))) := Lib.hid (by rw [mixL_zero, ← hX]; exact HRn.out)
    clear hX hL'
    go_wp2_with fail
    go_loopw [3] (fun i wx => ∃ k : Nat, k ≤ l.length ∧ i = .int .i64 k ∧ Hid (Row wx B 3 g c (ints .i64 (mixL X L' k))) ∧ Hid (Below B w wx)) (fun i _ => l.length - (intOf i).toNat)
    case atStart => exact ⟨0, by omega, rfl, HR0, HBn⟩
    case round =>
     rename World => wx
     obtain ⟨k, hk, rfl, HRk, HB⟩ := hrel
     by_cases hlt : k < l.length
     ·have hkX : k < X.length := by rw [HXL.out]; exact hlt
      have hkX' : k ≤ X.length := by omega
      obtain ⟨x, hx⟩ : ∃ x, X.getD k 0 = x := ⟨_, rfl⟩
      have hc : wx.cell? ⟨g, k, none⟩ = some (.int .i64 x) := row_int HRk.out (by rw [mix_at HLL.out hkX' (Nat.le_refl _), List.getElem?_eq_getElem hkX, ← getD_at hkX, hx])
      have hat := HAT.out k hkX
      rw [hx, e_by] at hat
      have HX := Lib.hid hx
      have HKX := Lib.hid hkX
      have k0 : (0 : Int) ≤ (k : Int) := by omega
      have k1 : (k : Int) < (l.length : Int) := by omega
      have hml : (mixL X L' k).length = l.length := by rw [mixL_all HLL.out k, HXL.out]
      have HJL : Hid (k < (ints .i64 (mixL X L' k)).length) := Lib.hid (by rw [ints, List.length_map, hml]; exact hlt)
      have HATC : Hid (∀ i : Int, Calls Try.prog 91 #[.slice (some ⟨g, 0, none⟩) l.length c, .int .i64 i] wx fun ed w' => ed = .returned (.int .i64 (atL (mixL X L' k) i)) ∧ wx = w') := Lib.hid fun i => by
       have := rat09_any (some ⟨g, 0, none⟩) (mixL X L' k) c i wx (row_lies HRk.out)
       rw [hml] at this
       exact this
      obtain ⟨p, hp⟩ : ∃ p, ((-1 : Int) :: L').getD k 0 = p := ⟨_, rfl⟩
      obtain ⟨b, hb⟩ : ∃ b, (X[k + 1]?).getD (-1) = b := ⟨_, rfl⟩
      rw [hp, hb] at hat
      have HP : Hid (atL (mixL X L' k) ((k : Int) - 1) = p) := Lib.hid (by rw [at_prev HLL.out hkX', hp])
      have HN : Hid (atL (mixL X L' k) ((k : Int) + 1) = b) := Lib.hid (by rw [at_next HLL.out hkX', hb])
      have HAT2 := Lib.hid hat
      have hw1 : IntKind.i64.wrap ((k : Int) - 1) = (k : Int) - 1 := IntWalk.i64_in _ (by omega)
      have hw2 : IntKind.i64.wrap ((k : Int) + 1) = (k : Int) + 1 := IntWalk.i64_in _ (by omega)
      clear hx hml hp hb hat hkX hkX'
      rcases e5 : (x == 5) with _ | _
      ·have HV : Hid (L'.getD k 0 = X.getD k 0) := Lib.hid (by rw [← HAT2.out, HX.out, if_neg]; simp only [beq_eq_false_iff_ne] at e5; rintro ⟨h, _⟩; contradiction)
       go_wp2_with fail
       go_roundw
       case rel => exact ⟨k + 1, by omega, by go_num, by rw [← mix_stay HLL.out HKX.out HV.out]; exact HRk, HB⟩
       case measure => simp [intOf]; omega
      ·rcases e3 : (p == 3) with _ | _
       ·rcases eb : (b == 3) with _ | _
        ·have HV : Hid (L'.getD k 0 = X.getD k 0) := Lib.hid (by rw [← HAT2.out, HX.out, if_neg]; simp only [beq_eq_false_iff_ne] at e3 eb; rintro ⟨_, h | h⟩ <;> contradiction)
         go_wp2_with fail
         refine (HATC.out ((k : Int) - 1)).mono ?_
         rintro e wq ⟨rfl, rfl⟩
         rw [HP.out]
         go_wp2_with fail
         refine (HATC.out ((k : Int) + 1)).mono ?_
         rintro e wq ⟨rfl, rfl⟩
         rw [HN.out]
         go_wp2_with fail
         go_roundw
         case rel => exact ⟨k + 1, by omega, by go_num, by rw [← mix_stay HLL.out HKX.out HV.out]; exact HRk, HB⟩
         case measure => simp [intOf]; omega
        ·have HV : Hid (L'.getD k 0 = 3) := Lib.hid (by rw [← HAT2.out, if_pos]; exact ⟨by simpa using e5, .inr (by simpa using eb)⟩)
         go_wp2_with fail
         refine (HATC.out ((k : Int) - 1)).mono ?_
         rintro e wq ⟨rfl, rfl⟩
         rw [HP.out]
         go_wp2_with fail
         refine (HATC.out ((k : Int) + 1)).mono ?_
         rintro e wq ⟨rfl, rfl⟩
         rw [HN.out]
         go_wp2_with (first
          | (refine store_row intsT wx B _ _ g k c .i64 3 (ints .i64 (mixL X L' (k))) w rfl rfl rfl rfl rfl HRk.out HJL.out HB.out ?_; intro w5 r5 b5 g5; have R5 := Lib.hid r5; have B5 := Lib.hid b5; clear r5 b5 g5)
          | fail)
         go_roundw
         case rel => exact ⟨k + 1, by omega, by go_num, Lib.hid (by have := R5.out; rw [ints_set, ← HV.out, mix_put HLL.out HKX.out] at this; exact this), B5⟩
         case measure => simp [intOf]; omega
       ·have HV : Hid (L'.getD k 0 = 3) := Lib.hid (by rw [← HAT2.out, if_pos]; exact ⟨by simpa using e5, .inl (by simpa using e3)⟩)
        go_wp2_with fail
        refine (HATC.out ((k : Int) - 1)).mono ?_
        rintro e wq ⟨rfl, rfl⟩
        rw [HP.out]
        go_wp2_with (first
         | (refine store_row intsT wx B _ _ g k c .i64 3 (ints .i64 (mixL X L' (k))) w rfl rfl rfl rfl rfl HRk.out HJL.out HB.out ?_; intro w5 r5 b5 g5; have R5 := Lib.hid r5; have B5 := Lib.hid b5; clear r5 b5 g5)
         | fail)
        go_roundw
        case rel => exact ⟨k + 1, by omega, by go_num, Lib.hid (by have := R5.out; rw [ints_set, ← HV.out, mix_put HLL.out HKX.out] at this; exact this), B5⟩
        case measure => simp [intOf]; omega
     ·obtain rfl : k = l.length := by omega
      go_wp2_with fail
      go_roundw
      case rel => exact ⟨n + 1, by omega, by go_num, Lib.hid (by have := HRk.out; rw [mixL_end HLL.out (by rw [HXL.out]; exact Nat.le_refl _), ← HNX.out] at this; exact this), HB⟩
      case measure => simp [intOf]; omega
   ·obtain rfl : n = l.length + 1 := by omega
    go_wp2
    exact bodyPost_end (results_none rfl _ _ _) rfl ⟨rfl, by have := HRn.out; rw [ePass_all] at this; exact this, HBn.out⟩
end Go.Proofs.Ytadfleopbpomfaa
namespace Go.Proofs.Ytadfleopbpomfaa
open Go.RowKit
set_option maxHeartbeats 1000000 in
theorem rplain09_any (A : Option Addr) (l : List Int) (c : Nat) (w : World) (h : Lies w w.heap.size A (ints .i64 l)) (hl : l.length ≤ 1000000) :
 Calls Try.prog 55 #[.slice A l.length c] w fun ed w' => Rowed w w.heap.size 3 (ints .i64 (plainL l)) ed w' := by
 have H := Lib.hid h
 clear h
 go_enter Try.func55, Try.ntmps55
 go_wp2
 go_loopw [4, 3] (fun iv ov wr => ∃ k : Nat, k ≤ l.length ∧ iv = .int .i64 k ∧ Own wr w.heap.size 3 ov (ints .i64 (plainL (l.take k))) ∧ Below w.heap.size w wr) (fun iv _ _ => l.length - (intOf iv).toNat)
 case atStart => exact ⟨0, by omega, rfl, Own.empty _ _ _, Below.refl _ _⟩
 case round =>
  obtain ⟨k, hk, rfl, ho, hb⟩ := hrel
  have HO := Lib.hid ho
  have HB := Lib.hid hb
  clear ho hb
  by_cases hlt : k < l.length
  ·obtain ⟨p, rfl, _, hcl⟩ := (H.out.below HB.out).int hlt
   obtain ⟨x, hx⟩ : ∃ x, l[k] = x := ⟨_, rfl⟩
   have HS : Hid (plainL (l.take (k + 1)) = plainL (l.take k) ++ [plainK x]) := Lib.hid (by rw [take_snoc l k hlt, hx, plainL, List.map_append]; rfl)
   rw [hx] at hcl
   have b0 : (0 : Int) ≤ (k : Int) := by omega
   have b1 : (k : Int) < (l.length : Int) := by omega
   have hw := wordOf_isEmpty x
   clear hx
   by_cases h0 : x < 0 ∨ 22 < x
   ·rw [decide_eq_true h0] at hw
    have HV : Hid (plainK x = 0) := Lib.hid (by rw [plainK, if_neg (by omega)])
    clear h0
    go_wp2_with fail
    refine (rword_any x wr).mono ?_
    rintro e w1 ⟨rfl, b1'⟩
    have O1 := Lib.hid (HO.out.below b1' (Nat.le_refl _))
    have B1 := Lib.hid (HB.out.trans (b1'.mono HB.out.size))
    have hcl1 : w1.cell? (p.add k) = some (.int .i64 x) := by rw [b1'.cell (World.block_lt_of_cell? wr _ hcl)]; exact hcl
    clear b1' hcl
    go_wp2_with (first
     | (at_builtin; refine app_lit intsT w w1 w.heap.size _ _ #[.int .i64 0] 1 _ _ rfl rfl rfl rfl O1.out (by simp [Value.oneCell']) B1.out B1.out.size (by unfold maxLen; simp [ints, plainL]; omega) (by simp [ints, plainL]; omega) ?_; intro v2 w2 o2 b2 _ _; have O2 := Lib.hid o2; have B2 := Lib.hid b2; clear o2 b2)
     | fail)
    go_roundw
    case rel => exact ⟨k + 1, by omega, by go_num, by rw [HS.out, HV.out]; simpa [ints] using O2.out, B2.out⟩
    case measure => simp [intOf]; omega
   ·rw [decide_eq_false h0] at hw
    have HV : Hid (plainK x = x) := Lib.hid (by rw [plainK, if_pos (by omega)])
    clear h0
    go_wp2_with fail
    refine (rword_any x wr).mono ?_
    rintro e w1 ⟨rfl, b1'⟩
    have O1 := Lib.hid (HO.out.below b1' (Nat.le_refl _))
    have B1 := Lib.hid (HB.out.trans (b1'.mono HB.out.size))
    have hcl1 : w1.cell? (p.add k) = some (.int .i64 x) := by rw [b1'.cell (World.block_lt_of_cell? wr _ hcl)]; exact hcl
    clear b1' hcl
    go_wp2_with (first
     | (at_builtin; refine app_lit intsT w w1 w.heap.size _ _ #[.int .i64 x] 1 _ _ rfl rfl rfl rfl O1.out (by simp [Value.oneCell']) B1.out B1.out.size (by unfold maxLen; simp [ints, plainL]; omega) (by simp [ints, plainL]; omega) ?_; intro v2 w2 o2 b2 _ _; have O2 := Lib.hid o2; have B2 := Lib.hid b2; clear o2 b2)
     | fail)
    go_roundw
    case rel => exact ⟨k + 1, by omega, by go_num, by rw [HS.out, HV.out]; simpa [ints] using O2.out, B2.out⟩
    case measure => simp [intOf]; omega
  ·obtain rfl : k = l.length := by omega
   go_wp2
   go_ret
   exact ⟨_, rfl, by have := HO.out; rw [List.take_length] at this; exact this, HB.out⟩
set_option maxHeartbeats 2000000 in
theorem rstrong09_any (A : Option Addr) (l : List Int) (c : Nat) (k : Nat) (sos : Int) (w : World) (h : Lies w w.heap.size A (ints .i64 l)) (hl : l.length ≤ 1000000) (hk : k ≤ l.length) :
 Calls Try.prog 80 #[.slice A l.length c, .int .i64 (k : Int), .int .i64 sos] w fun ed w' => ed = .returned (.int .i64 (lastStrong (sideK sos) ((plainL l).take k))) ∧ Below w.heap.size w w' := by
 have H := Lib.hid h
 clear h
 obtain ⟨P, hP⟩ : ∃ P, plainL l = P := ⟨_, rfl⟩
 have hPL : P.length = l.length := by rw [← hP, plainL, List.length_map]
 have HP := Lib.hid hP
 have HPL := Lib.hid hPL
 rw [hP]
 obtain ⟨r, hr⟩ : ∃ r, lastStrong (sideK sos) (P.take k) = r := ⟨_, rfl⟩
 rw [hr]
 have HRr := Lib.hid hr
 have d0 : decide ((l.length : Int) < (k : Int)) = false := by simp; omega
 have d0' : decide (l.length < k) = false := by simp; omega
 have hw0 : IntKind.i64.wrap ((k : Int) - 1) = (k : Int) - 1 := IntWalk.i64_in _ (by omega)
 clear hP hPL hr
 go_enter Try.func80, Try.ntmps80
 go_wp2_with fail
 refine (rplain09_any A l c w H.out hl).mono ?_
 rintro e w1 ⟨v1, rfl, o1, b1⟩
 rw [HP.out] at o1
 obtain ⟨A1, c1, hv1, l1, -, -⟩ := o1.form
 rw [ints, List.length_map, HPL.out] at hv1
 subst hv1
 have L1 := Lib.hid l1
 have B1 := Lib.hid b1
 clear o1 b1 l1
 go_wp2_with fail
 go_loopw [7] (fun jv wr => ∃ j : Nat, j ≤ k ∧ jv = .int .i64 ((j : Int) - 1) ∧ Hid (lastStrong (sideK sos) (P.take j) = r) ∧ w1 = wr) (fun jv _ => (intOf jv + 1).toNat)
 case atStart => exact ⟨k, by omega, rfl, HRr, rfl⟩
 case round =>
  obtain ⟨j, hj, rfl, HJ, rfl⟩ := hrel
  rcases j with _ | j
  ·have HZ : Hid (sideK sos = r) := Lib.hid (by have := HJ.out; simpa [lastStrong] using this)
   have hneg : ¬ (0 : Int) ≤ ((0 : Nat) : Int) - 1 := by decide
   go_wp2_with fail
   refine (rside09_any sos w1).mono ?_
   rintro e wq ⟨rfl, rfl⟩
   rw [HZ.out]
   go_wp2
   go_ret
   exact ⟨rfl, B1.out⟩
  ·have hjP : j < P.length := by rw [HPL.out]; omega
   have hz1 : (((j + 1 : Nat) : Int)) - 1 = (j : Int) := by omega
   rw [hz1]
   obtain ⟨p, rfl, _, hcx⟩ := L1.out.int hjP
   obtain ⟨x, hx⟩ : ∃ x, P[j] = x := ⟨_, rfl⟩
   rw [hx] at hcx
   have HS : Hid ((if isStrong x then x else lastStrong (sideK sos) (P.take j)) = r) := Lib.hid (by have := HJ.out; rw [strong_step _ _ hjP, hx] at this; exact this)
   have c0 : (0 : Int) ≤ (j : Int) := by omega
   have c1' : (j : Int) < (l.length : Int) := by omega
   have hww : IntKind.i64.wrap ((j : Int) - 1) = (j : Int) - 1 := by rw [IntWalk.i64_in _ (by omega)]
   clear hx hz1 hjP
   rcases hs : isStrong x with _ | _
   ·have HQ := Lib.hid hs
    have HN : Hid (lastStrong (sideK sos) (P.take j) = r) := Lib.hid (by have := HS.out; rw [hs, if_neg (by simp)] at this; exact this)
    clear hs
    go_wp2_with fail
    refine (rstrong_any x w1).mono ?_
    rintro e wq ⟨rfl, rfl⟩
    rw [HQ.out]
    go_wp2_with fail
    go_roundw
    case rel => exact ⟨j, by omega, rfl, HN, by first | rfl | trivial⟩
    case measure => simp [intOf]
   ·have HQ := Lib.hid hs
    have HN : Hid (x = r) := Lib.hid (by have := HS.out; rw [hs, if_pos rfl] at this; exact this)
    clear hs
    go_wp2_with fail
    refine (rstrong_any x w1).mono ?_
    rintro e wq ⟨rfl, rfl⟩
    rw [HQ.out]
    go_wp2_with fail
    go_ret
    exact ⟨ret_int HN.out, B1.out⟩
end Go.Proofs.Ytadfleopbpomfaa
