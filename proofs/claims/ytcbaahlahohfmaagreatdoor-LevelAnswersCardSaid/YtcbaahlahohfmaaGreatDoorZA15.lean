/- Shared texts, shaken for one claim. -/
import Derived.Test.YtcbaahlahohfmaaGreatDoorZA7
import Derived.Test.YtcbaahlahohfmaaGreatDoorZA14
namespace Go.Proofs.YtcbaahlahohfmaaGreatDoor
open Go.RowKit
def firstAt (L : List (List Int)) (x : Int) : Int := match (List.range L.length).find? (fun k => headI (L.getD k []) == x) with
 | some k => k
 | none => -1
theorem firstAt_none {L : List (List Int)} {x : Int} (h : ∀ k (hk : k < L.length), headI L[k] ≠ x) : firstAt L x = -1 := by
 unfold firstAt
 rw [List.find?_eq_none.2]
 intro k hk
 have hk := List.mem_range.1 hk
 simpa [hk] using h k hk
theorem firstAt_some {L : List (List Int)} {x : Int} {k : Nat} (hk : k < L.length) (he : headI L[k] = x) (hn : ∀ j (hj : j < k), headI (L[j]'(by omega)) ≠ x) : firstAt L x = k := by
 unfold firstAt
 have : (List.range L.length).find? (fun k => headI (L.getD k []) == x) = some k := by
  rw [List.find?_range_eq_some]
  refine ⟨by simpa [hk] using he, by simpa using hk, fun j hj => ?_⟩
  have hjl : j < L.length := by omega
  simpa [hjl] using hn j hj
 rw [this]
def nextI (cl m : List Int) (L : List (List Int)) (i : Nat) : Int :=
 if isOpens (cl.getD (lastI (L.getD i [])).toNat 0) = false ∨ m.getD (lastI (L.getD i [])).toNat 0 < 0 then -1 else firstAt L (m.getD (lastI (L.getD i [])).toNat 0)
def Within (L : List (List Int)) (n : Nat) : Prop := ∀ r ∈ L, r ≠ [] ∧ r.length ≤ n ∧ ∀ x ∈ r, ∃ q : Nat, x = (q : Int) ∧ q < n
theorem Within.last {L : List (List Int)} {n : Nat} (h : Within L n) {i : Nat} (hi : i < L.length) : ∃ q : Nat, lastI L[i] = (q : Int) ∧ q < n := by
 obtain ⟨h1, _, h2⟩ := h _ (List.getElem_mem hi)
 have hp := List.length_pos_iff.2 h1
 refine h2 _ ?_
 unfold lastI
 have : L[i].getD (L[i].length - 1) 0 = L[i][L[i].length - 1] := by simp [List.getElem?_eq_getElem (show L[i].length - 1 < L[i].length by omega)]
 rw [this]
 exact List.getElem_mem _
set_option maxHeartbeats 4000000 in
theorem rnext_any (A : Option Addr) (cl : List Int) (c : Nat) (A1 : Option Addr) (c1 : Nat) (es : List Value) (L : List (List Int)) (A' : Option Addr) (m : List Int) (c' : Nat) (i : Nat) (B : Nat) (w : World)
 (h : Lies w w.heap.size A (ints .i64 cl)) (hN : Nest w B 22 3 (.slice A1 L.length c1) es (L.map (ints .i64))) (h' : Lies w w.heap.size A' (ints .i64 m)) (hl : cl.length ≤ 1000000) (hm : m.length = cl.length) (hW : Within L cl.length) (hLl : L.length ≤ 1000000) (hi : i < L.length) :
 Calls Tryz.prog 64 #[.slice A cl.length c, .slice A1 L.length c1, .slice A' m.length c', .int .i64 (i : Int)] w fun ed w' => ed = .returned (.int .i64 (nextI cl m L i)) ∧ Below w.heap.size w w' := by
 have H := Lib.hid h
 have H' := Lib.hid h'
 have NN := Lib.hid hN
 have WW := Lib.hid hW
 obtain ⟨q, hq, hqn⟩ := hW.last hi
 have hgi : L.getD i [] = L[i] := by simp [hi]
 obtain ⟨k', hk'⟩ : ∃ k, cl[q] = k := ⟨_, rfl⟩
 have hqm : q < m.length := by omega
 obtain ⟨mv, hmv⟩ : ∃ k, m[q] = k := ⟨_, rfl⟩
 obtain ⟨z, hz⟩ : ∃ z, nextI cl m L i = z := ⟨_, rfl⟩
 have HZ : Hid (z = if isOpens k' = false ∨ mv < 0 then -1 else firstAt L mv) := Lib.hid (by
  rw [← hz, nextI, hgi, hq, Int.toNat_natCast, show cl.getD q 0 = k' by simp [hqn, hk'], show m.getD q 0 = mv by simp [hqm, hmv]])
 rw [hz]
 obtain ⟨p, hpA, ⟨S⟩⟩ := hN.shown (Below.refl _ _) hi (hW _ (List.getElem_mem hi)).1
 obtain ⟨b, off, ci, hbb, hpb, hcell, hcs⟩ := S
 obtain ⟨n, hn⟩ : ∃ n, L[i].length = n := ⟨_, rfl⟩
 have hn0 : 0 < n := by rw [← hn]; exact List.length_pos_iff.2 (hW _ (List.getElem_mem hi)).1
 have hn6 : n ≤ 1000000 := by have := (hW _ (List.getElem_mem hi)).2.1; omega
 have hc1 := hcs (n - 1) (by omega)
 have hlast : L[i][n - 1]'(by omega) = (q : Int) := by
  have e : L[i][L[i].length - 1]'(by omega) = lastI L[i] := by simp [lastI, List.getElem?_eq_getElem (show L[i].length - 1 < L[i].length by omega)]
  simp only [hn] at e
  rw [e, hq]
 rw [hlast] at hc1
 rw [hn] at hcell
 obtain ⟨t, ht⟩ : ∃ t, n - 1 = t := ⟨_, rfl⟩
 rw [ht] at hc1
 have HPA := Lib.hid hpA
 subst hpA
 have b0 : (0 : Int) ≤ (i : Int) := by omega
 have b1 : (i : Int) < (L.length : Int) := by omega
 have b2 : (0 : Int) ≤ (t : Int) := by omega
 have b3 : (t : Int) < (n : Int) := by omega
 have hw1 : IntKind.i64.wrap ((n : Int) - 1) = (t : Int) := by rw [IntWalk.i64_in _ (by omega)]; omega
 have SK : Hid (∀ w', Below w.heap.size w w' → w'.cell? (p.add i) = some (.slice (some ⟨b, off, none⟩) n ci) ∧ w'.cell? ⟨b, off + t, none⟩ = some (.int .i64 q)) :=
  Lib.hid fun w' h => ⟨by rw [h.cell (by rw [add_block]; exact hpb)]; exact hcell, by rw [h.cell hbb]; exact hc1⟩
 have hk0 := SK.out w.drew (by exact below_same (Below.refl _ _) rfl rfl rfl rfl)
 obtain ⟨pc, hpc, _, hcc⟩ := h.int hqn
 obtain ⟨pm, hpm, _, hcm⟩ := h'.int hqm
 subst hpc hpm
 rw [hk'] at hcc
 rw [hmv] at hcm
 have d0 : (0 : Int) ≤ (q : Int) := by omega
 have d1 : (q : Int) < (cl.length : Int) := by omega
 have d2 : (q : Int) < (m.length : Int) := by omega
 have HM := Lib.hid hm
 have HMV : Hid (m[q] = mv) := Lib.hid hmv
 clear hN hW h h' hq hgi hk' hmv hz hcs hlast ht hn hcell hc1 hm
 go_enter Tryz.func64, Tryz.ntmps64
 go_wp2_with fail
 refine wp_region_E (S := fun w' => w'.cell? (p.add i) = some (.slice (some ⟨b, off, none⟩) n ci) ∧ w'.cell? ⟨b, off + t, none⟩ = some (.int .i64 q)) [] (by kernel_rfl) (hk0) (fun hHeld hZ => ?_)
 refine' eY 0 hHeld hZ fun hZ => ?_
 try simp only [Act.put,ZA,ZB,ZD,ZE,ZF]
 refine' eY 1 hHeld hZ fun hZ => ?_
 try simp only [Act.put,ZA,ZB,ZC,ZD,ZE,ZF]
 refine' eY 2 hHeld hZ fun hZ => ?_
 try simp only [Act.put,ZA,ZB,ZC,ZD,ZE,ZF]
 refine' eY 3 hHeld hZ fun hZ => ?_
 try simp only [Act.put,ZA,ZB,ZC,ZD,ZE,ZF]
 refine' eY 4 hHeld hZ fun hZ => ?_
 try simp only [Act.put,ZA,ZB,ZC,ZD,ZE,ZF]
 refine' eY 5 hHeld hZ fun hZ => ?_
 try simp only [Act.put,ZA,ZB,ZC,ZD,ZE,ZF]
 refine' eY 6 hHeld hZ fun hZ => ?_
 try simp only [Act.put,ZA,ZB,ZC,ZD,ZE,ZF]
 refine' eY 7 hHeld hZ fun hZ => ?_
 try simp only [Act.put,ZA,ZB,ZC,ZD,ZE,ZF]
 refine' eY 8 hHeld hZ fun hZ => ?_
 try simp only [Act.put,ZA,ZB,ZC,ZD,ZE,ZF]
 refine' eY 9 hHeld hZ fun hZ => ?_
 try simp only [Act.put,ZA,ZB,ZC,ZD,ZE,ZF]
 refine' eY 10 hHeld hZ fun hZ => ?_
 try simp only [Act.put,ZA,ZB,ZC,ZD,ZE,ZF]
 refine' eY 11 hHeld hZ fun hZ => ?_
 try simp only [Act.put,ZA,ZB,ZC,ZD,ZE,ZF]
 refine' eY 12 hHeld hZ fun hZ => ?_
 try simp only [Act.put,ZA,ZB,ZC,ZD,ZE,ZF]
 refine wpAnyE_done (by kernel_rfl) ?_ _
 clear hZ
 have hcc' : w.drew.cell? (pc.add q) = some (.int .i64 k') := hcc
 have hcm' : w.drew.cell? (pm.add q) = some (.int .i64 mv) := hcm
 clear hcc hcm hk0 hHeld
 rcases hop : isOpens k' with _ | _
 ·have HF : Hid (z = -1) := Lib.hid (by rw [HZ.out, if_pos (.inl hop)])
  go_wp2_with fail
  refine (ropens_any k' w.drew).mono ?_
  rintro e wq ⟨rfl, rfl⟩
  rw [hop]
  clear hop
  go_wp2
  go_ret
  exact ⟨ret_int HF.out.symm, by exact below_same (Below.refl _ _) rfl rfl rfl rfl⟩
 ·rcases hneg : decide (mv < 0) with _ | _
  ·have HF : Hid (z = firstAt L mv) := Lib.hid (by rw [HZ.out, if_neg (by rw [hop]; simpa using hneg)])
   go_wp2_with fail
   refine (ropens_any k' w.drew).mono ?_
   rintro e wq ⟨rfl, rfl⟩
   rw [hop]
   clear hop
   go_wp2
   go_loopw [10] (fun iv wr => ∃ k : Nat, k ≤ L.length ∧ iv = .int .i64 k ∧ Hid (∀ j (hj : j < k) (hl : j < L.length), headI L[j] ≠ mv) ∧ Below w.heap.size w wr) (fun iv _ => L.length - (intOf iv).toNat)
   case atStart => exact ⟨0, by omega, rfl, Lib.hid (fun j hj => absurd hj (by omega)), by exact below_same (Below.refl _ _) rfl rfl rfl rfl⟩
   case round =>
    obtain ⟨k, hk, rfl, HJ, hb⟩ := hrel
    have HB := Lib.hid hb
    clear hb
    by_cases hlt : k < L.length
    ·obtain ⟨p', hpA', ⟨S⟩⟩ := NN.out.shown HB.out hlt (WW.out _ (List.getElem_mem hlt)).1
     injection hpA' with hpA'
     subst hpA'
     obtain ⟨b', off', ck, hbb', _, hcell', hcs'⟩ := S
     have hpos : 0 < L[k].length := List.length_pos_iff.2 (WW.out _ (List.getElem_mem hlt)).1
     have hc0 := hcs' 0 hpos
     obtain ⟨x, hx⟩ : ∃ x, headI L[k] = x := ⟨_, rfl⟩
     rw [show L[k][0] = x by rw [← hx, headI]; simp [hpos]] at hc0
     simp only [Nat.add_zero] at hc0
     obtain ⟨r, hr⟩ : ∃ r, L[k].length = r := ⟨_, rfl⟩
     rw [hr] at hcell' hpos
     have hcm2 : wr.drew.cell? (pm.add q) = some (.int .i64 mv) := by
      obtain ⟨pm2, hpm2, _, hc2⟩ := (H'.out.below HB.out).int hqm
      injection hpm2 with hpm2
      subst hpm2
      rw [HMV.out] at hc2
      exact hc2
     have c0 : (0 : Int) ≤ (k : Int) := by omega
     have c1 : (k : Int) < (L.length : Int) := by omega
     have c2 : (0 : Int) < (r : Int) := by omega
     have HX := Lib.hid hx
     have hk1 : wr.drew.cell? (p.add k) = some (.slice (some ⟨b', off', none⟩) r ck) ∧ wr.drew.cell? ⟨b', off', none⟩ = some (.int .i64 x) ∧ wr.drew.cell? (pm.add q) = some (.int .i64 mv) := ⟨hcell', hc0, hcm2⟩
     clear hx hr hcs' hcell' hc0 hcm2 hcc' hcm'
     rcases hxm : (x == mv) with _ | _
     ·go_wp2_with fail
      refine wp_region_E (S := fun w' => w'.cell? (p.add k) = some (.slice (some ⟨b', off', none⟩) r ck) ∧ w'.cell? ⟨b', off', none⟩ = some (.int .i64 x) ∧ w'.cell? (pm.add q) = some (.int .i64 mv)) [] (by kernel_rfl) (hk1) (fun hHeld hZ => ?_)
      refine' eY 0 hHeld hZ fun hZ => ?_
      try simp only [Act.put,ZA,ZB,ZD,ZE,ZF]
      refine' eY 1 hHeld hZ fun hZ => ?_
      try simp only [Act.put,ZA,ZB,ZC,ZD,ZE,ZF]
      refine' eY 2 hHeld hZ fun hZ => ?_
      try simp only [Act.put,ZA,ZB,ZC,ZD,ZE,ZF]
      refine' eY 3 hHeld hZ fun hZ => ?_
      try simp only [Act.put,ZA,ZB,ZC,ZD,ZE,ZF]
      refine' eY 4 hHeld hZ fun hZ => ?_
      try simp only [Act.put,ZA,ZB,ZC,ZD,ZE,ZF]
      refine' eY 5 hHeld hZ fun hZ => ?_
      try simp only [Act.put,ZA,ZB,ZC,ZD,ZE,ZF]
      refine' eY 6 hHeld hZ fun hZ => ?_
      try simp only [Act.put,ZA,ZB,ZC,ZD,ZE,ZF]
      refine' eY 7 hHeld hZ fun hZ => ?_
      try simp only [Act.put,ZA,ZB,ZC,ZD,ZE,ZF]
      refine' eY 8 hHeld hZ fun hZ => ?_
      try simp only [Act.put,ZA,ZB,ZC,ZD,ZE,ZF]
      refine' eY 9 hHeld hZ fun hZ => ?_
      try simp only [Act.put,ZA,ZB,ZC,ZD,ZE,ZF]
      refine' eY 10 hHeld hZ fun hZ => ?_
      try simp only [Act.put,ZA,ZB,ZC,ZD,ZE,ZF]
      refine wpAnyE_done (by kernel_rfl) ?_ _
      clear hZ
      go_wp2_with fail
      go_roundw
      case rel =>
       refine ⟨k + 1, by omega, by go_num, Lib.hid (fun j hj hl => ?_), by exact below_same HB.out rfl rfl rfl rfl⟩
       by_cases hjk : j = k
       ·subst hjk; rw [HX.out]; simpa using hxm
       ·exact HJ.out j (by omega) hl
      case measure => simp [intOf]; omega
     ·go_wp2_with fail
      refine wp_region_E (S := fun w' => w'.cell? (p.add k) = some (.slice (some ⟨b', off', none⟩) r ck) ∧ w'.cell? ⟨b', off', none⟩ = some (.int .i64 x) ∧ w'.cell? (pm.add q) = some (.int .i64 mv)) [] (by kernel_rfl) (hk1) (fun hHeld hZ => ?_)
      refine' eY 0 hHeld hZ fun hZ => ?_
      try simp only [Act.put,ZA,ZB,ZD,ZE,ZF]
      refine' eY 1 hHeld hZ fun hZ => ?_
      try simp only [Act.put,ZA,ZB,ZC,ZD,ZE,ZF]
      refine' eY 2 hHeld hZ fun hZ => ?_
      try simp only [Act.put,ZA,ZB,ZC,ZD,ZE,ZF]
      refine' eY 3 hHeld hZ fun hZ => ?_
      try simp only [Act.put,ZA,ZB,ZC,ZD,ZE,ZF]
      refine' eY 4 hHeld hZ fun hZ => ?_
      try simp only [Act.put,ZA,ZB,ZC,ZD,ZE,ZF]
      refine' eY 5 hHeld hZ fun hZ => ?_
      try simp only [Act.put,ZA,ZB,ZC,ZD,ZE,ZF]
      refine' eY 6 hHeld hZ fun hZ => ?_
      try simp only [Act.put,ZA,ZB,ZC,ZD,ZE,ZF]
      refine' eY 7 hHeld hZ fun hZ => ?_
      try simp only [Act.put,ZA,ZB,ZC,ZD,ZE,ZF]
      refine' eY 8 hHeld hZ fun hZ => ?_
      try simp only [Act.put,ZA,ZB,ZC,ZD,ZE,ZF]
      refine' eY 9 hHeld hZ fun hZ => ?_
      try simp only [Act.put,ZA,ZB,ZC,ZD,ZE,ZF]
      refine' eY 10 hHeld hZ fun hZ => ?_
      try simp only [Act.put,ZA,ZB,ZC,ZD,ZE,ZF]
      refine wpAnyE_done (by kernel_rfl) ?_ _
      clear hZ
      go_wp2_with fail
      go_ret
      exact ⟨ret_int (by rw [HF.out, firstAt_some hlt (by rw [HX.out]; simpa using hxm) (fun j hj => HJ.out j hj (by omega))]), by exact below_same HB.out rfl rfl rfl rfl⟩
    ·obtain rfl : k = L.length := by omega
     go_wp2
     go_ret
     exact ⟨ret_int (by rw [HF.out, firstAt_none (fun j hj => HJ.out j hj hj)]), HB.out⟩
  ·have HF : Hid (z = -1) := Lib.hid (by rw [HZ.out, if_pos (.inr (by simpa using hneg))])
   go_wp2_with fail
   refine (ropens_any k' w.drew).mono ?_
   rintro e wq ⟨rfl, rfl⟩
   rw [hop]
   clear hop
   go_wp2
   go_ret
   exact ⟨ret_int HF.out.symm, by exact below_same (Below.refl _ _) rfl rfl rfl rfl⟩
end Go.Proofs.YtcbaahlahohfmaaGreatDoor
namespace Go.Proofs.YtcbaahlahohfmaaGreatDoor
open Go.RowKit
def seenQ (l : List Int) : List Nat := (List.range l.length).filter fun i => !isOut (l.getD i 0)
theorem seenI_eq (l : List Int) : seenI l = (seenQ l).map fun (i : Nat) => (i : Int) := rfl
theorem seenI_length (l : List Int) : (seenI l).length = (seenQ l).length := by rw [seenI_eq, List.length_map]
theorem seenI_getD (l : List Int) (i : Nat) : (seenI l).getD i 0 = ((seenQ l).getD i 0 : Nat) := by
 rw [seenI_eq, List.getD_eq_getElem?_getD, List.getElem?_map, List.getD_eq_getElem?_getD]
 cases (seenQ l)[i]? <;> rfl
theorem seenQ_sorted (l : List Int) {i j : Nat} (h : i < j) (hj : j < (seenQ l).length) : (seenQ l)[i] < (seenQ l)[j] :=
 (List.pairwise_iff_getElem.1 (List.Pairwise.filter (fun i => !isOut (l.getD i 0)) List.pairwise_lt_range)) i j (by unfold seenQ at hj; omega) hj h
theorem seenQ_mem (l : List Int) (q : Nat) : q ∈ seenQ l ↔ q < l.length ∧ isOut (at0 l q) = false := by
 unfold seenQ at0
 rw [List.mem_filter, List.mem_range]
 simp
theorem seenQ_at (l : List Int) {i : Nat} (h : i < (seenQ l).length) : (seenQ l)[i] < l.length ∧ isOut (at0 l (seenQ l)[i]) = false := (seenQ_mem l _).1 (List.getElem_mem h)
theorem seenQ_inj (l : List Int) {i j : Nat} (hi : i < (seenQ l).length) (hj : j < (seenQ l).length) (h : (seenQ l)[i] = (seenQ l)[j]) : i = j := by
 rcases Nat.lt_trichotomy i j with h1 | h1 | h1
 ·have := seenQ_sorted l h1 hj; omega
 ·exact h1
 ·have := seenQ_sorted l h1 hi; omega
theorem seenQ_lt (l : List Int) {i j : Nat} (hi : i < (seenQ l).length) (hj : j < (seenQ l).length) (h : (seenQ l)[i] < (seenQ l)[j]) : i < j := by
 apply Classical.byContradiction
 intro hn
 rcases Nat.lt_or_ge j i with h1 | h1
 ·have := seenQ_sorted l h1 hi; omega
 ·have : i = j := by omega
  subst this; omega
structure Split (cl lv s : List Int) (k : Nat) (L : List (List Int)) (u : Nat → Nat) : Prop where
 zero : u 0 = 0
 top : u L.length = k
 len : ∀ j (h : j < L.length), u (j + 1) = u j + L[j].length
 pos : ∀ j (h : j < L.length), 0 < L[j].length
 cell : ∀ j (h : j < L.length) t (_ : t < L[j].length), L[j][t] = s.getD (u j + t) 0
 fresh : ∀ j, j < L.length → freshAt cl lv s (u j) = true
 stale : ∀ j, j < L.length → ∀ x, u j < x → x < u (j + 1) → freshAt cl lv s x = false
theorem Split.le {cl lv s : List Int} {k : Nat} {L : List (List Int)} {u : Nat → Nat} (h : Split cl lv s k L u) : ∀ d j, j + d ≤ L.length → u j ≤ u (j + d) ∧ (0 < d → u j < u (j + d)) := by
 intro d
 induction d with
 | zero => intro j _; exact ⟨Nat.le_refl _, fun h => absurd h (by omega)⟩
 | succ d ih =>
  intro j hj
  have h1 := (ih j (by omega)).1
  have h2 := h.len (j + d) (by omega)
  have h3 := h.pos (j + d) (by omega)
  rw [show j + (d + 1) = j + d + 1 by omega]
  constructor <;> intros <;> omega
theorem Split.lt {cl lv s : List Int} {k : Nat} {L : List (List Int)} {u : Nat → Nat} (h : Split cl lv s k L u) {i j : Nat} (hij : i < j) (hj : j ≤ L.length) : u i < u j := by
 have := (h.le (j - i) i (by omega)).2 (by omega)
 rwa [show i + (j - i) = j by omega] at this
theorem Split.mono {cl lv s : List Int} {k : Nat} {L : List (List Int)} {u : Nat → Nat} (h : Split cl lv s k L u) {i j : Nat} (hij : i ≤ j) (hj : j ≤ L.length) : u i ≤ u j := by
 have := (h.le (j - i) i (by omega)).1
 rwa [show i + (j - i) = j by omega] at this
theorem addLast_push (L : List (List Int)) (p : Int) : addLast (L ++ [[]]) p = L ++ [[p]] := by
 unfold addLast
 simp
theorem addLast_last {L : List (List Int)} {p : Int} (h : 0 < L.length) (j : Nat) (hj : j < (addLast L p).length) (hj' : j < L.length) :
 (addLast L p)[j] = if j + 1 = L.length then L[j] ++ [p] else L[j] := by
 refine Option.some.inj ?_
 rw [← List.getElem?_eq_getElem hj]
 unfold addLast
 rw [List.getElem?_set]
 by_cases he : L.length - 1 = j
 ·rw [if_pos he, if_pos (by omega), if_pos (by omega)]
  subst he
  simp [hj']
 ·rw [if_neg he, if_neg (by omega), List.getElem?_eq_getElem hj']
theorem split_lists (cl lv s : List Int) : ∀ k, ∃ u, Split cl lv s k (listsN cl lv s k) u := by
 intro k
 induction k with
 | zero => exact ⟨fun _ => 0, rfl, rfl, fun j h => by simp [listsN] at h, fun j h => by simp [listsN] at h, fun j h => by simp [listsN] at h, fun j h => by simp [listsN] at h, fun j h => by simp [listsN] at h⟩
 | succ k ih =>
  obtain ⟨u, h⟩ := ih
  have hle := listsN_le cl lv s k
  obtain ⟨L, hL⟩ : ∃ L, listsN cl lv s k = L := ⟨_, rfl⟩
  rw [hL] at h hle
  cases hf : freshAt cl lv s k with
  | true =>
   have hr : listsN cl lv s (k + 1) = L ++ [[s.getD k 0]] := by rw [listsN, hf, if_pos rfl, hL, addLast_push]
   rw [hr]
   refine ⟨fun j => if j ≤ L.length then u j else k + 1, ?_, ?_, ?_, ?_, ?_, ?_, ?_⟩
   ·rw [if_pos (by omega)]; exact h.zero
   ·rw [List.length_append, List.length_singleton, if_neg (by omega)]
   ·intro j hj
    rw [List.length_append, List.length_singleton] at hj
    by_cases h1 : j < L.length
    ·rw [if_pos (by omega), if_pos (by omega), List.getElem_append_left h1]; exact h.len j h1
    ·obtain rfl : j = L.length := by omega
     rw [if_neg (by omega), if_pos (Nat.le_refl _), List.getElem_append_right (Nat.le_refl _), h.top]
     simp
   ·intro j hj
    rw [List.length_append, List.length_singleton] at hj
    by_cases h1 : j < L.length
    ·rw [List.getElem_append_left h1]; exact h.pos j h1
    ·obtain rfl : j = L.length := by omega
     rw [List.getElem_append_right (Nat.le_refl _)]
     simp
   ·intro j hj t ht
    rw [List.length_append, List.length_singleton] at hj
    by_cases h1 : j < L.length
    ·simp only [List.getElem_append_left h1, show j ≤ L.length by omega, if_true] at ht ⊢; exact h.cell j h1 t ht
    ·obtain rfl : j = L.length := by omega
     simp only [List.getElem_append_right (Nat.le_refl _), Nat.sub_self, List.getElem_cons_zero, List.length_singleton] at ht ⊢
     obtain rfl : t = 0 := by omega
     simp [h.top]
   ·intro j hj
    rw [List.length_append, List.length_singleton] at hj
    rw [if_pos (by omega)]
    by_cases h1 : j < L.length
    ·exact h.fresh j h1
    ·obtain rfl : j = L.length := by omega
     rw [h.top]; exact hf
   ·intro j hj x hx hx2
    rw [List.length_append, List.length_singleton] at hj
    rw [if_pos (by omega)] at hx
    by_cases h1 : j < L.length
    ·rw [if_pos (by omega)] at hx2
     exact h.stale j h1 x hx hx2
    ·obtain rfl : j = L.length := by omega
     rw [if_neg (by omega)] at hx2
     rw [h.top] at hx
     omega
  | false =>
   have hk0 : 0 < k := by
    rcases Nat.eq_zero_or_pos k with h0 | h0
    ·subst h0; simp [freshAt] at hf
    ·exact h0
   have hpos := hle.2 hk0
   have hr : listsN cl lv s (k + 1) = addLast L (s.getD k 0) := by rw [listsN, hf, hL]; rfl
   rw [hr]
   have hml : (addLast L (s.getD k 0)).length = L.length := addLast_length _ _
   have hut : u L.length = k := h.top
   refine ⟨fun j => if j < L.length then u j else k + 1, ?_, ?_, ?_, ?_, ?_, ?_, ?_⟩
   ·rw [if_pos hpos]; exact h.zero
   ·rw [hml]; simp
   ·intro j hj
    have hj' : j < L.length := by omega
    rw [addLast_last hpos j hj hj', if_pos hj']
    by_cases h1 : j + 1 = L.length
    ·rw [if_neg (by omega), if_pos h1, List.length_append, List.length_singleton]
     have := h.len j hj'
     rw [h1, hut] at this
     omega
    ·rw [if_pos (by omega), if_neg h1]; exact h.len j hj'
   ·intro j hj
    have hj' : j < L.length := by omega
    rw [addLast_last hpos j hj hj']
    have := h.pos j hj'
    split
    ·rw [List.length_append]; omega
    ·exact this
   ·intro j hj t ht
    have hj' : j < L.length := by omega
    rw [if_pos hj']
    have he := addLast_last (p := s.getD k 0) hpos j hj hj'
    have hln : (addLast L (s.getD k 0))[j].length = if j + 1 = L.length then L[j].length + 1 else L[j].length := by
     rw [he]; split <;> simp
    rw [hln] at ht
    have hg : (addLast L (s.getD k 0))[j][t]? = some (s.getD (u j + t) 0) := by
     rw [he]
     by_cases h1 : j + 1 = L.length
     ·rw [if_pos h1] at ht
      rw [if_pos h1]
      by_cases h2 : t < L[j].length
      ·rw [List.getElem?_append_left h2, List.getElem?_eq_getElem h2, h.cell j hj' t h2]
      ·have h3 : t = L[j].length := by omega
       have h4 := h.len j hj'
       rw [h1, hut] at h4
       rw [List.getElem?_append_right (by omega), h3, Nat.sub_self, ← h4]; rfl
     ·rw [if_neg h1] at ht
      rw [if_neg h1, List.getElem?_eq_getElem ht, h.cell j hj' t ht]
    exact Option.some.inj (by rw [← hg, List.getElem?_eq_getElem (by rw [hln]; exact ht)])
   ·intro j hj
    have hj' : j < L.length := by omega
    rw [if_pos hj']
    exact h.fresh j hj'
   ·intro j hj x hx hx2
    have hj' : j < L.length := by omega
    rw [if_pos hj'] at hx
    by_cases h1 : j + 1 = L.length
    ·rw [if_neg (by omega)] at hx2
     rcases Nat.lt_or_ge x k with h2 | h2
     ·exact h.stale j hj' x hx (by rw [h1, hut]; exact h2)
     ·obtain rfl : x = k := by omega
      exact hf
    ·rw [if_pos (by omega)] at hx2
     exact h.stale j hj' x hx hx2
end Go.Proofs.YtcbaahlahohfmaaGreatDoor
