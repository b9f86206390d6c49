/- Layer 8: the document's next: the run that a run goes on in. -/
import Derived.Test.YtajgjloailliiaaSqD
namespace Go.Proofs.Ytajgjloailliiaa
open Go.RowKit

/-- the first list that begins with x; -1: none -/
def firstAt (L : List (List Int)) (x : Int) : Int := match (List.range L.length).find? (fun k => headI (L.getD k []) == x) with
  | some k => k
  | none => -1
theorem firstAt_none {L : List (List Int)} {x : Int} (h : ∀ k (hk : k < L.length), headI L[k] ≠ x) : firstAt L x = -1 := by
  unfold firstAt
  rw [List.find?_eq_none.2]
  intro k hk
  have hk := List.mem_range.1 hk
  simpa [hk] using h k hk
theorem firstAt_some {L : List (List Int)} {x : Int} {k : Nat} (hk : k < L.length) (he : headI L[k] = x) (hn : ∀ j (hj : j < k), headI (L[j]'(by omega)) ≠ x) : firstAt L x = k := by
  unfold firstAt
  have : (List.range L.length).find? (fun k => headI (L.getD k []) == x) = some k := by
    rw [List.find?_range_eq_some]
    refine ⟨by simpa [hk] using he, by simpa using hk, fun j hj => ?_⟩
    have hjl : j < L.length := by omega
    simpa [hjl] using hn j hj
  rw [this]
/-- the run that run i goes on in; -1: none -/
def nextI (cl m : List Int) (L : List (List Int)) (i : Nat) : Int :=
  if isOpens (cl.getD (lastI (L.getD i [])).toNat 0) = false ∨ m.getD (lastI (L.getD i [])).toNat 0 < 0 then -1 else firstAt L (m.getD (lastI (L.getD i [])).toNat 0)

/-- all lists have something, and just places below n -/
def Within (L : List (List Int)) (n : Nat) : Prop := ∀ r ∈ L, r ≠ [] ∧ r.length ≤ n ∧ ∀ x ∈ r, ∃ q : Nat, x = (q : Int) ∧ q < n
theorem Within.last {L : List (List Int)} {n : Nat} (h : Within L n) {i : Nat} (hi : i < L.length) : ∃ q : Nat, lastI L[i] = (q : Int) ∧ q < n := by
  obtain ⟨h1, _, h2⟩ := h _ (List.getElem_mem hi)
  have hp := List.length_pos_iff.2 h1
  refine h2 _ ?_
  unfold lastI
  have : L[i].getD (L[i].length - 1) 0 = L[i][L[i].length - 1] := by simp [List.getElem?_eq_getElem (show L[i].length - 1 < L[i].length by omega)]
  rw [this]
  exact List.getElem_mem _

set_option maxHeartbeats 4000000 in
theorem rnext_any (A : Option Addr) (cl : List Int) (c : Nat) (A1 : Option Addr) (c1 : Nat) (es : List Value) (L : List (List Int)) (A' : Option Addr) (m : List Int) (c' : Nat) (i : Nat) (B : Nat) (w : World)
    (h : Lies w w.heap.size A (ints .i64 cl)) (hN : Nest w B 22 3 (.slice A1 L.length c1) es (L.map (ints .i64))) (h' : Lies w w.heap.size A' (ints .i64 m)) (hl : cl.length ≤ 1000000) (hm : m.length = cl.length) (hW : Within L cl.length) (hLl : L.length ≤ 1000000) (hi : i < L.length) :
    Calls Try.prog 26 #[.slice A cl.length c, .slice A1 L.length c1, .slice A' m.length c', .int .i64 (i : Int)] w fun ed w' => ed = .returned (.int .i64 (nextI cl m L i)) ∧ Below w.heap.size w w' := by
  have H := Lib.hid h
  have H' := Lib.hid h'
  have NN := Lib.hid hN
  have WW := Lib.hid hW
  obtain ⟨q, hq, hqn⟩ := hW.last hi
  have hgi : L.getD i [] = L[i] := by simp [hi]
  obtain ⟨k', hk'⟩ : ∃ k, cl[q] = k := ⟨_, rfl⟩
  have hqm : q < m.length := by omega
  obtain ⟨mv, hmv⟩ : ∃ k, m[q] = k := ⟨_, rfl⟩
  obtain ⟨z, hz⟩ : ∃ z, nextI cl m L i = z := ⟨_, rfl⟩
  have HZ : Hid (z = if isOpens k' = false ∨ mv < 0 then -1 else firstAt L mv) := Lib.hid (by
    rw [← hz, nextI, hgi, hq, Int.toNat_natCast, show cl.getD q 0 = k' by simp [hqn, hk'], show m.getD q 0 = mv by simp [hqm, hmv]])
  rw [hz]
  obtain ⟨p, hpA, ⟨S⟩⟩ := hN.shown (Below.refl _ _) hi (hW _ (List.getElem_mem hi)).1
  obtain ⟨b, off, ci, hbb, hpb, hcell, hcs⟩ := S
  obtain ⟨n, hn⟩ : ∃ n, L[i].length = n := ⟨_, rfl⟩
  have hn0 : 0 < n := by rw [← hn]; exact List.length_pos_iff.2 (hW _ (List.getElem_mem hi)).1
  have hn6 : n ≤ 1000000 := by have := (hW _ (List.getElem_mem hi)).2.1; omega
  have hc1 := hcs (n - 1) (by omega)
  have hlast : L[i][n - 1]'(by omega) = (q : Int) := by
    have e : L[i][L[i].length - 1]'(by omega) = lastI L[i] := by simp [lastI, List.getElem?_eq_getElem (show L[i].length - 1 < L[i].length by omega)]
    simp only [hn] at e
    rw [e, hq]
  rw [hlast] at hc1
  rw [hn] at hcell
  obtain ⟨t, ht⟩ : ∃ t, n - 1 = t := ⟨_, rfl⟩
  rw [ht] at hc1
  have HPA := Lib.hid hpA
  subst hpA
  have b0 : (0 : Int) ≤ (i : Int) := by omega
  have b1 : (i : Int) < (L.length : Int) := by omega
  have b2 : (0 : Int) ≤ (t : Int) := by omega
  have b3 : (t : Int) < (n : Int) := by omega
  have hw1 : IntKind.i64.wrap ((n : Int) - 1) = (t : Int) := by rw [IntWalk.i64_in _ (by omega)]; omega
  have SK : Hid (∀ w', Below w.heap.size w w' → w'.cell? (p.add i) = some (.slice (some ⟨b, off, none⟩) n ci) ∧ w'.cell? ⟨b, off + t, none⟩ = some (.int .i64 q)) :=
    Lib.hid fun w' h => ⟨by rw [h.cell (by rw [add_block]; exact hpb)]; exact hcell, by rw [h.cell hbb]; exact hc1⟩
  have hk0 := SK.out w.drew (by exact below_same (Below.refl _ _) rfl rfl rfl rfl)
  obtain ⟨pc, hpc, _, hcc⟩ := h.int hqn
  obtain ⟨pm, hpm, _, hcm⟩ := h'.int hqm
  subst hpc hpm
  rw [hk'] at hcc
  rw [hmv] at hcm
  have d0 : (0 : Int) ≤ (q : Int) := by omega
  have d1 : (q : Int) < (cl.length : Int) := by omega
  have d2 : (q : Int) < (m.length : Int) := by omega
  have HM := Lib.hid hm
  have HMV : Hid (m[q] = mv) := Lib.hid hmv
  clear hN hW h h' hq hgi hk' hmv hz hcs hlast ht hn hcell hc1 hm
  go_enter Try.func26, Try.ntmps26
  go_wp2_with fail
  refine wp_region_E (S := fun w' => w'.cell? (p.add i) = some (.slice (some ⟨b, off, none⟩) n ci) ∧ w'.cell? ⟨b, off + t, none⟩ = some (.int .i64 q)) [] (by kernel_rfl) (hk0) (fun hHeld hClosed => ?_)
  refine' wpAnyE_take (i := 0) (v := _) rfl (by kernel_rfl) (by kernel_rfl) (by kernel_rfl) (by kernel_rfl) (fun _ _ _ h => h) (Or.inl ⟨by rfl, fun u hu => ?_⟩) hHeld hClosed (fun hNext => ?_)
  rotate_left
  · (try dsimp only at hu)
    go_simp
    try with_reducible rfl
  clear hClosed
  have hClosed := hNext
  clear hNext
  try simp only [Act.put, List.getElem_toArray, List.getElem_cons_zero, List.setIfInBounds_toArray, List.set_cons_zero, List.set_cons_succ]
  refine' wpAnyE_take (i := 1) (v := _) rfl (by kernel_rfl) (by kernel_rfl) (by kernel_rfl) (by kernel_rfl) (fun _ _ _ h => h) (Or.inl ⟨by rfl, fun u hu => ?_⟩) hHeld hClosed (fun hNext => ?_)
  rotate_left
  · (try dsimp only at hu)
    go_simp
    try with_reducible rfl
  clear hClosed
  have hClosed := hNext
  clear hNext
  try simp only [Act.put, List.getElem_toArray, List.getElem_cons_zero, List.getElem_cons_succ, List.setIfInBounds_toArray, List.set_cons_zero, List.set_cons_succ]
  refine' wpAnyE_take (i := 2) (v := _) rfl (by kernel_rfl) (by kernel_rfl) (by kernel_rfl) (by kernel_rfl) (fun _ _ _ h => h) (Or.inl ⟨by rfl, fun u hu => ?_⟩) hHeld hClosed (fun hNext => ?_)
  rotate_left
  · (try dsimp only at hu)
    go_simp
    try with_reducible rfl
  clear hClosed
  have hClosed := hNext
  clear hNext
  try simp only [Act.put, List.getElem_toArray, List.getElem_cons_zero, List.getElem_cons_succ, List.setIfInBounds_toArray, List.set_cons_zero, List.set_cons_succ]
  refine' wpAnyE_take (i := 3) (v := _) rfl (by kernel_rfl) (by kernel_rfl) (by kernel_rfl) (by kernel_rfl) (fun _ _ _ h => h) (Or.inl ⟨by rfl, fun u hu => ?_⟩) hHeld hClosed (fun hNext => ?_)
  rotate_left
  · (try dsimp only at hu)
    go_simp
    try with_reducible rfl
  clear hClosed
  have hClosed := hNext
  clear hNext
  try simp only [Act.put, List.getElem_toArray, List.getElem_cons_zero, List.getElem_cons_succ, List.setIfInBounds_toArray, List.set_cons_zero, List.set_cons_succ]
  refine' wpAnyE_take (i := 4) (v := _) rfl (by kernel_rfl) (by kernel_rfl) (by kernel_rfl) (by kernel_rfl) (fun _ _ _ h => h) (Or.inl ⟨by rfl, fun u hu => ?_⟩) hHeld hClosed (fun hNext => ?_)
  rotate_left
  · (try dsimp only at hu)
    go_simp
    try with_reducible rfl
  clear hClosed
  have hClosed := hNext
  clear hNext
  try simp only [Act.put, List.getElem_toArray, List.getElem_cons_zero, List.getElem_cons_succ, List.setIfInBounds_toArray, List.set_cons_zero, List.set_cons_succ]
  refine' wpAnyE_take (i := 5) (v := _) rfl (by kernel_rfl) (by kernel_rfl) (by kernel_rfl) (by kernel_rfl) (fun _ _ _ h => h) (Or.inl ⟨by rfl, fun u hu => ?_⟩) hHeld hClosed (fun hNext => ?_)
  rotate_left
  · (try dsimp only at hu)
    go_simp
    try with_reducible rfl
  clear hClosed
  have hClosed := hNext
  clear hNext
  try simp only [Act.put, List.getElem_toArray, List.getElem_cons_zero, List.getElem_cons_succ, List.setIfInBounds_toArray, List.set_cons_zero, List.set_cons_succ]
  refine' wpAnyE_take (i := 6) (v := _) rfl (by kernel_rfl) (by kernel_rfl) (by kernel_rfl) (by kernel_rfl) (fun _ _ _ h => h) (Or.inl ⟨by rfl, fun u hu => ?_⟩) hHeld hClosed (fun hNext => ?_)
  rotate_left
  · (try dsimp only at hu)
    go_simp
    try with_reducible rfl
  clear hClosed
  have hClosed := hNext
  clear hNext
  try simp only [Act.put, List.getElem_toArray, List.getElem_cons_zero, List.getElem_cons_succ, List.setIfInBounds_toArray, List.set_cons_zero, List.set_cons_succ]
  refine' wpAnyE_take (i := 7) (v := _) rfl (by kernel_rfl) (by kernel_rfl) (by kernel_rfl) (by kernel_rfl) (fun _ _ _ h => h) (Or.inl ⟨by rfl, fun u hu => ?_⟩) hHeld hClosed (fun hNext => ?_)
  rotate_left
  · (try dsimp only at hu)
    go_simp
    try with_reducible rfl
  clear hClosed
  have hClosed := hNext
  clear hNext
  try simp only [Act.put, List.getElem_toArray, List.getElem_cons_zero, List.getElem_cons_succ, List.setIfInBounds_toArray, List.set_cons_zero, List.set_cons_succ]
  refine' wpAnyE_take (i := 8) (v := _) rfl (by kernel_rfl) (by kernel_rfl) (by kernel_rfl) (by kernel_rfl) (fun _ _ _ h => h) (Or.inl ⟨by rfl, fun u hu => ?_⟩) hHeld hClosed (fun hNext => ?_)
  rotate_left
  · (try dsimp only at hu)
    go_simp
    try with_reducible rfl
  clear hClosed
  have hClosed := hNext
  clear hNext
  try simp only [Act.put, List.getElem_toArray, List.getElem_cons_zero, List.getElem_cons_succ, List.setIfInBounds_toArray, List.set_cons_zero, List.set_cons_succ]
  refine' wpAnyE_take (i := 9) (v := _) rfl (by kernel_rfl) (by kernel_rfl) (by kernel_rfl) (by kernel_rfl) (fun _ _ _ h => h) (Or.inl ⟨by rfl, fun u hu => ?_⟩) hHeld hClosed (fun hNext => ?_)
  rotate_left
  · (try dsimp only at hu)
    go_simp
    try with_reducible rfl
  clear hClosed
  have hClosed := hNext
  clear hNext
  try simp only [Act.put, List.getElem_toArray, List.getElem_cons_zero, List.getElem_cons_succ, List.setIfInBounds_toArray, List.set_cons_zero, List.set_cons_succ]
  refine' wpAnyE_take (i := 10) (v := _) rfl (by kernel_rfl) (by kernel_rfl) (by kernel_rfl) (by kernel_rfl) (fun _ _ _ h => h) (Or.inl ⟨by rfl, fun u hu => ?_⟩) hHeld hClosed (fun hNext => ?_)
  rotate_left
  · (try dsimp only at hu)
    go_simp
    try with_reducible rfl
  clear hClosed
  have hClosed := hNext
  clear hNext
  try simp only [Act.put, List.getElem_toArray, List.getElem_cons_zero, List.getElem_cons_succ, List.setIfInBounds_toArray, List.set_cons_zero, List.set_cons_succ]
  refine' wpAnyE_take (i := 11) (v := _) rfl (by kernel_rfl) (by kernel_rfl) (by kernel_rfl) (by kernel_rfl) (fun _ _ _ h => h) (Or.inl ⟨by rfl, fun u hu => ?_⟩) hHeld hClosed (fun hNext => ?_)
  rotate_left
  · (try dsimp only at hu)
    go_simp
    try with_reducible rfl
  clear hClosed
  have hClosed := hNext
  clear hNext
  try simp only [Act.put, List.getElem_toArray, List.getElem_cons_zero, List.getElem_cons_succ, List.setIfInBounds_toArray, List.set_cons_zero, List.set_cons_succ]
  refine' wpAnyE_take (i := 12) (v := _) rfl (by kernel_rfl) (by kernel_rfl) (by kernel_rfl) (by kernel_rfl) (fun _ _ _ h => h) (Or.inl ⟨by rfl, fun u hu => ?_⟩) hHeld hClosed (fun hNext => ?_)
  rotate_left
  · (try dsimp only at hu)
    go_simp
    try with_reducible rfl
  clear hClosed
  have hClosed := hNext
  clear hNext
  try simp only [Act.put, List.getElem_toArray, List.getElem_cons_zero, List.getElem_cons_succ, List.setIfInBounds_toArray, List.set_cons_zero, List.set_cons_succ]
  refine wpAnyE_done (by kernel_rfl) ?_ _
  clear hClosed
  have hcc' : w.drew.cell? (pc.add q) = some (.int .i64 k') := hcc
  have hcm' : w.drew.cell? (pm.add q) = some (.int .i64 mv) := hcm
  clear hcc hcm hk0 hHeld
  rcases hop : isOpens k' with _ | _
  · have HF : Hid (z = -1) := Lib.hid (by rw [HZ.out, if_pos (.inl hop)])
    go_wp2_with fail
    refine (ropens_any k' w.drew).mono ?_
    rintro e wq ⟨rfl, rfl⟩
    rw [hop]
    clear hop
    go_wp2
    go_ret
    exact ⟨ret_int HF.out.symm, by exact below_same (Below.refl _ _) rfl rfl rfl rfl⟩
  · rcases hneg : decide (mv < 0) with _ | _
    · have HF : Hid (z = firstAt L mv) := Lib.hid (by rw [HZ.out, if_neg (by rw [hop]; simpa using hneg)])
      go_wp2_with fail
      refine (ropens_any k' w.drew).mono ?_
      rintro e wq ⟨rfl, rfl⟩
      rw [hop]
      clear hop
      go_wp2
      go_loopw [10] (fun iv wr => ∃ k : Nat, k ≤ L.length ∧ iv = .int .i64 k ∧ Hid (∀ j (hj : j < k) (hl : j < L.length), headI L[j] ≠ mv) ∧ Below w.heap.size w wr) (fun iv _ => L.length - (intOf iv).toNat)
      case atStart => exact ⟨0, by omega, rfl, Lib.hid (fun j hj => absurd hj (by omega)), by exact below_same (Below.refl _ _) rfl rfl rfl rfl⟩
      case round =>
        obtain ⟨k, hk, rfl, HJ, hb⟩ := hrel
        have HB := Lib.hid hb
        clear hb
        by_cases hlt : k < L.length
        · obtain ⟨p', hpA', ⟨S⟩⟩ := NN.out.shown HB.out hlt (WW.out _ (List.getElem_mem hlt)).1
          injection hpA' with hpA'
          subst hpA'
          obtain ⟨b', off', ck, hbb', _, hcell', hcs'⟩ := S
          have hpos : 0 < L[k].length := List.length_pos_iff.2 (WW.out _ (List.getElem_mem hlt)).1
          have hc0 := hcs' 0 hpos
          obtain ⟨x, hx⟩ : ∃ x, headI L[k] = x := ⟨_, rfl⟩
          rw [show L[k][0] = x by rw [← hx, headI]; simp [hpos]] at hc0
          simp only [Nat.add_zero] at hc0
          obtain ⟨r, hr⟩ : ∃ r, L[k].length = r := ⟨_, rfl⟩
          rw [hr] at hcell' hpos
          have hcm2 : wr.drew.cell? (pm.add q) = some (.int .i64 mv) := by
            obtain ⟨pm2, hpm2, _, hc2⟩ := (H'.out.below HB.out).int hqm
            injection hpm2 with hpm2
            subst hpm2
            rw [HMV.out] at hc2
            exact hc2
          have c0 : (0 : Int) ≤ (k : Int) := by omega
          have c1 : (k : Int) < (L.length : Int) := by omega
          have c2 : (0 : Int) < (r : Int) := by omega
          have HX := Lib.hid hx
          have hk1 : wr.drew.cell? (p.add k) = some (.slice (some ⟨b', off', none⟩) r ck) ∧ wr.drew.cell? ⟨b', off', none⟩ = some (.int .i64 x) ∧ wr.drew.cell? (pm.add q) = some (.int .i64 mv) := ⟨hcell', hc0, hcm2⟩
          clear hx hr hcs' hcell' hc0 hcm2 hcc' hcm'
          rcases hxm : (x == mv) with _ | _
          · go_wp2_with fail
            refine wp_region_E (S := fun w' => w'.cell? (p.add k) = some (.slice (some ⟨b', off', none⟩) r ck) ∧ w'.cell? ⟨b', off', none⟩ = some (.int .i64 x) ∧ w'.cell? (pm.add q) = some (.int .i64 mv)) [] (by kernel_rfl) (hk1) (fun hHeld hClosed => ?_)
            refine' wpAnyE_take (i := 0) (v := _) rfl (by kernel_rfl) (by kernel_rfl) (by kernel_rfl) (by kernel_rfl) (fun _ _ _ h => h) (Or.inl ⟨by rfl, fun u hu => ?_⟩) hHeld hClosed (fun hNext => ?_)
            rotate_left
            · (try dsimp only at hu)
              go_simp
              try with_reducible rfl
            clear hClosed
            have hClosed := hNext
            clear hNext
            try simp only [Act.put, List.getElem_toArray, List.getElem_cons_zero, List.setIfInBounds_toArray, List.set_cons_zero, List.set_cons_succ]
            refine' wpAnyE_take (i := 1) (v := _) rfl (by kernel_rfl) (by kernel_rfl) (by kernel_rfl) (by kernel_rfl) (fun _ _ _ h => h) (Or.inl ⟨by rfl, fun u hu => ?_⟩) hHeld hClosed (fun hNext => ?_)
            rotate_left
            · (try dsimp only at hu)
              go_simp
              try with_reducible rfl
            clear hClosed
            have hClosed := hNext
            clear hNext
            try simp only [Act.put, List.getElem_toArray, List.getElem_cons_zero, List.getElem_cons_succ, List.setIfInBounds_toArray, List.set_cons_zero, List.set_cons_succ]
            refine' wpAnyE_take (i := 2) (v := _) rfl (by kernel_rfl) (by kernel_rfl) (by kernel_rfl) (by kernel_rfl) (fun _ _ _ h => h) (Or.inl ⟨by rfl, fun u hu => ?_⟩) hHeld hClosed (fun hNext => ?_)
            rotate_left
            · (try dsimp only at hu)
              go_simp
              try with_reducible rfl
            clear hClosed
            have hClosed := hNext
            clear hNext
            try simp only [Act.put, List.getElem_toArray, List.getElem_cons_zero, List.getElem_cons_succ, List.setIfInBounds_toArray, List.set_cons_zero, List.set_cons_succ]
            refine' wpAnyE_take (i := 3) (v := _) rfl (by kernel_rfl) (by kernel_rfl) (by kernel_rfl) (by kernel_rfl) (fun _ _ _ h => h) (Or.inl ⟨by rfl, fun u hu => ?_⟩) hHeld hClosed (fun hNext => ?_)
            rotate_left
            · (try dsimp only at hu)
              go_simp
              try with_reducible rfl
            clear hClosed
            have hClosed := hNext
            clear hNext
            try simp only [Act.put, List.getElem_toArray, List.getElem_cons_zero, List.getElem_cons_succ, List.setIfInBounds_toArray, List.set_cons_zero, List.set_cons_succ]
            refine' wpAnyE_take (i := 4) (v := _) rfl (by kernel_rfl) (by kernel_rfl) (by kernel_rfl) (by kernel_rfl) (fun _ _ _ h => h) (Or.inl ⟨by rfl, fun u hu => ?_⟩) hHeld hClosed (fun hNext => ?_)
            rotate_left
            · (try dsimp only at hu)
              go_simp
              try with_reducible rfl
            clear hClosed
            have hClosed := hNext
            clear hNext
            try simp only [Act.put, List.getElem_toArray, List.getElem_cons_zero, List.getElem_cons_succ, List.setIfInBounds_toArray, List.set_cons_zero, List.set_cons_succ]
            refine' wpAnyE_take (i := 5) (v := _) rfl (by kernel_rfl) (by kernel_rfl) (by kernel_rfl) (by kernel_rfl) (fun _ _ _ h => h) (Or.inl ⟨by rfl, fun u hu => ?_⟩) hHeld hClosed (fun hNext => ?_)
            rotate_left
            · (try dsimp only at hu)
              go_simp
              try with_reducible rfl
            clear hClosed
            have hClosed := hNext
            clear hNext
            try simp only [Act.put, List.getElem_toArray, List.getElem_cons_zero, List.getElem_cons_succ, List.setIfInBounds_toArray, List.set_cons_zero, List.set_cons_succ]
            refine' wpAnyE_take (i := 6) (v := _) rfl (by kernel_rfl) (by kernel_rfl) (by kernel_rfl) (by kernel_rfl) (fun _ _ _ h => h) (Or.inl ⟨by rfl, fun u hu => ?_⟩) hHeld hClosed (fun hNext => ?_)
            rotate_left
            · (try dsimp only at hu)
              go_simp
              try with_reducible rfl
            clear hClosed
            have hClosed := hNext
            clear hNext
            try simp only [Act.put, List.getElem_toArray, List.getElem_cons_zero, List.getElem_cons_succ, List.setIfInBounds_toArray, List.set_cons_zero, List.set_cons_succ]
            refine' wpAnyE_take (i := 7) (v := _) rfl (by kernel_rfl) (by kernel_rfl) (by kernel_rfl) (by kernel_rfl) (fun _ _ _ h => h) (Or.inl ⟨by rfl, fun u hu => ?_⟩) hHeld hClosed (fun hNext => ?_)
            rotate_left
            · (try dsimp only at hu)
              go_simp
              try with_reducible rfl
            clear hClosed
            have hClosed := hNext
            clear hNext
            try simp only [Act.put, List.getElem_toArray, List.getElem_cons_zero, List.getElem_cons_succ, List.setIfInBounds_toArray, List.set_cons_zero, List.set_cons_succ]
            refine' wpAnyE_take (i := 8) (v := _) rfl (by kernel_rfl) (by kernel_rfl) (by kernel_rfl) (by kernel_rfl) (fun _ _ _ h => h) (Or.inl ⟨by rfl, fun u hu => ?_⟩) hHeld hClosed (fun hNext => ?_)
            rotate_left
            · (try dsimp only at hu)
              go_simp
              try with_reducible rfl
            clear hClosed
            have hClosed := hNext
            clear hNext
            try simp only [Act.put, List.getElem_toArray, List.getElem_cons_zero, List.getElem_cons_succ, List.setIfInBounds_toArray, List.set_cons_zero, List.set_cons_succ]
            refine' wpAnyE_take (i := 9) (v := _) rfl (by kernel_rfl) (by kernel_rfl) (by kernel_rfl) (by kernel_rfl) (fun _ _ _ h => h) (Or.inl ⟨by rfl, fun u hu => ?_⟩) hHeld hClosed (fun hNext => ?_)
            rotate_left
            · (try dsimp only at hu)
              go_simp
              try with_reducible rfl
            clear hClosed
            have hClosed := hNext
            clear hNext
            try simp only [Act.put, List.getElem_toArray, List.getElem_cons_zero, List.getElem_cons_succ, List.setIfInBounds_toArray, List.set_cons_zero, List.set_cons_succ]
            refine' wpAnyE_take (i := 10) (v := _) rfl (by kernel_rfl) (by kernel_rfl) (by kernel_rfl) (by kernel_rfl) (fun _ _ _ h => h) (Or.inl ⟨by rfl, fun u hu => ?_⟩) hHeld hClosed (fun hNext => ?_)
            rotate_left
            · (try dsimp only at hu)
              go_simp
              try with_reducible rfl
            clear hClosed
            have hClosed := hNext
            clear hNext
            try simp only [Act.put, List.getElem_toArray, List.getElem_cons_zero, List.getElem_cons_succ, List.setIfInBounds_toArray, List.set_cons_zero, List.set_cons_succ]
            refine wpAnyE_done (by kernel_rfl) ?_ _
            clear hClosed
            go_wp2_with fail
            go_roundw
            case rel =>
              refine ⟨k + 1, by omega, by go_num, Lib.hid (fun j hj hl => ?_), by exact below_same HB.out rfl rfl rfl rfl⟩
              by_cases hjk : j = k
              · subst hjk; rw [HX.out]; simpa using hxm
              · exact HJ.out j (by omega) hl
            case measure => simp [intOf]; omega
          · go_wp2_with fail
            refine wp_region_E (S := fun w' => w'.cell? (p.add k) = some (.slice (some ⟨b', off', none⟩) r ck) ∧ w'.cell? ⟨b', off', none⟩ = some (.int .i64 x) ∧ w'.cell? (pm.add q) = some (.int .i64 mv)) [] (by kernel_rfl) (hk1) (fun hHeld hClosed => ?_)
            refine' wpAnyE_take (i := 0) (v := _) rfl (by kernel_rfl) (by kernel_rfl) (by kernel_rfl) (by kernel_rfl) (fun _ _ _ h => h) (Or.inl ⟨by rfl, fun u hu => ?_⟩) hHeld hClosed (fun hNext => ?_)
            rotate_left
            · (try dsimp only at hu)
              go_simp
              try with_reducible rfl
            clear hClosed
            have hClosed := hNext
            clear hNext
            try simp only [Act.put, List.getElem_toArray, List.getElem_cons_zero, List.setIfInBounds_toArray, List.set_cons_zero, List.set_cons_succ]
            refine' wpAnyE_take (i := 1) (v := _) rfl (by kernel_rfl) (by kernel_rfl) (by kernel_rfl) (by kernel_rfl) (fun _ _ _ h => h) (Or.inl ⟨by rfl, fun u hu => ?_⟩) hHeld hClosed (fun hNext => ?_)
            rotate_left
            · (try dsimp only at hu)
              go_simp
              try with_reducible rfl
            clear hClosed
            have hClosed := hNext
            clear hNext
            try simp only [Act.put, List.getElem_toArray, List.getElem_cons_zero, List.getElem_cons_succ, List.setIfInBounds_toArray, List.set_cons_zero, List.set_cons_succ]
            refine' wpAnyE_take (i := 2) (v := _) rfl (by kernel_rfl) (by kernel_rfl) (by kernel_rfl) (by kernel_rfl) (fun _ _ _ h => h) (Or.inl ⟨by rfl, fun u hu => ?_⟩) hHeld hClosed (fun hNext => ?_)
            rotate_left
            · (try dsimp only at hu)
              go_simp
              try with_reducible rfl
            clear hClosed
            have hClosed := hNext
            clear hNext
            try simp only [Act.put, List.getElem_toArray, List.getElem_cons_zero, List.getElem_cons_succ, List.setIfInBounds_toArray, List.set_cons_zero, List.set_cons_succ]
            refine' wpAnyE_take (i := 3) (v := _) rfl (by kernel_rfl) (by kernel_rfl) (by kernel_rfl) (by kernel_rfl) (fun _ _ _ h => h) (Or.inl ⟨by rfl, fun u hu => ?_⟩) hHeld hClosed (fun hNext => ?_)
            rotate_left
            · (try dsimp only at hu)
              go_simp
              try with_reducible rfl
            clear hClosed
            have hClosed := hNext
            clear hNext
            try simp only [Act.put, List.getElem_toArray, List.getElem_cons_zero, List.getElem_cons_succ, List.setIfInBounds_toArray, List.set_cons_zero, List.set_cons_succ]
            refine' wpAnyE_take (i := 4) (v := _) rfl (by kernel_rfl) (by kernel_rfl) (by kernel_rfl) (by kernel_rfl) (fun _ _ _ h => h) (Or.inl ⟨by rfl, fun u hu => ?_⟩) hHeld hClosed (fun hNext => ?_)
            rotate_left
            · (try dsimp only at hu)
              go_simp
              try with_reducible rfl
            clear hClosed
            have hClosed := hNext
            clear hNext
            try simp only [Act.put, List.getElem_toArray, List.getElem_cons_zero, List.getElem_cons_succ, List.setIfInBounds_toArray, List.set_cons_zero, List.set_cons_succ]
            refine' wpAnyE_take (i := 5) (v := _) rfl (by kernel_rfl) (by kernel_rfl) (by kernel_rfl) (by kernel_rfl) (fun _ _ _ h => h) (Or.inl ⟨by rfl, fun u hu => ?_⟩) hHeld hClosed (fun hNext => ?_)
            rotate_left
            · (try dsimp only at hu)
              go_simp
              try with_reducible rfl
            clear hClosed
            have hClosed := hNext
            clear hNext
            try simp only [Act.put, List.getElem_toArray, List.getElem_cons_zero, List.getElem_cons_succ, List.setIfInBounds_toArray, List.set_cons_zero, List.set_cons_succ]
            refine' wpAnyE_take (i := 6) (v := _) rfl (by kernel_rfl) (by kernel_rfl) (by kernel_rfl) (by kernel_rfl) (fun _ _ _ h => h) (Or.inl ⟨by rfl, fun u hu => ?_⟩) hHeld hClosed (fun hNext => ?_)
            rotate_left
            · (try dsimp only at hu)
              go_simp
              try with_reducible rfl
            clear hClosed
            have hClosed := hNext
            clear hNext
            try simp only [Act.put, List.getElem_toArray, List.getElem_cons_zero, List.getElem_cons_succ, List.setIfInBounds_toArray, List.set_cons_zero, List.set_cons_succ]
            refine' wpAnyE_take (i := 7) (v := _) rfl (by kernel_rfl) (by kernel_rfl) (by kernel_rfl) (by kernel_rfl) (fun _ _ _ h => h) (Or.inl ⟨by rfl, fun u hu => ?_⟩) hHeld hClosed (fun hNext => ?_)
            rotate_left
            · (try dsimp only at hu)
              go_simp
              try with_reducible rfl
            clear hClosed
            have hClosed := hNext
            clear hNext
            try simp only [Act.put, List.getElem_toArray, List.getElem_cons_zero, List.getElem_cons_succ, List.setIfInBounds_toArray, List.set_cons_zero, List.set_cons_succ]
            refine' wpAnyE_take (i := 8) (v := _) rfl (by kernel_rfl) (by kernel_rfl) (by kernel_rfl) (by kernel_rfl) (fun _ _ _ h => h) (Or.inl ⟨by rfl, fun u hu => ?_⟩) hHeld hClosed (fun hNext => ?_)
            rotate_left
            · (try dsimp only at hu)
              go_simp
              try with_reducible rfl
            clear hClosed
            have hClosed := hNext
            clear hNext
            try simp only [Act.put, List.getElem_toArray, List.getElem_cons_zero, List.getElem_cons_succ, List.setIfInBounds_toArray, List.set_cons_zero, List.set_cons_succ]
            refine' wpAnyE_take (i := 9) (v := _) rfl (by kernel_rfl) (by kernel_rfl) (by kernel_rfl) (by kernel_rfl) (fun _ _ _ h => h) (Or.inl ⟨by rfl, fun u hu => ?_⟩) hHeld hClosed (fun hNext => ?_)
            rotate_left
            · (try dsimp only at hu)
              go_simp
              try with_reducible rfl
            clear hClosed
            have hClosed := hNext
            clear hNext
            try simp only [Act.put, List.getElem_toArray, List.getElem_cons_zero, List.getElem_cons_succ, List.setIfInBounds_toArray, List.set_cons_zero, List.set_cons_succ]
            refine' wpAnyE_take (i := 10) (v := _) rfl (by kernel_rfl) (by kernel_rfl) (by kernel_rfl) (by kernel_rfl) (fun _ _ _ h => h) (Or.inl ⟨by rfl, fun u hu => ?_⟩) hHeld hClosed (fun hNext => ?_)
            rotate_left
            · (try dsimp only at hu)
              go_simp
              try with_reducible rfl
            clear hClosed
            have hClosed := hNext
            clear hNext
            try simp only [Act.put, List.getElem_toArray, List.getElem_cons_zero, List.getElem_cons_succ, List.setIfInBounds_toArray, List.set_cons_zero, List.set_cons_succ]
            refine wpAnyE_done (by kernel_rfl) ?_ _
            clear hClosed
            go_wp2_with fail
            go_ret
            exact ⟨ret_int (by rw [HF.out, firstAt_some hlt (by rw [HX.out]; simpa using hxm) (fun j hj => HJ.out j hj (by omega))]), by exact below_same HB.out rfl rfl rfl rfl⟩
        · obtain rfl : k = L.length := by omega
          go_wp2
          go_ret
          exact ⟨ret_int (by rw [HF.out, firstAt_none (fun j hj => HJ.out j hj hj)]), HB.out⟩
    · have HF : Hid (z = -1) := Lib.hid (by rw [HZ.out, if_pos (.inr (by simpa using hneg))])
      go_wp2_with fail
      refine (ropens_any k' w.drew).mono ?_
      rintro e wq ⟨rfl, rfl⟩
      rw [hop]
      clear hop
      go_wp2
      go_ret
      exact ⟨ret_int HF.out.symm, by exact below_same (Below.refl _ _) rfl rfl rfl rfl⟩
end Go.Proofs.Ytajgjloailliiaa
