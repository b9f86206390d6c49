/- SeqRuns: for all two lists of numbers, runs are one behind the other, each of one level, and two that touch are unlike, but behind a paragraph's end. Conditions: none. -/
import Derived.Test.YtajgjloailliiaaSqK
import Derived.Test.YtajgjloailliiaaLaw
import Derived.Test.YtajgjloailliiaaRows
namespace Go.Proofs.Ytajgjloailliiaa.lawRuns
open Go.ChangeShapes Go.WideShapes Go.ChangeAt Go.RowKit

/-- the last place of the run ahead; -1: none -/
def zN (L : List (List Int)) : Nat → Int
  | 0 => -1
  | k + 1 => lastI (L.getD k [])
theorem run_okz {cl lv : List Int} (he : cl.length = lv.length) {L : List (List Int)} (hL : listsI cl lv = L) {i : Nat} (hi : i < L.length) : ∃ a b : Nat, headI L[i] = a ∧ lastI L[i] = b ∧ RunOk cl lv i a b (zN L i) := by
  subst hL
  obtain ⟨a, b, h1, h2, h3⟩ := run_ok he hi
  refine ⟨a, b, h1, h2, ?_⟩
  cases i with
  | zero => exact h3
  | succ i =>
    rw [dif_pos (by omega)] at h3
    rw [zN, show (listsI cl lv).getD i [] = (listsI cl lv)[i] by simp [show i < (listsI cl lv).length by omega]]
    exact h3

set_option maxRecDepth 20000 in
set_option maxHeartbeats 8000000 in
theorem walk_ok (w : World) (A : Option Addr) (cl : List Int) (c : Nat) (hc : cl.length ≤ 300) (h : Lies w w.heap.size A (ints .i64 cl)) (A' : Option Addr) (lv : List Int) (c' : Nat) (h' : Lies w w.heap.size A' (ints .i64 lv)) (he : cl.length = lv.length) :
    Calls Try.prog 5 #[.slice A cl.length c, .slice A' lv.length c'] w fun e w' => e = .returned (.bool true) ∧ Below w.heap.size w w' := by
  have hcl : cl.length ≤ 1000000 := by omega
  have hlv : lv.length ≤ 300 := by omega
  have hlv' : lv.length ≤ 1000000 := by omega
  have hd : ((cl.length : Int) != (lv.length : Int)) = false := by simp [he]
  have H := Lib.hid h
  have H' := Lib.hid h'
  have HE := Lib.hid he
  obtain ⟨L, hL⟩ : ∃ x, listsI cl lv = x := ⟨_, rfl⟩
  have hL6 : L.length ≤ 1000000 := by have := (listsI_le cl lv).1; rw [hL] at this; omega
  have HL := Lib.hid hL
  clear h h' hL he
  go_enter Try.func5, Try.ntmps5
  go_wp2_with fail
  refine (qalive_any w).mono ?_
  rintro e w1 ⟨rfl, b1⟩
  have B1 := Lib.hid b1
  have D1 := Lib.hid b1
  clear b1
  go_wp2_with fail
  refine (sruns_any A cl c A' lv c' w1 (H.out.up B1.out) (H'.out.up B1.out) hcl hlv').mono ?_
  rintro e w2 ⟨A2, c2, rfl, p2, b2⟩
  rw [HL.out] at p2 ⊢
  have B2 := Lib.hid (below_then B1.out b2)
  have P2 := Lib.hid p2
  have HC := Lib.hid (H.out.up B2.out)
  have HV := Lib.hid (H'.out.up B2.out)
  clear p2 b2
  go_wp2_with fail
  go_loopw [7, 6] (fun iv zv wr => ∃ k : Nat, k ≤ L.length ∧ iv = .int .i64 k ∧ zv = .int .i64 (zN L k) ∧ Below w2.heap.size w2 wr) (fun iv _ _ => L.length - (intOf iv).toNat)
  case atStart => exact ⟨0, by omega, rfl, rfl, Below.refl _ _⟩
  case round =>
    obtain ⟨k, hk, rfl, rfl, hb⟩ := hrel
    have HB := Lib.hid hb
    clear hb
    by_cases hlt : k < L.length
    · obtain ⟨a, b, ha, hbb, hR⟩ := run_okz HE.out HL.out hlt
      obtain ⟨z, hz⟩ : ∃ z, zN L k = z := ⟨_, rfl⟩
      rw [hz] at hR ⊢
      have R := Lib.hid hR
      have HZ : Hid (zN L (k + 1) = (b : Int)) := Lib.hid (by rw [zN, show L.getD k [] = L[k] by simp [hlt], hbb])
      obtain ⟨g, off, hA2, hg, p0, p1⟩ := PairsR.at' (Lies.up P2.out HB.out) hlt
      subst hA2
      rw [ha] at p0
      rw [hbb] at p1
      have hz1 : -1 ≤ z := by
        rcases Nat.eq_zero_or_pos k with h0 | h0
        · rw [hR.first h0]; decide
        · obtain ⟨y, hy, _⟩ := hR.touch h0; omega
      obtain ⟨z1, hz2⟩ : ∃ n : Nat, z + 1 = n := ⟨(z + 1).toNat, by omega⟩
      have HZ2 := Lib.hid hz2
      have hza := hR.az
      have hab := hR.ab
      have hbn := hR.bn
      have hal : a < cl.length := by omega
      have hz1a : z1 ≤ a := by omega
      have hw1 : IntKind.i64.wrap (z + 1) = (z1 : Int) := by rw [IntWalk.i64_in _ (by omega)]; exact hz2
      obtain ⟨pc, hpc, _, hca⟩ := (HC.out.below HB.out).int hal
      subst hpc
      obtain ⟨pc', hpc', _, hcb⟩ := (HC.out.below HB.out).int hbn
      injection hpc' with hpc'
      subst hpc'
      have k0 : (0 : Int) ≤ (k : Int) := by omega
      have k1 : (k : Int) < (L.length : Int) := by omega
      have a0 : (0 : Int) ≤ (a : Int) := by omega
      have a1 : (a : Int) < (cl.length : Int) := by omega
      have b0 : (0 : Int) ≤ (b : Int) := by omega
      have b1 : (b : Int) < (cl.length : Int) := by omega
      have t1 : decide ((a : Int) ≤ z) = false := by simp; omega
      have t2 : decide ((b : Int) < (a : Int)) = false := by simp; omega
      have t2' : decide (b < a) = false := by simp; omega
      have t3 : decide ((cl.length : Int) ≤ (b : Int)) = false := by simp; omega
      have t3' : decide (cl.length ≤ b) = false := by simp; omega
      have hoa : isOut cl[a] = false := by have := hR.ao; rwa [at0_eq hal] at this
      have hob : isOut cl[b] = false := by have := hR.bo; rwa [at0_eq hbn] at this
      have HOA := Lib.hid hoa
      have HOB := Lib.hid hob
      obtain ⟨ca, hcaE⟩ : ∃ x, cl[a] = x := ⟨_, rfl⟩
      obtain ⟨cb, hcbE⟩ : ∃ x, cl[b] = x := ⟨_, rfl⟩
      rw [hcaE] at hca HOA
      rw [hcbE] at hcb HOB
      have hk0 : wr.drew.cell? ⟨g, off + k * 2, none⟩ = some (.int .i64 a) ∧ wr.drew.cell? ⟨g, off + k * 2 + 1, none⟩ = some (.int .i64 b) := ⟨p0, p1⟩
      have q1 : wr.drew.cell? (pc.add a) = some (.int .i64 ca) := hca
      have q2 : wr.drew.cell? (pc.add b) = some (.int .i64 cb) := hcb
      have HBd : Hid (Below w2.heap.size w2 wr.drew) := Lib.hid (by exact below_same HB.out rfl rfl rfl rfl)
      clear hz hR ha hbb p0 p1 hz2 hca hcb hoa hob hcaE hcbE
      go_wp2_with fail
      refine wp_region_E (S := fun w' => w'.cell? ⟨g, off + k * 2, none⟩ = some (.int .i64 a) ∧ w'.cell? ⟨g, off + k * 2 + 1, none⟩ = some (.int .i64 b)) [] (by kernel_rfl) (hk0) (fun hHeld hClosed => ?_)
      refine' wpAnyE_take (i := 0) (v := _) rfl (by kernel_rfl) (by kernel_rfl) (by kernel_rfl) (by kernel_rfl) (fun _ _ _ h => h) (Or.inl ⟨by rfl, fun u hu => ?_⟩) hHeld hClosed (fun hNext => ?_)
      rotate_left
      · (try dsimp only at hu)
        go_simp
        try with_reducible rfl
      clear hClosed
      have hClosed := hNext
      clear hNext
      try simp only [Act.put, List.getElem_toArray, List.getElem_cons_zero, List.setIfInBounds_toArray, List.set_cons_zero, List.set_cons_succ]
      refine' wpAnyE_take (i := 1) (v := _) rfl (by kernel_rfl) (by kernel_rfl) (by kernel_rfl) (by kernel_rfl) (fun _ _ _ h => h) (Or.inl ⟨by rfl, fun u hu => ?_⟩) hHeld hClosed (fun hNext => ?_)
      rotate_left
      · (try dsimp only at hu)
        go_simp
        try with_reducible rfl
      clear hClosed
      have hClosed := hNext
      clear hNext
      try simp only [Act.put, List.getElem_toArray, List.getElem_cons_zero, List.getElem_cons_succ, List.setIfInBounds_toArray, List.set_cons_zero, List.set_cons_succ]
      refine' wpAnyE_take (i := 2) (v := _) rfl (by kernel_rfl) (by kernel_rfl) (by kernel_rfl) (by kernel_rfl) (fun _ _ _ h => h) (Or.inl ⟨by rfl, fun u hu => ?_⟩) hHeld hClosed (fun hNext => ?_)
      rotate_left
      · (try dsimp only at hu)
        go_simp
        try with_reducible rfl
      clear hClosed
      have hClosed := hNext
      clear hNext
      try simp only [Act.put, List.getElem_toArray, List.getElem_cons_zero, List.getElem_cons_succ, List.setIfInBounds_toArray, List.set_cons_zero, List.set_cons_succ]
      refine' wpAnyE_take (i := 3) (v := _) rfl (by kernel_rfl) (by kernel_rfl) (by kernel_rfl) (by kernel_rfl) (fun _ _ _ h => h) (Or.inl ⟨by rfl, fun u hu => ?_⟩) hHeld hClosed (fun hNext => ?_)
      rotate_left
      · (try dsimp only at hu)
        go_simp
        try with_reducible rfl
      clear hClosed
      have hClosed := hNext
      clear hNext
      try simp only [Act.put, List.getElem_toArray, List.getElem_cons_zero, List.getElem_cons_succ, List.setIfInBounds_toArray, List.set_cons_zero, List.set_cons_succ]
      refine' wpAnyE_take (i := 4) (v := _) rfl (by kernel_rfl) (by kernel_rfl) (by kernel_rfl) (by kernel_rfl) (fun _ _ _ h => h) (Or.inl ⟨by rfl, fun u hu => ?_⟩) hHeld hClosed (fun hNext => ?_)
      rotate_left
      · (try dsimp only at hu)
        go_simp
        try with_reducible rfl
      clear hClosed
      have hClosed := hNext
      clear hNext
      try simp only [Act.put, List.getElem_toArray, List.getElem_cons_zero, List.getElem_cons_succ, List.setIfInBounds_toArray, List.set_cons_zero, List.set_cons_succ]
      refine' wpAnyE_take (i := 5) (v := _) rfl (by kernel_rfl) (by kernel_rfl) (by kernel_rfl) (by kernel_rfl) (fun _ _ _ h => h) (Or.inl ⟨by rfl, fun u hu => ?_⟩) hHeld hClosed (fun hNext => ?_)
      rotate_left
      · (try dsimp only at hu)
        go_simp
        try with_reducible rfl
      clear hClosed
      have hClosed := hNext
      clear hNext
      try simp only [Act.put, List.getElem_toArray, List.getElem_cons_zero, List.getElem_cons_succ, List.setIfInBounds_toArray, List.set_cons_zero, List.set_cons_succ]
      refine' wpAnyE_take (i := 6) (v := _) rfl (by kernel_rfl) (by kernel_rfl) (by kernel_rfl) (by kernel_rfl) (fun _ _ _ h => h) (Or.inl ⟨by rfl, fun u hu => ?_⟩) hHeld hClosed (fun hNext => ?_)
      rotate_left
      · (try dsimp only at hu)
        go_simp
        try with_reducible rfl
      clear hClosed
      have hClosed := hNext
      clear hNext
      try simp only [Act.put, List.getElem_toArray, List.getElem_cons_zero, List.getElem_cons_succ, List.setIfInBounds_toArray, List.set_cons_zero, List.set_cons_succ]
      refine' wpAnyE_take (i := 7) (v := _) rfl (by kernel_rfl) (by kernel_rfl) (by kernel_rfl) (by kernel_rfl) (fun _ _ _ h => h) (Or.inl ⟨by rfl, fun u hu => ?_⟩) hHeld hClosed (fun hNext => ?_)
      rotate_left
      · (try dsimp only at hu)
        go_simp
        try with_reducible rfl
      clear hClosed
      have hClosed := hNext
      clear hNext
      try simp only [Act.put, List.getElem_toArray, List.getElem_cons_zero, List.getElem_cons_succ, List.setIfInBounds_toArray, List.set_cons_zero, List.set_cons_succ]
      refine' wpAnyE_take (i := 8) (v := _) rfl (by kernel_rfl) (by kernel_rfl) (by kernel_rfl) (by kernel_rfl) (fun _ _ _ h => h) (Or.inl ⟨by rfl, fun u hu => ?_⟩) hHeld hClosed (fun hNext => ?_)
      rotate_left
      · (try dsimp only at hu)
        go_simp
        try with_reducible rfl
      clear hClosed
      have hClosed := hNext
      clear hNext
      try simp only [Act.put, List.getElem_toArray, List.getElem_cons_zero, List.getElem_cons_succ, List.setIfInBounds_toArray, List.set_cons_zero, List.set_cons_succ]
      refine' wpAnyE_take (i := 9) (v := _) rfl (by kernel_rfl) (by kernel_rfl) (by kernel_rfl) (by kernel_rfl) (fun _ _ _ h => h) (Or.inl ⟨by rfl, fun u hu => ?_⟩) hHeld hClosed (fun hNext => ?_)
      rotate_left
      · (try dsimp only at hu)
        go_simp
        try with_reducible rfl
      clear hClosed
      have hClosed := hNext
      clear hNext
      try simp only [Act.put, List.getElem_toArray, List.getElem_cons_zero, List.getElem_cons_succ, List.setIfInBounds_toArray, List.set_cons_zero, List.set_cons_succ]
      refine' wpAnyE_take (i := 10) (v := _) rfl (by kernel_rfl) (by kernel_rfl) (by kernel_rfl) (by kernel_rfl) (fun _ _ _ h => h) (Or.inl ⟨by rfl, fun u hu => ?_⟩) hHeld hClosed (fun hNext => ?_)
      rotate_left
      · (try dsimp only at hu)
        go_simp
        try with_reducible rfl
      clear hClosed
      have hClosed := hNext
      clear hNext
      try simp only [Act.put, List.getElem_toArray, List.getElem_cons_zero, List.getElem_cons_succ, List.setIfInBounds_toArray, List.set_cons_zero, List.set_cons_succ]
      refine' wpAnyE_take (i := 11) (v := _) rfl (by kernel_rfl) (by kernel_rfl) (by kernel_rfl) (by kernel_rfl) (fun _ _ _ h => h) (Or.inl ⟨by rfl, fun u hu => ?_⟩) hHeld hClosed (fun hNext => ?_)
      rotate_left
      · (try dsimp only at hu)
        go_simp
        try with_reducible rfl
      clear hClosed
      have hClosed := hNext
      clear hNext
      try simp only [Act.put, List.getElem_toArray, List.getElem_cons_zero, List.getElem_cons_succ, List.setIfInBounds_toArray, List.set_cons_zero, List.set_cons_succ]
      refine wpAnyE_done (by kernel_rfl) ?_ _
      clear hClosed
      clear hk0 hHeld
      go_wp2_with fail
      refine (rout_any ca _).mono ?_
      rintro e wq ⟨rfl, rfl⟩
      rw [HOA.out]
      go_wp2_with fail
      refine (rout_any cb _).mono ?_
      rintro e wq ⟨rfl, rfl⟩
      rw [HOB.out]
      clear q1 q2 t1 t2 t2' t3 t3'
      go_wp2_with fail
      rename World => wx
      go_loopw [10] (fun iv wr => ∃ q : Nat, z1 ≤ q ∧ q ≤ a ∧ iv = .int .i64 q ∧ Below w2.heap.size w2 wr) (fun iv _ => a - (intOf iv).toNat)
      case atStart => exact ⟨z1, Nat.le_refl _, hz1a, rfl, HBd.out⟩
      case round =>
        obtain ⟨q, hq1, hq2, rfl, hb⟩ := hrel
        have HBy := Lib.hid hb
        clear hb
        by_cases hqa : q < a
        · have hqa' : (q : Int) < (a : Int) := by omega
          have hqn : q < cl.length := by omega
          obtain ⟨pc', hpc', _, hcq⟩ := (HC.out.below HBy.out).int hqn
          injection hpc' with hpc'
          subst hpc'
          have hq0 : isOut cl[q] = true := by have := R.out.gap q (by have := HZ2.out; omega) hqa; rwa [at0_eq hqn] at this
          obtain ⟨cq, hcqE⟩ : ∃ x, cl[q] = x := ⟨_, rfl⟩
          rw [hcqE] at hcq hq0
          have HO := Lib.hid hq0
          have x0 : (0 : Int) ≤ (q : Int) := by omega
          have x1 : (q : Int) < (cl.length : Int) := by omega
          clear hq0 hcqE
          go_wp2_with fail
          refine (rout_any cq _).mono ?_
          rintro e wq ⟨rfl, rfl⟩
          rw [HO.out]
          go_wp2_with fail
          go_roundw
          case rel => exact ⟨q + 1, by omega, by omega, by go_num, HBy.out⟩
          case measure => simp [intOf]; omega
        · obtain rfl : a = q := by omega
          go_wp2_with fail
          rename World => wy
          go_loopw [11] (fun iv wr => ∃ q : Nat, a ≤ q ∧ q ≤ b + 1 ∧ iv = .int .i64 q ∧ Below w2.heap.size w2 wr) (fun iv _ => b + 1 - (intOf iv).toNat)
          case atStart => exact ⟨a, Nat.le_refl _, by omega, rfl, HBy.out⟩
          case round =>
            obtain ⟨q, hq3, hq4, rfl, hb⟩ := hrel
            have HBz := Lib.hid hb
            clear hb
            have hav : a < lv.length := by have := HE.out; omega
            obtain ⟨pv, hpv, _, hla⟩ := (HV.out.below HBz.out).int hav
            subst hpv
            obtain ⟨la, hlaE⟩ : ∃ x, lv[a] = x := ⟨_, rfl⟩
            rw [hlaE] at hla
            have a2 : (a : Int) < (lv.length : Int) := by omega
            by_cases hqb : q ≤ b
            · have hqb' : decide (q ≤ b) = true := by simpa using hqb
              have hqb2 : decide ((q : Int) ≤ (b : Int)) = true := by simp; omega
              have hqn : q < cl.length := by omega
              have hqv : q < lv.length := by have := HE.out; omega
              obtain ⟨pc', hpc', _, hcq⟩ := (HC.out.below HBz.out).int hqn
              injection hpc' with hpc'
              subst hpc'
              obtain ⟨pv', hpv', _, hlq⟩ := (HV.out.below HBz.out).int hqv
              injection hpv' with hpv'
              subst hpv'
              have hown := R.out.own q hq3 hqb
              rw [at0_eq hqn, at0_eq hqv, at0_eq hav, hlaE] at hown
              obtain ⟨cq, hcqE⟩ : ∃ x, cl[q] = x := ⟨_, rfl⟩
              obtain ⟨lq, hlqE⟩ : ∃ x, lv[q] = x := ⟨_, rfl⟩
              rw [hcqE] at hcq hown
              rw [hlqE] at hlq hown
              have x0 : (0 : Int) ≤ (q : Int) := by omega
              have x1 : (q : Int) < (cl.length : Int) := by omega
              have x2 : (q : Int) < (lv.length : Int) := by omega
              have hk1 : wr.drew.cell? (pc.add q) = some (.int .i64 cq) ∧ wr.drew.cell? (pv.add q) = some (.int .i64 lq) ∧ wr.drew.cell? (pv.add a) = some (.int .i64 la) := ⟨hcq, hlq, hla⟩
              have HK1 := Lib.hid hk1
              have HOW := Lib.hid hown
              clear hcqE hlqE hlaE hcq hlq hla hown
              rcases ho : isOut cq with _ | _
              · have HO := Lib.hid ho
                clear ho
                have hle : (lq != la) = false := by have := (HOW.out HO.out).1; simp [this]
                rcases h10 : (cq == 10) with _ | _
                · have TT := trivial
                  go_wp2_with fail
                  refine wp_region_E (S := fun w' => w'.cell? (pc.add q) = some (.int .i64 cq) ∧ w'.cell? (pv.add q) = some (.int .i64 lq) ∧ w'.cell? (pv.add a) = some (.int .i64 la)) [] (by kernel_rfl) (hk1) (fun hHeld hClosed => ?_)
                  refine' wpAnyE_take (i := 0) (v := _) rfl (by kernel_rfl) (by kernel_rfl) (by kernel_rfl) (by kernel_rfl) (fun _ _ _ h => h) (Or.inl ⟨by rfl, fun u hu => ?_⟩) hHeld hClosed (fun hNext => ?_)
                  rotate_left
                  · (try dsimp only at hu)
                    go_simp
                    try with_reducible rfl
                  clear hClosed
                  have hClosed := hNext
                  clear hNext
                  try simp only [Act.put, List.getElem_toArray, List.getElem_cons_zero, List.setIfInBounds_toArray, List.set_cons_zero, List.set_cons_succ]
                  refine' wpAnyE_take (i := 1) (v := _) rfl (by kernel_rfl) (by kernel_rfl) (by kernel_rfl) (by kernel_rfl) (fun _ _ _ h => h) (Or.inl ⟨by rfl, fun u hu => ?_⟩) hHeld hClosed (fun hNext => ?_)
                  rotate_left
                  · (try dsimp only at hu)
                    go_simp
                    try with_reducible rfl
                  clear hClosed
                  have hClosed := hNext
                  clear hNext
                  try simp only [Act.put, List.getElem_toArray, List.getElem_cons_zero, List.getElem_cons_succ, List.setIfInBounds_toArray, List.set_cons_zero, List.set_cons_succ]
                  refine' wpAnyE_take (i := 2) (v := _) rfl (by kernel_rfl) (by kernel_rfl) (by kernel_rfl) (by kernel_rfl) (fun _ _ _ h => h) (Or.inl ⟨by rfl, fun u hu => ?_⟩) hHeld hClosed (fun hNext => ?_)
                  rotate_left
                  · (try dsimp only at hu)
                    go_simp
                    try with_reducible rfl
                  clear hClosed
                  have hClosed := hNext
                  clear hNext
                  try simp only [Act.put, List.getElem_toArray, List.getElem_cons_zero, List.getElem_cons_succ, List.setIfInBounds_toArray, List.set_cons_zero, List.set_cons_succ]
                  refine' wpAnyE_take (i := 3) (v := _) rfl (by kernel_rfl) (by kernel_rfl) (by kernel_rfl) (by kernel_rfl) (fun _ _ _ h => h) (Or.inl ⟨by rfl, fun u hu => ?_⟩) hHeld hClosed (fun hNext => ?_)
                  rotate_left
                  · (try dsimp only at hu)
                    go_simp
                    try with_reducible rfl
                  clear hClosed
                  have hClosed := hNext
                  clear hNext
                  try simp only [Act.put, List.getElem_toArray, List.getElem_cons_zero, List.getElem_cons_succ, List.setIfInBounds_toArray, List.set_cons_zero, List.set_cons_succ]
                  refine wpAnyE_ready (rs := [4]) (by kernel_rfl) (by simp) ?_
                  refine AllReadyE.cons rfl (fun K hK => ?_) AllReadyE.nil
                  all_goals simp only [List.getElem_toArray, List.getElem_cons_zero, List.getElem_cons_succ]
                  all_goals go_simp
                  refine (rout_any cq _).mono ?_
                  rintro e wq ⟨rfl, rfl⟩
                  rw [HO.out]
                  refine hK.out _ _ (fun _ => HK1.out) (fun hHeld => ?_) (fun hX => (by first | cases hX | simp at hX))
                  replace hClosed := hClosed.step 4 (by kernel_rfl)
                  clear hK K
                  try simp only [Act.put, List.getElem_toArray, List.getElem_cons_zero, List.getElem_cons_succ, List.setIfInBounds_toArray, List.set_cons_zero, List.set_cons_succ]
                  refine' wpAnyE_take (i := 5) (v := _) rfl (by kernel_rfl) (by kernel_rfl) (by kernel_rfl) (by kernel_rfl) (fun _ _ _ h => h) (Or.inl ⟨by rfl, fun u hu => ?_⟩) hHeld hClosed (fun hNext => ?_)
                  rotate_left
                  · (try dsimp only at hu)
                    go_simp
                    try with_reducible rfl
                  clear hClosed
                  have hClosed := hNext
                  clear hNext
                  try simp only [Act.put, List.getElem_toArray, List.getElem_cons_zero, List.getElem_cons_succ, List.setIfInBounds_toArray, List.set_cons_zero, List.set_cons_succ]
                  refine' wpAnyE_take (i := 6) (v := _) rfl (by kernel_rfl) (by kernel_rfl) (by kernel_rfl) (by kernel_rfl) (fun _ _ _ h => h) (Or.inl ⟨by rfl, fun u hu => ?_⟩) hHeld hClosed (fun hNext => ?_)
                  rotate_left
                  · (try dsimp only at hu)
                    go_simp
                    try with_reducible rfl
                  clear hClosed
                  have hClosed := hNext
                  clear hNext
                  try simp only [Act.put, List.getElem_toArray, List.getElem_cons_zero, List.getElem_cons_succ, List.setIfInBounds_toArray, List.set_cons_zero, List.set_cons_succ]
                  refine' wpAnyE_take (i := 7) (v := _) rfl (by kernel_rfl) (by kernel_rfl) (by kernel_rfl) (by kernel_rfl) (fun _ _ _ h => h) (Or.inl ⟨by rfl, fun u hu => ?_⟩) hHeld hClosed (fun hNext => ?_)
                  rotate_left
                  · (try dsimp only at hu)
                    go_simp
                    try with_reducible rfl
                  clear hClosed
                  have hClosed := hNext
                  clear hNext
                  try simp only [Act.put, List.getElem_toArray, List.getElem_cons_zero, List.getElem_cons_succ, List.setIfInBounds_toArray, List.set_cons_zero, List.set_cons_succ]
                  refine' wpAnyE_take (i := 8) (v := _) rfl (by kernel_rfl) (by kernel_rfl) (by kernel_rfl) (by kernel_rfl) (fun _ _ _ h => h) (Or.inl ⟨by rfl, fun u hu => ?_⟩) hHeld hClosed (fun hNext => ?_)
                  rotate_left
                  · (try dsimp only at hu)
                    go_simp
                    try with_reducible rfl
                  clear hClosed
                  have hClosed := hNext
                  clear hNext
                  try simp only [Act.put, List.getElem_toArray, List.getElem_cons_zero, List.getElem_cons_succ, List.setIfInBounds_toArray, List.set_cons_zero, List.set_cons_succ]
                  refine' wpAnyE_take (i := 9) (v := _) rfl (by kernel_rfl) (by kernel_rfl) (by kernel_rfl) (by kernel_rfl) (fun _ _ _ h => h) (Or.inl ⟨by rfl, fun u hu => ?_⟩) hHeld hClosed (fun hNext => ?_)
                  rotate_left
                  · (try dsimp only at hu)
                    go_simp
                    try with_reducible rfl
                  clear hClosed
                  have hClosed := hNext
                  clear hNext
                  try simp only [Act.put, List.getElem_toArray, List.getElem_cons_zero, List.getElem_cons_succ, List.setIfInBounds_toArray, List.set_cons_zero, List.set_cons_succ]
                  refine' wpAnyE_take (i := 10) (v := _) rfl (by kernel_rfl) (by kernel_rfl) (by kernel_rfl) (by kernel_rfl) (fun _ _ _ h => h) (Or.inl ⟨by rfl, fun u hu => ?_⟩) hHeld hClosed (fun hNext => ?_)
                  rotate_left
                  · (try dsimp only at hu)
                    go_simp
                    try with_reducible rfl
                  clear hClosed
                  have hClosed := hNext
                  clear hNext
                  try simp only [Act.put, List.getElem_toArray, List.getElem_cons_zero, List.getElem_cons_succ, List.setIfInBounds_toArray, List.set_cons_zero, List.set_cons_succ]
                  refine' wpAnyE_take (i := 11) (v := _) rfl (by kernel_rfl) (by kernel_rfl) (by kernel_rfl) (by kernel_rfl) (fun _ _ _ h => h) (Or.inl ⟨by rfl, fun u hu => ?_⟩) hHeld hClosed (fun hNext => ?_)
                  rotate_left
                  · (try dsimp only at hu)
                    go_simp
                    try with_reducible rfl
                  clear hClosed
                  have hClosed := hNext
                  clear hNext
                  try simp only [Act.put, List.getElem_toArray, List.getElem_cons_zero, List.getElem_cons_succ, List.setIfInBounds_toArray, List.set_cons_zero, List.set_cons_succ]
                  refine' wpAnyE_take (i := 12) (v := _) rfl (by kernel_rfl) (by kernel_rfl) (by kernel_rfl) (by kernel_rfl) (fun _ _ _ h => h) (Or.inl ⟨by rfl, fun u hu => ?_⟩) hHeld hClosed (fun hNext => ?_)
                  rotate_left
                  · (try dsimp only at hu)
                    go_simp
                    try with_reducible rfl
                  clear hClosed
                  have hClosed := hNext
                  clear hNext
                  try simp only [Act.put, List.getElem_toArray, List.getElem_cons_zero, List.getElem_cons_succ, List.setIfInBounds_toArray, List.set_cons_zero, List.set_cons_succ]
                  refine' wpAnyE_take (i := 13) (v := _) rfl (by kernel_rfl) (by kernel_rfl) (by kernel_rfl) (by kernel_rfl) (fun _ _ _ h => h) (Or.inl ⟨by rfl, fun u hu => ?_⟩) hHeld hClosed (fun hNext => ?_)
                  rotate_left
                  · (try dsimp only at hu)
                    go_simp
                    try with_reducible rfl
                  clear hClosed
                  have hClosed := hNext
                  clear hNext
                  try simp only [Act.put, List.getElem_toArray, List.getElem_cons_zero, List.getElem_cons_succ, List.setIfInBounds_toArray, List.set_cons_zero, List.set_cons_succ]
                  refine' wpAnyE_take (i := 14) (v := _) rfl (by kernel_rfl) (by kernel_rfl) (by kernel_rfl) (by kernel_rfl) (fun _ _ _ h => h) (Or.inl ⟨by rfl, fun u hu => ?_⟩) hHeld hClosed (fun hNext => ?_)
                  rotate_left
                  · (try dsimp only at hu)
                    go_simp
                    try with_reducible rfl
                  clear hClosed
                  have hClosed := hNext
                  clear hNext
                  try simp only [Act.put, List.getElem_toArray, List.getElem_cons_zero, List.getElem_cons_succ, List.setIfInBounds_toArray, List.set_cons_zero, List.set_cons_succ]
                  refine' wpAnyE_take (i := 15) (v := _) rfl (by kernel_rfl) (by kernel_rfl) (by kernel_rfl) (by kernel_rfl) (fun _ _ _ h => h) (Or.inl ⟨by rfl, fun u hu => ?_⟩) hHeld hClosed (fun hNext => ?_)
                  rotate_left
                  · (try dsimp only at hu)
                    go_simp
                    try with_reducible rfl
                  clear hClosed
                  have hClosed := hNext
                  clear hNext
                  try simp only [Act.put, List.getElem_toArray, List.getElem_cons_zero, List.getElem_cons_succ, List.setIfInBounds_toArray, List.set_cons_zero, List.set_cons_succ]
                  refine' wpAnyE_take (i := 16) (v := _) rfl (by kernel_rfl) (by kernel_rfl) (by kernel_rfl) (by kernel_rfl) (fun _ _ _ h => h) (Or.inl ⟨by rfl, fun u hu => ?_⟩) hHeld hClosed (fun hNext => ?_)
                  rotate_left
                  · (try dsimp only at hu)
                    go_simp
                    try with_reducible rfl
                  clear hClosed
                  have hClosed := hNext
                  clear hNext
                  try simp only [Act.put, List.getElem_toArray, List.getElem_cons_zero, List.getElem_cons_succ, List.setIfInBounds_toArray, List.set_cons_zero, List.set_cons_succ]
                  refine' wpAnyE_take (i := 17) (v := _) rfl (by kernel_rfl) (by kernel_rfl) (by kernel_rfl) (by kernel_rfl) (fun _ _ _ h => h) (Or.inl ⟨by rfl, fun u hu => ?_⟩) hHeld hClosed (fun hNext => ?_)
                  rotate_left
                  · (try dsimp only at hu)
                    go_simp
                    try with_reducible rfl
                  clear hClosed
                  have hClosed := hNext
                  clear hNext
                  try simp only [Act.put, List.getElem_toArray, List.getElem_cons_zero, List.getElem_cons_succ, List.setIfInBounds_toArray, List.set_cons_zero, List.set_cons_succ]
                  refine' wpAnyE_take (i := 18) (v := _) rfl (by kernel_rfl) (by kernel_rfl) (by kernel_rfl) (by kernel_rfl) (fun _ _ _ h => h) (Or.inl ⟨by rfl, fun u hu => ?_⟩) hHeld hClosed (fun hNext => ?_)
                  rotate_left
                  · (try dsimp only at hu)
                    go_simp
                    try with_reducible rfl
                  clear hClosed
                  have hClosed := hNext
                  clear hNext
                  try simp only [Act.put, List.getElem_toArray, List.getElem_cons_zero, List.getElem_cons_succ, List.setIfInBounds_toArray, List.set_cons_zero, List.set_cons_succ]
                  refine' wpAnyE_take (i := 19) (v := _) rfl (by kernel_rfl) (by kernel_rfl) (by kernel_rfl) (by kernel_rfl) (fun _ _ _ h => h) (Or.inl ⟨by rfl, fun u hu => ?_⟩) hHeld hClosed (fun hNext => ?_)
                  rotate_left
                  · (try dsimp only at hu)
                    go_simp
                    try with_reducible rfl
                  clear hClosed
                  have hClosed := hNext
                  clear hNext
                  try simp only [Act.put, List.getElem_toArray, List.getElem_cons_zero, List.getElem_cons_succ, List.setIfInBounds_toArray, List.set_cons_zero, List.set_cons_succ]
                  refine' wpAnyE_take (i := 20) (v := _) rfl (by kernel_rfl) (by kernel_rfl) (by kernel_rfl) (by kernel_rfl) (fun _ _ _ h => h) (Or.inl ⟨by rfl, fun u hu => ?_⟩) hHeld hClosed (fun hNext => ?_)
                  rotate_left
                  · (try dsimp only at hu)
                    go_simp
                    try with_reducible rfl
                  clear hClosed
                  have hClosed := hNext
                  clear hNext
                  try simp only [Act.put, List.getElem_toArray, List.getElem_cons_zero, List.getElem_cons_succ, List.setIfInBounds_toArray, List.set_cons_zero, List.set_cons_succ]
                  refine' wpAnyE_take (i := 21) (v := _) rfl (by kernel_rfl) (by kernel_rfl) (by kernel_rfl) (by kernel_rfl) (fun _ _ _ h => h) (Or.inl ⟨by rfl, fun u hu => ?_⟩) hHeld hClosed (fun hNext => ?_)
                  rotate_left
                  · (try dsimp only at hu)
                    go_simp
                    try with_reducible rfl
                  clear hClosed
                  have hClosed := hNext
                  clear hNext
                  try simp only [Act.put, List.getElem_toArray, List.getElem_cons_zero, List.getElem_cons_succ, List.setIfInBounds_toArray, List.set_cons_zero, List.set_cons_succ]
                  refine' wpAnyE_take (i := 22) (v := _) rfl (by kernel_rfl) (by kernel_rfl) (by kernel_rfl) (by kernel_rfl) (fun _ _ _ h => h) (Or.inl ⟨by rfl, fun u hu => ?_⟩) hHeld hClosed (fun hNext => ?_)
                  rotate_left
                  · (try dsimp only at hu)
                    go_simp
                    try with_reducible rfl
                  clear hClosed
                  have hClosed := hNext
                  clear hNext
                  try simp only [Act.put, List.getElem_toArray, List.getElem_cons_zero, List.getElem_cons_succ, List.setIfInBounds_toArray, List.set_cons_zero, List.set_cons_succ]
                  refine' wpAnyE_take (i := 23) (v := _) rfl (by kernel_rfl) (by kernel_rfl) (by kernel_rfl) (by kernel_rfl) (fun _ _ _ h => h) (Or.inr ⟨by rfl, rfl⟩) hHeld hClosed (fun hNext => ?_)
                  clear hClosed
                  have hClosed := hNext
                  clear hNext
                  try simp only [Act.put, List.getElem_toArray, List.getElem_cons_zero, List.getElem_cons_succ, List.setIfInBounds_toArray, List.set_cons_zero, List.set_cons_succ]
                  refine' wpAnyE_take (i := 24) (v := _) rfl (by kernel_rfl) (by kernel_rfl) (by kernel_rfl) (by kernel_rfl) (fun _ _ _ h => h) (Or.inr ⟨by rfl, rfl⟩) hHeld hClosed (fun hNext => ?_)
                  clear hClosed
                  have hClosed := hNext
                  clear hNext
                  try simp only [Act.put, List.getElem_toArray, List.getElem_cons_zero, List.getElem_cons_succ, List.setIfInBounds_toArray, List.set_cons_zero, List.set_cons_succ]
                  refine' wpAnyE_take (i := 25) (v := _) rfl (by kernel_rfl) (by kernel_rfl) (by kernel_rfl) (by kernel_rfl) (fun _ _ _ h => h) (Or.inr ⟨by rfl, rfl⟩) hHeld hClosed (fun hNext => ?_)
                  clear hClosed
                  have hClosed := hNext
                  clear hNext
                  try simp only [Act.put, List.getElem_toArray, List.getElem_cons_zero, List.getElem_cons_succ, List.setIfInBounds_toArray, List.set_cons_zero, List.set_cons_succ]
                  refine' wpAnyE_take (i := 26) (v := _) rfl (by kernel_rfl) (by kernel_rfl) (by kernel_rfl) (by kernel_rfl) (fun _ _ _ h => h) (Or.inl ⟨by rfl, fun u hu => ?_⟩) hHeld hClosed (fun hNext => ?_)
                  rotate_left
                  · (try dsimp only at hu)
                    go_simp
                    try with_reducible rfl
                  clear hClosed
                  have hClosed := hNext
                  clear hNext
                  try simp only [Act.put, List.getElem_toArray, List.getElem_cons_zero, List.getElem_cons_succ, List.setIfInBounds_toArray, List.set_cons_zero, List.set_cons_succ]
                  refine' wpAnyE_take (i := 27) (v := _) rfl (by kernel_rfl) (by kernel_rfl) (by kernel_rfl) (by kernel_rfl) (fun _ _ _ h => h) (Or.inl ⟨by rfl, fun u hu => ?_⟩) hHeld hClosed (fun hNext => ?_)
                  rotate_left
                  · (try dsimp only at hu)
                    go_simp
                    try with_reducible rfl
                  clear hClosed
                  have hClosed := hNext
                  clear hNext
                  try simp only [Act.put, List.getElem_toArray, List.getElem_cons_zero, List.getElem_cons_succ, List.setIfInBounds_toArray, List.set_cons_zero, List.set_cons_succ]
                  refine' wpAnyE_take (i := 28) (v := _) rfl (by kernel_rfl) (by kernel_rfl) (by kernel_rfl) (by kernel_rfl) (fun _ _ _ h => h) (Or.inl ⟨by rfl, fun u hu => ?_⟩) hHeld hClosed (fun hNext => ?_)
                  rotate_left
                  · (try dsimp only at hu)
                    go_simp
                    try with_reducible rfl
                  clear hClosed
                  have hClosed := hNext
                  clear hNext
                  try simp only [Act.put, List.getElem_toArray, List.getElem_cons_zero, List.getElem_cons_succ, List.setIfInBounds_toArray, List.set_cons_zero, List.set_cons_succ]
                  refine wpAnyE_done (by kernel_rfl) ?_ _
                  clear hClosed
                  go_wp2_with fail
                  go_roundw
                  case rel => exact ⟨q + 1, by omega, by omega, by go_num, by exact below_same HBz.out rfl rfl rfl rfl⟩
                  case measure => simp [intOf]; omega

                · have hqe : q = b := (HOW.out HO.out).2 (by simpa using h10)
                  have hqe2 : (q != b) = false := by simp [hqe]
                  have hqe3 : ((q : Int) != (b : Int)) = false := by simp [hqe]
                  clear hqe
                  go_wp2_with fail
                  refine wp_region_E (S := fun w' => w'.cell? (pc.add q) = some (.int .i64 cq) ∧ w'.cell? (pv.add q) = some (.int .i64 lq) ∧ w'.cell? (pv.add a) = some (.int .i64 la)) [] (by kernel_rfl) (hk1) (fun hHeld hClosed => ?_)
                  refine' wpAnyE_take (i := 0) (v := _) rfl (by kernel_rfl) (by kernel_rfl) (by kernel_rfl) (by kernel_rfl) (fun _ _ _ h => h) (Or.inl ⟨by rfl, fun u hu => ?_⟩) hHeld hClosed (fun hNext => ?_)
                  rotate_left
                  · (try dsimp only at hu)
                    go_simp
                    try with_reducible rfl
                  clear hClosed
                  have hClosed := hNext
                  clear hNext
                  try simp only [Act.put, List.getElem_toArray, List.getElem_cons_zero, List.setIfInBounds_toArray, List.set_cons_zero, List.set_cons_succ]
                  refine' wpAnyE_take (i := 1) (v := _) rfl (by kernel_rfl) (by kernel_rfl) (by kernel_rfl) (by kernel_rfl) (fun _ _ _ h => h) (Or.inl ⟨by rfl, fun u hu => ?_⟩) hHeld hClosed (fun hNext => ?_)
                  rotate_left
                  · (try dsimp only at hu)
                    go_simp
                    try with_reducible rfl
                  clear hClosed
                  have hClosed := hNext
                  clear hNext
                  try simp only [Act.put, List.getElem_toArray, List.getElem_cons_zero, List.getElem_cons_succ, List.setIfInBounds_toArray, List.set_cons_zero, List.set_cons_succ]
                  refine' wpAnyE_take (i := 2) (v := _) rfl (by kernel_rfl) (by kernel_rfl) (by kernel_rfl) (by kernel_rfl) (fun _ _ _ h => h) (Or.inl ⟨by rfl, fun u hu => ?_⟩) hHeld hClosed (fun hNext => ?_)
                  rotate_left
                  · (try dsimp only at hu)
                    go_simp
                    try with_reducible rfl
                  clear hClosed
                  have hClosed := hNext
                  clear hNext
                  try simp only [Act.put, List.getElem_toArray, List.getElem_cons_zero, List.getElem_cons_succ, List.setIfInBounds_toArray, List.set_cons_zero, List.set_cons_succ]
                  refine' wpAnyE_take (i := 3) (v := _) rfl (by kernel_rfl) (by kernel_rfl) (by kernel_rfl) (by kernel_rfl) (fun _ _ _ h => h) (Or.inl ⟨by rfl, fun u hu => ?_⟩) hHeld hClosed (fun hNext => ?_)
                  rotate_left
                  · (try dsimp only at hu)
                    go_simp
                    try with_reducible rfl
                  clear hClosed
                  have hClosed := hNext
                  clear hNext
                  try simp only [Act.put, List.getElem_toArray, List.getElem_cons_zero, List.getElem_cons_succ, List.setIfInBounds_toArray, List.set_cons_zero, List.set_cons_succ]
                  refine wpAnyE_ready (rs := [4]) (by kernel_rfl) (by simp) ?_
                  refine AllReadyE.cons rfl (fun K hK => ?_) AllReadyE.nil
                  all_goals simp only [List.getElem_toArray, List.getElem_cons_zero, List.getElem_cons_succ]
                  all_goals go_simp
                  refine (rout_any cq _).mono ?_
                  rintro e wq ⟨rfl, rfl⟩
                  rw [HO.out]
                  refine hK.out _ _ (fun _ => HK1.out) (fun hHeld => ?_) (fun hX => (by first | cases hX | simp at hX))
                  replace hClosed := hClosed.step 4 (by kernel_rfl)
                  clear hK K
                  try simp only [Act.put, List.getElem_toArray, List.getElem_cons_zero, List.getElem_cons_succ, List.setIfInBounds_toArray, List.set_cons_zero, List.set_cons_succ]
                  refine' wpAnyE_take (i := 5) (v := _) rfl (by kernel_rfl) (by kernel_rfl) (by kernel_rfl) (by kernel_rfl) (fun _ _ _ h => h) (Or.inl ⟨by rfl, fun u hu => ?_⟩) hHeld hClosed (fun hNext => ?_)
                  rotate_left
                  · (try dsimp only at hu)
                    go_simp
                    try with_reducible rfl
                  clear hClosed
                  have hClosed := hNext
                  clear hNext
                  try simp only [Act.put, List.getElem_toArray, List.getElem_cons_zero, List.getElem_cons_succ, List.setIfInBounds_toArray, List.set_cons_zero, List.set_cons_succ]
                  refine' wpAnyE_take (i := 6) (v := _) rfl (by kernel_rfl) (by kernel_rfl) (by kernel_rfl) (by kernel_rfl) (fun _ _ _ h => h) (Or.inl ⟨by rfl, fun u hu => ?_⟩) hHeld hClosed (fun hNext => ?_)
                  rotate_left
                  · (try dsimp only at hu)
                    go_simp
                    try with_reducible rfl
                  clear hClosed
                  have hClosed := hNext
                  clear hNext
                  try simp only [Act.put, List.getElem_toArray, List.getElem_cons_zero, List.getElem_cons_succ, List.setIfInBounds_toArray, List.set_cons_zero, List.set_cons_succ]
                  refine' wpAnyE_take (i := 7) (v := _) rfl (by kernel_rfl) (by kernel_rfl) (by kernel_rfl) (by kernel_rfl) (fun _ _ _ h => h) (Or.inl ⟨by rfl, fun u hu => ?_⟩) hHeld hClosed (fun hNext => ?_)
                  rotate_left
                  · (try dsimp only at hu)
                    go_simp
                    try with_reducible rfl
                  clear hClosed
                  have hClosed := hNext
                  clear hNext
                  try simp only [Act.put, List.getElem_toArray, List.getElem_cons_zero, List.getElem_cons_succ, List.setIfInBounds_toArray, List.set_cons_zero, List.set_cons_succ]
                  refine' wpAnyE_take (i := 8) (v := _) rfl (by kernel_rfl) (by kernel_rfl) (by kernel_rfl) (by kernel_rfl) (fun _ _ _ h => h) (Or.inl ⟨by rfl, fun u hu => ?_⟩) hHeld hClosed (fun hNext => ?_)
                  rotate_left
                  · (try dsimp only at hu)
                    go_simp
                    try with_reducible rfl
                  clear hClosed
                  have hClosed := hNext
                  clear hNext
                  try simp only [Act.put, List.getElem_toArray, List.getElem_cons_zero, List.getElem_cons_succ, List.setIfInBounds_toArray, List.set_cons_zero, List.set_cons_succ]
                  refine' wpAnyE_take (i := 9) (v := _) rfl (by kernel_rfl) (by kernel_rfl) (by kernel_rfl) (by kernel_rfl) (fun _ _ _ h => h) (Or.inl ⟨by rfl, fun u hu => ?_⟩) hHeld hClosed (fun hNext => ?_)
                  rotate_left
                  · (try dsimp only at hu)
                    go_simp
                    try with_reducible rfl
                  clear hClosed
                  have hClosed := hNext
                  clear hNext
                  try simp only [Act.put, List.getElem_toArray, List.getElem_cons_zero, List.getElem_cons_succ, List.setIfInBounds_toArray, List.set_cons_zero, List.set_cons_succ]
                  refine' wpAnyE_take (i := 10) (v := _) rfl (by kernel_rfl) (by kernel_rfl) (by kernel_rfl) (by kernel_rfl) (fun _ _ _ h => h) (Or.inl ⟨by rfl, fun u hu => ?_⟩) hHeld hClosed (fun hNext => ?_)
                  rotate_left
                  · (try dsimp only at hu)
                    go_simp
                    try with_reducible rfl
                  clear hClosed
                  have hClosed := hNext
                  clear hNext
                  try simp only [Act.put, List.getElem_toArray, List.getElem_cons_zero, List.getElem_cons_succ, List.setIfInBounds_toArray, List.set_cons_zero, List.set_cons_succ]
                  refine' wpAnyE_take (i := 11) (v := _) rfl (by kernel_rfl) (by kernel_rfl) (by kernel_rfl) (by kernel_rfl) (fun _ _ _ h => h) (Or.inl ⟨by rfl, fun u hu => ?_⟩) hHeld hClosed (fun hNext => ?_)
                  rotate_left
                  · (try dsimp only at hu)
                    go_simp
                    try with_reducible rfl
                  clear hClosed
                  have hClosed := hNext
                  clear hNext
                  try simp only [Act.put, List.getElem_toArray, List.getElem_cons_zero, List.getElem_cons_succ, List.setIfInBounds_toArray, List.set_cons_zero, List.set_cons_succ]
                  refine' wpAnyE_take (i := 12) (v := _) rfl (by kernel_rfl) (by kernel_rfl) (by kernel_rfl) (by kernel_rfl) (fun _ _ _ h => h) (Or.inl ⟨by rfl, fun u hu => ?_⟩) hHeld hClosed (fun hNext => ?_)
                  rotate_left
                  · (try dsimp only at hu)
                    go_simp
                    try with_reducible rfl
                  clear hClosed
                  have hClosed := hNext
                  clear hNext
                  try simp only [Act.put, List.getElem_toArray, List.getElem_cons_zero, List.getElem_cons_succ, List.setIfInBounds_toArray, List.set_cons_zero, List.set_cons_succ]
                  refine' wpAnyE_take (i := 13) (v := _) rfl (by kernel_rfl) (by kernel_rfl) (by kernel_rfl) (by kernel_rfl) (fun _ _ _ h => h) (Or.inl ⟨by rfl, fun u hu => ?_⟩) hHeld hClosed (fun hNext => ?_)
                  rotate_left
                  · (try dsimp only at hu)
                    go_simp
                    try with_reducible rfl
                  clear hClosed
                  have hClosed := hNext
                  clear hNext
                  try simp only [Act.put, List.getElem_toArray, List.getElem_cons_zero, List.getElem_cons_succ, List.setIfInBounds_toArray, List.set_cons_zero, List.set_cons_succ]
                  refine' wpAnyE_take (i := 14) (v := _) rfl (by kernel_rfl) (by kernel_rfl) (by kernel_rfl) (by kernel_rfl) (fun _ _ _ h => h) (Or.inl ⟨by rfl, fun u hu => ?_⟩) hHeld hClosed (fun hNext => ?_)
                  rotate_left
                  · (try dsimp only at hu)
                    go_simp
                    try with_reducible rfl
                  clear hClosed
                  have hClosed := hNext
                  clear hNext
                  try simp only [Act.put, List.getElem_toArray, List.getElem_cons_zero, List.getElem_cons_succ, List.setIfInBounds_toArray, List.set_cons_zero, List.set_cons_succ]
                  refine' wpAnyE_take (i := 15) (v := _) rfl (by kernel_rfl) (by kernel_rfl) (by kernel_rfl) (by kernel_rfl) (fun _ _ _ h => h) (Or.inl ⟨by rfl, fun u hu => ?_⟩) hHeld hClosed (fun hNext => ?_)
                  rotate_left
                  · (try dsimp only at hu)
                    go_simp
                    try with_reducible rfl
                  clear hClosed
                  have hClosed := hNext
                  clear hNext
                  try simp only [Act.put, List.getElem_toArray, List.getElem_cons_zero, List.getElem_cons_succ, List.setIfInBounds_toArray, List.set_cons_zero, List.set_cons_succ]
                  refine' wpAnyE_take (i := 16) (v := _) rfl (by kernel_rfl) (by kernel_rfl) (by kernel_rfl) (by kernel_rfl) (fun _ _ _ h => h) (Or.inl ⟨by rfl, fun u hu => ?_⟩) hHeld hClosed (fun hNext => ?_)
                  rotate_left
                  · (try dsimp only at hu)
                    go_simp
                    try with_reducible rfl
                  clear hClosed
                  have hClosed := hNext
                  clear hNext
                  try simp only [Act.put, List.getElem_toArray, List.getElem_cons_zero, List.getElem_cons_succ, List.setIfInBounds_toArray, List.set_cons_zero, List.set_cons_succ]
                  refine' wpAnyE_take (i := 17) (v := _) rfl (by kernel_rfl) (by kernel_rfl) (by kernel_rfl) (by kernel_rfl) (fun _ _ _ h => h) (Or.inl ⟨by rfl, fun u hu => ?_⟩) hHeld hClosed (fun hNext => ?_)
                  rotate_left
                  · (try dsimp only at hu)
                    go_simp
                    try with_reducible rfl
                  clear hClosed
                  have hClosed := hNext
                  clear hNext
                  try simp only [Act.put, List.getElem_toArray, List.getElem_cons_zero, List.getElem_cons_succ, List.setIfInBounds_toArray, List.set_cons_zero, List.set_cons_succ]
                  refine' wpAnyE_take (i := 18) (v := _) rfl (by kernel_rfl) (by kernel_rfl) (by kernel_rfl) (by kernel_rfl) (fun _ _ _ h => h) (Or.inl ⟨by rfl, fun u hu => ?_⟩) hHeld hClosed (fun hNext => ?_)
                  rotate_left
                  · (try dsimp only at hu)
                    go_simp
                    try with_reducible rfl
                  clear hClosed
                  have hClosed := hNext
                  clear hNext
                  try simp only [Act.put, List.getElem_toArray, List.getElem_cons_zero, List.getElem_cons_succ, List.setIfInBounds_toArray, List.set_cons_zero, List.set_cons_succ]
                  refine' wpAnyE_take (i := 19) (v := _) rfl (by kernel_rfl) (by kernel_rfl) (by kernel_rfl) (by kernel_rfl) (fun _ _ _ h => h) (Or.inl ⟨by rfl, fun u hu => ?_⟩) hHeld hClosed (fun hNext => ?_)
                  rotate_left
                  · (try dsimp only at hu)
                    go_simp
                    try with_reducible rfl
                  clear hClosed
                  have hClosed := hNext
                  clear hNext
                  try simp only [Act.put, List.getElem_toArray, List.getElem_cons_zero, List.getElem_cons_succ, List.setIfInBounds_toArray, List.set_cons_zero, List.set_cons_succ]
                  refine' wpAnyE_take (i := 20) (v := _) rfl (by kernel_rfl) (by kernel_rfl) (by kernel_rfl) (by kernel_rfl) (fun _ _ _ h => h) (Or.inl ⟨by rfl, fun u hu => ?_⟩) hHeld hClosed (fun hNext => ?_)
                  rotate_left
                  · (try dsimp only at hu)
                    go_simp
                    try with_reducible rfl
                  clear hClosed
                  have hClosed := hNext
                  clear hNext
                  try simp only [Act.put, List.getElem_toArray, List.getElem_cons_zero, List.getElem_cons_succ, List.setIfInBounds_toArray, List.set_cons_zero, List.set_cons_succ]
                  refine' wpAnyE_take (i := 21) (v := _) rfl (by kernel_rfl) (by kernel_rfl) (by kernel_rfl) (by kernel_rfl) (fun _ _ _ h => h) (Or.inl ⟨by rfl, fun u hu => ?_⟩) hHeld hClosed (fun hNext => ?_)
                  rotate_left
                  · (try dsimp only at hu)
                    go_simp
                    try with_reducible rfl
                  clear hClosed
                  have hClosed := hNext
                  clear hNext
                  try simp only [Act.put, List.getElem_toArray, List.getElem_cons_zero, List.getElem_cons_succ, List.setIfInBounds_toArray, List.set_cons_zero, List.set_cons_succ]
                  refine' wpAnyE_take (i := 22) (v := _) rfl (by kernel_rfl) (by kernel_rfl) (by kernel_rfl) (by kernel_rfl) (fun _ _ _ h => h) (Or.inl ⟨by rfl, fun u hu => ?_⟩) hHeld hClosed (fun hNext => ?_)
                  rotate_left
                  · (try dsimp only at hu)
                    go_simp
                    try with_reducible rfl
                  clear hClosed
                  have hClosed := hNext
                  clear hNext
                  try simp only [Act.put, List.getElem_toArray, List.getElem_cons_zero, List.getElem_cons_succ, List.setIfInBounds_toArray, List.set_cons_zero, List.set_cons_succ]
                  refine' wpAnyE_take (i := 23) (v := _) rfl (by kernel_rfl) (by kernel_rfl) (by kernel_rfl) (by kernel_rfl) (fun _ _ _ h => h) (Or.inl ⟨by rfl, fun u hu => ?_⟩) hHeld hClosed (fun hNext => ?_)
                  rotate_left
                  · (try dsimp only at hu)
                    go_simp
                    try with_reducible rfl
                  clear hClosed
                  have hClosed := hNext
                  clear hNext
                  try simp only [Act.put, List.getElem_toArray, List.getElem_cons_zero, List.getElem_cons_succ, List.setIfInBounds_toArray, List.set_cons_zero, List.set_cons_succ]
                  refine' wpAnyE_take (i := 24) (v := _) rfl (by kernel_rfl) (by kernel_rfl) (by kernel_rfl) (by kernel_rfl) (fun _ _ _ h => h) (Or.inl ⟨by rfl, fun u hu => ?_⟩) hHeld hClosed (fun hNext => ?_)
                  rotate_left
                  · (try dsimp only at hu)
                    go_simp
                    try with_reducible rfl
                  clear hClosed
                  have hClosed := hNext
                  clear hNext
                  try simp only [Act.put, List.getElem_toArray, List.getElem_cons_zero, List.getElem_cons_succ, List.setIfInBounds_toArray, List.set_cons_zero, List.set_cons_succ]
                  refine' wpAnyE_take (i := 25) (v := _) rfl (by kernel_rfl) (by kernel_rfl) (by kernel_rfl) (by kernel_rfl) (fun _ _ _ h => h) (Or.inl ⟨by rfl, fun u hu => ?_⟩) hHeld hClosed (fun hNext => ?_)
                  rotate_left
                  · (try dsimp only at hu)
                    go_simp
                    try with_reducible rfl
                  clear hClosed
                  have hClosed := hNext
                  clear hNext
                  try simp only [Act.put, List.getElem_toArray, List.getElem_cons_zero, List.getElem_cons_succ, List.setIfInBounds_toArray, List.set_cons_zero, List.set_cons_succ]
                  refine' wpAnyE_take (i := 26) (v := _) rfl (by kernel_rfl) (by kernel_rfl) (by kernel_rfl) (by kernel_rfl) (fun _ _ _ h => h) (Or.inl ⟨by rfl, fun u hu => ?_⟩) hHeld hClosed (fun hNext => ?_)
                  rotate_left
                  · (try dsimp only at hu)
                    go_simp
                    try with_reducible rfl
                  clear hClosed
                  have hClosed := hNext
                  clear hNext
                  try simp only [Act.put, List.getElem_toArray, List.getElem_cons_zero, List.getElem_cons_succ, List.setIfInBounds_toArray, List.set_cons_zero, List.set_cons_succ]
                  refine' wpAnyE_take (i := 27) (v := _) rfl (by kernel_rfl) (by kernel_rfl) (by kernel_rfl) (by kernel_rfl) (fun _ _ _ h => h) (Or.inl ⟨by rfl, fun u hu => ?_⟩) hHeld hClosed (fun hNext => ?_)
                  rotate_left
                  · (try dsimp only at hu)
                    go_simp
                    try with_reducible rfl
                  clear hClosed
                  have hClosed := hNext
                  clear hNext
                  try simp only [Act.put, List.getElem_toArray, List.getElem_cons_zero, List.getElem_cons_succ, List.setIfInBounds_toArray, List.set_cons_zero, List.set_cons_succ]
                  refine' wpAnyE_take (i := 28) (v := _) rfl (by kernel_rfl) (by kernel_rfl) (by kernel_rfl) (by kernel_rfl) (fun _ _ _ h => h) (Or.inl ⟨by rfl, fun u hu => ?_⟩) hHeld hClosed (fun hNext => ?_)
                  rotate_left
                  · (try dsimp only at hu)
                    go_simp
                    try with_reducible rfl
                  clear hClosed
                  have hClosed := hNext
                  clear hNext
                  try simp only [Act.put, List.getElem_toArray, List.getElem_cons_zero, List.getElem_cons_succ, List.setIfInBounds_toArray, List.set_cons_zero, List.set_cons_succ]
                  refine wpAnyE_done (by kernel_rfl) ?_ _
                  clear hClosed
                  go_wp2_with fail
                  go_roundw
                  case rel => exact ⟨q + 1, by omega, by omega, by go_num, by exact below_same HBz.out rfl rfl rfl rfl⟩
                  case measure => simp [intOf]; omega

              · have HO := Lib.hid ho
                clear ho
                go_wp2_with fail
                refine wp_region_E (S := fun w' => w'.cell? (pc.add q) = some (.int .i64 cq) ∧ w'.cell? (pv.add q) = some (.int .i64 lq) ∧ w'.cell? (pv.add a) = some (.int .i64 la)) [] (by kernel_rfl) (hk1) (fun hHeld hClosed => ?_)
                refine' wpAnyE_take (i := 0) (v := _) rfl (by kernel_rfl) (by kernel_rfl) (by kernel_rfl) (by kernel_rfl) (fun _ _ _ h => h) (Or.inl ⟨by rfl, fun u hu => ?_⟩) hHeld hClosed (fun hNext => ?_)
                rotate_left
                · (try dsimp only at hu)
                  go_simp
                  try with_reducible rfl
                clear hClosed
                have hClosed := hNext
                clear hNext
                try simp only [Act.put, List.getElem_toArray, List.getElem_cons_zero, List.setIfInBounds_toArray, List.set_cons_zero, List.set_cons_succ]
                refine' wpAnyE_take (i := 1) (v := _) rfl (by kernel_rfl) (by kernel_rfl) (by kernel_rfl) (by kernel_rfl) (fun _ _ _ h => h) (Or.inl ⟨by rfl, fun u hu => ?_⟩) hHeld hClosed (fun hNext => ?_)
                rotate_left
                · (try dsimp only at hu)
                  go_simp
                  try with_reducible rfl
                clear hClosed
                have hClosed := hNext
                clear hNext
                try simp only [Act.put, List.getElem_toArray, List.getElem_cons_zero, List.getElem_cons_succ, List.setIfInBounds_toArray, List.set_cons_zero, List.set_cons_succ]
                refine' wpAnyE_take (i := 2) (v := _) rfl (by kernel_rfl) (by kernel_rfl) (by kernel_rfl) (by kernel_rfl) (fun _ _ _ h => h) (Or.inl ⟨by rfl, fun u hu => ?_⟩) hHeld hClosed (fun hNext => ?_)
                rotate_left
                · (try dsimp only at hu)
                  go_simp
                  try with_reducible rfl
                clear hClosed
                have hClosed := hNext
                clear hNext
                try simp only [Act.put, List.getElem_toArray, List.getElem_cons_zero, List.getElem_cons_succ, List.setIfInBounds_toArray, List.set_cons_zero, List.set_cons_succ]
                refine' wpAnyE_take (i := 3) (v := _) rfl (by kernel_rfl) (by kernel_rfl) (by kernel_rfl) (by kernel_rfl) (fun _ _ _ h => h) (Or.inl ⟨by rfl, fun u hu => ?_⟩) hHeld hClosed (fun hNext => ?_)
                rotate_left
                · (try dsimp only at hu)
                  go_simp
                  try with_reducible rfl
                clear hClosed
                have hClosed := hNext
                clear hNext
                try simp only [Act.put, List.getElem_toArray, List.getElem_cons_zero, List.getElem_cons_succ, List.setIfInBounds_toArray, List.set_cons_zero, List.set_cons_succ]
                refine wpAnyE_ready (rs := [4]) (by kernel_rfl) (by simp) ?_
                refine AllReadyE.cons rfl (fun K hK => ?_) AllReadyE.nil
                all_goals simp only [List.getElem_toArray, List.getElem_cons_zero, List.getElem_cons_succ]
                all_goals go_simp
                refine (rout_any cq _).mono ?_
                rintro e wq ⟨rfl, rfl⟩
                rw [HO.out]
                refine hK.out _ _ (fun _ => HK1.out) (fun hHeld => ?_) (fun hX => (by first | cases hX | simp at hX))
                replace hClosed := hClosed.step 4 (by kernel_rfl)
                clear hK K
                try simp only [Act.put, List.getElem_toArray, List.getElem_cons_zero, List.getElem_cons_succ, List.setIfInBounds_toArray, List.set_cons_zero, List.set_cons_succ]
                refine' wpAnyE_take (i := 5) (v := _) rfl (by kernel_rfl) (by kernel_rfl) (by kernel_rfl) (by kernel_rfl) (fun _ _ _ h => h) (Or.inl ⟨by rfl, fun u hu => ?_⟩) hHeld hClosed (fun hNext => ?_)
                rotate_left
                · (try dsimp only at hu)
                  go_simp
                  try with_reducible rfl
                clear hClosed
                have hClosed := hNext
                clear hNext
                try simp only [Act.put, List.getElem_toArray, List.getElem_cons_zero, List.getElem_cons_succ, List.setIfInBounds_toArray, List.set_cons_zero, List.set_cons_succ]
                refine' wpAnyE_take (i := 6) (v := _) rfl (by kernel_rfl) (by kernel_rfl) (by kernel_rfl) (by kernel_rfl) (fun _ _ _ h => h) (Or.inl ⟨by rfl, fun u hu => ?_⟩) hHeld hClosed (fun hNext => ?_)
                rotate_left
                · (try dsimp only at hu)
                  go_simp
                  try with_reducible rfl
                clear hClosed
                have hClosed := hNext
                clear hNext
                try simp only [Act.put, List.getElem_toArray, List.getElem_cons_zero, List.getElem_cons_succ, List.setIfInBounds_toArray, List.set_cons_zero, List.set_cons_succ]
                refine' wpAnyE_take (i := 7) (v := _) rfl (by kernel_rfl) (by kernel_rfl) (by kernel_rfl) (by kernel_rfl) (fun _ _ _ h => h) (Or.inr ⟨by rfl, rfl⟩) hHeld hClosed (fun hNext => ?_)
                clear hClosed
                have hClosed := hNext
                clear hNext
                try simp only [Act.put, List.getElem_toArray, List.getElem_cons_zero, List.getElem_cons_succ, List.setIfInBounds_toArray, List.set_cons_zero, List.set_cons_succ]
                refine' wpAnyE_take (i := 8) (v := _) rfl (by kernel_rfl) (by kernel_rfl) (by kernel_rfl) (by kernel_rfl) (fun _ _ _ h => h) (Or.inr ⟨by rfl, rfl⟩) hHeld hClosed (fun hNext => ?_)
                clear hClosed
                have hClosed := hNext
                clear hNext
                try simp only [Act.put, List.getElem_toArray, List.getElem_cons_zero, List.getElem_cons_succ, List.setIfInBounds_toArray, List.set_cons_zero, List.set_cons_succ]
                refine' wpAnyE_take (i := 9) (v := _) rfl (by kernel_rfl) (by kernel_rfl) (by kernel_rfl) (by kernel_rfl) (fun _ _ _ h => h) (Or.inr ⟨by rfl, rfl⟩) hHeld hClosed (fun hNext => ?_)
                clear hClosed
                have hClosed := hNext
                clear hNext
                try simp only [Act.put, List.getElem_toArray, List.getElem_cons_zero, List.getElem_cons_succ, List.setIfInBounds_toArray, List.set_cons_zero, List.set_cons_succ]
                refine' wpAnyE_take (i := 10) (v := _) rfl (by kernel_rfl) (by kernel_rfl) (by kernel_rfl) (by kernel_rfl) (fun _ _ _ h => h) (Or.inr ⟨by rfl, rfl⟩) hHeld hClosed (fun hNext => ?_)
                clear hClosed
                have hClosed := hNext
                clear hNext
                try simp only [Act.put, List.getElem_toArray, List.getElem_cons_zero, List.getElem_cons_succ, List.setIfInBounds_toArray, List.set_cons_zero, List.set_cons_succ]
                refine' wpAnyE_take (i := 11) (v := _) rfl (by kernel_rfl) (by kernel_rfl) (by kernel_rfl) (by kernel_rfl) (fun _ _ _ h => h) (Or.inr ⟨by rfl, rfl⟩) hHeld hClosed (fun hNext => ?_)
                clear hClosed
                have hClosed := hNext
                clear hNext
                try simp only [Act.put, List.getElem_toArray, List.getElem_cons_zero, List.getElem_cons_succ, List.setIfInBounds_toArray, List.set_cons_zero, List.set_cons_succ]
                refine' wpAnyE_take (i := 12) (v := _) rfl (by kernel_rfl) (by kernel_rfl) (by kernel_rfl) (by kernel_rfl) (fun _ _ _ h => h) (Or.inr ⟨by rfl, rfl⟩) hHeld hClosed (fun hNext => ?_)
                clear hClosed
                have hClosed := hNext
                clear hNext
                try simp only [Act.put, List.getElem_toArray, List.getElem_cons_zero, List.getElem_cons_succ, List.setIfInBounds_toArray, List.set_cons_zero, List.set_cons_succ]
                refine' wpAnyE_take (i := 13) (v := _) rfl (by kernel_rfl) (by kernel_rfl) (by kernel_rfl) (by kernel_rfl) (fun _ _ _ h => h) (Or.inr ⟨by rfl, rfl⟩) hHeld hClosed (fun hNext => ?_)
                clear hClosed
                have hClosed := hNext
                clear hNext
                try simp only [Act.put, List.getElem_toArray, List.getElem_cons_zero, List.getElem_cons_succ, List.setIfInBounds_toArray, List.set_cons_zero, List.set_cons_succ]
                refine' wpAnyE_take (i := 14) (v := _) rfl (by kernel_rfl) (by kernel_rfl) (by kernel_rfl) (by kernel_rfl) (fun _ _ _ h => h) (Or.inr ⟨by rfl, rfl⟩) hHeld hClosed (fun hNext => ?_)
                clear hClosed
                have hClosed := hNext
                clear hNext
                try simp only [Act.put, List.getElem_toArray, List.getElem_cons_zero, List.getElem_cons_succ, List.setIfInBounds_toArray, List.set_cons_zero, List.set_cons_succ]
                refine' wpAnyE_take (i := 15) (v := _) rfl (by kernel_rfl) (by kernel_rfl) (by kernel_rfl) (by kernel_rfl) (fun _ _ _ h => h) (Or.inr ⟨by rfl, rfl⟩) hHeld hClosed (fun hNext => ?_)
                clear hClosed
                have hClosed := hNext
                clear hNext
                try simp only [Act.put, List.getElem_toArray, List.getElem_cons_zero, List.getElem_cons_succ, List.setIfInBounds_toArray, List.set_cons_zero, List.set_cons_succ]
                refine' wpAnyE_take (i := 16) (v := _) rfl (by kernel_rfl) (by kernel_rfl) (by kernel_rfl) (by kernel_rfl) (fun _ _ _ h => h) (Or.inr ⟨by rfl, rfl⟩) hHeld hClosed (fun hNext => ?_)
                clear hClosed
                have hClosed := hNext
                clear hNext
                try simp only [Act.put, List.getElem_toArray, List.getElem_cons_zero, List.getElem_cons_succ, List.setIfInBounds_toArray, List.set_cons_zero, List.set_cons_succ]
                refine' wpAnyE_take (i := 17) (v := _) rfl (by kernel_rfl) (by kernel_rfl) (by kernel_rfl) (by kernel_rfl) (fun _ _ _ h => h) (Or.inr ⟨by rfl, rfl⟩) hHeld hClosed (fun hNext => ?_)
                clear hClosed
                have hClosed := hNext
                clear hNext
                try simp only [Act.put, List.getElem_toArray, List.getElem_cons_zero, List.getElem_cons_succ, List.setIfInBounds_toArray, List.set_cons_zero, List.set_cons_succ]
                refine' wpAnyE_take (i := 18) (v := _) rfl (by kernel_rfl) (by kernel_rfl) (by kernel_rfl) (by kernel_rfl) (fun _ _ _ h => h) (Or.inr ⟨by rfl, rfl⟩) hHeld hClosed (fun hNext => ?_)
                clear hClosed
                have hClosed := hNext
                clear hNext
                try simp only [Act.put, List.getElem_toArray, List.getElem_cons_zero, List.getElem_cons_succ, List.setIfInBounds_toArray, List.set_cons_zero, List.set_cons_succ]
                refine' wpAnyE_take (i := 19) (v := _) rfl (by kernel_rfl) (by kernel_rfl) (by kernel_rfl) (by kernel_rfl) (fun _ _ _ h => h) (Or.inr ⟨by rfl, rfl⟩) hHeld hClosed (fun hNext => ?_)
                clear hClosed
                have hClosed := hNext
                clear hNext
                try simp only [Act.put, List.getElem_toArray, List.getElem_cons_zero, List.getElem_cons_succ, List.setIfInBounds_toArray, List.set_cons_zero, List.set_cons_succ]
                refine' wpAnyE_take (i := 20) (v := _) rfl (by kernel_rfl) (by kernel_rfl) (by kernel_rfl) (by kernel_rfl) (fun _ _ _ h => h) (Or.inr ⟨by rfl, rfl⟩) hHeld hClosed (fun hNext => ?_)
                clear hClosed
                have hClosed := hNext
                clear hNext
                try simp only [Act.put, List.getElem_toArray, List.getElem_cons_zero, List.getElem_cons_succ, List.setIfInBounds_toArray, List.set_cons_zero, List.set_cons_succ]
                refine' wpAnyE_take (i := 21) (v := _) rfl (by kernel_rfl) (by kernel_rfl) (by kernel_rfl) (by kernel_rfl) (fun _ _ _ h => h) (Or.inr ⟨by rfl, rfl⟩) hHeld hClosed (fun hNext => ?_)
                clear hClosed
                have hClosed := hNext
                clear hNext
                try simp only [Act.put, List.getElem_toArray, List.getElem_cons_zero, List.getElem_cons_succ, List.setIfInBounds_toArray, List.set_cons_zero, List.set_cons_succ]
                refine' wpAnyE_take (i := 22) (v := _) rfl (by kernel_rfl) (by kernel_rfl) (by kernel_rfl) (by kernel_rfl) (fun _ _ _ h => h) (Or.inr ⟨by rfl, rfl⟩) hHeld hClosed (fun hNext => ?_)
                clear hClosed
                have hClosed := hNext
                clear hNext
                try simp only [Act.put, List.getElem_toArray, List.getElem_cons_zero, List.getElem_cons_succ, List.setIfInBounds_toArray, List.set_cons_zero, List.set_cons_succ]
                refine' wpAnyE_take (i := 23) (v := _) rfl (by kernel_rfl) (by kernel_rfl) (by kernel_rfl) (by kernel_rfl) (fun _ _ _ h => h) (Or.inr ⟨by rfl, rfl⟩) hHeld hClosed (fun hNext => ?_)
                clear hClosed
                have hClosed := hNext
                clear hNext
                try simp only [Act.put, List.getElem_toArray, List.getElem_cons_zero, List.getElem_cons_succ, List.setIfInBounds_toArray, List.set_cons_zero, List.set_cons_succ]
                refine' wpAnyE_take (i := 24) (v := _) rfl (by kernel_rfl) (by kernel_rfl) (by kernel_rfl) (by kernel_rfl) (fun _ _ _ h => h) (Or.inr ⟨by rfl, rfl⟩) hHeld hClosed (fun hNext => ?_)
                clear hClosed
                have hClosed := hNext
                clear hNext
                try simp only [Act.put, List.getElem_toArray, List.getElem_cons_zero, List.getElem_cons_succ, List.setIfInBounds_toArray, List.set_cons_zero, List.set_cons_succ]
                refine' wpAnyE_take (i := 25) (v := _) rfl (by kernel_rfl) (by kernel_rfl) (by kernel_rfl) (by kernel_rfl) (fun _ _ _ h => h) (Or.inr ⟨by rfl, rfl⟩) hHeld hClosed (fun hNext => ?_)
                clear hClosed
                have hClosed := hNext
                clear hNext
                try simp only [Act.put, List.getElem_toArray, List.getElem_cons_zero, List.getElem_cons_succ, List.setIfInBounds_toArray, List.set_cons_zero, List.set_cons_succ]
                refine' wpAnyE_take (i := 26) (v := _) rfl (by kernel_rfl) (by kernel_rfl) (by kernel_rfl) (by kernel_rfl) (fun _ _ _ h => h) (Or.inr ⟨by rfl, rfl⟩) hHeld hClosed (fun hNext => ?_)
                clear hClosed
                have hClosed := hNext
                clear hNext
                try simp only [Act.put, List.getElem_toArray, List.getElem_cons_zero, List.getElem_cons_succ, List.setIfInBounds_toArray, List.set_cons_zero, List.set_cons_succ]
                refine' wpAnyE_take (i := 27) (v := _) rfl (by kernel_rfl) (by kernel_rfl) (by kernel_rfl) (by kernel_rfl) (fun _ _ _ h => h) (Or.inr ⟨by rfl, rfl⟩) hHeld hClosed (fun hNext => ?_)
                clear hClosed
                have hClosed := hNext
                clear hNext
                try simp only [Act.put, List.getElem_toArray, List.getElem_cons_zero, List.getElem_cons_succ, List.setIfInBounds_toArray, List.set_cons_zero, List.set_cons_succ]
                refine' wpAnyE_take (i := 28) (v := _) rfl (by kernel_rfl) (by kernel_rfl) (by kernel_rfl) (by kernel_rfl) (fun _ _ _ h => h) (Or.inl ⟨by rfl, fun u hu => ?_⟩) hHeld hClosed (fun hNext => ?_)
                rotate_left
                · (try dsimp only at hu)
                  go_simp
                  try with_reducible rfl
                clear hClosed
                have hClosed := hNext
                clear hNext
                try simp only [Act.put, List.getElem_toArray, List.getElem_cons_zero, List.getElem_cons_succ, List.setIfInBounds_toArray, List.set_cons_zero, List.set_cons_succ]
                refine wpAnyE_done (by kernel_rfl) ?_ _
                clear hClosed
                go_wp2_with fail
                go_roundw
                case rel => exact ⟨q + 1, by omega, by omega, by go_num, by exact below_same HBz.out rfl rfl rfl rfl⟩
                case measure => simp [intOf]; omega

            · have hqb' : decide (q ≤ b) = false := by simp; omega
              have hqb2 : decide ((q : Int) ≤ (b : Int)) = false := by simp; omega
              obtain rfl : q = b + 1 := by omega
              rcases Nat.eq_zero_or_pos k with h0 | h0
              · have hk0 : decide (0 < k) = false := by simp; omega
                clear hla
                go_wp2_with fail
                refine wp_region_E (S := fun _ => True) [] (by kernel_rfl) (trivial) (fun hHeld hClosed => ?_)
                refine' wpAnyE_take (i := 0) (v := _) rfl (by kernel_rfl) (by kernel_rfl) (by kernel_rfl) (by kernel_rfl) (fun _ _ _ h => h) (Or.inl ⟨by rfl, fun u hu => ?_⟩) hHeld hClosed (fun hNext => ?_)
                rotate_left
                · (try dsimp only at hu)
                  go_simp
                  try with_reducible rfl
                clear hClosed
                have hClosed := hNext
                clear hNext
                try simp only [Act.put, List.getElem_toArray, List.getElem_cons_zero, List.setIfInBounds_toArray, List.set_cons_zero, List.set_cons_succ]
                refine' wpAnyE_take (i := 1) (v := _) rfl (by kernel_rfl) (by kernel_rfl) (by kernel_rfl) (by kernel_rfl) (fun _ _ _ h => h) (Or.inl ⟨by rfl, fun u hu => ?_⟩) hHeld hClosed (fun hNext => ?_)
                rotate_left
                · (try dsimp only at hu)
                  go_simp
                  try with_reducible rfl
                clear hClosed
                have hClosed := hNext
                clear hNext
                try simp only [Act.put, List.getElem_toArray, List.getElem_cons_zero, List.getElem_cons_succ, List.setIfInBounds_toArray, List.set_cons_zero, List.set_cons_succ]
                refine' wpAnyE_take (i := 2) (v := _) rfl (by kernel_rfl) (by kernel_rfl) (by kernel_rfl) (by kernel_rfl) (fun _ _ _ h => h) (Or.inl ⟨by rfl, fun u hu => ?_⟩) hHeld hClosed (fun hNext => ?_)
                rotate_left
                · (try dsimp only at hu)
                  go_simp
                  try with_reducible rfl
                clear hClosed
                have hClosed := hNext
                clear hNext
                try simp only [Act.put, List.getElem_toArray, List.getElem_cons_zero, List.getElem_cons_succ, List.setIfInBounds_toArray, List.set_cons_zero, List.set_cons_succ]
                refine' wpAnyE_take (i := 3) (v := _) rfl (by kernel_rfl) (by kernel_rfl) (by kernel_rfl) (by kernel_rfl) (fun _ _ _ h => h) (Or.inr ⟨by rfl, rfl⟩) hHeld hClosed (fun hNext => ?_)
                clear hClosed
                have hClosed := hNext
                clear hNext
                try simp only [Act.put, List.getElem_toArray, List.getElem_cons_zero, List.getElem_cons_succ, List.setIfInBounds_toArray, List.set_cons_zero, List.set_cons_succ]
                refine' wpAnyE_take (i := 4) (v := _) rfl (by kernel_rfl) (by kernel_rfl) (by kernel_rfl) (by kernel_rfl) (fun _ _ _ h => h) (Or.inr ⟨by rfl, rfl⟩) hHeld hClosed (fun hNext => ?_)
                clear hClosed
                have hClosed := hNext
                clear hNext
                try simp only [Act.put, List.getElem_toArray, List.getElem_cons_zero, List.getElem_cons_succ, List.setIfInBounds_toArray, List.set_cons_zero, List.set_cons_succ]
                refine' wpAnyE_take (i := 5) (v := _) rfl (by kernel_rfl) (by kernel_rfl) (by kernel_rfl) (by kernel_rfl) (fun _ _ _ h => h) (Or.inr ⟨by rfl, rfl⟩) hHeld hClosed (fun hNext => ?_)
                clear hClosed
                have hClosed := hNext
                clear hNext
                try simp only [Act.put, List.getElem_toArray, List.getElem_cons_zero, List.getElem_cons_succ, List.setIfInBounds_toArray, List.set_cons_zero, List.set_cons_succ]
                refine' wpAnyE_take (i := 6) (v := _) rfl (by kernel_rfl) (by kernel_rfl) (by kernel_rfl) (by kernel_rfl) (fun _ _ _ h => h) (Or.inr ⟨by rfl, rfl⟩) hHeld hClosed (fun hNext => ?_)
                clear hClosed
                have hClosed := hNext
                clear hNext
                try simp only [Act.put, List.getElem_toArray, List.getElem_cons_zero, List.getElem_cons_succ, List.setIfInBounds_toArray, List.set_cons_zero, List.set_cons_succ]
                refine' wpAnyE_take (i := 7) (v := _) rfl (by kernel_rfl) (by kernel_rfl) (by kernel_rfl) (by kernel_rfl) (fun _ _ _ h => h) (Or.inr ⟨by rfl, rfl⟩) hHeld hClosed (fun hNext => ?_)
                clear hClosed
                have hClosed := hNext
                clear hNext
                try simp only [Act.put, List.getElem_toArray, List.getElem_cons_zero, List.getElem_cons_succ, List.setIfInBounds_toArray, List.set_cons_zero, List.set_cons_succ]
                refine' wpAnyE_take (i := 8) (v := _) rfl (by kernel_rfl) (by kernel_rfl) (by kernel_rfl) (by kernel_rfl) (fun _ _ _ h => h) (Or.inr ⟨by rfl, rfl⟩) hHeld hClosed (fun hNext => ?_)
                clear hClosed
                have hClosed := hNext
                clear hNext
                try simp only [Act.put, List.getElem_toArray, List.getElem_cons_zero, List.getElem_cons_succ, List.setIfInBounds_toArray, List.set_cons_zero, List.set_cons_succ]
                refine' wpAnyE_take (i := 9) (v := _) rfl (by kernel_rfl) (by kernel_rfl) (by kernel_rfl) (by kernel_rfl) (fun _ _ _ h => h) (Or.inr ⟨by rfl, rfl⟩) hHeld hClosed (fun hNext => ?_)
                clear hClosed
                have hClosed := hNext
                clear hNext
                try simp only [Act.put, List.getElem_toArray, List.getElem_cons_zero, List.getElem_cons_succ, List.setIfInBounds_toArray, List.set_cons_zero, List.set_cons_succ]
                refine' wpAnyE_take (i := 10) (v := _) rfl (by kernel_rfl) (by kernel_rfl) (by kernel_rfl) (by kernel_rfl) (fun _ _ _ h => h) (Or.inr ⟨by rfl, rfl⟩) hHeld hClosed (fun hNext => ?_)
                clear hClosed
                have hClosed := hNext
                clear hNext
                try simp only [Act.put, List.getElem_toArray, List.getElem_cons_zero, List.getElem_cons_succ, List.setIfInBounds_toArray, List.set_cons_zero, List.set_cons_succ]
                refine' wpAnyE_take (i := 11) (v := _) rfl (by kernel_rfl) (by kernel_rfl) (by kernel_rfl) (by kernel_rfl) (fun _ _ _ h => h) (Or.inr ⟨by rfl, rfl⟩) hHeld hClosed (fun hNext => ?_)
                clear hClosed
                have hClosed := hNext
                clear hNext
                try simp only [Act.put, List.getElem_toArray, List.getElem_cons_zero, List.getElem_cons_succ, List.setIfInBounds_toArray, List.set_cons_zero, List.set_cons_succ]
                refine' wpAnyE_take (i := 12) (v := _) rfl (by kernel_rfl) (by kernel_rfl) (by kernel_rfl) (by kernel_rfl) (fun _ _ _ h => h) (Or.inl ⟨by rfl, fun u hu => ?_⟩) hHeld hClosed (fun hNext => ?_)
                rotate_left
                · (try dsimp only at hu)
                  go_simp
                  try with_reducible rfl
                clear hClosed
                have hClosed := hNext
                clear hNext
                try simp only [Act.put, List.getElem_toArray, List.getElem_cons_zero, List.getElem_cons_succ, List.setIfInBounds_toArray, List.set_cons_zero, List.set_cons_succ]
                refine' wpAnyE_take (i := 13) (v := _) rfl (by kernel_rfl) (by kernel_rfl) (by kernel_rfl) (by kernel_rfl) (fun _ _ _ h => h) (Or.inl ⟨by rfl, fun u hu => ?_⟩) hHeld hClosed (fun hNext => ?_)
                rotate_left
                · (try dsimp only at hu)
                  go_simp
                  try with_reducible rfl
                clear hClosed
                have hClosed := hNext
                clear hNext
                try simp only [Act.put, List.getElem_toArray, List.getElem_cons_zero, List.getElem_cons_succ, List.setIfInBounds_toArray, List.set_cons_zero, List.set_cons_succ]
                refine' wpAnyE_take (i := 14) (v := _) rfl (by kernel_rfl) (by kernel_rfl) (by kernel_rfl) (by kernel_rfl) (fun _ _ _ h => h) (Or.inr ⟨by rfl, rfl⟩) hHeld hClosed (fun hNext => ?_)
                clear hClosed
                have hClosed := hNext
                clear hNext
                try simp only [Act.put, List.getElem_toArray, List.getElem_cons_zero, List.getElem_cons_succ, List.setIfInBounds_toArray, List.set_cons_zero, List.set_cons_succ]
                refine' wpAnyE_take (i := 15) (v := _) rfl (by kernel_rfl) (by kernel_rfl) (by kernel_rfl) (by kernel_rfl) (fun _ _ _ h => h) (Or.inr ⟨by rfl, rfl⟩) hHeld hClosed (fun hNext => ?_)
                clear hClosed
                have hClosed := hNext
                clear hNext
                try simp only [Act.put, List.getElem_toArray, List.getElem_cons_zero, List.getElem_cons_succ, List.setIfInBounds_toArray, List.set_cons_zero, List.set_cons_succ]
                refine' wpAnyE_take (i := 16) (v := _) rfl (by kernel_rfl) (by kernel_rfl) (by kernel_rfl) (by kernel_rfl) (fun _ _ _ h => h) (Or.inr ⟨by rfl, rfl⟩) hHeld hClosed (fun hNext => ?_)
                clear hClosed
                have hClosed := hNext
                clear hNext
                try simp only [Act.put, List.getElem_toArray, List.getElem_cons_zero, List.getElem_cons_succ, List.setIfInBounds_toArray, List.set_cons_zero, List.set_cons_succ]
                refine' wpAnyE_take (i := 17) (v := _) rfl (by kernel_rfl) (by kernel_rfl) (by kernel_rfl) (by kernel_rfl) (fun _ _ _ h => h) (Or.inr ⟨by rfl, rfl⟩) hHeld hClosed (fun hNext => ?_)
                clear hClosed
                have hClosed := hNext
                clear hNext
                try simp only [Act.put, List.getElem_toArray, List.getElem_cons_zero, List.getElem_cons_succ, List.setIfInBounds_toArray, List.set_cons_zero, List.set_cons_succ]
                refine' wpAnyE_take (i := 18) (v := _) rfl (by kernel_rfl) (by kernel_rfl) (by kernel_rfl) (by kernel_rfl) (fun _ _ _ h => h) (Or.inr ⟨by rfl, rfl⟩) hHeld hClosed (fun hNext => ?_)
                clear hClosed
                have hClosed := hNext
                clear hNext
                try simp only [Act.put, List.getElem_toArray, List.getElem_cons_zero, List.getElem_cons_succ, List.setIfInBounds_toArray, List.set_cons_zero, List.set_cons_succ]
                refine' wpAnyE_take (i := 19) (v := _) rfl (by kernel_rfl) (by kernel_rfl) (by kernel_rfl) (by kernel_rfl) (fun _ _ _ h => h) (Or.inl ⟨by rfl, fun u hu => ?_⟩) hHeld hClosed (fun hNext => ?_)
                rotate_left
                · (try dsimp only at hu)
                  go_simp
                  try with_reducible rfl
                clear hClosed
                have hClosed := hNext
                clear hNext
                try simp only [Act.put, List.getElem_toArray, List.getElem_cons_zero, List.getElem_cons_succ, List.setIfInBounds_toArray, List.set_cons_zero, List.set_cons_succ]
                refine wpAnyE_done (by kernel_rfl) ?_ _
                clear hClosed
                go_wp2_with fail
                go_roundw
                case rel => exact ⟨k + 1, by omega, by go_num, by rw [HZ.out], by exact below_same HBz.out rfl rfl rfl rfl⟩
                case measure => simp [intOf]; omega
              · have hk0 : decide (0 < k) = true := by simpa using h0
                obtain ⟨y, hy, hyn, ht⟩ := R.out.touch h0
                subst hy
                have hyv : y < lv.length := by have := HE.out; omega
                obtain ⟨pc', hpc', _, hcy⟩ := (HC.out.below HBz.out).int hyn
                injection hpc' with hpc'
                subst hpc'
                obtain ⟨pv', hpv', _, hly⟩ := (HV.out.below HBz.out).int hyv
                injection hpv' with hpv'
                subst hpv'
                rw [at0_eq hyn, at0_eq hyv, at0_eq hav, hlaE] at ht
                obtain ⟨cy, hcyE⟩ : ∃ x, cl[y] = x := ⟨_, rfl⟩
                obtain ⟨ly, hlyE⟩ : ∃ x, lv[y] = x := ⟨_, rfl⟩
                rw [hcyE] at hcy ht
                rw [hlyE] at hly ht
                have y0 : (0 : Int) ≤ (y : Int) := by omega
                have y1 : (y : Int) < (cl.length : Int) := by omega
                have y2 : (y : Int) < (lv.length : Int) := by omega
                have hk1 : wr.drew.cell? (pv.add y) = some (.int .i64 ly) ∧ wr.drew.cell? (pv.add a) = some (.int .i64 la) ∧ wr.drew.cell? (pc.add y) = some (.int .i64 cy) := ⟨hly, hla, hcy⟩
                have HT := Lib.hid ht
                clear hcyE hlyE hlaE hcy hly hla ht h0
                rcases hll : (ly == la) with _ | _
                · have TT := trivial
                  go_wp2_with fail
                  refine wp_region_E (S := fun w' => w'.cell? (pv.add y) = some (.int .i64 ly) ∧ w'.cell? (pv.add a) = some (.int .i64 la) ∧ w'.cell? (pc.add y) = some (.int .i64 cy)) [] (by kernel_rfl) (hk1) (fun hHeld hClosed => ?_)
                  refine' wpAnyE_take (i := 0) (v := _) rfl (by kernel_rfl) (by kernel_rfl) (by kernel_rfl) (by kernel_rfl) (fun _ _ _ h => h) (Or.inl ⟨by rfl, fun u hu => ?_⟩) hHeld hClosed (fun hNext => ?_)
                  rotate_left
                  · (try dsimp only at hu)
                    go_simp
                    try with_reducible rfl
                  clear hClosed
                  have hClosed := hNext
                  clear hNext
                  try simp only [Act.put, List.getElem_toArray, List.getElem_cons_zero, List.setIfInBounds_toArray, List.set_cons_zero, List.set_cons_succ]
                  refine' wpAnyE_take (i := 1) (v := _) rfl (by kernel_rfl) (by kernel_rfl) (by kernel_rfl) (by kernel_rfl) (fun _ _ _ h => h) (Or.inl ⟨by rfl, fun u hu => ?_⟩) hHeld hClosed (fun hNext => ?_)
                  rotate_left
                  · (try dsimp only at hu)
                    go_simp
                    try with_reducible rfl
                  clear hClosed
                  have hClosed := hNext
                  clear hNext
                  try simp only [Act.put, List.getElem_toArray, List.getElem_cons_zero, List.getElem_cons_succ, List.setIfInBounds_toArray, List.set_cons_zero, List.set_cons_succ]
                  refine' wpAnyE_take (i := 2) (v := _) rfl (by kernel_rfl) (by kernel_rfl) (by kernel_rfl) (by kernel_rfl) (fun _ _ _ h => h) (Or.inl ⟨by rfl, fun u hu => ?_⟩) hHeld hClosed (fun hNext => ?_)
                  rotate_left
                  · (try dsimp only at hu)
                    go_simp
                    try with_reducible rfl
                  clear hClosed
                  have hClosed := hNext
                  clear hNext
                  try simp only [Act.put, List.getElem_toArray, List.getElem_cons_zero, List.getElem_cons_succ, List.setIfInBounds_toArray, List.set_cons_zero, List.set_cons_succ]
                  refine' wpAnyE_take (i := 3) (v := _) rfl (by kernel_rfl) (by kernel_rfl) (by kernel_rfl) (by kernel_rfl) (fun _ _ _ h => h) (Or.inl ⟨by rfl, fun u hu => ?_⟩) hHeld hClosed (fun hNext => ?_)
                  rotate_left
                  · (try dsimp only at hu)
                    go_simp
                    try with_reducible rfl
                  clear hClosed
                  have hClosed := hNext
                  clear hNext
                  try simp only [Act.put, List.getElem_toArray, List.getElem_cons_zero, List.getElem_cons_succ, List.setIfInBounds_toArray, List.set_cons_zero, List.set_cons_succ]
                  refine' wpAnyE_take (i := 4) (v := _) rfl (by kernel_rfl) (by kernel_rfl) (by kernel_rfl) (by kernel_rfl) (fun _ _ _ h => h) (Or.inl ⟨by rfl, fun u hu => ?_⟩) hHeld hClosed (fun hNext => ?_)
                  rotate_left
                  · (try dsimp only at hu)
                    go_simp
                    try with_reducible rfl
                  clear hClosed
                  have hClosed := hNext
                  clear hNext
                  try simp only [Act.put, List.getElem_toArray, List.getElem_cons_zero, List.getElem_cons_succ, List.setIfInBounds_toArray, List.set_cons_zero, List.set_cons_succ]
                  refine' wpAnyE_take (i := 5) (v := _) rfl (by kernel_rfl) (by kernel_rfl) (by kernel_rfl) (by kernel_rfl) (fun _ _ _ h => h) (Or.inl ⟨by rfl, fun u hu => ?_⟩) hHeld hClosed (fun hNext => ?_)
                  rotate_left
                  · (try dsimp only at hu)
                    go_simp
                    try with_reducible rfl
                  clear hClosed
                  have hClosed := hNext
                  clear hNext
                  try simp only [Act.put, List.getElem_toArray, List.getElem_cons_zero, List.getElem_cons_succ, List.setIfInBounds_toArray, List.set_cons_zero, List.set_cons_succ]
                  refine' wpAnyE_take (i := 6) (v := _) rfl (by kernel_rfl) (by kernel_rfl) (by kernel_rfl) (by kernel_rfl) (fun _ _ _ h => h) (Or.inl ⟨by rfl, fun u hu => ?_⟩) hHeld hClosed (fun hNext => ?_)
                  rotate_left
                  · (try dsimp only at hu)
                    go_simp
                    try with_reducible rfl
                  clear hClosed
                  have hClosed := hNext
                  clear hNext
                  try simp only [Act.put, List.getElem_toArray, List.getElem_cons_zero, List.getElem_cons_succ, List.setIfInBounds_toArray, List.set_cons_zero, List.set_cons_succ]
                  refine' wpAnyE_take (i := 7) (v := _) rfl (by kernel_rfl) (by kernel_rfl) (by kernel_rfl) (by kernel_rfl) (fun _ _ _ h => h) (Or.inl ⟨by rfl, fun u hu => ?_⟩) hHeld hClosed (fun hNext => ?_)
                  rotate_left
                  · (try dsimp only at hu)
                    go_simp
                    try with_reducible rfl
                  clear hClosed
                  have hClosed := hNext
                  clear hNext
                  try simp only [Act.put, List.getElem_toArray, List.getElem_cons_zero, List.getElem_cons_succ, List.setIfInBounds_toArray, List.set_cons_zero, List.set_cons_succ]
                  refine' wpAnyE_take (i := 8) (v := _) rfl (by kernel_rfl) (by kernel_rfl) (by kernel_rfl) (by kernel_rfl) (fun _ _ _ h => h) (Or.inl ⟨by rfl, fun u hu => ?_⟩) hHeld hClosed (fun hNext => ?_)
                  rotate_left
                  · (try dsimp only at hu)
                    go_simp
                    try with_reducible rfl
                  clear hClosed
                  have hClosed := hNext
                  clear hNext
                  try simp only [Act.put, List.getElem_toArray, List.getElem_cons_zero, List.getElem_cons_succ, List.setIfInBounds_toArray, List.set_cons_zero, List.set_cons_succ]
                  refine' wpAnyE_take (i := 9) (v := _) rfl (by kernel_rfl) (by kernel_rfl) (by kernel_rfl) (by kernel_rfl) (fun _ _ _ h => h) (Or.inl ⟨by rfl, fun u hu => ?_⟩) hHeld hClosed (fun hNext => ?_)
                  rotate_left
                  · (try dsimp only at hu)
                    go_simp
                    try with_reducible rfl
                  clear hClosed
                  have hClosed := hNext
                  clear hNext
                  try simp only [Act.put, List.getElem_toArray, List.getElem_cons_zero, List.getElem_cons_succ, List.setIfInBounds_toArray, List.set_cons_zero, List.set_cons_succ]
                  refine' wpAnyE_take (i := 10) (v := _) rfl (by kernel_rfl) (by kernel_rfl) (by kernel_rfl) (by kernel_rfl) (fun _ _ _ h => h) (Or.inl ⟨by rfl, fun u hu => ?_⟩) hHeld hClosed (fun hNext => ?_)
                  rotate_left
                  · (try dsimp only at hu)
                    go_simp
                    try with_reducible rfl
                  clear hClosed
                  have hClosed := hNext
                  clear hNext
                  try simp only [Act.put, List.getElem_toArray, List.getElem_cons_zero, List.getElem_cons_succ, List.setIfInBounds_toArray, List.set_cons_zero, List.set_cons_succ]
                  refine' wpAnyE_take (i := 11) (v := _) rfl (by kernel_rfl) (by kernel_rfl) (by kernel_rfl) (by kernel_rfl) (fun _ _ _ h => h) (Or.inl ⟨by rfl, fun u hu => ?_⟩) hHeld hClosed (fun hNext => ?_)
                  rotate_left
                  · (try dsimp only at hu)
                    go_simp
                    try with_reducible rfl
                  clear hClosed
                  have hClosed := hNext
                  clear hNext
                  try simp only [Act.put, List.getElem_toArray, List.getElem_cons_zero, List.getElem_cons_succ, List.setIfInBounds_toArray, List.set_cons_zero, List.set_cons_succ]
                  refine' wpAnyE_take (i := 12) (v := _) rfl (by kernel_rfl) (by kernel_rfl) (by kernel_rfl) (by kernel_rfl) (fun _ _ _ h => h) (Or.inl ⟨by rfl, fun u hu => ?_⟩) hHeld hClosed (fun hNext => ?_)
                  rotate_left
                  · (try dsimp only at hu)
                    go_simp
                    try with_reducible rfl
                  clear hClosed
                  have hClosed := hNext
                  clear hNext
                  try simp only [Act.put, List.getElem_toArray, List.getElem_cons_zero, List.getElem_cons_succ, List.setIfInBounds_toArray, List.set_cons_zero, List.set_cons_succ]
                  refine' wpAnyE_take (i := 13) (v := _) rfl (by kernel_rfl) (by kernel_rfl) (by kernel_rfl) (by kernel_rfl) (fun _ _ _ h => h) (Or.inl ⟨by rfl, fun u hu => ?_⟩) hHeld hClosed (fun hNext => ?_)
                  rotate_left
                  · (try dsimp only at hu)
                    go_simp
                    try with_reducible rfl
                  clear hClosed
                  have hClosed := hNext
                  clear hNext
                  try simp only [Act.put, List.getElem_toArray, List.getElem_cons_zero, List.getElem_cons_succ, List.setIfInBounds_toArray, List.set_cons_zero, List.set_cons_succ]
                  refine' wpAnyE_take (i := 14) (v := _) rfl (by kernel_rfl) (by kernel_rfl) (by kernel_rfl) (by kernel_rfl) (fun _ _ _ h => h) (Or.inr ⟨by rfl, rfl⟩) hHeld hClosed (fun hNext => ?_)
                  clear hClosed
                  have hClosed := hNext
                  clear hNext
                  try simp only [Act.put, List.getElem_toArray, List.getElem_cons_zero, List.getElem_cons_succ, List.setIfInBounds_toArray, List.set_cons_zero, List.set_cons_succ]
                  refine' wpAnyE_take (i := 15) (v := _) rfl (by kernel_rfl) (by kernel_rfl) (by kernel_rfl) (by kernel_rfl) (fun _ _ _ h => h) (Or.inr ⟨by rfl, rfl⟩) hHeld hClosed (fun hNext => ?_)
                  clear hClosed
                  have hClosed := hNext
                  clear hNext
                  try simp only [Act.put, List.getElem_toArray, List.getElem_cons_zero, List.getElem_cons_succ, List.setIfInBounds_toArray, List.set_cons_zero, List.set_cons_succ]
                  refine' wpAnyE_take (i := 16) (v := _) rfl (by kernel_rfl) (by kernel_rfl) (by kernel_rfl) (by kernel_rfl) (fun _ _ _ h => h) (Or.inr ⟨by rfl, rfl⟩) hHeld hClosed (fun hNext => ?_)
                  clear hClosed
                  have hClosed := hNext
                  clear hNext
                  try simp only [Act.put, List.getElem_toArray, List.getElem_cons_zero, List.getElem_cons_succ, List.setIfInBounds_toArray, List.set_cons_zero, List.set_cons_succ]
                  refine' wpAnyE_take (i := 17) (v := _) rfl (by kernel_rfl) (by kernel_rfl) (by kernel_rfl) (by kernel_rfl) (fun _ _ _ h => h) (Or.inr ⟨by rfl, rfl⟩) hHeld hClosed (fun hNext => ?_)
                  clear hClosed
                  have hClosed := hNext
                  clear hNext
                  try simp only [Act.put, List.getElem_toArray, List.getElem_cons_zero, List.getElem_cons_succ, List.setIfInBounds_toArray, List.set_cons_zero, List.set_cons_succ]
                  refine' wpAnyE_take (i := 18) (v := _) rfl (by kernel_rfl) (by kernel_rfl) (by kernel_rfl) (by kernel_rfl) (fun _ _ _ h => h) (Or.inr ⟨by rfl, rfl⟩) hHeld hClosed (fun hNext => ?_)
                  clear hClosed
                  have hClosed := hNext
                  clear hNext
                  try simp only [Act.put, List.getElem_toArray, List.getElem_cons_zero, List.getElem_cons_succ, List.setIfInBounds_toArray, List.set_cons_zero, List.set_cons_succ]
                  refine' wpAnyE_take (i := 19) (v := _) rfl (by kernel_rfl) (by kernel_rfl) (by kernel_rfl) (by kernel_rfl) (fun _ _ _ h => h) (Or.inl ⟨by rfl, fun u hu => ?_⟩) hHeld hClosed (fun hNext => ?_)
                  rotate_left
                  · (try dsimp only at hu)
                    go_simp
                    try with_reducible rfl
                  clear hClosed
                  have hClosed := hNext
                  clear hNext
                  try simp only [Act.put, List.getElem_toArray, List.getElem_cons_zero, List.getElem_cons_succ, List.setIfInBounds_toArray, List.set_cons_zero, List.set_cons_succ]
                  refine wpAnyE_done (by kernel_rfl) ?_ _
                  clear hClosed
                  go_wp2_with fail
                  go_roundw
                  case rel => exact ⟨k + 1, by omega, by go_num, by rw [HZ.out], by exact below_same HBz.out rfl rfl rfl rfl⟩
                  case measure => simp [intOf]; omega
                · have hc10 : (cy != 10) = false := by
                    rcases HT.out with h1 | h1
                    · exact absurd (by simpa using hll) h1
                    · simp [h1]
                  go_wp2_with fail
                  refine wp_region_E (S := fun w' => w'.cell? (pv.add y) = some (.int .i64 ly) ∧ w'.cell? (pv.add a) = some (.int .i64 la) ∧ w'.cell? (pc.add y) = some (.int .i64 cy)) [] (by kernel_rfl) (hk1) (fun hHeld hClosed => ?_)
                  refine' wpAnyE_take (i := 0) (v := _) rfl (by kernel_rfl) (by kernel_rfl) (by kernel_rfl) (by kernel_rfl) (fun _ _ _ h => h) (Or.inl ⟨by rfl, fun u hu => ?_⟩) hHeld hClosed (fun hNext => ?_)
                  rotate_left
                  · (try dsimp only at hu)
                    go_simp
                    try with_reducible rfl
                  clear hClosed
                  have hClosed := hNext
                  clear hNext
                  try simp only [Act.put, List.getElem_toArray, List.getElem_cons_zero, List.setIfInBounds_toArray, List.set_cons_zero, List.set_cons_succ]
                  refine' wpAnyE_take (i := 1) (v := _) rfl (by kernel_rfl) (by kernel_rfl) (by kernel_rfl) (by kernel_rfl) (fun _ _ _ h => h) (Or.inl ⟨by rfl, fun u hu => ?_⟩) hHeld hClosed (fun hNext => ?_)
                  rotate_left
                  · (try dsimp only at hu)
                    go_simp
                    try with_reducible rfl
                  clear hClosed
                  have hClosed := hNext
                  clear hNext
                  try simp only [Act.put, List.getElem_toArray, List.getElem_cons_zero, List.getElem_cons_succ, List.setIfInBounds_toArray, List.set_cons_zero, List.set_cons_succ]
                  refine' wpAnyE_take (i := 2) (v := _) rfl (by kernel_rfl) (by kernel_rfl) (by kernel_rfl) (by kernel_rfl) (fun _ _ _ h => h) (Or.inl ⟨by rfl, fun u hu => ?_⟩) hHeld hClosed (fun hNext => ?_)
                  rotate_left
                  · (try dsimp only at hu)
                    go_simp
                    try with_reducible rfl
                  clear hClosed
                  have hClosed := hNext
                  clear hNext
                  try simp only [Act.put, List.getElem_toArray, List.getElem_cons_zero, List.getElem_cons_succ, List.setIfInBounds_toArray, List.set_cons_zero, List.set_cons_succ]
                  refine' wpAnyE_take (i := 3) (v := _) rfl (by kernel_rfl) (by kernel_rfl) (by kernel_rfl) (by kernel_rfl) (fun _ _ _ h => h) (Or.inl ⟨by rfl, fun u hu => ?_⟩) hHeld hClosed (fun hNext => ?_)
                  rotate_left
                  · (try dsimp only at hu)
                    go_simp
                    try with_reducible rfl
                  clear hClosed
                  have hClosed := hNext
                  clear hNext
                  try simp only [Act.put, List.getElem_toArray, List.getElem_cons_zero, List.getElem_cons_succ, List.setIfInBounds_toArray, List.set_cons_zero, List.set_cons_succ]
                  refine' wpAnyE_take (i := 4) (v := _) rfl (by kernel_rfl) (by kernel_rfl) (by kernel_rfl) (by kernel_rfl) (fun _ _ _ h => h) (Or.inl ⟨by rfl, fun u hu => ?_⟩) hHeld hClosed (fun hNext => ?_)
                  rotate_left
                  · (try dsimp only at hu)
                    go_simp
                    try with_reducible rfl
                  clear hClosed
                  have hClosed := hNext
                  clear hNext
                  try simp only [Act.put, List.getElem_toArray, List.getElem_cons_zero, List.getElem_cons_succ, List.setIfInBounds_toArray, List.set_cons_zero, List.set_cons_succ]
                  refine' wpAnyE_take (i := 5) (v := _) rfl (by kernel_rfl) (by kernel_rfl) (by kernel_rfl) (by kernel_rfl) (fun _ _ _ h => h) (Or.inl ⟨by rfl, fun u hu => ?_⟩) hHeld hClosed (fun hNext => ?_)
                  rotate_left
                  · (try dsimp only at hu)
                    go_simp
                    try with_reducible rfl
                  clear hClosed
                  have hClosed := hNext
                  clear hNext
                  try simp only [Act.put, List.getElem_toArray, List.getElem_cons_zero, List.getElem_cons_succ, List.setIfInBounds_toArray, List.set_cons_zero, List.set_cons_succ]
                  refine' wpAnyE_take (i := 6) (v := _) rfl (by kernel_rfl) (by kernel_rfl) (by kernel_rfl) (by kernel_rfl) (fun _ _ _ h => h) (Or.inl ⟨by rfl, fun u hu => ?_⟩) hHeld hClosed (fun hNext => ?_)
                  rotate_left
                  · (try dsimp only at hu)
                    go_simp
                    try with_reducible rfl
                  clear hClosed
                  have hClosed := hNext
                  clear hNext
                  try simp only [Act.put, List.getElem_toArray, List.getElem_cons_zero, List.getElem_cons_succ, List.setIfInBounds_toArray, List.set_cons_zero, List.set_cons_succ]
                  refine' wpAnyE_take (i := 7) (v := _) rfl (by kernel_rfl) (by kernel_rfl) (by kernel_rfl) (by kernel_rfl) (fun _ _ _ h => h) (Or.inl ⟨by rfl, fun u hu => ?_⟩) hHeld hClosed (fun hNext => ?_)
                  rotate_left
                  · (try dsimp only at hu)
                    go_simp
                    try with_reducible rfl
                  clear hClosed
                  have hClosed := hNext
                  clear hNext
                  try simp only [Act.put, List.getElem_toArray, List.getElem_cons_zero, List.getElem_cons_succ, List.setIfInBounds_toArray, List.set_cons_zero, List.set_cons_succ]
                  refine' wpAnyE_take (i := 8) (v := _) rfl (by kernel_rfl) (by kernel_rfl) (by kernel_rfl) (by kernel_rfl) (fun _ _ _ h => h) (Or.inl ⟨by rfl, fun u hu => ?_⟩) hHeld hClosed (fun hNext => ?_)
                  rotate_left
                  · (try dsimp only at hu)
                    go_simp
                    try with_reducible rfl
                  clear hClosed
                  have hClosed := hNext
                  clear hNext
                  try simp only [Act.put, List.getElem_toArray, List.getElem_cons_zero, List.getElem_cons_succ, List.setIfInBounds_toArray, List.set_cons_zero, List.set_cons_succ]
                  refine' wpAnyE_take (i := 9) (v := _) rfl (by kernel_rfl) (by kernel_rfl) (by kernel_rfl) (by kernel_rfl) (fun _ _ _ h => h) (Or.inl ⟨by rfl, fun u hu => ?_⟩) hHeld hClosed (fun hNext => ?_)
                  rotate_left
                  · (try dsimp only at hu)
                    go_simp
                    try with_reducible rfl
                  clear hClosed
                  have hClosed := hNext
                  clear hNext
                  try simp only [Act.put, List.getElem_toArray, List.getElem_cons_zero, List.getElem_cons_succ, List.setIfInBounds_toArray, List.set_cons_zero, List.set_cons_succ]
                  refine' wpAnyE_take (i := 10) (v := _) rfl (by kernel_rfl) (by kernel_rfl) (by kernel_rfl) (by kernel_rfl) (fun _ _ _ h => h) (Or.inl ⟨by rfl, fun u hu => ?_⟩) hHeld hClosed (fun hNext => ?_)
                  rotate_left
                  · (try dsimp only at hu)
                    go_simp
                    try with_reducible rfl
                  clear hClosed
                  have hClosed := hNext
                  clear hNext
                  try simp only [Act.put, List.getElem_toArray, List.getElem_cons_zero, List.getElem_cons_succ, List.setIfInBounds_toArray, List.set_cons_zero, List.set_cons_succ]
                  refine' wpAnyE_take (i := 11) (v := _) rfl (by kernel_rfl) (by kernel_rfl) (by kernel_rfl) (by kernel_rfl) (fun _ _ _ h => h) (Or.inl ⟨by rfl, fun u hu => ?_⟩) hHeld hClosed (fun hNext => ?_)
                  rotate_left
                  · (try dsimp only at hu)
                    go_simp
                    try with_reducible rfl
                  clear hClosed
                  have hClosed := hNext
                  clear hNext
                  try simp only [Act.put, List.getElem_toArray, List.getElem_cons_zero, List.getElem_cons_succ, List.setIfInBounds_toArray, List.set_cons_zero, List.set_cons_succ]
                  refine' wpAnyE_take (i := 12) (v := _) rfl (by kernel_rfl) (by kernel_rfl) (by kernel_rfl) (by kernel_rfl) (fun _ _ _ h => h) (Or.inl ⟨by rfl, fun u hu => ?_⟩) hHeld hClosed (fun hNext => ?_)
                  rotate_left
                  · (try dsimp only at hu)
                    go_simp
                    try with_reducible rfl
                  clear hClosed
                  have hClosed := hNext
                  clear hNext
                  try simp only [Act.put, List.getElem_toArray, List.getElem_cons_zero, List.getElem_cons_succ, List.setIfInBounds_toArray, List.set_cons_zero, List.set_cons_succ]
                  refine' wpAnyE_take (i := 13) (v := _) rfl (by kernel_rfl) (by kernel_rfl) (by kernel_rfl) (by kernel_rfl) (fun _ _ _ h => h) (Or.inl ⟨by rfl, fun u hu => ?_⟩) hHeld hClosed (fun hNext => ?_)
                  rotate_left
                  · (try dsimp only at hu)
                    go_simp
                    try with_reducible rfl
                  clear hClosed
                  have hClosed := hNext
                  clear hNext
                  try simp only [Act.put, List.getElem_toArray, List.getElem_cons_zero, List.getElem_cons_succ, List.setIfInBounds_toArray, List.set_cons_zero, List.set_cons_succ]
                  refine' wpAnyE_take (i := 14) (v := _) rfl (by kernel_rfl) (by kernel_rfl) (by kernel_rfl) (by kernel_rfl) (fun _ _ _ h => h) (Or.inl ⟨by rfl, fun u hu => ?_⟩) hHeld hClosed (fun hNext => ?_)
                  rotate_left
                  · (try dsimp only at hu)
                    go_simp
                    try with_reducible rfl
                  clear hClosed
                  have hClosed := hNext
                  clear hNext
                  try simp only [Act.put, List.getElem_toArray, List.getElem_cons_zero, List.getElem_cons_succ, List.setIfInBounds_toArray, List.set_cons_zero, List.set_cons_succ]
                  refine' wpAnyE_take (i := 15) (v := _) rfl (by kernel_rfl) (by kernel_rfl) (by kernel_rfl) (by kernel_rfl) (fun _ _ _ h => h) (Or.inl ⟨by rfl, fun u hu => ?_⟩) hHeld hClosed (fun hNext => ?_)
                  rotate_left
                  · (try dsimp only at hu)
                    go_simp
                    try with_reducible rfl
                  clear hClosed
                  have hClosed := hNext
                  clear hNext
                  try simp only [Act.put, List.getElem_toArray, List.getElem_cons_zero, List.getElem_cons_succ, List.setIfInBounds_toArray, List.set_cons_zero, List.set_cons_succ]
                  refine' wpAnyE_take (i := 16) (v := _) rfl (by kernel_rfl) (by kernel_rfl) (by kernel_rfl) (by kernel_rfl) (fun _ _ _ h => h) (Or.inl ⟨by rfl, fun u hu => ?_⟩) hHeld hClosed (fun hNext => ?_)
                  rotate_left
                  · (try dsimp only at hu)
                    go_simp
                    try with_reducible rfl
                  clear hClosed
                  have hClosed := hNext
                  clear hNext
                  try simp only [Act.put, List.getElem_toArray, List.getElem_cons_zero, List.getElem_cons_succ, List.setIfInBounds_toArray, List.set_cons_zero, List.set_cons_succ]
                  refine' wpAnyE_take (i := 17) (v := _) rfl (by kernel_rfl) (by kernel_rfl) (by kernel_rfl) (by kernel_rfl) (fun _ _ _ h => h) (Or.inl ⟨by rfl, fun u hu => ?_⟩) hHeld hClosed (fun hNext => ?_)
                  rotate_left
                  · (try dsimp only at hu)
                    go_simp
                    try with_reducible rfl
                  clear hClosed
                  have hClosed := hNext
                  clear hNext
                  try simp only [Act.put, List.getElem_toArray, List.getElem_cons_zero, List.getElem_cons_succ, List.setIfInBounds_toArray, List.set_cons_zero, List.set_cons_succ]
                  refine' wpAnyE_take (i := 18) (v := _) rfl (by kernel_rfl) (by kernel_rfl) (by kernel_rfl) (by kernel_rfl) (fun _ _ _ h => h) (Or.inl ⟨by rfl, fun u hu => ?_⟩) hHeld hClosed (fun hNext => ?_)
                  rotate_left
                  · (try dsimp only at hu)
                    go_simp
                    try with_reducible rfl
                  clear hClosed
                  have hClosed := hNext
                  clear hNext
                  try simp only [Act.put, List.getElem_toArray, List.getElem_cons_zero, List.getElem_cons_succ, List.setIfInBounds_toArray, List.set_cons_zero, List.set_cons_succ]
                  refine' wpAnyE_take (i := 19) (v := _) rfl (by kernel_rfl) (by kernel_rfl) (by kernel_rfl) (by kernel_rfl) (fun _ _ _ h => h) (Or.inl ⟨by rfl, fun u hu => ?_⟩) hHeld hClosed (fun hNext => ?_)
                  rotate_left
                  · (try dsimp only at hu)
                    go_simp
                    try with_reducible rfl
                  clear hClosed
                  have hClosed := hNext
                  clear hNext
                  try simp only [Act.put, List.getElem_toArray, List.getElem_cons_zero, List.getElem_cons_succ, List.setIfInBounds_toArray, List.set_cons_zero, List.set_cons_succ]
                  refine wpAnyE_done (by kernel_rfl) ?_ _
                  clear hClosed
                  go_wp2_with fail
                  go_roundw
                  case rel => exact ⟨k + 1, by omega, by go_num, by rw [HZ.out], by exact below_same HBz.out rfl rfl rfl rfl⟩
                  case measure => simp [intOf]; omega
    · obtain rfl : k = L.length := by omega
      go_wp2_with fail
      go_ret
      exact ⟨rfl, below_then B2.out HB.out⟩

set_option maxHeartbeats 1000000 in
theorem walk_unlike (w : World) (A : Option Addr) (cl : List Int) (c : Nat) (hc : cl.length ≤ 300) (h : Lies w w.heap.size A (ints .i64 cl)) (A' : Option Addr) (lv : List Int) (c' : Nat) (hlv : lv.length ≤ 300) (h' : Lies w w.heap.size A' (ints .i64 lv)) (he : cl.length ≠ lv.length) :
    Calls Try.prog 5 #[.slice A cl.length c, .slice A' lv.length c'] w fun e w' => e = .returned (.bool true) ∧ Below w.heap.size w w' := by
  have hcl : cl.length ≤ 1000000 := by omega
  have hlv' : lv.length ≤ 1000000 := by omega
  have hd : ((cl.length : Int) != (lv.length : Int)) = true := by simp; omega
  have H := Lib.hid h
  have H' := Lib.hid h'
  have HL : Hid (listsI cl lv = []) := Lib.hid (lists_none he)
  clear h h' he
  go_enter Try.func5, Try.ntmps5
  go_wp2_with fail
  refine (qalive_any w).mono ?_
  rintro e w1 ⟨rfl, b1⟩
  have B1 := Lib.hid b1
  have D1 := Lib.hid b1
  clear b1
  go_wp2_with fail
  refine (sruns_any A cl c A' lv c' w1 (H.out.up B1.out) (H'.out.up B1.out) hcl hlv').mono ?_
  rintro e w2 ⟨A2, c2, rfl, p2, b2⟩
  rw [HL.out]
  have B2 := Lib.hid (below_then B1.out b2)
  clear p2 b2
  go_wp2_with fail
  go_ret
  exact ⟨rfl, B2.out⟩

set_option maxHeartbeats 1000000 in
theorem walk_long (w : World) (A : Option Addr) (a : List Int) (c : Nat) (A' : Option Addr) (b : List Int) (c' : Nat) (ha : a.length ≤ 9223372036854775807) (hb : b.length ≤ 9223372036854775807) (hh : 300 < a.length ∨ 300 < b.length) :
    Calls Try.prog 5 #[.slice A a.length c, .slice A' b.length c'] w fun e w' => e = .returned (.bool true) ∧ Below w.heap.size w w' := by
  by_cases h1 : 300 < a.length
  · clear hh
    go_enter Try.func5, Try.ntmps5
    go_wp2_with fail
    refine (qalive_any w).mono ?_
    rintro e w1 ⟨rfl, b1⟩
    have B1 := Lib.hid b1
    have D1 := Lib.hid b1
    clear b1
    go_wp2
    go_ret
    exact ⟨rfl, B1.out⟩
  · have h2 : 300 < b.length := by omega
    clear hh
    go_enter Try.func5, Try.ntmps5
    go_wp2_with fail
    refine (qalive_any w).mono ?_
    rintro e w1 ⟨rfl, b1⟩
    have B1 := Lib.hid b1
    have D1 := Lib.hid b1
    clear b1
    go_wp2
    go_ret
    exact ⟨rfl, B1.out⟩

theorem walk (w : World) (A : Option Addr) (a : List Int) (c : Nat) (_ : a.length ≤ c) (hm : c ≤ maxLen) (h : Lies w w.heap.size A (ints .i64 a)) (_ : ∀ n ∈ a, (Lit.int .i64 n).wf = true)
    (A' : Option Addr) (b : List Int) (c' : Nat) (_ : b.length ≤ c') (hm' : c' ≤ maxLen) (h' : Lies w w.heap.size A' (ints .i64 b)) (_ : ∀ n ∈ b, (Lit.int .i64 n).wf = true) :
    Calls Try.prog 5 #[.slice A a.length c, .slice A' b.length c'] w fun e w' => e = .returned (.bool true) ∧ Below w.heap.size w w' := by
  unfold maxLen at hm hm'
  by_cases hh : 300 < a.length ∨ 300 < b.length
  · exact walk_long w A a c A' b c' (by omega) (by omega) hh
  · by_cases he : a.length = b.length
    · exact walk_ok w A a c (by omega) h A' b c' h' he
    · exact walk_unlike w A a c (by omega) h A' b c' (by omega) h' he
-- WRAP
theorem spec : LawSpec Rows.seqRunsSpec 2 := ⟨rfl, fun H ds h => by
  match ds, h with
  | [d0, d1], _ => rfl⟩
theorem params_ok : ∀ t ∈ Try.f5.params.toList, Try.prog.readableRec t = true ∧ t < Try.prog.types.size := by
  rw [Try.params5]
  intro t ht
  simp only [List.mem_cons, List.mem_nil_iff, or_false] at ht
  rcases ht with rfl | rfl
  all_goals exact ⟨by kernel_rfl, of_decide_eq_true (by kernel_rfl)⟩

theorem contract (H : Type) (enc : TypeId × Value → H) (W : World) (base : Nat) (args : Array Value) (ds gs : List (DataW H)) (before : List MemPlace)
    (hval : ∀ (j : Nat) t v, Try.f5.params[j]? = some t → args[j]? = some v → Value.okWide Try.prog W .any base t v)
    (hW : DataW.Whole enc Try.prog Try.f5.params.toList Rows.seqRunsSpec.vars false W args.toList ds gs before) :
    Calls Try.prog 5 args W fun e W' => ∃ v, e = .returned v ∧ Rows.seqRunsSpec.post enc Try.prog Try.f5 false true false false W args v W' := by
  have hW' := hW
  obtain ⟨p, q, hA0, hV, rfl, hfz, hnd⟩ := hW
  have hA : DataW.TrodAll enc Try.prog W 0 (fun _ => true) true Try.f5.params.toList args.toList ds p := hA0
  rw [Try.params5] at hA hval
  obtain ⟨v0, vs0, d0, ds0, p0, q0, hargs, rfl, rfl, h0, r0⟩ := trodAll_cons hA
  obtain ⟨v1, vs1, d1, ds1, p1, q1, rfl, rfl, rfl, h1, r1⟩ := trodAll_cons r0
  obtain ⟨rfl, rfl, rfl⟩ := trodAll_nil r1
  obtain rfl : args = #[v0, v1] := by cases args; simp_all
  obtain ⟨A0, l0, c0, rfl, hc0, hm0, hl0, wf0⟩ := open_list Try.underlying22 Try.underlying3 (by kernel_rfl) (hval 0 22 v0 rfl rfl) h0
  obtain ⟨A1, l1, c1, rfl, hc1, hm1, hl1, wf1⟩ := open_list Try.underlying22 Try.underlying3 (by kernel_rfl) (hval 1 22 v1 rfl rfl) h1
  exact (walk W A0 l0 c0 hc0 hm0 hl0 wf0 A1 l1 c1 hc1 hm1 hl1 wf1).mono fun e W' ⟨he, hg⟩ => ⟨_, he, law_post spec (by rw [Try.params5]; rfl) (by kernel_rfl) params_ok (by kernel_rfl) Try.underlying4 hW' hg⟩

theorem own : ownKnob Try.prog.godebug = none := by kernel_rfl
set_option maxRecDepth 100000 in
theorem lifted (os : Os) (started : os.Started) (H : Type) (enc : TypeId × Value → H) :
    ReturnsInHanded {} Try.checked os 5 .any (Rows.seqRunsSpec.pre6 enc Try.prog Try.f5 Rows.seqRunsRow.domain false) (Rows.seqRunsSpec.post enc Try.prog Try.f5 false true false false) := by
  refine returnsInHanded_of_change (C := Try.checked) own started (by kernel_rfl) Try.func5
    (ChangeSpec.witness6 (enc := enc) (C := Try.checked) false ⟨#[], #[.slice none 0 0, .slice none 0 0], []⟩ 8 (by kernel_rfl) (by kernel_rfl) (by kernel_rfl) (by kernel_rfl)) ?_
  intro W base args ds gs before hval hW _ _
  exact contract H enc W base args ds gs before hval hW
theorem said : Rows.SeqRunsSaid :=
  OpenClaim.holds_of_wide 5 Try.f5 rfl rfl rfl rfl rfl rfl rfl ⟨rfl, rfl, rfl, rfl, rfl⟩ rfl rfl rfl rfl rfl (by kernel_rfl) Try.func5 (by kernel_rfl)
    (of_decide_eq_true (by kernel_rfl)) (by unfold Func.isWrapper; first | (rw [if_pos (by decide +kernel)]; kernel_rfl) | (rw [if_neg (by decide +kernel)]; exact ⟨rfl, rfl⟩))
    (fun os started H enc _ => lifted os started H enc)
end Go.Proofs.Ytajgjloailliiaa.lawRuns
