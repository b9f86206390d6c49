/- Layer 10: the document's Of: classes behind all pairs. -/
import Derived.Test.YtoiolgpbecgfkaaBrN
import Derived.Deep.DeepCutAuto
namespace Go.Proofs.Ytoiolgpbecgfkaa
open Go.RowKit

/-- behind the first n pairs -/
def foldN (P : List (Int × Int)) (first : List Int) (e sos : Int) (cls : List Int) (n : Nat) : List Int := (P.take n).foldl (ofStepB first e sos) cls
theorem foldN_succ (P : List (Int × Int)) (first : List Int) (e sos : Int) (cls : List Int) (n : Nat) (h : n < P.length) : foldN P first e sos cls (n + 1) = ofStepB first e sos (foldN P first e sos cls n) P[n] := by
  unfold foldN
  rw [List.take_succ_eq_append_getElem h, List.foldl_append]
  rfl
theorem foldN_length (P : List (Int × Int)) (first : List Int) (e sos : Int) (cls : List Int) (n : Nat) : (foldN P first e sos cls n).length = cls.length := by
  unfold foldN
  generalize P.take n = Q
  induction Q generalizing cls with
  | nil => rfl
  | cons p Q ih => rw [List.foldl_cons, ih, ofStepB_length]

set_option maxRecDepth 20000 in
set_option maxHeartbeats 1500000 in
theorem rof10_any (A : Option Addr) (chars : List Int) (c : Nat) (A' : Option Addr) (classes : List Int) (c' : Nat) (A2 : Option Addr) (first : List Int) (c2 : Nat) (level sos : Int) (w : World)
    (h : Lies w w.heap.size A (ints .i64 chars)) (h' : Lies w w.heap.size A' (ints .i64 classes)) (h2 : Lies w w.heap.size A2 (ints .i64 first)) (hl : chars.length ≤ 1000000) (he : chars.length = classes.length) (hf : first.length = classes.length) :
    Calls Try.prog 18 #[.slice A chars.length c, .slice A' classes.length c', .slice A2 first.length c2, .int .i64 level, .int .i64 sos] w
      (Rowed w w.heap.size 3 (ints .i64 (ofB chars classes first level sos))) := by
  have H := Lib.hid h
  have H' := Lib.hid h'
  have H2 := Lib.hid h2
  obtain ⟨P, hP⟩ : ∃ P, pairsI chars classes = P := ⟨_, rfl⟩
  have HPV : Hid (∀ p ∈ P, ∃ a b : Nat, p = ((a : Int), (b : Int)) ∧ a < b ∧ b < classes.length) := Lib.hid (fun p hp => by
    rw [← hP, pairsI, if_pos he] at hp
    obtain ⟨a, b, e1, e2, e3, _⟩ := (pinv chars classes chars.length).each p hp
    exact ⟨a, b, e1, e2, by omega⟩)
  have HP := Lib.hid hP
  obtain ⟨e, hee⟩ : ∃ e, dirL level = e := ⟨_, rfl⟩
  have HD := Lib.hid hee
  have HER := dirL_range level
  rw [hee] at HER
  have HF : Hid (ofB chars classes first level sos = foldN P first e sos classes P.length) := Lib.hid (by rw [ofB, if_pos ⟨he, hf⟩, hP, hee, foldN, List.take_length])
  have hPl : P.length ≤ 1000000 := by
    have := (pairs_le chars classes chars.length).1
    rw [pairsI, if_pos he] at hP
    rw [hP] at this; omega
  have hd1 : ((chars.length : Int) != (classes.length : Int)) = false := by simp [he]
  have hd2 : ((first.length : Int) != (classes.length : Int)) = false := by simp [hf]
  have hcl : classes.length ≤ 1000000 := by omega
  have HE := Lib.hid he
  have HFL := Lib.hid hf
  clear h h' h2 hP hee he hf
  go_enter Try.func18, Try.ntmps18
  go_wp2_with (first
    | (at_builtin; refine app_src intsT w (w.alloc (.cells #[] 3)) w.heap.size w.heap.size _ _ _ [] (ints .i64 classes) A' classes.length c' rfl rfl rfl rfl (by simp) (Own.ofLit #[] (Nat.le_refl _) (by decide)) (H'.out.alloc (Nat.le_refl _) _) (ints_one _ _) (below_alloc _ _) (by simp) (by unfold maxLen; simp; omega) (by simp; omega) ?_; intro v1 w1 o1 b1 _ _; have O1 := Lib.hid (show Own w1 w.heap.size 3 v1 (ints .i64 classes) by simpa using o1); have B1 := Lib.hid b1; clear o1 b1)
    | fail)
  refine (rpairs_any A chars c A' classes c' w1 (H.out.up B1.out) (H'.out.up B1.out) hl HE.out).mono ?_
  rintro ed w2 ⟨v2, rfl, o2, b2⟩
  rw [HP.out] at o2
  obtain ⟨AP, cp, rfl, _, _, _⟩ := o2.form
  have B2 := Lib.hid (below_then B1.out b2)
  have O2 := Lib.hid (O1.out.below b2 (Nat.le_refl _))
  have P2 := Lib.hid (o2.weaken B1.out.size)
  clear o2 b2
  go_wp2_with fail
  refine (rdir8_any level w2).mono ?_
  rintro e wq ⟨rfl, rfl⟩
  rw [HD.out]
  obtain ⟨AL, cL, rfl, _, _, _⟩ := O2.out.form
  simp only [ints, List.length_map]
  have Q2 : Hid (Own w2 w.heap.size 3 (.slice AL classes.length cL) (ints .i64 classes)) := Lib.hid (by have := O2.out; simp only [ints, List.length_map] at this; exact this)
  go_wp2_with fail
  go_loopw [14] (fun nv wr => ∃ n : Nat, n ≤ P.length ∧ nv = .int .i64 n ∧ Own wr w.heap.size 3 (.slice AL classes.length cL) (ints .i64 (foldN P first e sos classes n)) ∧ OwnN wr w.heap.size 37 2 (.slice AP P.length cp) P.length (prC P) ∧ Below w.heap.size w wr) (fun nv _ => P.length - (intOf nv).toNat)
  case atStart => exact ⟨0, by omega, rfl, Q2.out, P2.out, B2.out⟩
  case round =>
    obtain ⟨n, hn, rfl, hq, hp, hb⟩ := hrel
    have HQ := Lib.hid hq
    have HPR := Lib.hid hp
    have HB := Lib.hid hb
    clear hq hp hb
    by_cases hlt : n < P.length
    · obtain ⟨cur, hcur⟩ : ∃ x, foldN P first e sos classes n = x := ⟨_, rfl⟩
      have hcl2 : cur.length = classes.length := by rw [← hcur, foldN_length]
      have HS := Lib.hid (foldN_succ P first e sos classes n hlt)
      rw [hcur] at HQ HS
      obtain ⟨a, b, hab, ha, hbc⟩ := HPV.out _ (List.getElem_mem hlt)
      rw [hab] at HS
      obtain ⟨g, cg, hv, hrow⟩ := HQ.out.inRow (by simp; omega)
      simp only [List.length_map] at hv
      injection hv with hA hL hC
      subst hA hC
      obtain ⟨AP1, cp1, hv1, hlp, _, _⟩ := HPR.out.form
      injection hv1 with hA1 _ hC1
      subst hA1 hC1
      obtain ⟨gp, op, hAP, hgp, z0, z1⟩ := prC_at hlp hlt
      subst hAP
      rw [hab] at z0 z1
      have RW := Lib.hid hrow
      have HCL := Lib.hid hcl2
      have hk1 : wr.drew.cell? ⟨gp, op + n * 2, none⟩ = some (.int .i64 a) ∧ wr.drew.cell? ⟨gp, op + n * 2 + 1, none⟩ = some (.int .i64 b) := ⟨z0, z1⟩
      have n0 : (0 : Int) ≤ (n : Int) := by omega
      have n1 : (n : Int) < (P.length : Int) := by omega
      have hw1 : IntKind.i64.wrap ((a : Int) + 1) = (a : Int) + 1 := IntWalk.i64_in _ (by omega)
      clear hcur hab hrow hlp z0 z1 hcl2 hL
      go_wp2_with fail
      refine wp_region_E (S := fun w' => w'.cell? ⟨gp, op + n * 2, none⟩ = some (.int .i64 a) ∧ w'.cell? ⟨gp, op + n * 2 + 1, none⟩ = some (.int .i64 b)) [] (by kernel_rfl) (hk1) (fun hHeld hClosed => ?_)
      refine' wpAnyE_take (i := 0) (v := _) rfl (by kernel_rfl) (by kernel_rfl) (by kernel_rfl) (by kernel_rfl) (fun _ _ _ h => h) (Or.inl ⟨by rfl, fun u hu => ?_⟩) hHeld hClosed (fun hNext => ?_)
      rotate_left
      · (try dsimp only at hu)
        go_simp
        try with_reducible rfl
      clear hClosed
      have hClosed := hNext
      clear hNext
      try simp only [Act.put, List.getElem_toArray, List.getElem_cons_zero, List.setIfInBounds_toArray, List.set_cons_zero, List.set_cons_succ]
      refine' wpAnyE_take (i := 1) (v := _) rfl (by kernel_rfl) (by kernel_rfl) (by kernel_rfl) (by kernel_rfl) (fun _ _ _ h => h) (Or.inl ⟨by rfl, fun u hu => ?_⟩) hHeld hClosed (fun hNext => ?_)
      rotate_left
      · (try dsimp only at hu)
        go_simp
        try with_reducible rfl
      clear hClosed
      have hClosed := hNext
      clear hNext
      try simp only [Act.put, List.getElem_toArray, List.getElem_cons_zero, List.getElem_cons_succ, List.setIfInBounds_toArray, List.set_cons_zero, List.set_cons_succ]
      refine' wpAnyE_take (i := 2) (v := _) rfl (by kernel_rfl) (by kernel_rfl) (by kernel_rfl) (by kernel_rfl) (fun _ _ _ h => h) (Or.inl ⟨by rfl, fun u hu => ?_⟩) hHeld hClosed (fun hNext => ?_)
      rotate_left
      · (try dsimp only at hu)
        go_simp
        try with_reducible rfl
      clear hClosed
      have hClosed := hNext
      clear hNext
      try simp only [Act.put, List.getElem_toArray, List.getElem_cons_zero, List.getElem_cons_succ, List.setIfInBounds_toArray, List.set_cons_zero, List.set_cons_succ]
      refine' wpAnyE_take (i := 3) (v := _) rfl (by kernel_rfl) (by kernel_rfl) (by kernel_rfl) (by kernel_rfl) (fun _ _ _ h => h) (Or.inl ⟨by rfl, fun u hu => ?_⟩) hHeld hClosed (fun hNext => ?_)
      rotate_left
      · (try dsimp only at hu)
        go_simp
        try with_reducible rfl
      clear hClosed
      have hClosed := hNext
      clear hNext
      try simp only [Act.put, List.getElem_toArray, List.getElem_cons_zero, List.getElem_cons_succ, List.setIfInBounds_toArray, List.set_cons_zero, List.set_cons_succ]
      refine' wpAnyE_take (i := 4) (v := _) rfl (by kernel_rfl) (by kernel_rfl) (by kernel_rfl) (by kernel_rfl) (fun _ _ _ h => h) (Or.inl ⟨by rfl, fun u hu => ?_⟩) hHeld hClosed (fun hNext => ?_)
      rotate_left
      · (try dsimp only at hu)
        go_simp
        try with_reducible rfl
      clear hClosed
      have hClosed := hNext
      clear hNext
      try simp only [Act.put, List.getElem_toArray, List.getElem_cons_zero, List.getElem_cons_succ, List.setIfInBounds_toArray, List.set_cons_zero, List.set_cons_succ]
      refine' wpAnyE_take (i := 5) (v := _) rfl (by kernel_rfl) (by kernel_rfl) (by kernel_rfl) (by kernel_rfl) (fun _ _ _ h => h) (Or.inl ⟨by rfl, fun u hu => ?_⟩) hHeld hClosed (fun hNext => ?_)
      rotate_left
      · (try dsimp only at hu)
        go_simp
        try with_reducible rfl
      clear hClosed
      have hClosed := hNext
      clear hNext
      try simp only [Act.put, List.getElem_toArray, List.getElem_cons_zero, List.getElem_cons_succ, List.setIfInBounds_toArray, List.set_cons_zero, List.set_cons_succ]
      refine' wpAnyE_take (i := 6) (v := _) rfl (by kernel_rfl) (by kernel_rfl) (by kernel_rfl) (by kernel_rfl) (fun _ _ _ h => h) (Or.inl ⟨by rfl, fun u hu => ?_⟩) hHeld hClosed (fun hNext => ?_)
      rotate_left
      · (try dsimp only at hu)
        go_simp
        try with_reducible rfl
      clear hClosed
      have hClosed := hNext
      clear hNext
      try simp only [Act.put, List.getElem_toArray, List.getElem_cons_zero, List.getElem_cons_succ, List.setIfInBounds_toArray, List.set_cons_zero, List.set_cons_succ]
      refine' wpAnyE_take (i := 7) (v := _) rfl (by kernel_rfl) (by kernel_rfl) (by kernel_rfl) (by kernel_rfl) (fun _ _ _ h => h) (Or.inl ⟨by rfl, fun u hu => ?_⟩) hHeld hClosed (fun hNext => ?_)
      rotate_left
      · (try dsimp only at hu)
        go_simp
        try with_reducible rfl
      clear hClosed
      have hClosed := hNext
      clear hNext
      try simp only [Act.put, List.getElem_toArray, List.getElem_cons_zero, List.getElem_cons_succ, List.setIfInBounds_toArray, List.set_cons_zero, List.set_cons_succ]
      refine' wpAnyE_take (i := 8) (v := _) rfl (by kernel_rfl) (by kernel_rfl) (by kernel_rfl) (by kernel_rfl) (fun _ _ _ h => h) (Or.inl ⟨by rfl, fun u hu => ?_⟩) hHeld hClosed (fun hNext => ?_)
      rotate_left
      · (try dsimp only at hu)
        go_simp
        try with_reducible rfl
      clear hClosed
      have hClosed := hNext
      clear hNext
      try simp only [Act.put, List.getElem_toArray, List.getElem_cons_zero, List.getElem_cons_succ, List.setIfInBounds_toArray, List.set_cons_zero, List.set_cons_succ]
      refine' wpAnyE_take (i := 9) (v := _) rfl (by kernel_rfl) (by kernel_rfl) (by kernel_rfl) (by kernel_rfl) (fun _ _ _ h => h) (Or.inl ⟨by rfl, fun u hu => ?_⟩) hHeld hClosed (fun hNext => ?_)
      rotate_left
      · (try dsimp only at hu)
        go_simp
        try with_reducible rfl
      clear hClosed
      have hClosed := hNext
      clear hNext
      try simp only [Act.put, List.getElem_toArray, List.getElem_cons_zero, List.getElem_cons_succ, List.setIfInBounds_toArray, List.set_cons_zero, List.set_cons_succ]
      refine' wpAnyE_take (i := 10) (v := _) rfl (by kernel_rfl) (by kernel_rfl) (by kernel_rfl) (by kernel_rfl) (fun _ _ _ h => h) (Or.inl ⟨by rfl, fun u hu => ?_⟩) hHeld hClosed (fun hNext => ?_)
      rotate_left
      · (try dsimp only at hu)
        go_simp
        try with_reducible rfl
      clear hClosed
      have hClosed := hNext
      clear hNext
      try simp only [Act.put, List.getElem_toArray, List.getElem_cons_zero, List.getElem_cons_succ, List.setIfInBounds_toArray, List.set_cons_zero, List.set_cons_succ]
      refine' wpAnyE_take (i := 11) (v := _) rfl (by kernel_rfl) (by kernel_rfl) (by kernel_rfl) (by kernel_rfl) (fun _ _ _ h => h) (Or.inl ⟨by rfl, fun u hu => ?_⟩) hHeld hClosed (fun hNext => ?_)
      rotate_left
      · (try dsimp only at hu)
        go_simp
        try with_reducible rfl
      clear hClosed
      have hClosed := hNext
      clear hNext
      try simp only [Act.put, List.getElem_toArray, List.getElem_cons_zero, List.getElem_cons_succ, List.setIfInBounds_toArray, List.set_cons_zero, List.set_cons_succ]
      refine wpAnyE_done (by kernel_rfl) ?_ _
      clear hClosed
      clear hk1 hHeld
      go_wp2_with fail
      obtain ⟨ALr, cLr, hvr, hlr, -, -⟩ := RW.out.form
      injection hvr with hAr _ hCr
      subst hAr hCr
      obtain ⟨wz, hwz⟩ : ∃ u, wr.drew = u := ⟨_, rfl⟩
      have RWz : Hid (Row wz w.heap.size 3 g cL (ints .i64 cur)) := Lib.hid (hwz ▸ Own.same RW.out rfl)
      have HPz : Hid (OwnN wz w.heap.size 37 2 (.slice (some ⟨gp, op, none⟩) P.length cp) P.length (prC P)) := Lib.hid (hwz ▸ HPR.out.same rfl)
      have HBz : Hid (Below w.heap.size w wz) := Lib.hid (by rw [← hwz]; exact below_same HB.out rfl rfl rfl rfl)
      have LZ : Hid (Lies wz wz.heap.size (some ⟨g, 0, none⟩) (ints .i64 cur)) := Lib.hid (hwz ▸ hlr.sameHeap rfl)
      rw [hwz]
      clear hwz hlr
      have hsd := rsides10_any (some ⟨g, 0, none⟩) cur cL ((a : Int) + 1) (b : Int) wz LZ.out (by have := HCL.out; omega) (by omega)
      rw [HCL.out] at hsd
      refine hsd.mono ?_
      clear hsd
      rintro ed wq ⟨rfl, rfl⟩
      obtain ⟨lf, hlf⟩ : ∃ z, hasL cur ((a : Int) + 1) (b : Int) = z := ⟨_, rfl⟩
      obtain ⟨rt, hrt⟩ : ∃ z, hasR cur ((a : Int) + 1) (b : Int) = z := ⟨_, rfl⟩
      have HLF := Lib.hid hlf
      have HRT := Lib.hid hrt
      rw [hlf, hrt]
      clear hlf hrt
      obtain ⟨sm, hsm⟩ : ∃ z, (if e = 1 then rt else lf) = z := ⟨_, rfl⟩
      obtain ⟨ot, hot⟩ : ∃ z, (if e = 1 then lf else rt) = z := ⟨_, rfl⟩
      have HSM : Hid (sameS cur e ((a : Int), (b : Int)) = sm ∧ otherS cur e ((a : Int), (b : Int)) = ot) := Lib.hid ⟨by rw [sameS, ← hsm, ← HLF.out, ← HRT.out], by rw [otherS, ← hot, ← HLF.out, ← HRT.out]⟩
      have HSO := Lib.hid (And.intro hsm hot)
      clear hsm hot
      go_upto_if 72 with fail
      go_cut [19, 20] (fun sv ov wx => sv = .bool sm ∧ ov = .bool ot ∧ wz = wx)
      case first =>
        rcases HER with rfl | rfl
        · have h1 : Hid (lf = sm ∧ rt = ot) := HSO
          go_wp2_with fail
          go_meet
          exact ⟨by rw [h1.out.1], by rw [h1.out.2], rfl⟩
        · have h1 : Hid (rt = sm ∧ lf = ot) := HSO
          go_wp2_with fail
          go_meet
          exact ⟨by rw [h1.out.1], by rw [h1.out.2], rfl⟩
      case rest =>
        obtain ⟨rfl, rfl, rfl⟩ := hcut
        go_upto_region 14 with fail
        go_cut [80] (fun v wx => v = .bool (!(sm || ot)) ∧ wz = wx)
        case first =>
          rcases sm with _ | _
          · rcases ot with _ | _
            · go_wp2_with fail
              go_meet
              exact ⟨rfl, rfl⟩
            · go_wp2_with fail
              go_meet
              exact ⟨rfl, rfl⟩
          · go_wp2_with fail
            go_meet
            exact ⟨rfl, rfl⟩
        case rest =>
          obtain ⟨rfl, rfl⟩ := hcut
          rcases hany : (sm || ot) with _ | _
          · have HSD : Hid (sideOf cur e sos ((a : Int), (b : Int)) = none) := Lib.hid (by
              rw [Bool.or_eq_false_iff] at hany
              rw [sideOf, HSM.out.1, HSM.out.2, hany.1, hany.2])
            clear hany
            go_wp2_with fail
            go_roundw
            case rel => exact ⟨n + 1, by omega, by go_num, (by rw [HS.out, ofStepB, HSD.out]; have h1 := RWz.out; unfold Row at h1; simp only [ints, List.length_map, HCL.out] at h1; exact h1), HPz.out, HBz.out⟩
            case measure => simp [intOf]; omega
          · obtain ⟨s, hs⟩ : ∃ s, (if sm then e else if aheadS cur sos a ≠ e then aheadS cur sos a else e) = s := ⟨_, rfl⟩
            have HSD : Hid (sideOf cur e sos ((a : Int), (b : Int)) = some s) := Lib.hid (by
              rw [sideOf, HSM.out.1, HSM.out.2]
              cases sm with
              | true => rw [← hs]; rfl
              | false =>
                rw [Bool.false_or] at hany
                rw [hany, ← hs]
                rfl)
            have HSV := Lib.hid hs
            clear hs hany
            simp only [Bool.not_true]
            go_upto_if 83 with fail
            go_cut [21] (fun v wx => v = .int .i64 s ∧ wz = wx)
            case first =>
              rcases sm with _ | _
              · have hse : Hid ((if aheadS cur sos a ≠ e then aheadS cur sos a else e) = s) := HSV
                obtain ⟨z0, hz0⟩ : ∃ z, aheadS cur sos 0 = z := ⟨_, rfl⟩
                have HZ0 := Lib.hid hz0
                clear hz0
                go_upto_if 85 with fail
                go_cut [22] (fun v wx => v = .int .i64 z0 ∧ wz = wx)
                case first =>
                  rcases hso : (sos == 1) with _ | _
                  · have hi : Hid ((0 : Int) = z0) := Lib.hid (by rw [← HZ0.out, aheadS]; simp at hso; rw [if_neg hso])
                    go_wp2_with fail
                    go_meet
                    exact ⟨by rw [hi.out], rfl⟩
                  · have hi : Hid ((1 : Int) = z0) := Lib.hid (by rw [← HZ0.out, aheadS]; simp at hso; rw [if_pos hso])
                    go_wp2_with fail
                    go_meet
                    exact ⟨by rw [hi.out], rfl⟩
                case rest =>
                  obtain ⟨rfl, rfl⟩ := hcut
                  go_wp2_with fail
                  go_loopw [23, 22] (fun kv av wr => ∃ k : Nat, k ≤ a ∧ kv = .int .i64 k ∧ av = .int .i64 (aheadS cur sos k) ∧ wz = wr) (fun kv _ _ => a - (intOf kv).toNat)
                  case atStart => exact ⟨0, by omega, rfl, by rw [HZ0.out], rfl⟩
                  case round =>
                    obtain ⟨k, hk, rfl, rfl, rfl⟩ := hrel
                    obtain ⟨av, hav⟩ : ∃ z, aheadS cur sos k = z := ⟨_, rfl⟩
                    rw [hav]
                    have HAV := Lib.hid hav
                    by_cases hka : k < a
                    · have hkl : k < cur.length := by have := HCL.out; omega
                      have hck := RWz.out.cell (j := k) (by simpa using hkl)
                      simp only [ints, List.getElem_map] at hck
                      obtain ⟨x, hx⟩ : ∃ x, cur[k] = x := ⟨_, rfl⟩
                      rw [hx] at hck
                      have HAN : Hid (aheadS cur sos (k + 1) = if 0 ≤ sdB x then sdB x else av) := Lib.hid (by rw [aheadS, hav, show cAt cur k = x by simp [cAt, hkl, hx]])
                      have k0 : (0 : Int) ≤ (k : Int) := by omega
                      have k1 : (k : Int) < (classes.length : Int) := by omega
                      have k2 : (k : Int) < (a : Int) := by omega
                      clear hx hav
                      obtain ⟨sx, hsx⟩ : ∃ z, sdB x = z := ⟨_, rfl⟩
                      have HSX := Lib.hid hsx
                      rw [hsx] at HAN
                      clear hsx
                      go_wp2_with fail
                      refine (rside10_any x _).mono ?_
                      rintro ed wq ⟨rfl, rfl⟩
                      rw [HSX.out]
                      rcases hps : decide (0 ≤ sx) with _ | _
                      · have HAN2 : Hid (aheadS cur sos (k + 1) = av) := Lib.hid (by rw [HAN.out, if_neg (by simpa using hps)])
                        go_wp2_with fail
                        go_roundw
                        case rel => exact ⟨k + 1, by omega, by go_num, by rw [HAN2.out], by first | rfl | trivial⟩
                        case measure => simp [intOf]; omega
                      · have HAN2 : Hid (aheadS cur sos (k + 1) = sx) := Lib.hid (by rw [HAN.out, if_pos (by simpa using hps)])
                        go_wp2_with fail
                        refine (rside10_any x _).mono ?_
                        rintro ed wq ⟨rfl, rfl⟩
                        rw [HSX.out]
                        go_wp2_with fail
                        go_roundw
                        case rel => exact ⟨k + 1, by omega, by go_num, by rw [HAN2.out], by first | rfl | trivial⟩
                        case measure => simp [intOf]; omega
                    · have hak : k = a := by omega
                      rw [hak] at HAV
                      have hka2 : ¬ (k : Int) < (a : Int) := by omega
                      clear hak hav
                      rcases hne : (av != e) with _ | _
                      · have hi : Hid (e = s) := Lib.hid (by rw [← hse.out, HAV.out]; simp at hne; rw [if_neg (by simpa using hne)])
                        go_wp2_with fail
                        go_meet
                        exact ⟨by rw [hi.out], rfl⟩
                      · have hi : Hid (av = s) := Lib.hid (by rw [← hse.out, HAV.out]; simp at hne; rw [if_pos (by simpa using hne)])
                        go_wp2_with fail
                        go_meet
                        exact ⟨by rw [hi.out], rfl⟩
              · have hse : Hid (e = s) := HSV
                go_wp2_with fail
                go_meet
                exact ⟨by rw [hse.out], rfl⟩
            case rest =>
              obtain ⟨rfl, rfl⟩ := hcut
              go_wp2_with fail
              have ht := rturn_any g cL cur A2 first c2 a s w.heap.size wz RWz.out (H2.out.below HBz.out) (by have := HCL.out; omega) (by rw [HFL.out, HCL.out]) (by rw [HCL.out]; omega)
              rw [HCL.out] at ht
              refine ht.mono ?_
              clear ht
              rintro ed w3 ⟨rfl, r3, b3, g3⟩
              have R3 := Lib.hid r3
              have B3 := Lib.hid b3
              have G3 := Lib.hid g3
              clear r3 b3 g3
              go_wp2_with fail
              have ht := rturn_any g cL (turnL cur first a s) A2 first c2 b s w.heap.size w3 R3.out (H2.out.below (HBz.out.trans B3.out)) (by rw [turnL_length]; have := HCL.out; omega) (by rw [HFL.out, turnL_length, HCL.out]) (by rw [turnL_length, HCL.out]; omega)
              rw [turnL_length, HCL.out] at ht
              refine ht.mono ?_
              clear ht
              rintro ed w4 ⟨rfl, r4, b4, g4⟩
              have R4 := Lib.hid r4
              have B4 := Lib.hid b4
              have G4 := Lib.hid g4
              clear r4 b4 g4
              go_wp2_with fail
              go_roundw
              case rel =>
                have hp3 := HPz.out.keep G3.out (OwnN.unlike HPz.out (show OwnN wz w.heap.size 3 1 (.slice (some ⟨g, 0, none⟩) _ cL) _ _ from RWz.out) (by decide))
                refine ⟨n + 1, by omega, by go_num, ?_, hp3.keep G4.out (OwnN.unlike hp3 (show OwnN w3 w.heap.size 3 1 (.slice (some ⟨g, 0, none⟩) _ cL) _ _ from R3.out) (by decide)), (HBz.out.trans B3.out).trans B4.out⟩
                rw [HS.out, ofStepB, HSD.out]
                have h1 := R4.out
                unfold Row at h1
                simp only [ints, List.length_map, turnL_length, HCL.out] at h1
                exact h1
              case measure => simp [intOf]; omega
    · obtain rfl : n = P.length := by omega
      go_wp2_with fail
      go_ret
      exact ⟨_, rfl, by rw [HF.out]; exact HQ.out, HB.out⟩
theorem rof10_all (A : Option Addr) (chars : List Int) (c : Nat) (A' : Option Addr) (classes : List Int) (c' : Nat) (A2 : Option Addr) (first : List Int) (c2 : Nat) (level sos : Int) (w : World)
    (h : Lies w w.heap.size A (ints .i64 chars)) (h' : Lies w w.heap.size A' (ints .i64 classes)) (h2 : Lies w w.heap.size A2 (ints .i64 first)) (hl : chars.length ≤ 1000000) (hl' : classes.length ≤ 1000000) :
    Calls Try.prog 18 #[.slice A chars.length c, .slice A' classes.length c', .slice A2 first.length c2, .int .i64 level, .int .i64 sos] w
      (Rowed w w.heap.size 3 (ints .i64 (ofB chars classes first level sos))) := by
  by_cases he : chars.length = classes.length ∧ first.length = classes.length
  · exact rof10_any A chars c A' classes c' A2 first c2 level sos w h h' h2 hl he.1 he.2
  · have H' := Lib.hid h'
    have hB : ofB chars classes first level sos = classes := by rw [ofB, if_neg he]
    rw [hB]
    clear h h' h2 hB
    rcases h1 : ((chars.length : Int) != (classes.length : Int)) with _ | _
    · have h3 : ((first.length : Int) != (classes.length : Int)) = true := by
        simp at h1 ⊢
        omega
      go_enter Try.func18, Try.ntmps18
      go_wp2_with (first
        | (at_builtin; refine app_src intsT w (w.alloc (.cells #[] 3)) w.heap.size w.heap.size _ _ _ [] (ints .i64 classes) A' classes.length c' rfl rfl rfl rfl (by simp) (Own.ofLit #[] (Nat.le_refl _) (by decide)) (H'.out.alloc (Nat.le_refl _) _) (ints_one _ _) (below_alloc _ _) (by simp) (by unfold maxLen; simp; omega) (by simp; omega) ?_; intro v1 w1 o1 b1 _ _; have O1 := Lib.hid (show Own w1 w.heap.size 3 v1 (ints .i64 classes) by simpa using o1); have B1 := Lib.hid b1; clear o1 b1)
        | fail)
      go_ret
      exact ⟨_, rfl, O1.out, B1.out⟩
    · go_enter Try.func18, Try.ntmps18
      go_wp2_with (first
        | (at_builtin; refine app_src intsT w (w.alloc (.cells #[] 3)) w.heap.size w.heap.size _ _ _ [] (ints .i64 classes) A' classes.length c' rfl rfl rfl rfl (by simp) (Own.ofLit #[] (Nat.le_refl _) (by decide)) (H'.out.alloc (Nat.le_refl _) _) (ints_one _ _) (below_alloc _ _) (by simp) (by unfold maxLen; simp; omega) (by simp; omega) ?_; intro v1 w1 o1 b1 _ _; have O1 := Lib.hid (show Own w1 w.heap.size 3 v1 (ints .i64 classes) by simpa using o1); have B1 := Lib.hid b1; clear o1 b1)
        | fail)
      go_ret
      exact ⟨_, rfl, O1.out, B1.out⟩
end Go.Proofs.Ytoiolgpbecgfkaa
