/- Layer 6: the program's step. -/
import Derived.Test.YtihphfbgihbkfaaDoorEpC
import Derived.Test.YtihphfbgihbkfaaDoorExE
namespace Go.Proofs.YtihphfbgihbkfaaDoor
open Go.RowKit

def stepP (p : P6) (l : List Int) (i k : Int) : P6 := if k = 10 then resetP p else if isOut k then embedP p k else if isOpens k then isolateP p l i else if k = 22 then endP p else p
def tellP (p : P6) (k : Int) : Int × Int := match p.st with
  | [] => (0, 0)
  | e :: _ => if k = 10 then (p.base, k) else if isOut k then (e.lev, k) else if isOpens k then (e.lev, overE e k)
    else if k = 22 then (match (endP p).st with | [] => (0, 0) | e2 :: _ => (e2.lev, overE e2 k)) else (e.lev, overE e (knownI k))
theorem ret_2 {a : Int × Int} {x y : Int} (h : a = (x, y)) : Ending.returned (.tuple #[.int .i64 x, .int .i64 y]) = .returned (.tuple #[.int .i64 a.1, .int .i64 a.2]) := by rw [h]

theorem unwind_le (st : List Ent) : (unwind st).length ≤ st.length := by
  unfold unwind
  rw [List.length_tail]
  have := (List.dropWhile_sublist (l := st) (p := fun e => !e.iso)).length_le
  omega
theorem endP_len (p : P6) : (endP p).st.length ≤ p.st.length := by
  unfold endP
  split
  · exact Nat.le_refl _
  · split
    · exact unwind_le _
    · exact Nat.le_refl _
/-- the cells of an entry that was laid aside -/
abbrev asideAt (w : World) (a : Nat) (e : Ent) : Prop := w.cell? ⟨a, 0, none⟩ = some (.int .i64 e.lev) ∧ w.cell? ⟨a, 1, none⟩ = some (.int .i64 e.over) ∧ w.cell? ⟨a, 2, none⟩ = some (.bool e.iso)
theorem LitAt.aside {w : World} {a : Nat} {e : Ent} (h : LitAt w a e.cells) : asideAt w a e := ⟨h.cells 0 _ rfl, h.cells 1 _ rfl, h.cells 2 _ rfl⟩

set_option maxRecDepth 20000 in
set_option maxHeartbeats 8000000 in
theorem step_any (w : World) (B g : Nat) (p : P6) (A : Option Addr) (l : List Int) (cap : Nat) (i : Nat) (hi : i < l.length) (k : Int) (hk : l[i] = k) (e : Ent) (st : List Ent) (hst : p.st = e :: st) (hp : HasP w B g p (.slice A l.length cap)) (hs : p.Small) (hc : Ctx w B A l) (hl : l.length ≤ 1000000) (hcap : l.length ≤ cap)
    (hend : ∃ e2 st2, (endP p).st = e2 :: st2) :
    Calls Tryd.prog 20 #[.pointer (some ⟨g, 0, none⟩), .int .i64 (i : Int)] w fun ed w' => ed = .returned (.tuple #[.int .i64 (tellP p k).1, .int .i64 (tellP p k).2]) ∧ HasP w' B g (stepP p l i k) (.slice A l.length cap) ∧ Below B w w' := by
  obtain ⟨sv, h⟩ := hp
  obtain ⟨r, hr⟩ : ∃ r, tellP p k = r := ⟨_, rfl⟩
  obtain ⟨q, hq⟩ : ∃ q, stepP p l i k = q := ⟨_, rfl⟩
  rw [hr, hq]
  have HR := Lib.hid hr
  have HQ := Lib.hid hq
  have HST := Lib.hid hst
  have HC := Lib.hid hc
  have HS := Lib.hid hs
  have hsm : p.st.length ≤ 1000000 := by have := hs.st; omega
  obtain ⟨pa, rfl, hpb, hcell⟩ := hc.list.int hi
  rw [hk] at hcell
  have h0 := h.field 0 (by omega)
  simp only [P6.cells, List.getElem?_cons_zero] at h0
  have b0 : (0 : Int) ≤ (i : Int) := by omega
  have b1 : (i : Int) < (l.length : Int) := by omega
  have HP := Lib.hid h
  have HE2 := Lib.hid hend
  clear hst h hs hc hr hq hend
  go_enter Tryd.func20, Tryd.ntmps20
  go_wp2_with fail
  refine (plast_any w B g p _ e st HST.out ⟨_, HP.out⟩ hsm).mono ?_
  rintro ed w1 ⟨rfl, b1_⟩
  have X1 := Lib.hid (HP.out.below b1_ (Nat.le_refl _))
  have B1 := Lib.hid (b1_.mono HP.out.le)
  clear b1_ hcell h0
  obtain ⟨w2, hw2⟩ : ∃ u, w1.alloc (.cells #[.int .i64 e.lev, .int .i64 e.over, .bool e.iso] 52) = u := ⟨_, rfl⟩
  have X2 : Hid (IsP w2 B g p (.slice (some pa) l.length cap) sv) := Lib.hid (hw2 ▸ X1.out.alloc _)
  have T2 : Hid (LitAt w2 w1.heap.size e.cells) := Lib.hid (hw2 ▸ LitAt.new w1 52 #[.int .i64 e.lev, .int .i64 e.over, .bool e.iso])
  have B2 : Hid (Below B w w2) := Lib.hid (hw2 ▸ B1.out.trans ((below_alloc w1 _).mono X1.out.le))
  have HW2 := Lib.hid hw2
  have FA : Hid (w1.heap.size ≠ g ∧ sv.ownBlock ≠ some w1.heap.size) := Lib.hid ⟨by have := X1.out.inside; omega, fun e1 => by have := (X1.out.stack.inside _ e1).2; omega⟩
  clear hw2
  rcases h10 : (k == 10) with _ | _
  · have n10 : ¬ k = 10 := by simpa using h10
    rcases hO : isOut k with _ | _
    · rcases hP : isOpens k with _ | _
      · rcases h22 : (k == 22) with _ | _
        · have HE : Hid (p = q ∧ r = (e.lev, overE e (knownI k))) := Lib.hid ⟨by rw [← HQ.out, stepP, if_neg n10, if_neg (by rw [hO]; simp), if_neg (by rw [hP]; simp), if_neg (by simpa using h22)], by
            rw [← HR.out]; unfold tellP; rw [HST.out]; simp only; rw [if_neg n10, if_neg (by rw [hO]; simp), if_neg (by rw [hP]; simp), if_neg (by simpa using h22)]⟩
          have HO := Lib.hid hO
          have HPN := Lib.hid hP
          clear n10 hO hP
          go_wp2_with fail
          rw [HW2.out]
          refine (out_any k w2).mono ?_
          rintro ed w3 ⟨rfl, b3⟩
          rw [HO.out]
          have X3 := Lib.hid (X2.out.below b3 (Nat.le_refl _))
          have T3 := Lib.hid (T2.out.below b3)
          have B3 := Lib.hid (B2.out.trans (b3.mono X2.out.le))
          clear b3
          go_wp2_with fail
          refine (opens_any k w3).mono ?_
          rintro ed w4 ⟨rfl, b4⟩
          rw [HPN.out]
          have X4 := Lib.hid (X3.out.below b4 (Nat.le_refl _))
          have T4 := Lib.hid (T3.out.below b4)
          have B4 := Lib.hid (B3.out.trans (b4.mono X3.out.le))
          clear b4
          go_wp2_with fail
          refine wp_region_E (S := fun w' => asideAt w' w1.heap.size e) [] (by kernel_rfl) (T4.out.aside) (fun hHeld hClosed => ?_)
          refine' wpAnyE_take (i := 0) (v := _) rfl (by kernel_rfl) (by kernel_rfl) (by kernel_rfl) (by kernel_rfl) (fun _ _ _ h => h) (Or.inl ⟨by rfl, fun u hu => ?_⟩) hHeld hClosed (fun hNext => ?_)
          rotate_left
          · (try dsimp only at hu)
            go_simp
            try with_reducible rfl
          clear hClosed
          have hClosed := hNext
          clear hNext
          try simp only [Act.put, List.getElem_toArray, List.getElem_cons_zero, List.setIfInBounds_toArray, List.set_cons_zero, List.set_cons_succ]
          refine' wpAnyE_take (i := 1) (v := _) rfl (by kernel_rfl) (by kernel_rfl) (by kernel_rfl) (by kernel_rfl) (fun _ _ _ h => h) (Or.inl ⟨by rfl, fun u hu => ?_⟩) hHeld hClosed (fun hNext => ?_)
          rotate_left
          · (try dsimp only at hu)
            go_simp
            try with_reducible rfl
          clear hClosed
          have hClosed := hNext
          clear hNext
          try simp only [Act.put, List.getElem_toArray, List.getElem_cons_zero, List.getElem_cons_succ, List.setIfInBounds_toArray, List.set_cons_zero, List.set_cons_succ]
          refine' wpAnyE_take (i := 2) (v := _) rfl (by kernel_rfl) (by kernel_rfl) (by kernel_rfl) (by kernel_rfl) (fun _ _ _ h => h) (Or.inl ⟨by rfl, fun u hu => ?_⟩) hHeld hClosed (fun hNext => ?_)
          rotate_left
          · (try dsimp only at hu)
            go_simp
            try with_reducible rfl
          clear hClosed
          have hClosed := hNext
          clear hNext
          try simp only [Act.put, List.getElem_toArray, List.getElem_cons_zero, List.getElem_cons_succ, List.setIfInBounds_toArray, List.set_cons_zero, List.set_cons_succ]
          refine' wpAnyE_take (i := 3) (v := _) rfl (by kernel_rfl) (by kernel_rfl) (by kernel_rfl) (by kernel_rfl) (fun _ _ _ h => h) (Or.inl ⟨by rfl, fun u hu => ?_⟩) hHeld hClosed (fun hNext => ?_)
          rotate_left
          · (try dsimp only at hu)
            go_simp
            try with_reducible rfl
          clear hClosed
          have hClosed := hNext
          clear hNext
          try simp only [Act.put, List.getElem_toArray, List.getElem_cons_zero, List.getElem_cons_succ, List.setIfInBounds_toArray, List.set_cons_zero, List.set_cons_succ]
          have X4d := Lib.hid (X4.out.same (w' := w4.drew) rfl)
          have T4d : Hid (LitAt w4.drew w1.heap.size e.cells) := Lib.hid ⟨T4.out.lt, T4.out.cells⟩
          have B4d : Hid (Below B w w4.drew) := Lib.hid (below_drawn B4.out 1)
          generalize w4.drew = u0 at X4d T4d B4d hHeld ⊢
          refine wpAnyE_ready (rs := [4]) (by kernel_rfl) (by simp) ?_
          refine AllReadyE.cons rfl (fun K hK => ?_) AllReadyE.nil
          all_goals simp only [List.getElem_toArray, List.getElem_cons_zero, List.getElem_cons_succ]
          all_goals go_simp
          refine (known_any k u0 (HC.out.below B4d.out).tabs).mono ?_
          rintro ed u1 ⟨rfl, rfl⟩
          refine hK.out _ _ (fun _ => T4d.out.aside) (fun hHeld => ?_) (fun hX => (by first | cases hX | simp at hX))
          replace hClosed := hClosed.step 4 (by kernel_rfl)
          clear hK K
          try simp only [Act.put, List.getElem_toArray, List.getElem_cons_zero, List.getElem_cons_succ, List.setIfInBounds_toArray, List.set_cons_zero, List.set_cons_succ]
          refine wpAnyE_ready (rs := [5]) (by kernel_rfl) (by simp) ?_
          refine AllReadyE.cons rfl (fun K hK => ?_) AllReadyE.nil
          all_goals simp only [List.getElem_toArray, List.getElem_cons_zero, List.getElem_cons_succ]
          all_goals go_simp
          refine (over_any e (knownI k) u0).mono ?_
          rintro ed u2 ⟨rfl, b_⟩
          have X5 := Lib.hid (X4d.out.below b_ (Nat.le_refl _))
          have T5 := Lib.hid (T4d.out.below b_)
          have B5 := Lib.hid (B4d.out.trans (b_.mono X4d.out.le))
          clear b_
          refine hK.out _ _ (fun _ => T5.out.aside) (fun hHeld => ?_) (fun hX => (by first | cases hX | simp at hX))
          replace hClosed := hClosed.step 5 (by kernel_rfl)
          clear hK K
          try simp only [Act.put, List.getElem_toArray, List.getElem_cons_zero, List.getElem_cons_succ, List.setIfInBounds_toArray, List.set_cons_zero, List.set_cons_succ]
          refine' wpAnyE_free (i := 6) (v := _) rfl (by kernel_rfl) (by kernel_rfl) (by kernel_rfl) (fun _ _ _ h => h) (Or.inl ⟨by rfl, fun u _ => ?_⟩) hClosed (fun hNext => ?_)
          rotate_left
          · go_simp
            try with_reducible rfl
          clear hClosed
          have hClosed := hNext
          clear hNext
          try simp only [Act.put, List.getElem_toArray, List.getElem_cons_zero, List.getElem_cons_succ, List.setIfInBounds_toArray, List.set_cons_zero, List.set_cons_succ]
          refine' wpAnyE_free (i := 7) (v := _) rfl (by kernel_rfl) (by kernel_rfl) (by kernel_rfl) (fun _ _ _ h => h) (Or.inl ⟨by rfl, fun u _ => ?_⟩) hClosed (fun hNext => ?_)
          rotate_left
          · go_simp
            try with_reducible rfl
          clear hClosed
          have hClosed := hNext
          clear hNext
          try simp only [Act.put, List.getElem_toArray, List.getElem_cons_zero, List.getElem_cons_succ, List.setIfInBounds_toArray, List.set_cons_zero, List.set_cons_succ]
          refine wpAnyE_done (by kernel_rfl) ?_ _
          clear hClosed
          go_wp2_with fail
          go_ret2
          exact ⟨ret_2 HE.out.2, by rw [← HE.out.1]; exact ⟨_, X5.out⟩, B5.out⟩
        · obtain ⟨e2, st2, he2⟩ := HE2.out
          have HE2' := Lib.hid he2
          have HE : Hid (endP p = q ∧ r = (e2.lev, overE e2 k)) := Lib.hid ⟨by rw [← HQ.out, stepP, if_neg n10, if_neg (by rw [hO]; simp), if_neg (by rw [hP]; simp), if_pos (by simpa using h22)], by
            rw [← HR.out]; unfold tellP; rw [HST.out]; simp only; rw [if_neg n10, if_neg (by rw [hO]; simp), if_neg (by rw [hP]; simp), if_pos (by simpa using h22), he2]⟩
          have hel : (endP p).st.length ≤ 1000000 := Nat.le_trans (endP_len p) hsm
          have HO := Lib.hid hO
          have HPN := Lib.hid hP
          have hf0 := pfield0 e2.lev e2.over e2.iso
          clear n10 hO hP he2
          go_wp2_with fail
          rw [HW2.out]
          refine (out_any k w2).mono ?_
          rintro ed w3 ⟨rfl, b3⟩
          rw [HO.out]
          have X3 := Lib.hid (X2.out.below b3 (Nat.le_refl _))
          have B3 := Lib.hid (B2.out.trans (b3.mono X2.out.le))
          clear b3
          go_wp2_with fail
          refine (opens_any k w3).mono ?_
          rintro ed w4 ⟨rfl, b4⟩
          rw [HPN.out]
          have X4 := Lib.hid (X3.out.below b4 (Nat.le_refl _))
          have B4 := Lib.hid (B3.out.trans (b4.mono X3.out.le))
          clear b4
          go_wp2_with fail
          refine (endIsolate_any w4 B g p _ sv e2 st2 HE2'.out X4.out HS.out).mono ?_
          rintro ed w5 ⟨rfl, x5, b5⟩
          have X5 := Lib.hid x5
          have B5 := Lib.hid (B4.out.trans b5)
          clear x5 b5
          go_wp2_with fail
          refine (plast_any w5 B g (endP p) _ e2 st2 HE2'.out X5.out hel).mono ?_
          rintro ed w6 ⟨rfl, b6⟩
          have X6 := Lib.hid (X5.out.below b6)
          have B6 := Lib.hid (B5.out.trans (b6.mono X5.out.le))
          clear b6
          go_wp2_with fail
          refine (plast_any w6 B g (endP p) _ e2 st2 HE2'.out X6.out hel).mono ?_
          rintro ed w7 ⟨rfl, b7⟩
          have X7 := Lib.hid (X6.out.below b7)
          have B7 := Lib.hid (B6.out.trans (b7.mono X6.out.le))
          clear b7
          go_wp2_with fail
          refine (over_any e2 k w7).mono ?_
          rintro ed w8 ⟨rfl, b8⟩
          have X8 := Lib.hid (X7.out.below b8)
          have B8 := Lib.hid (B7.out.trans (b8.mono X7.out.le))
          clear b8
          go_wp2_with fail
          go_ret2
          exact ⟨ret_2 HE.out.2, by rw [← HE.out.1]; exact X8.out, B8.out⟩
      · have HE : Hid (isolateP p l i = q ∧ r = (e.lev, overE e k)) := Lib.hid ⟨by rw [← HQ.out, stepP, if_neg n10, if_neg (by rw [hO]; simp), if_pos hP], by
          rw [← HR.out]; unfold tellP; rw [HST.out]; simp only; rw [if_neg n10, if_neg (by rw [hO]; simp), if_pos hP]⟩
        have HO := Lib.hid hO
        have HPN := Lib.hid hP
        clear n10 hO hP
        go_wp2_with fail
        rw [HW2.out]
        refine (out_any k w2).mono ?_
        rintro ed w3 ⟨rfl, b3⟩
        rw [HO.out]
        have X3 := Lib.hid (X2.out.below b3 (Nat.le_refl _))
        have T3 := Lib.hid (T2.out.below b3)
        have B3 := Lib.hid (B2.out.trans (b3.mono X2.out.le))
        clear b3
        go_wp2_with fail
        refine (opens_any k w3).mono ?_
        rintro ed w4 ⟨rfl, b4⟩
        rw [HPN.out]
        have X4 := Lib.hid (X3.out.below b4 (Nat.le_refl _))
        have T4 := Lib.hid (T3.out.below b4)
        have B4 := Lib.hid (B3.out.trans (b4.mono X3.out.le))
        clear b4
        go_wp2_with fail
        refine (pisolate_any w4 B g p (some pa) l cap sv i e st HST.out X4.out HS.out (HC.out.below B4.out) hl hcap).mono ?_
        rintro ed w5 ⟨rfl, ⟨sv5, x5, f5⟩, b5⟩
        have X5 := Lib.hid x5
        have B5 := Lib.hid (B4.out.trans b5)
        have T5 : Hid (LitAt w5 w1.heap.size e.cells) := Lib.hid ⟨Nat.lt_of_lt_of_le T4.out.lt f5.size, fun i u hu => (f5.cell T4.out.lt FA.out.1 FA.out.2).trans (T4.out.cells i u hu)⟩
        clear x5 b5 f5
        go_wp2_with fail
        refine wp_region_E (S := fun w' => asideAt w' w1.heap.size e) [] (by kernel_rfl) (T5.out.aside) (fun hHeld hClosed => ?_)
        refine' wpAnyE_take (i := 0) (v := _) rfl (by kernel_rfl) (by kernel_rfl) (by kernel_rfl) (by kernel_rfl) (fun _ _ _ h => h) (Or.inl ⟨by rfl, fun u hu => ?_⟩) hHeld hClosed (fun hNext => ?_)
        rotate_left
        · (try dsimp only at hu)
          go_simp
          try with_reducible rfl
        clear hClosed
        have hClosed := hNext
        clear hNext
        try simp only [Act.put, List.getElem_toArray, List.getElem_cons_zero, List.setIfInBounds_toArray, List.set_cons_zero, List.set_cons_succ]
        refine' wpAnyE_take (i := 1) (v := _) rfl (by kernel_rfl) (by kernel_rfl) (by kernel_rfl) (by kernel_rfl) (fun _ _ _ h => h) (Or.inl ⟨by rfl, fun u hu => ?_⟩) hHeld hClosed (fun hNext => ?_)
        rotate_left
        · (try dsimp only at hu)
          go_simp
          try with_reducible rfl
        clear hClosed
        have hClosed := hNext
        clear hNext
        try simp only [Act.put, List.getElem_toArray, List.getElem_cons_zero, List.getElem_cons_succ, List.setIfInBounds_toArray, List.set_cons_zero, List.set_cons_succ]
        refine' wpAnyE_take (i := 2) (v := _) rfl (by kernel_rfl) (by kernel_rfl) (by kernel_rfl) (by kernel_rfl) (fun _ _ _ h => h) (Or.inl ⟨by rfl, fun u hu => ?_⟩) hHeld hClosed (fun hNext => ?_)
        rotate_left
        · (try dsimp only at hu)
          go_simp
          try with_reducible rfl
        clear hClosed
        have hClosed := hNext
        clear hNext
        try simp only [Act.put, List.getElem_toArray, List.getElem_cons_zero, List.getElem_cons_succ, List.setIfInBounds_toArray, List.set_cons_zero, List.set_cons_succ]
        refine' wpAnyE_take (i := 3) (v := _) rfl (by kernel_rfl) (by kernel_rfl) (by kernel_rfl) (by kernel_rfl) (fun _ _ _ h => h) (Or.inl ⟨by rfl, fun u hu => ?_⟩) hHeld hClosed (fun hNext => ?_)
        rotate_left
        · (try dsimp only at hu)
          go_simp
          try with_reducible rfl
        clear hClosed
        have hClosed := hNext
        clear hNext
        try simp only [Act.put, List.getElem_toArray, List.getElem_cons_zero, List.getElem_cons_succ, List.setIfInBounds_toArray, List.set_cons_zero, List.set_cons_succ]
        have X5d := Lib.hid (X5.out.same (w' := w5.drew) rfl)
        have T5d : Hid (LitAt w5.drew w1.heap.size e.cells) := Lib.hid ⟨T5.out.lt, T5.out.cells⟩
        have B5d : Hid (Below B w w5.drew) := Lib.hid (below_drawn B5.out 1)
        generalize w5.drew = u0 at X5d T5d B5d hHeld ⊢
        refine wpAnyE_ready (rs := [4]) (by kernel_rfl) (by simp) ?_
        refine AllReadyE.cons rfl (fun K hK => ?_) AllReadyE.nil
        all_goals simp only [List.getElem_toArray, List.getElem_cons_zero, List.getElem_cons_succ]
        all_goals go_simp
        refine (over_any e k u0).mono ?_
        rintro ed u2 ⟨rfl, b_⟩
        have X6 := Lib.hid (X5d.out.below b_ (Nat.le_refl _))
        have T6 := Lib.hid (T5d.out.below b_)
        have B6 := Lib.hid (B5d.out.trans (b_.mono X5d.out.le))
        clear b_
        refine hK.out _ _ (fun _ => T6.out.aside) (fun hHeld => ?_) (fun hX => (by first | cases hX | simp at hX))
        replace hClosed := hClosed.step 4 (by kernel_rfl)
        clear hK K
        try simp only [Act.put, List.getElem_toArray, List.getElem_cons_zero, List.getElem_cons_succ, List.setIfInBounds_toArray, List.set_cons_zero, List.set_cons_succ]
        refine' wpAnyE_free (i := 5) (v := _) rfl (by kernel_rfl) (by kernel_rfl) (by kernel_rfl) (fun _ _ _ h => h) (Or.inl ⟨by rfl, fun u _ => ?_⟩) hClosed (fun hNext => ?_)
        rotate_left
        · go_simp
          try with_reducible rfl
        clear hClosed
        have hClosed := hNext
        clear hNext
        try simp only [Act.put, List.getElem_toArray, List.getElem_cons_zero, List.getElem_cons_succ, List.setIfInBounds_toArray, List.set_cons_zero, List.set_cons_succ]
        refine' wpAnyE_free (i := 6) (v := _) rfl (by kernel_rfl) (by kernel_rfl) (by kernel_rfl) (fun _ _ _ h => h) (Or.inl ⟨by rfl, fun u _ => ?_⟩) hClosed (fun hNext => ?_)
        rotate_left
        · go_simp
          try with_reducible rfl
        clear hClosed
        have hClosed := hNext
        clear hNext
        try simp only [Act.put, List.getElem_toArray, List.getElem_cons_zero, List.getElem_cons_succ, List.setIfInBounds_toArray, List.set_cons_zero, List.set_cons_succ]
        refine wpAnyE_done (by kernel_rfl) ?_ _
        clear hClosed
        go_wp2_with fail
        go_ret2
        exact ⟨ret_2 HE.out.2, by rw [← HE.out.1]; exact ⟨_, X6.out⟩, B6.out⟩
    · have HE : Hid (embedP p k = q ∧ r = (e.lev, k)) := Lib.hid ⟨by rw [← HQ.out, stepP, if_neg n10, if_pos hO], by
        rw [← HR.out]; unfold tellP; rw [HST.out]; simp only; rw [if_neg n10, if_pos hO]⟩
      have HO := Lib.hid hO
      clear n10 hO
      go_wp2_with fail
      rw [HW2.out]
      refine (out_any k w2).mono ?_
      rintro ed w3 ⟨rfl, b3⟩
      rw [HO.out]
      have X3 := Lib.hid (X2.out.below b3 (Nat.le_refl _))
      have T3 := Lib.hid (T2.out.below b3)
      have B3 := Lib.hid (B2.out.trans (b3.mono X2.out.le))
      clear b3
      go_wp2_with fail
      refine (pembed_any w3 B g p _ sv k e st HST.out X3.out HS.out).mono ?_
      rintro ed w4 ⟨rfl, ⟨sv4, x4, f4⟩, b4⟩
      have X4 := Lib.hid x4
      have B4 := Lib.hid (B3.out.trans b4)
      have hca : w4.cell? ⟨w1.heap.size, 0, none⟩ = some (.int .i64 e.lev) := (f4.cell T3.out.lt FA.out.1 FA.out.2).trans (T3.out.cells 0 _ rfl)
      clear x4 f4 b4
      go_wp2_with fail
      go_ret2
      exact ⟨ret_2 HE.out.2, by rw [← HE.out.1]; exact ⟨_, X4.out⟩, B4.out⟩
  · have HE : Hid (resetP p = q ∧ r = (p.base, k)) := Lib.hid ⟨by rw [← HQ.out, stepP, if_pos (by simpa using h10)], by
      rw [← HR.out]; unfold tellP; rw [HST.out]; simp only; rw [if_pos (by simpa using h10)]⟩
    go_wp2_with fail
    rw [HW2.out]
    refine (reset_any w2 B g p _ sv X2.out (.inl (by rw [HST.out]; simp)) hsm).mono ?_
    rintro ed w3 ⟨rfl, ⟨sv3, x3⟩, b3⟩
    have h1 := x3.field 1 (by omega)
    simp only [P6.cells, resetP, List.getElem?_cons_succ, List.getElem?_cons_zero] at h1
    have X3 := Lib.hid x3
    have B3 := Lib.hid (B2.out.trans b3)
    clear x3 b3
    go_wp2_with fail
    go_ret2
    exact ⟨ret_2 HE.out.2, by rw [← HE.out.1]; exact ⟨_, X3.out⟩, B3.out⟩
end Go.Proofs.YtihphfbgihbkfaaDoor
