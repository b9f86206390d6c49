/- Shared texts, shaken for one claim. -/
import Derived.Deep.RegionHeld3
import Derived.Test.YtadfleopbpomfaaZA7
namespace Go.Proofs.Ytadfleopbpomfaa
open Go.RowKit
def fitsX (x : X6) (n : Int) : Bool := decide (n ≤ 125) && (((x.isos : Int) == 0) && ((x.embeds : Int) == 0))
set_option maxRecDepth 20000 in
set_option maxHeartbeats 1000000 in
theorem fits_any (w : World) (B g : Nat) (x : X6) (lsl sv lv cv : Value) (n : Int) (h : IsX w B g x lsl sv lv cv) :
 Calls Try.prog 88 #[.pointer (some ⟨g, 0, none⟩), .int .i64 n] w fun e w' => e = .returned (.bool (fitsX x n)) ∧ w = w' := by
 have h2 := h.field 2 (by omega)
 have h3 := h.field 3 (by omega)
 simp only [X6.cells, List.getElem?_cons_succ, List.getElem?_cons_zero] at h2 h3
 have hin := h.inside
 clear h
 rcases hA : decide (n ≤ 125) with _ | _
 ·have hf : fitsX x n = false := by simp [fitsX, hA]
  rw [hf]
  go_enter Try.func88, Try.ntmps88
  go_wp2
  go_ret
  exact ⟨rfl, rfl⟩
 ·rcases hB : ((x.isos : Int) == 0) with _ | _
  ·have hf : fitsX x n = false := by simp [fitsX, hB]
   rw [hf]
   clear hf
   go_enter Try.func88, Try.ntmps88
   go_wp2
   go_ret
   exact ⟨rfl, rfl⟩
  ·have hf : fitsX x n = ((x.embeds : Int) == 0) := by rw [fitsX, hA, hB]; rfl
   rw [hf]
   clear hf
   go_enter Try.func88, Try.ntmps88
   go_wp2
   go_ret
   exact ⟨rfl, rfl⟩
theorem lies_kept {w0 w w' : World} {g : Nat} {cs : List Value} {row : Option Nat} (hg : w.grownBy w' row) (h : Lies w0 (g + 1) (some ⟨g, 0, none⟩) cs) (hh : w.heap = w0.heap) (hlt : g < w0.heap.size) (hr : row ≠ some g) : Lies w' (g + 1) (some ⟨g, 0, none⟩) cs := fun hn => by
 obtain ⟨p, hA, hp, hc⟩ := (h.sameHeap hh) hn
 rw [← hh] at hlt
 injection hA with hA
 subst hA
 refine ⟨_, rfl, by simp, fun i u hu => ?_⟩
 rw [World.cell?_of_block (hg.block _ (by rw [add_block]; exact hlt) (by rw [add_block]; exact fun e => hr e.symm))]
 exact hc i u hu
def pushX (x : X6) (e : Ent) : X6 := { x with st := e :: x.st, most := max x.most (x.st.length + 1) }
set_option maxRecDepth 20000 in
set_option maxHeartbeats 4000000 in
theorem push_any (w : World) (B g : Nat) (x : X6) (lsl sv lv cv : Value) (e : Ent) (h : IsX w B g x lsl sv lv cv) (hsm : x.st.length ≤ 1000000) :
 Calls Try.prog 86 #[.pointer (some ⟨g, 0, none⟩), .agg #[.int .i64 e.lev, .int .i64 e.over, .bool e.iso]] w fun ed w' => ed = .returned (.tuple #[]) ∧ (∃ sv', IsX w' B g (pushX x e) lsl sv' lv cv) ∧ Below B w w' := by
 obtain ⟨A, c, rfl, hl, hnc, _⟩ := h.stack.form
 obtain ⟨n, hn⟩ : ∃ n, x.st.length = n := ⟨_, rfl⟩
 have hin := h.inside
 obtain ⟨w0, hw0⟩ : ∃ u, w.alloc (.cells #[.int .i64 e.lev, .int .i64 e.over, .bool e.iso] 92) = u := ⟨_, rfl⟩
 have B0 : Hid (Below w.heap.size w w0) := Lib.hid (hw0 ▸ below_alloc w _)
 have X0 := Lib.hid (h.below B0.out (Nat.le_refl _))
 have h1 := h.field 1 (by omega)
 simp only [X6.cells, List.getElem?_cons_succ, List.getElem?_cons_zero] at h1
 rw [hn] at h1
 have SK : Hid (∀ w', Below w0.heap.size w0 w' → w'.cell? ⟨g, 1, none⟩ = some (.slice A n c) ∧ w'.cell? ⟨w.heap.size, 0, none⟩ = some (.int .i64 e.lev) ∧ w'.cell? ⟨w.heap.size, 1, none⟩ = some (.int .i64 e.over) ∧ w'.cell? ⟨w.heap.size, 2, none⟩ = some (.bool e.iso)) :=
  Lib.hid fun w' hb => ⟨by rw [hb.cell (show g < w0.heap.size by have := B0.out.size; omega), B0.out.cell (show g < w.heap.size by omega)]; exact h1, boxed (hw0 ▸ hb) rfl, boxed (hw0 ▸ hb) rfl, boxed (hw0 ▸ hb) rfl⟩
 have HL := Lib.hid (hl.up B0.out)
 have HW := Lib.hid hw0
 have HN := Lib.hid hn
 have hn' : n ≤ 1000000 := by omega
 have hgw : g < w0.heap.size := by have := B0.out.size; omega
 clear h hl hw0 h1 hn hsm
 go_enter Try.func86, Try.ntmps86
 go_wp2
 rw [HW.out]
 have HO0 : Hid (OwnN (w0.alloc (.cells #[] 92)) w0.heap.size 92 3 (.slice (some ⟨w0.heap.size, 0, none⟩) 0 0) 0 []) := Lib.hid (OwnN.ofLit #[] (Nat.le_refl _) (by simp [maxLen]) rfl)
 obtain ⟨ES, hES⟩ : ∃ l, ents x.st.reverse = l := ⟨_, rfl⟩
 obtain ⟨EC, hEC⟩ : ∃ l, [Value.int .i64 e.lev, .int .i64 e.over, .bool e.iso] = l := ⟨_, rfl⟩
 rw [hES] at HL
 have HESL : Hid (ES.length = n * 3) := Lib.hid (by rw [← hES]; simp [HN.out])
 have HES1 : Hid (∀ u ∈ ES, u.oneCell' = true) := Lib.hid (hES ▸ ents_one _)
 have HECL : Hid (EC.length = 1 * 3) := Lib.hid (by rw [← hEC]; rfl)
 have HEC1 : Hid (∀ u ∈ EC, u.oneCell' = true) := Lib.hid (by rw [← hEC]; simp [Value.oneCell'])
 have HECA : Hid (∀ (u : World), Lies (u.alloc (.cells #[.int .i64 e.lev, .int .i64 e.over, .bool e.iso] 92)) (u.heap.size + 1) (some ⟨u.heap.size, 0, none⟩) EC) := Lib.hid fun u => hEC ▸ Lies.lit (w := u) (e := 92) #[.int .i64 e.lev, .int .i64 e.over, .bool e.iso]
 have HM1 : Hid (0 + n ≤ maxLen ∧ (0 + n) * 24 ≤ 140737488355328) := Lib.hid (by unfold maxLen; omega)
 have HM2 : Hid (0 + n + 1 ≤ maxLen ∧ (0 + n + 1) * 24 ≤ 140737488355328) := Lib.hid (by unfold maxLen; omega)
 have HZ : Hid (∀ (u : World) (o : Obj), w0.heap.size ≤ u.heap.size → w0.heap.size ≤ (u.alloc o).heap.size) := Lib.hid (fun u o h => by simp; omega)
 have HSZ : Hid (∀ (u : World) (o : Obj), (u.alloc o).heap.size = u.heap.size + 1) := Lib.hid (fun u o => World.size_alloc u o)
 have HV2 : Hid (Lies ((w0.alloc (.cells #[] 92)).alloc (.cells #[.int .i64 e.lev, .int .i64 e.over, .bool e.iso] 92)) (w0.heap.size + 1 + 1) (some ⟨w0.heap.size + 1, 0, none⟩) EC) := by
  have := HECA.out (w0.alloc (.cells #[] 92))
  rw [World.size_alloc] at this
  exact this
 have HV3 : Hid (Lies ((w0.alloc (.cells #[.int .i64 e.lev, .int .i64 e.over, .bool e.iso] 92)).alloc (.cells #[] 92)) (w0.heap.size + 1) (some ⟨w0.heap.size, 0, none⟩) EC) := Lib.hid ((HECA.out w0).alloc (by simp) _)
 have HV4 : Hid (OwnN ((w0.alloc (.cells #[.int .i64 e.lev, .int .i64 e.over, .bool e.iso] 92)).alloc (.cells #[] 92)) w0.heap.size 92 3 (.slice (some ⟨w0.heap.size + 1, 0, none⟩) 0 0) 0 []) := by
  have := OwnN.ofLit (w := w0.alloc (.cells #[.int .i64 e.lev, .int .i64 e.over, .bool e.iso] 92)) (B := w0.heap.size) (e := 92) (n := 0) (size := 3) #[] (by simp) (by simp [maxLen]) rfl
  rw [World.size_alloc] at this
  exact this
 have HEQ := Lib.hid hEC
 have HEQS := Lib.hid hES
 clear hEC hES
 have hk := SK.out w0 (Below.refl _ _)
 have HMX : Hid (Value.int .i64 (max (x.most : Int) ((n : Int) + 1)) = .int .i64 ((max x.most (n + 1) : Nat) : Int)) := Lib.hid (by congr 1; omega)
 have HFIN : Hid (∀ (w6 w7 w8 : World) (v : Value), OwnN w6 w0.heap.size 92 3 v (n + 1) (ES ++ EC) → (∀ k, v.ownBlock = some k → w0.heap.size ≤ k ∧ k < w6.heap.size) → Below w0.heap.size w0 w6 →
  OwnN w7 B 74 1 (.slice (some ⟨g, 0, none⟩) 9 9) 9 ((x.cells (.slice A x.st.length c) lv cv lsl).set 1 v) → w6.grownBy w7 (some g) →
  OwnN w8 B 74 1 (.slice (some ⟨g, 0, none⟩) 9 9) 9 (((x.cells (.slice A x.st.length c) lv cv lsl).set 1 v).set 5 (.int .i64 ((max x.most (n + 1) : Nat) : Int))) → w7.drew.grownBy w8 (some g) →
  IsX w8 B g (pushX x e) lsl v lv cv) := Lib.hid fun w6 w7 w8 v o6 hv b6 r7 g7 r8 g8 => by
  have x6 := X0.out.below b6 (Nat.le_refl _)
  have k78 : ∀ {e' : TypeId} {s m : Nat} {u : Value} {xs : List Value}, OwnN w6 B e' s u m xs → u.ownBlock ≠ some g → OwnN w8 B e' s u m xs := fun h hne =>
   OwnN.keep (OwnN.same (w' := w7.drew) (OwnN.keep h g7 (.inr hne)) rfl) g8 (.inr hne)
  have hl : lv.ownBlock ≠ some g := fun e1 => by
   rcases x6.levels.unlike x6.row (by decide) with h | h
   ·rw [h] at e1; cases e1
   ·exact h e1
  have hc : cv.ownBlock ≠ some g := fun e1 => by
   rcases x6.classes.unlike x6.row (by decide) with h | h
   ·rw [h] at e1; cases e1
   ·exact h e1
  refine ⟨?_, ?_, k78 x6.levels hl, k78 x6.classes hc, x6.apart⟩
  ·have hx : (pushX x e).cells v lv cv lsl = ((x.cells (.slice A x.st.length c) lv cv lsl).set 1 v).set 5 (.int .i64 ((max x.most (n + 1) : Nat) : Int)) := by
    simp [X6.cells, pushX, HN.out]
   rw [hx]; exact r8
  ·have hs : ents (pushX x e).st.reverse = ES ++ EC := by
    rw [← HEQS.out, ← HEQ.out, pushX]
    simp only [List.reverse_cons, ents_append]
    simp [ents, Ent.cells]
   have hn : (pushX x e).st.length = n + 1 := by rw [pushX]; simp [HN.out]
   rw [hs, hn]
   refine k78 (o6.weaken (by have := B0.out.size; omega)) (fun e1 => ?_)
   have := (hv g e1).1
   omega
 obtain ⟨mm, hmm⟩ : ∃ mm, max x.most (n + 1) = mm := ⟨_, rfl⟩
 have hmx : (if (x.most : Int) < (n : Int) + 1 then (n : Int) + 1 else (x.most : Int)) = (mm : Int) := by split <;> omega
 have HMM := Lib.hid hmm
 clear hmm
 have HFIN : Hid (∀ (w6 w7 w8 : World) (v : Value), OwnN w6 w0.heap.size 92 3 v (n + 1) (ES ++ EC) → (∀ k, v.ownBlock = some k → w0.heap.size ≤ k ∧ k < w6.heap.size) → Below w0.heap.size w0 w6 →
  OwnN w7 B 74 1 (.slice (some ⟨g, 0, none⟩) 9 9) 9 ((x.cells (.slice A x.st.length c) lv cv lsl).set 1 v) → w6.grownBy w7 (some g) →
  OwnN w8 B 74 1 (.slice (some ⟨g, 0, none⟩) 9 9) 9 (((x.cells (.slice A x.st.length c) lv cv lsl).set 1 v).set 5 (.int .i64 (mm : Int))) → w7.drew.grownBy w8 (some g) →
  IsX w8 B g (pushX x e) lsl v lv cv) := Lib.hid fun w6 w7 w8 v o6 hv b6 r7 g7 r8 g8 => by
  have x6 := X0.out.below b6 (Nat.le_refl _)
  have k78 : ∀ {e' : TypeId} {s m : Nat} {u : Value} {xs : List Value}, OwnN w6 B e' s u m xs → u.ownBlock ≠ some g → OwnN w8 B e' s u m xs := fun h hne =>
   OwnN.keep (OwnN.same (w' := w7.drew) (OwnN.keep h g7 (.inr hne)) rfl) g8 (.inr hne)
  have hl : lv.ownBlock ≠ some g := fun e1 => by
   rcases x6.levels.unlike x6.row (by decide) with h | h
   ·rw [h] at e1; cases e1
   ·exact h e1
  have hc : cv.ownBlock ≠ some g := fun e1 => by
   rcases x6.classes.unlike x6.row (by decide) with h | h
   ·rw [h] at e1; cases e1
   ·exact h e1
  refine ⟨?_, ?_, k78 x6.levels hl, k78 x6.classes hc, x6.apart⟩
  ·have hx : (pushX x e).cells v lv cv lsl = ((x.cells (.slice A x.st.length c) lv cv lsl).set 1 v).set 5 (.int .i64 (mm : Int)) := by
    simp [X6.cells, pushX, HN.out, HMM.out]
   rw [hx]; exact r8
  ·have hs : ents (pushX x e).st.reverse = ES ++ EC := by
    rw [← HEQS.out, ← HEQ.out, pushX]
    simp only [List.reverse_cons, ents_append]
    simp [ents, Ent.cells]
   have hn : (pushX x e).st.length = n + 1 := by rw [pushX]; simp [HN.out]
   rw [hs, hn]
   refine k78 (o6.weaken (by have := B0.out.size; omega)) (fun e1 => ?_)
   have := (hv g e1).1
   omega
 refine wp_region_E (S := fun w' => w'.cell? ⟨g, 1, none⟩ = some (.slice A n c) ∧ w'.cell? ⟨w.heap.size, 0, none⟩ = some (.int .i64 e.lev) ∧ w'.cell? ⟨w.heap.size, 1, none⟩ = some (.int .i64 e.over) ∧ w'.cell? ⟨w.heap.size, 2, none⟩ = some (.bool e.iso)) [12] (by kernel_rfl) (hk) (fun hHeld hZ => ?_)
 refine' eY 0 hHeld hZ fun hZ => ?_
 try simp only [Act.put,ZA,ZB,ZD,ZE,ZF]
 refine' eY 2 hHeld hZ fun hZ => ?_
 try simp only [Act.put,ZA,ZB,ZC,ZD,ZE,ZF]
 refine' eY 3 hHeld hZ fun hZ => ?_
 try simp only [Act.put,ZA,ZB,ZC,ZD,ZE,ZF]
 refine' eY 4 hHeld hZ fun hZ => ?_
 try simp only [Act.put,ZA,ZB,ZC,ZD,ZE,ZF]
 refine' eY 5 hHeld hZ fun hZ => ?_
 try simp only [Act.put,ZA,ZB,ZC,ZD,ZE,ZF]
 refine' eY 7 hHeld hZ fun hZ => ?_
 try simp only [Act.put,ZA,ZB,ZC,ZD,ZE,ZF]
 refine wpAnyE_ready (rs := [1, 8]) (by kernel_rfl) (by simp) ?_
 refine AllReadyE.cons rfl (fun K hK => ?_) (AllReadyE.cons rfl (fun K hK => ?_) AllReadyE.nil)
 ·go_simp
  refine eB hK hZ (SK.out _ (by exact below_same ((below_alloc w0 _)) rfl rfl rfl rfl)) fun hHeld hZ => ?_
  clear hK K
  try simp only [Act.put,ZA,ZB,ZC,ZD,ZE,ZF]
  refine wpAnyE_ready (rs := [6, 8]) (by kernel_rfl) (by simp) ?_
  refine AllReadyE.cons rfl (fun K hK => ?_) (AllReadyE.cons rfl (fun K hK => ?_) AllReadyE.nil)
  ·refine step_appN entsT w0 _ w0.heap.size w0.heap.size (.tmp 5) (.tmp 9) (.slice (some ⟨w0.heap.size, 0, none⟩) 0 0) 0 n [] ES A c rfl rfl rfl rfl (OwnN.same HO0.out rfl) (HL.out.below (below_same (below_alloc w0 _) rfl rfl rfl rfl)) HESL.out HES1.out (below_same (below_alloc w0 _) rfl rfl rfl rfl) (by simp) HM1.out.1 HM1.out.2 ?_
   intro v5 w5 o5 b5 g5 _
   have O5 := Lib.hid o5
   have B5 := Lib.hid b5
   clear o5 b5 g5
   refine eB hK hZ (SK.out _ (by exact below_same (B5.out) rfl rfl rfl rfl)) fun hHeld hZ => ?_
   clear hK K
   try simp only [Act.put,ZA,ZB,ZC,ZD,ZE,ZF]
   refine eA 8 fun K hK => ?_
   go_simp
   refine eB hK hZ (SK.out _ (by exact below_same (B5.out.alloc B5.out.size _) rfl rfl rfl rfl)) fun hHeld hZ => ?_
   clear hK K
   try simp only [Act.put,ZA,ZB,ZC,ZD,ZE,ZF]
   refine eA 9 fun K hK => ?_
   refine step_appN entsT w0 _ w0.heap.size _ (.tmp 10) (.tmp 12) v5 (0 + n) 1 ([] ++ ES) EC _ _ rfl rfl rfl rfl (OwnN.same (O5.out.alloc _) rfl) (Lies.sameHeap (HECA.out w5) rfl) HECL.out HEC1.out (below_same (B5.out.alloc B5.out.size _) rfl rfl rfl rfl) (HZ.out w5 _ B5.out.size) HM2.out.1 HM2.out.2 ?_
   intro v6 w6 o6 b6 _ _
   have O6 := Lib.hid o6
   have B6 := Lib.hid b6
   clear o6 b6
   refine eB hK hZ (SK.out _ (by exact below_same (B6.out) rfl rfl rfl rfl)) fun hHeld hZ => ?_
   clear hK K
   try simp only [Act.put,ZA,ZB,ZC,ZD,ZE,ZF]
   refine' eY 10 hHeld hZ fun hZ => ?_
   try simp only [Act.put,ZA,ZB,ZC,ZD,ZE,ZF]
   refine' eY 11 hHeld hZ fun hZ => ?_
   try simp only [Act.put,ZA,ZB,ZC,ZD,ZE,ZF]
   have o6 : OwnN w6 w0.heap.size 92 3 v6 (n + 1) (ES ++ EC) := by have := O6.out; rwa [Nat.zero_add, List.nil_append] at this
   obtain ⟨A6, c6, rfl, _, _, _⟩ := o6.form
   have hv6 := (OwnN.inside o6)
   have O6 := Lib.hid o6
   have HV6 := Lib.hid hv6
   clear o6 hv6
   refine eA 12 fun K hK => ?_
   refine step_store w6 B (.tmp 15) (.tmp 13) g 1 9 (.slice A6 (n + 1) c6) _ w6 rfl rfl rfl (by kernel_rfl) rfl rfl rfl (X0.out.below B6.out (Nat.le_refl _)).row (by simp [X6.cells]) (Below.refl _ _) ?_
   intro w7 r7 b7 g7
   have R7 := Lib.hid r7
   have G7 := Lib.hid g7
   have B7 := Lib.hid b7
   clear r7 g7 b7
   refine eE hK hZ fun hZ => ?_
   clear hK K
   try simp only [Act.put,ZA,ZB,ZC,ZD,ZE,ZF]
   refine wpAnyE_done (by kernel_rfl) ?_ _
   clear hZ
   go_wp2
   have hc5 : w7.cell? ⟨g, 5, none⟩ = some (.int .i64 x.most) := by
    have := World.ownsRow.cellAt R7.out 5 (by simp [X6.cells])
    rw [this]; rfl
   have hc1 : w7.cell? ⟨g, 1, none⟩ = some (.slice A6 (n + 1) c6) := by
    have := World.ownsRow.cellAt R7.out 1 (by simp [X6.cells])
    rw [this]; rfl
   have hk7 : w7.drew.cell? ⟨g, 5, none⟩ = some (.int .i64 x.most) ∧ w7.drew.cell? ⟨g, 1, none⟩ = some (.slice A6 (n + 1) c6) := ⟨hc5, hc1⟩
   clear hc5 hc1
   refine wp_region_E (S := fun w' => w'.cell? ⟨g, 5, none⟩ = some (.int .i64 x.most) ∧ w'.cell? ⟨g, 1, none⟩ = some (.slice A6 (n + 1) c6)) [13] (by kernel_rfl) (hk7) (fun hHeld hZ => ?_)
   refine' eY 0 hHeld hZ fun hZ => ?_
   try simp only [Act.put,ZA,ZB,ZD,ZE,ZF]
   refine' eY 1 hHeld hZ fun hZ => ?_
   try simp only [Act.put,ZA,ZB,ZC,ZD,ZE,ZF]
   refine' eY 2 hHeld hZ fun hZ => ?_
   try simp only [Act.put,ZA,ZB,ZC,ZD,ZE,ZF]
   refine' eY 3 hHeld hZ fun hZ => ?_
   try simp only [Act.put,ZA,ZB,ZC,ZD,ZE,ZF]
   refine' eY 4 hHeld hZ fun hZ => ?_
   try simp only [Act.put,ZA,ZB,ZC,ZD,ZE,ZF]
   refine' eY 5 hHeld hZ fun hZ => ?_
   try simp only [Act.put,ZA,ZB,ZC,ZD,ZE,ZF]
   refine' eY 6 hHeld hZ fun hZ => ?_
   try simp only [Act.put,ZA,ZB,ZC,ZD,ZE,ZF]
   refine' eY 7 hHeld hZ fun hZ => ?_
   try simp only [Act.put,ZA,ZB,ZC,ZD,ZE,ZF]
   refine' eY 8 hHeld hZ fun hZ => ?_
   try simp only [Act.put,ZA,ZB,ZC,ZD,ZE,ZF]
   refine' eY 9 hHeld hZ fun hZ => ?_
   try simp only [Act.put,ZA,ZB,ZC,ZD,ZE,ZF]
   refine' eY 10 hHeld hZ fun hZ => ?_
   try simp only [Act.put,ZA,ZB,ZC,ZD,ZE,ZF]
   refine' eY 11 hHeld hZ fun hZ => ?_
   try simp only [Act.put,ZA,ZB,ZC,ZD,ZE,ZF]
   refine' eY 12 hHeld hZ fun hZ => ?_
   try simp only [Act.put,ZA,ZB,ZC,ZD,ZE,ZF]
   refine eA 13 fun K hK => ?_
   refine step_store w7.drew B (.tmp 28) (.tmp 26) g 5 9 (.int .i64 (mm : Int)) _ w7.drew rfl rfl rfl (by kernel_rfl) rfl rfl rfl (R7.out.same rfl) (by simp [X6.cells]) (Below.refl _ _) ?_
   intro w8 r8 b8 g8
   have R8 := Lib.hid r8
   have G8 := Lib.hid g8
   have B8 := Lib.hid b8
   clear r8 g8 b8
   refine eE hK hZ fun hZ => ?_
   clear hK K
   try simp only [Act.put,ZA,ZB,ZC,ZD,ZE,ZF]
   refine wpAnyE_done (by kernel_rfl) ?_ _
   clear hZ
   go_wp2
   (try simp only [Exit.inBlock, Exit.then])
   refine bodyPost_end (results_none rfl _ _ _) rfl ⟨rfl, ⟨.slice A6 (n + 1) c6, ?_⟩, ?_⟩
   ·exact HFIN.out w6 w7 w8 _ O6.out HV6.out B6.out R7.out G7.out R8.out G8.out
   ·exact ((B0.out.mono (by omega)).trans (B6.out.mono (by have := B0.out.size; omega))).trans (B7.out.trans (below_then_drew B8.out))
  ·go_simp
   refine eB hK hZ (SK.out _ (by exact below_same (((below_alloc w0 _).alloc (by simp) _)) rfl rfl rfl rfl)) fun hHeld hZ => ?_
   clear hK K
   try simp only [Act.put,ZA,ZB,ZC,ZD,ZE,ZF]
   refine eA 6 fun K hK => ?_
   refine step_appN entsT w0 _ w0.heap.size w0.heap.size (.tmp 5) (.tmp 9) (.slice (some ⟨w0.heap.size, 0, none⟩) 0 0) 0 n [] ES A c rfl rfl rfl rfl (OwnN.same (HO0.out.alloc _) rfl) (HL.out.below (below_same ((below_alloc w0 _).alloc (by simp) _) rfl rfl rfl rfl)) HESL.out HES1.out (below_same ((below_alloc w0 _).alloc (by simp) _) rfl rfl rfl rfl) (by simp; omega) HM1.out.1 HM1.out.2 ?_
   intro v5 w5 o5 b5 g5 _
   have O5 := Lib.hid o5
   have B5 := Lib.hid b5
   have HL5 := Lib.hid (lies_kept g5 HV2.out rfl (by simp) (by simp [Value.ownBlock]))
   clear o5 b5 g5
   refine eB hK hZ (SK.out _ (by exact below_same (B5.out) rfl rfl rfl rfl)) fun hHeld hZ => ?_
   clear hK K
   try simp only [Act.put,ZA,ZB,ZC,ZD,ZE,ZF]
   refine eA 9 fun K hK => ?_
   refine step_appN entsT w0 _ w0.heap.size _ (.tmp 10) (.tmp 12) v5 (0 + n) 1 ([] ++ ES) EC _ _ rfl rfl rfl rfl (OwnN.same O5.out rfl) (Lies.sameHeap HL5.out rfl) HECL.out HEC1.out (below_same B5.out rfl rfl rfl rfl) B5.out.size HM2.out.1 HM2.out.2 ?_
   intro v6 w6 o6 b6 _ _
   have O6 := Lib.hid o6
   have B6 := Lib.hid b6
   clear o6 b6
   refine eB hK hZ (SK.out _ (by exact below_same (B6.out) rfl rfl rfl rfl)) fun hHeld hZ => ?_
   clear hK K
   try simp only [Act.put,ZA,ZB,ZC,ZD,ZE,ZF]
   refine' eY 10 hHeld hZ fun hZ => ?_
   try simp only [Act.put,ZA,ZB,ZC,ZD,ZE,ZF]
   refine' eY 11 hHeld hZ fun hZ => ?_
   try simp only [Act.put,ZA,ZB,ZC,ZD,ZE,ZF]
   have o6 : OwnN w6 w0.heap.size 92 3 v6 (n + 1) (ES ++ EC) := by have := O6.out; rwa [Nat.zero_add, List.nil_append] at this
   obtain ⟨A6, c6, rfl, _, _, _⟩ := o6.form
   have hv6 := (OwnN.inside o6)
   have O6 := Lib.hid o6
   have HV6 := Lib.hid hv6
   clear o6 hv6
   refine eA 12 fun K hK => ?_
   refine step_store w6 B (.tmp 15) (.tmp 13) g 1 9 (.slice A6 (n + 1) c6) _ w6 rfl rfl rfl (by kernel_rfl) rfl rfl rfl (X0.out.below B6.out (Nat.le_refl _)).row (by simp [X6.cells]) (Below.refl _ _) ?_
   intro w7 r7 b7 g7
   have R7 := Lib.hid r7
   have G7 := Lib.hid g7
   have B7 := Lib.hid b7
   clear r7 g7 b7
   refine eE hK hZ fun hZ => ?_
   clear hK K
   try simp only [Act.put,ZA,ZB,ZC,ZD,ZE,ZF]
   refine wpAnyE_done (by kernel_rfl) ?_ _
   clear hZ
   go_wp2
   have hc5 : w7.cell? ⟨g, 5, none⟩ = some (.int .i64 x.most) := by
    have := World.ownsRow.cellAt R7.out 5 (by simp [X6.cells])
    rw [this]; rfl
   have hc1 : w7.cell? ⟨g, 1, none⟩ = some (.slice A6 (n + 1) c6) := by
    have := World.ownsRow.cellAt R7.out 1 (by simp [X6.cells])
    rw [this]; rfl
   have hk7 : w7.drew.cell? ⟨g, 5, none⟩ = some (.int .i64 x.most) ∧ w7.drew.cell? ⟨g, 1, none⟩ = some (.slice A6 (n + 1) c6) := ⟨hc5, hc1⟩
   clear hc5 hc1
   refine wp_region_E (S := fun w' => w'.cell? ⟨g, 5, none⟩ = some (.int .i64 x.most) ∧ w'.cell? ⟨g, 1, none⟩ = some (.slice A6 (n + 1) c6)) [13] (by kernel_rfl) (hk7) (fun hHeld hZ => ?_)
   refine' eY 0 hHeld hZ fun hZ => ?_
   try simp only [Act.put,ZA,ZB,ZD,ZE,ZF]
   refine' eY 1 hHeld hZ fun hZ => ?_
   try simp only [Act.put,ZA,ZB,ZC,ZD,ZE,ZF]
   refine' eY 2 hHeld hZ fun hZ => ?_
   try simp only [Act.put,ZA,ZB,ZC,ZD,ZE,ZF]
   refine' eY 3 hHeld hZ fun hZ => ?_
   try simp only [Act.put,ZA,ZB,ZC,ZD,ZE,ZF]
   refine' eY 4 hHeld hZ fun hZ => ?_
   try simp only [Act.put,ZA,ZB,ZC,ZD,ZE,ZF]
   refine' eY 5 hHeld hZ fun hZ => ?_
   try simp only [Act.put,ZA,ZB,ZC,ZD,ZE,ZF]
   refine' eY 6 hHeld hZ fun hZ => ?_
   try simp only [Act.put,ZA,ZB,ZC,ZD,ZE,ZF]
   refine' eY 7 hHeld hZ fun hZ => ?_
   try simp only [Act.put,ZA,ZB,ZC,ZD,ZE,ZF]
   refine' eY 8 hHeld hZ fun hZ => ?_
   try simp only [Act.put,ZA,ZB,ZC,ZD,ZE,ZF]
   refine' eY 9 hHeld hZ fun hZ => ?_
   try simp only [Act.put,ZA,ZB,ZC,ZD,ZE,ZF]
   refine' eY 10 hHeld hZ fun hZ => ?_
   try simp only [Act.put,ZA,ZB,ZC,ZD,ZE,ZF]
   refine' eY 11 hHeld hZ fun hZ => ?_
   try simp only [Act.put,ZA,ZB,ZC,ZD,ZE,ZF]
   refine' eY 12 hHeld hZ fun hZ => ?_
   try simp only [Act.put,ZA,ZB,ZC,ZD,ZE,ZF]
   refine eA 13 fun K hK => ?_
   refine step_store w7.drew B (.tmp 28) (.tmp 26) g 5 9 (.int .i64 (mm : Int)) _ w7.drew rfl rfl rfl (by kernel_rfl) rfl rfl rfl (R7.out.same rfl) (by simp [X6.cells]) (Below.refl _ _) ?_
   intro w8 r8 b8 g8
   have R8 := Lib.hid r8
   have G8 := Lib.hid g8
   have B8 := Lib.hid b8
   clear r8 g8 b8
   refine eE hK hZ fun hZ => ?_
   clear hK K
   try simp only [Act.put,ZA,ZB,ZC,ZD,ZE,ZF]
   refine wpAnyE_done (by kernel_rfl) ?_ _
   clear hZ
   go_wp2
   (try simp only [Exit.inBlock, Exit.then])
   refine bodyPost_end (results_none rfl _ _ _) rfl ⟨rfl, ⟨.slice A6 (n + 1) c6, ?_⟩, ?_⟩
   ·exact HFIN.out w6 w7 w8 _ O6.out HV6.out B6.out R7.out G7.out R8.out G8.out
   ·exact ((B0.out.mono (by omega)).trans (B6.out.mono (by have := B0.out.size; omega))).trans (B7.out.trans (below_then_drew B8.out))
 ·go_simp
  refine eB hK hZ (SK.out _ (by exact below_same ((below_alloc w0 _)) rfl rfl rfl rfl)) fun hHeld hZ => ?_
  clear hK K
  try simp only [Act.put,ZA,ZB,ZC,ZD,ZE,ZF]
  refine eA 1 fun K hK => ?_
  go_simp
  refine eB hK hZ (SK.out _ (by exact below_same (((below_alloc w0 _).alloc (by simp) _)) rfl rfl rfl rfl)) fun hHeld hZ => ?_
  clear hK K
  try simp only [Act.put,ZA,ZB,ZC,ZD,ZE,ZF]
  refine eA 6 fun K hK => ?_
  refine step_appN entsT w0 _ w0.heap.size w0.heap.size (.tmp 5) (.tmp 9) (.slice (some ⟨w0.heap.size + 1, 0, none⟩) 0 0) 0 n [] ES A c rfl rfl rfl rfl (OwnN.same HV4.out rfl) (HL.out.below (below_same ((below_alloc w0 _).alloc (by simp) _) rfl rfl rfl rfl)) HESL.out HES1.out (below_same ((below_alloc w0 _).alloc (by simp) _) rfl rfl rfl rfl) (by simp; omega) HM1.out.1 HM1.out.2 ?_
  intro v5 w5 o5 b5 g5 _
  have O5 := Lib.hid o5
  have B5 := Lib.hid b5
  have HL5 := Lib.hid (lies_kept g5 HV3.out rfl (by simp; omega) (by simp [Value.ownBlock]))
  clear o5 b5 g5
  refine eB hK hZ (SK.out _ (by exact below_same (B5.out) rfl rfl rfl rfl)) fun hHeld hZ => ?_
  clear hK K
  try simp only [Act.put,ZA,ZB,ZC,ZD,ZE,ZF]
  refine eA 9 fun K hK => ?_
  refine step_appN entsT w0 _ w0.heap.size _ (.tmp 10) (.tmp 12) v5 (0 + n) 1 ([] ++ ES) EC _ _ rfl rfl rfl rfl (OwnN.same O5.out rfl) (Lies.sameHeap HL5.out rfl) HECL.out HEC1.out (below_same B5.out rfl rfl rfl rfl) B5.out.size HM2.out.1 HM2.out.2 ?_
  intro v6 w6 o6 b6 _ _
  have O6 := Lib.hid o6
  have B6 := Lib.hid b6
  clear o6 b6
  refine eB hK hZ (SK.out _ (by exact below_same (B6.out) rfl rfl rfl rfl)) fun hHeld hZ => ?_
  clear hK K
  try simp only [Act.put,ZA,ZB,ZC,ZD,ZE,ZF]
  refine' eY 10 hHeld hZ fun hZ => ?_
  try simp only [Act.put,ZA,ZB,ZC,ZD,ZE,ZF]
  refine' eY 11 hHeld hZ fun hZ => ?_
  try simp only [Act.put,ZA,ZB,ZC,ZD,ZE,ZF]
  have o6 : OwnN w6 w0.heap.size 92 3 v6 (n + 1) (ES ++ EC) := by have := O6.out; rwa [Nat.zero_add, List.nil_append] at this
  obtain ⟨A6, c6, rfl, _, _, _⟩ := o6.form
  have hv6 := (OwnN.inside o6)
  have O6 := Lib.hid o6
  have HV6 := Lib.hid hv6
  clear o6 hv6
  refine eA 12 fun K hK => ?_
  refine step_store w6 B (.tmp 15) (.tmp 13) g 1 9 (.slice A6 (n + 1) c6) _ w6 rfl rfl rfl (by kernel_rfl) rfl rfl rfl (X0.out.below B6.out (Nat.le_refl _)).row (by simp [X6.cells]) (Below.refl _ _) ?_
  intro w7 r7 b7 g7
  have R7 := Lib.hid r7
  have G7 := Lib.hid g7
  have B7 := Lib.hid b7
  clear r7 g7 b7
  refine eE hK hZ fun hZ => ?_
  clear hK K
  try simp only [Act.put,ZA,ZB,ZC,ZD,ZE,ZF]
  refine wpAnyE_done (by kernel_rfl) ?_ _
  clear hZ
  go_wp2
  have hc5 : w7.cell? ⟨g, 5, none⟩ = some (.int .i64 x.most) := by
   have := World.ownsRow.cellAt R7.out 5 (by simp [X6.cells])
   rw [this]; rfl
  have hc1 : w7.cell? ⟨g, 1, none⟩ = some (.slice A6 (n + 1) c6) := by
   have := World.ownsRow.cellAt R7.out 1 (by simp [X6.cells])
   rw [this]; rfl
  have hk7 : w7.drew.cell? ⟨g, 5, none⟩ = some (.int .i64 x.most) ∧ w7.drew.cell? ⟨g, 1, none⟩ = some (.slice A6 (n + 1) c6) := ⟨hc5, hc1⟩
  clear hc5 hc1
  refine wp_region_E (S := fun w' => w'.cell? ⟨g, 5, none⟩ = some (.int .i64 x.most) ∧ w'.cell? ⟨g, 1, none⟩ = some (.slice A6 (n + 1) c6)) [13] (by kernel_rfl) (hk7) (fun hHeld hZ => ?_)
  refine' eY 0 hHeld hZ fun hZ => ?_
  try simp only [Act.put,ZA,ZB,ZD,ZE,ZF]
  refine' eY 1 hHeld hZ fun hZ => ?_
  try simp only [Act.put,ZA,ZB,ZC,ZD,ZE,ZF]
  refine' eY 2 hHeld hZ fun hZ => ?_
  try simp only [Act.put,ZA,ZB,ZC,ZD,ZE,ZF]
  refine' eY 3 hHeld hZ fun hZ => ?_
  try simp only [Act.put,ZA,ZB,ZC,ZD,ZE,ZF]
  refine' eY 4 hHeld hZ fun hZ => ?_
  try simp only [Act.put,ZA,ZB,ZC,ZD,ZE,ZF]
  refine' eY 5 hHeld hZ fun hZ => ?_
  try simp only [Act.put,ZA,ZB,ZC,ZD,ZE,ZF]
  refine' eY 6 hHeld hZ fun hZ => ?_
  try simp only [Act.put,ZA,ZB,ZC,ZD,ZE,ZF]
  refine' eY 7 hHeld hZ fun hZ => ?_
  try simp only [Act.put,ZA,ZB,ZC,ZD,ZE,ZF]
  refine' eY 8 hHeld hZ fun hZ => ?_
  try simp only [Act.put,ZA,ZB,ZC,ZD,ZE,ZF]
  refine' eY 9 hHeld hZ fun hZ => ?_
  try simp only [Act.put,ZA,ZB,ZC,ZD,ZE,ZF]
  refine' eY 10 hHeld hZ fun hZ => ?_
  try simp only [Act.put,ZA,ZB,ZC,ZD,ZE,ZF]
  refine' eY 11 hHeld hZ fun hZ => ?_
  try simp only [Act.put,ZA,ZB,ZC,ZD,ZE,ZF]
  refine' eY 12 hHeld hZ fun hZ => ?_
  try simp only [Act.put,ZA,ZB,ZC,ZD,ZE,ZF]
  refine eA 13 fun K hK => ?_
  refine step_store w7.drew B (.tmp 28) (.tmp 26) g 5 9 (.int .i64 (mm : Int)) _ w7.drew rfl rfl rfl (by kernel_rfl) rfl rfl rfl (R7.out.same rfl) (by simp [X6.cells]) (Below.refl _ _) ?_
  intro w8 r8 b8 g8
  have R8 := Lib.hid r8
  have G8 := Lib.hid g8
  have B8 := Lib.hid b8
  clear r8 g8 b8
  refine eE hK hZ fun hZ => ?_
  clear hK K
  try simp only [Act.put,ZA,ZB,ZC,ZD,ZE,ZF]
  refine wpAnyE_done (by kernel_rfl) ?_ _
  clear hZ
  go_wp2
  (try simp only [Exit.inBlock, Exit.then])
  refine bodyPost_end (results_none rfl _ _ _) rfl ⟨rfl, ⟨.slice A6 (n + 1) c6, ?_⟩, ?_⟩
  ·exact HFIN.out w6 w7 w8 _ O6.out HV6.out B6.out R7.out G7.out R8.out G8.out
  ·exact ((B0.out.mono (by omega)).trans (B6.out.mono (by have := B0.out.size; omega))).trans (B7.out.trans (below_then_drew B8.out))
end Go.Proofs.Ytadfleopbpomfaa
namespace Go.Proofs.Ytadfleopbpomfaa
open Go.RowKit
section
variable {w w' : World} {B g : Nat} {x x' : X6} {lsl sv lv cv : Value}
theorem IsX.far (h : IsX w B g x lsl sv lv cv) : sv.ownBlock ≠ some g ∧ lv.ownBlock ≠ some g ∧ cv.ownBlock ≠ some g := by
 have key : ∀ {e' : TypeId} {s m : Nat} {u : Value} {xs : List Value}, OwnN w B e' s u m xs → e' ≠ 74 → u.ownBlock ≠ some g := fun ho he e1 => by
  rcases ho.unlike h.row he with h2 | h2
  ·rw [h2] at e1; cases e1
  ·exact h2 e1
 exact ⟨key h.stack (by decide), key h.levels (by decide), key h.classes (by decide)⟩
theorem IsX.stored (h : IsX w B g x lsl sv lv cv) {j : Nat} {u : Value} (r : OwnN w' B 74 1 (.slice (some ⟨g, 0, none⟩) 9 9) 9 ((x.cells sv lv cv lsl).set j u)) (hg : w.grownBy w' (some g))
 (hx : x'.cells sv lv cv lsl = (x.cells sv lv cv lsl).set j u) (h1 : x'.st = x.st) (h2 : x'.levels = x.levels) (h3 : x'.classes = x.classes) : IsX w' B g x' lsl sv lv cv := by
 obtain ⟨f1, f2, f3⟩ := h.far
 exact ⟨hx ▸ r, by rw [h1]; exact h.stack.keep hg (.inr f1), by rw [h2]; exact h.levels.keep hg (.inr f2), by rw [h3]; exact h.classes.keep hg (.inr f3), h.apart⟩
theorem IsX.same (h : IsX w B g x lsl sv lv cv) (hh : w'.heap = w.heap) : IsX w' B g x lsl sv lv cv :=
 ⟨h.row.same hh, h.stack.same hh, h.levels.same hh, h.classes.same hh, h.apart⟩
theorem IsX.storedStack (h : IsX w B g x lsl sv lv cv) {u : Value} (r : OwnN w' B 74 1 (.slice (some ⟨g, 0, none⟩) 9 9) 9 ((x.cells sv lv cv lsl).set 1 u)) (hg : w.grownBy w' (some g))
 (st : List Ent) (ho : OwnN w B 92 3 u st.length (ents st.reverse)) (hu : u.ownBlock ≠ some g) : IsX w' B g { x with st := st } lsl u lv cv := by
 obtain ⟨_, f2, f3⟩ := h.far
 exact ⟨r, ho.keep hg (.inr hu), h.levels.keep hg (.inr f2), h.classes.keep hg (.inr f3), h.apart⟩
end
set_option maxRecDepth 20000 in
set_option maxHeartbeats 1000000 in
theorem pop_any (w : World) (B g : Nat) (x : X6) (lsl sv lv cv : Value) (e : Ent) (st : List Ent) (hst : x.st = e :: st) (h : IsX w B g x lsl sv lv cv) (hsm : x.st.length ≤ 1000000) :
 Calls Try.prog 90 #[.pointer (some ⟨g, 0, none⟩)] w fun ed w' => ed = .returned (.tuple #[]) ∧ (∃ sv', IsX w' B g { x with st := st } lsl sv' lv cv) ∧ Below B w w' := by
 have hin := h.inside
 obtain ⟨n, hn⟩ : ∃ n, st.length = n := ⟨_, rfl⟩
 have hxl : x.st.length = n + 1 := by rw [hst]; simp [hn]
 obtain ⟨A, c, rfl, hnc, hsh⟩ := h.stack.short (j := n) (by omega)
 have f1 := h.far.1
 have h1 := h.field 1 (by omega)
 simp only [X6.cells, List.getElem?_cons_succ, List.getElem?_cons_zero] at h1
 have hsv : OwnN w B 92 3 (.slice A n c) st.length (ents st.reverse) := by
  have hr : (ents x.st.reverse).take (n * 3) = ents st.reverse := by
   rw [hst, List.reverse_cons, ents_append, List.take_left' (by simp [hn])]
  rw [hr] at hsh
  rw [hn]; exact hsh
 obtain ⟨gs, hA⟩ : ∃ gs, A = some ⟨gs, 0, none⟩ := by
  obtain ⟨gs, c', hv, _⟩ := h.stack.block (by omega)
  injection hv with hv
  exact ⟨gs, hv⟩
 subst hA
 rw [hxl] at h1 hnc
 have hw1 : IntKind.i64.wrap (((n + 1 : Nat) : Int) - 1) = (n : Int) := by rw [IntWalk.i64_in _ (by omega)]; omega
 have hw2 : IntKind.i64.wrap (n : Int) = (n : Int) := IntWalk.i64_in _ (by omega)
 have b0 : (0 : Int) ≤ (n : Int) := by omega
 have b1 : (n : Int) ≤ (c : Int) := by omega
 have H := Lib.hid h
 have HS := Lib.hid hsv
 have HX := Lib.hid hxl
 have F1 : Hid ((Value.slice (some ⟨gs, 0, none⟩) n c).ownBlock ≠ some g) := Lib.hid f1
 have hcc : ¬ c = 0 := by omega
 clear h hsv hsh f1 hxl hn hst hsm
 go_enter Try.func90, Try.ntmps90
 go_wp2
 refine wp_region_E (S := fun w' => w'.cell? ⟨g, 1, none⟩ = some (.slice (some ⟨gs, 0, none⟩) (n + 1) c)) [14] (by kernel_rfl) (h1) (fun hHeld hZ => ?_)
 refine' eY 0 hHeld hZ fun hZ => ?_
 try simp only [Act.put,ZA,ZB,ZD,ZE,ZF]
 refine' eY 1 hHeld hZ fun hZ => ?_
 try simp only [Act.put,ZA,ZB,ZC,ZD,ZE,ZF]
 refine' eY 2 hHeld hZ fun hZ => ?_
 try simp only [Act.put,ZA,ZB,ZC,ZD,ZE,ZF]
 refine' eY 3 hHeld hZ fun hZ => ?_
 try simp only [Act.put,ZA,ZB,ZC,ZD,ZE,ZF]
 refine' eY 4 hHeld hZ fun hZ => ?_
 try simp only [Act.put,ZA,ZB,ZC,ZD,ZE,ZF]
 refine' eY 5 hHeld hZ fun hZ => ?_
 try simp only [Act.put,ZA,ZB,ZC,ZD,ZE,ZF]
 refine' eY 6 hHeld hZ fun hZ => ?_
 try simp only [Act.put,ZA,ZB,ZC,ZD,ZE,ZF]
 refine' eY 7 hHeld hZ fun hZ => ?_
 try simp only [Act.put,ZA,ZB,ZC,ZD,ZE,ZF]
 refine' eY 8 hHeld hZ fun hZ => ?_
 try simp only [Act.put,ZA,ZB,ZC,ZD,ZE,ZF]
 refine' eY 9 hHeld hZ fun hZ => ?_
 try simp only [Act.put,ZA,ZB,ZC,ZD,ZE,ZF]
 refine' eY 10 hHeld hZ fun hZ => ?_
 try simp only [Act.put,ZA,ZB,ZC,ZD,ZE,ZF]
 refine' eY 11 hHeld hZ fun hZ => ?_
 try simp only [Act.put,ZA,ZB,ZC,ZD,ZE,ZF]
 refine' eY 12 hHeld hZ fun hZ => ?_
 try simp only [Act.put,ZA,ZB,ZC,ZD,ZE,ZF]
 refine' eY 13 hHeld hZ fun hZ => ?_
 try simp only [Act.put,ZA,ZB,ZC,ZD,ZE,ZF]
 refine eA 14 fun K hK => ?_
 refine step_store w.drew B (.tmp 15) (.tmp 13) g 1 9 (.slice (some ⟨gs, 0, none⟩) n c) _ w.drew rfl rfl rfl (by kernel_rfl) rfl rfl rfl (H.out.row.same rfl) (by simp [X6.cells]) (Below.refl _ _) ?_
 intro w8 r8 b8 g8
 have R8 := Lib.hid r8
 have G8 := Lib.hid g8
 have B8 := Lib.hid b8
 clear r8 g8 b8
 refine eE hK hZ fun hZ => ?_
 clear hK K
 try simp only [Act.put,ZA,ZB,ZC,ZD,ZE,ZF]
 refine wpAnyE_done (by kernel_rfl) ?_ _
 clear hZ
 go_wp2
 (try simp only [Exit.inBlock, Exit.then])
 refine bodyPost_end (results_none rfl _ _ _) rfl ⟨rfl, ⟨.slice (some ⟨gs, 0, none⟩) n c, ?_⟩, below_then_drew B8.out⟩
 exact (H.out.same (w' := w.drew) rfl).storedStack R8.out G8.out st (HS.out.same rfl) F1.out
def startX (x : X6) : X6 := { x with st := [⟨x.base, -1, false⟩], isos := 0, embeds := 0, valid := 0, most := max x.most 1 }
set_option maxRecDepth 20000 in
set_option maxHeartbeats 2000000 in
theorem start_any (w : World) (B g : Nat) (x : X6) (lsl sv lv cv : Value) (h : IsX w B g x lsl sv lv cv) :
 Calls Try.prog 68 #[.pointer (some ⟨g, 0, none⟩)] w fun ed w' => ed = .returned (.tuple #[]) ∧ (∃ sv', IsX w' B g (startX x) lsl sv' lv cv) ∧ Below B w w' := by
 have H := Lib.hid h
 clear h
 go_enter Try.func68, Try.ntmps68
 go_wp2_with (first
  | (refine store_cell w B _ _ g 1 9 (.slice none 0 0) _ w rfl rfl rfl (by kernel_rfl) rfl rfl rfl H.out.row (by simp [X6.cells]) (Below.refl _ _) ?_; intro w1 r1 b1 g1; have X1 := Lib.hid (H.out.storedStack r1 g1 [] (OwnN.empty _ _ _ _) (by simp [Value.ownBlock])); have B1 := Lib.hid b1; have h0 := X1.out.field 0 (by omega); simp only [X6.cells, List.getElem?_cons_zero] at h0; clear r1 b1 g1)
  | fail)
 refine (push_any w1 B g _ lsl _ lv cv ⟨x.base, -1, false⟩ X1.out (by simp)).mono ?_
 rintro ed w2 ⟨rfl, ⟨sv2, x2⟩, b2⟩
 have X2 := Lib.hid x2
 have B2 := Lib.hid (B1.out.trans b2)
 clear x2 b2 h0
 go_wp2_with (first
  | (refine store_cell w2 B _ _ g 2 9 (.int .i64 0) _ w2 rfl rfl rfl (by kernel_rfl) rfl rfl rfl X2.out.row (by simp [X6.cells]) (Below.refl _ _) ?_; intro w3 r3 b3 g3; have X3 := Lib.hid (X2.out.stored (x' := { (pushX { x with st := [] } ⟨x.base, -1, false⟩) with isos := 0 }) r3 g3 rfl rfl rfl rfl); have B3 := Lib.hid (B2.out.trans b3); clear r3 b3 g3)
  | (refine store_cell w3 B _ _ g 3 9 (.int .i64 0) _ w3 rfl rfl rfl (by kernel_rfl) rfl rfl rfl X3.out.row (by simp [X6.cells]) (Below.refl _ _) ?_; intro w4 r4 b4 g4; have X4 := Lib.hid (X3.out.stored (x' := { (pushX { x with st := [] } ⟨x.base, -1, false⟩) with isos := 0, embeds := 0 }) r4 g4 rfl rfl rfl rfl); have B4 := Lib.hid (B3.out.trans b4); clear r4 b4 g4)
  | (refine store_cell w4 B _ _ g 4 9 (.int .i64 0) _ w4 rfl rfl rfl (by kernel_rfl) rfl rfl rfl X4.out.row (by simp [X6.cells]) (Below.refl _ _) ?_; intro w5 r5 b5 g5; have X5 := Lib.hid (X4.out.stored (x' := startX x) r5 g5 rfl rfl rfl rfl); have B5 := Lib.hid (B4.out.trans b5); clear r5 b5 g5)
  | fail)
 (try simp only [Exit.inBlock, Exit.then])
 exact bodyPost_end (results_none rfl _ _ _) rfl ⟨rfl, ⟨sv2, X5.out⟩, B5.out⟩
end Go.Proofs.Ytadfleopbpomfaa
namespace Go.Proofs.Ytadfleopbpomfaa
open Go.RowKit
structure Frame (w w' : World) (g : Nat) (sv sv' : Value) : Prop where
 size : w.heap.size ≤ w'.heap.size
 keep : ∀ k, k < w.heap.size → k ≠ g → sv.ownBlock ≠ some k → w'.heap[k]? = w.heap[k]?
 new : ∀ k, sv'.ownBlock = some k → sv.ownBlock = some k ∨ w.heap.size ≤ k
section
variable {w w' w'' : World} {g : Nat} {sv sv' sv'' : Value}
theorem Frame.below (hb : Below w.heap.size w w') : Frame w w' g sv sv := ⟨hb.size, fun k hk _ _ => hb.block k hk, fun _ h => .inl h⟩
theorem Frame.refl (w : World) (g : Nat) (sv : Value) : Frame w w g sv sv := Frame.below (Below.refl _ _)
theorem Frame.same (hh : w'.heap = w.heap) : Frame w w' g sv sv := ⟨by rw [hh]; exact Nat.le_refl _, fun k _ _ _ => by rw [hh], fun _ h => .inl h⟩
theorem Frame.store (hg : w.grownBy w' (some g)) : Frame w w' g sv sv := ⟨hg.size, fun k hk h1 _ => hg.block k hk (fun e => h1 (Option.some.inj e)), fun _ h => .inl h⟩
theorem Frame.trans (h1 : Frame w w' g sv sv') (h2 : Frame w' w'' g sv' sv'') : Frame w w'' g sv sv'' :=
 ⟨Nat.le_trans h1.size h2.size, fun k hk hg hs => (h2.keep k (Nat.lt_of_lt_of_le hk h1.size) hg (fun e => by
  rcases h1.new k e with h | h
  ·exact hs h
  ·omega)).trans (h1.keep k hk hg hs), fun k hk => by
  rcases h2.new k hk with h | h
  ·exact h1.new k h
  ·exact .inr (Nat.le_trans h1.size h)⟩
theorem Frame.cell (h : Frame w w' g sv sv') {a j : Nat} (ha : a < w.heap.size) (hg : a ≠ g) (hs : sv.ownBlock ≠ some a) : w'.cell? ⟨a, j, none⟩ = w.cell? ⟨a, j, none⟩ := World.cell?_of_block (h.keep a ha hg hs)
end
structure P6 where
 base : Int
 st : List Ent
 isos : Nat
 embeds : Nat
 valid : Nat
def P6.cells (p : P6) (lsl sv : Value) : List Value := [lsl, .int .i64 p.base, sv, .int .i64 p.isos, .int .i64 p.embeds, .int .i64 p.valid]
section
variable {w w' : World} {B g : Nat} {p p' : P6} {lsl sv : Value}
end
structure P6.Small (p : P6) : Prop where
 st : p.st.length ≤ 100000
 isos : p.isos ≤ 1000000
 embeds : p.embeds ≤ 1000000
 valid : p.valid ≤ 1000000
def overP (p : P6) : Bool := decide (0 < p.isos) || decide (0 < p.embeds)
def fitP (p : P6) (d : Int) : Bool := match p.st with | [] => false | e :: _ => decide (nextL e.lev d ≤ 125)
def pushP (p : P6) (d o : Int) (i : Bool) : P6 := match p.st with | [] => p | e :: _ => if nextL e.lev d ≤ 125 then { p with st := ⟨nextL e.lev d, o, i⟩ :: p.st } else p
end Go.Proofs.Ytadfleopbpomfaa
