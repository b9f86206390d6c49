/- Layer 10: the program's Pairs (printed by tools/gen/gen_brq.py). -/
import Derived.ScopeJumps
import Derived.WalkMore
import Derived.Test.YtoiolgpbecgfkaaBrG
import Derived.Test.YtoiolgpbecgfkaaBrL
import Derived.Test.YtoiolgpbecgfkaaSrtP
namespace Go.Proofs.Ytoiolgpbecgfkaa
open Go.RowKit

/-- a scope in which the run jumps back to one label, entered at it -/
theorem wp_scope_enter {P : Program} {a : Act} {w : World} {Q : Exit → Act → World → Prop} {c r : Code} (l : Nat) (J : Act → World → Prop) (μ : Act → World → Nat) (hf : findLabel c l = some (Code.skip.seq r))
    (pass : ∀ a w, J a w → r.wp P (Exit.jump l (fun a' w' => J a' w' ∧ μ a' w' < μ a w) Q) a w)
    (first : (∀ a w, J a w → r.wp P (Exit.jump l J Q) a w) → c.wp P (Exit.jump l J Q) a w) : (Code.scope c).wp P Q a w := by
  refine wp_scope_jumps l J μ hf (first fun a w h => wp_mono (pass a w h) fun e a' w' hq => ?_) fun a w h => wp_seq (wp_skip (pass a w h))
  cases e with
  | goto l' => exact ⟨hq.1, hq.2.1⟩
  | _ => exact hq

/-- a bracket, if its class is ON -/
def bk (c k : Int) : Int × Bool × Bool := if k = 13 then oth c else (0, false, false)
theorem bk_any (c k : Int) (w : World) : Calls Try.prog 21 #[.int .i64 c, .int .i64 k] w fun e w' =>
    e = .returned (.tuple #[.int .i64 (bk c k).1, .bool (bk c k).2.1, .bool (bk c k).2.2]) ∧ Below w.heap.size w w' := by
  have h := bracket_any c k w
  unfold bk
  by_cases hk : k = 13
  · simp only [hk, if_true, decide_true, Bool.true_and] at h ⊢
    exact h
  · simp only [hk, if_false, decide_false, Bool.false_and] at h ⊢
    exact h
theorem othL_opens : ∀ (l : List (Int × Int)) (c : Int), (othL l c).2.1 = true → (othL l c).2.2 = true
  | [], _, h => by cases h
  | (a, b) :: r, c, h => by
    unfold othL at h ⊢
    split
    · rfl
    · split
      · rfl
      · rename_i h1 h2
        rw [if_neg h1, if_neg h2] at h
        exact othL_opens r c h
theorem bk_opens {c k : Int} (h : (bk c k).2.1 = true) : k = 13 ∧ (oth c).2.2 = true ∧ (oth c).2.1 = true ∧ bk c k = oth c := by
  unfold bk at h ⊢
  by_cases hk : k = 13
  · rw [if_pos hk] at h
    exact ⟨hk, othL_opens _ _ h, h, if_pos hk⟩
  · rw [if_neg hk] at h; cases h
theorem bk_ok {c k : Int} (h : (bk c k).2.2 = true) : k = 13 ∧ (oth c).2.2 = true ∧ bk c k = oth c := by
  unfold bk at h ⊢
  by_cases hk : k = 13
  · rw [if_pos hk] at h
    exact ⟨hk, h, if_pos hk⟩
  · rw [if_neg hk] at h; cases h
theorem bk_none {c k : Int} (h : (bk c k).2.2 = false) : (oth c).2.2 = false ∨ k ≠ 13 := by
  unfold bk at h
  by_cases hk : k = 13
  · rw [if_pos hk] at h; exact .inl h
  · exact .inr hk
/-- those that wait at the label -/
def AtP (chars classes : List Int) (k : Nat) (W : List Nat) : Prop := ((rawN chars classes k).ended = false ∧ W = (rawN chars classes k).waits) ∨ ((rawN chars classes k).ended = true ∧ W.length = 64)
theorem rawN_succ (chars classes : List Int) (k : Nat) : rawN chars classes (k + 1) = rawS chars classes (rawN chars classes k) k := rfl
theorem rawS_stay {chars classes : List Int} {st : PS} {k : Nat} (he : st.ended = false) (h : (bk (cAt chars k) (cAt classes k)).2.2 = false) : rawS chars classes st k = st := by
  unfold rawS
  rw [he, if_neg (by simp), if_pos (bk_none h)]
theorem rawS_push {chars classes : List Int} {st : PS} {k : Nat} (he : st.ended = false) (h : (bk (cAt chars k) (cAt classes k)).2.1 = true) : rawS chars classes st k = if st.waits.length = 63 then { st with ended := true } else { st with waits := k :: st.waits } := by
  obtain ⟨h1, h2, h3, _⟩ := bk_opens h
  unfold rawS
  rw [he, if_neg (by simp), if_neg (by rw [h1, h2]; simp), if_pos h3]
theorem rawS_find {chars classes : List Int} {st : PS} {k : Nat} (he : st.ended = false) (h : (bk (cAt chars k) (cAt classes k)).2.2 = true) (h' : (bk (cAt chars k) (cAt classes k)).2.1 = false) :
    rawS chars classes st k = match findW chars (bk (cAt chars k) (cAt classes k)).1 st.waits with
    | none => st
    | some (w, ws) => { st with out := st.out ++ [((w : Int), (k : Int))], waits := ws } := by
  obtain ⟨h1, h2, h3⟩ := bk_ok h
  rw [h3] at h' ⊢
  unfold rawS
  rw [he, if_neg (by simp), if_neg (by rw [h1, h2]; simp), if_neg (by rw [h']; simp)]
  rfl
theorem findW_get (chars : List Int) (o : Int) : ∀ (W : List Nat) (v : Nat) (ws : List Nat), findW chars o W = some (v, ws) → ws.length < W.length ∧ (waitL W)[ws.length]? = some (v : Int) ∧ (waitL W).take ws.length = waitL ws
  | [], v, ws, h => by cases h
  | x :: W, v, ws, h => by
    unfold findW at h
    split at h
    · injection h with h
      injection h with h1 h2
      subst h1 h2
      refine ⟨by simp, ?_, ?_⟩
      · rw [waitL_cons, List.getElem?_append_right (by rw [waitL_length]; exact Nat.le_refl _), waitL_length, Nat.sub_self]; rfl
      · rw [waitL_cons, List.take_append_of_le_length (by rw [waitL_length]; exact Nat.le_refl _), List.take_of_length_le (by rw [waitL_length]; exact Nat.le_refl _)]
    · obtain ⟨h1, h2, h3⟩ := findW_get chars o W v ws h
      refine ⟨by simp; omega, ?_, ?_⟩
      · rw [waitL_cons, List.getElem?_append_left (by rw [waitL_length]; exact h1), h2]
      · rw [waitL_cons, List.take_append_of_le_length (by rw [waitL_length]; omega), h3]
theorem raw_below (chars classes : List Int) (k : Nat) : ∀ x ∈ (rawN chars classes k).waits, x < k := by
  rw [(raw_like chars classes k).1]
  exact fun x hx => ((pinv chars classes k).wait x hx).1
/-- at the end all are told -/
theorem raw_end {chars classes : List Int} (he : chars.length = classes.length) {k : Nat} (hk : k ≤ chars.length) (h : k = chars.length ∨ (rawN chars classes k).ended = true) {L : List (Int × Int)} (hp : L.Perm (rawN chars classes k).out) (hs : L.Pairwise (fun p q => p.1 ≤ q.1)) : L = pairsI chars classes := by
  have e : rawN chars classes chars.length = rawN chars classes k := by
    rcases h with h | h
    · rw [h]
    · have := raw_ended chars classes (chars.length - k) k h
      rwa [show k + (chars.length - k) = chars.length by omega] at this
  rw [pairsI, if_pos he, ← sorted_is chars classes chars.length L (by rw [e]; exact hp) hs]

/-- as RowedPr, and it is new -/
def RowedNew (w : World) (P : List (Int × Int)) (ed : Ending) (w' : World) : Prop := ∃ A c, ed = .returned (.slice A P.length c) ∧ Lies w' w'.heap.size A (prC P) ∧ Below w.heap.size w w' ∧ ∀ p, A = some p → w.heap.size ≤ p.block

set_option maxRecDepth 1000000 in
set_option maxHeartbeats 8000000 in
theorem bpairs_new (A : Option Addr) (chars : List Int) (c : Nat) (A' : Option Addr) (classes : List Int) (c' : Nat) (w : World) (h : Lies w w.heap.size A (ints .i64 chars)) (h' : Lies w w.heap.size A' (ints .i64 classes)) (hl : chars.length ≤ 1000) :
    Calls Try.prog 12 #[.slice A chars.length c, .slice A' classes.length c'] w (RowedNew w (pairsI chars classes)) := by
  have H := Lib.hid h
  have H' := Lib.hid h'
  clear h h'
  by_cases he : chars.length = classes.length
  · have hd : ((chars.length : Int) != (classes.length : Int)) = false := by simp [he]
    have HE := Lib.hid he
    clear he
    go_enter Try.func12, Try.ntmps12
    go_wp2_with fail
    refine wp_scope_enter 0 (fun a' w' => ∃ (k : Nat) (W : List Nat) (ov qv u8 u9 u10 u11 u12 u13 u14 u15 u16 u17 u18 u19 u20 u21 u22 u23 u24 u25 u26 u27 u28 u29 u30 u31 u32 u33 u34 u35 u36 u37 u38 u39 u40 u41 u42 u43 u44 u45 u46 u47 u48 u49 u50 u51 u52 u53 u54 u55 u56 u57 u58 u59 u60 u61 u62 u63 u64 u65 u66 u67 u68 u69 : Value), a' = { tmps := #[.slice A chars.length c, .slice A' classes.length c', undef, undef, .slice none 0 0, ov, qv, .int .i64 (k : Int), u8, u9, u10, u11, u12, u13, u14, u15, u16, u17, u18, u19, u20, u21, u22, u23, u24, u25, u26, u27, u28, u29, u30, u31, u32, u33, u34, u35, u36, u37, u38, u39, u40, u41, u42, u43, u44, u45, u46, u47, u48, u49, u50, u51, u52, u53, u54, u55, u56, u57, u58, u59, u60, u61, u62, u63, u64, u65, u66, u67, u68, u69], defers := [] } ∧ k ≤ chars.length ∧ AtP chars classes k W ∧ Hid (OwnN w' w.heap.size 37 2 ov (rawN chars classes k).out.length (prC (rawN chars classes k).out)) ∧ Hid (Own w' w.heap.size 3 qv (ints .i64 (waitL W))) ∧ Hid (Below w.heap.size w w')) (fun a' _ => chars.length - (intOf (a'.tmps.getD 7 undef)).toNat) rfl ?_ ?_
    · rintro a wr ⟨k, W, ov, qv, u8, u9, u10, u11, u12, u13, u14, u15, u16, u17, u18, u19, u20, u21, u22, u23, u24, u25, u26, u27, u28, u29, u30, u31, u32, u33, u34, u35, u36, u37, u38, u39, u40, u41, u42, u43, u44, u45, u46, u47, u48, u49, u50, u51, u52, u53, u54, u55, u56, u57, u58, u59, u60, u61, u62, u63, u64, u65, u66, u67, u68, u69, rfl, hk, hst, HO, HQ, HB⟩
      obtain ⟨AQ, cq, rfl, hqlies, hqc, _⟩ := HQ.out.form
      obtain ⟨m, hm⟩ : ∃ m, W.length = m := ⟨_, rfl⟩
      have HM := Lib.hid hm
      have LQ := Lib.hid hqlies
      have UQ : Hid (Own wr w.heap.size 3 (.slice AQ m cq) (ints .i64 (waitL W))) := Lib.hid (by have := HQ.out; simp only [ints, List.length_map, waitL_length, hm] at this; exact this)
      simp only [ints, List.length_map, waitL_length, hm] at hqc ⊢
      have HST := Lib.hid hst
      have hm64 : m ≤ 64 := by
        rcases hst with ⟨_, h2⟩ | ⟨_, h2⟩
        · have := raw_waits chars classes k; rw [h2] at hm; omega
        · omega
      clear hm hqlies hst HQ
      by_cases hlt : k < chars.length
      · have d1 : decide ((k : Int) < (chars.length : Int)) = true := by simpa using hlt
        by_cases hm63 : m ≤ 63
        · have d2 : decide ((m : Int) ≤ 63) = true := by simp; omega
          obtain ⟨hen, hW⟩ : (rawN chars classes k).ended = false ∧ W = (rawN chars classes k).waits := by
            rcases HST.out with h | ⟨_, h⟩
            · exact h
            · have := HM.out; omega
          obtain ⟨st, hst⟩ : ∃ st, rawN chars classes k = st := ⟨_, rfl⟩
          have hWk := raw_below chars classes k
          have hle := raw_le chars classes k
          have HNX : Hid (rawN chars classes (k + 1) = rawS chars classes st k) := Lib.hid (by rw [rawN_succ, hst])
          rw [hst] at hen hW HO hWk hle
          subst hW
          have HEN := Lib.hid hen
          have HWK := Lib.hid hWk
          have hon : st.out.length ≤ 1000 := by have := hle.1; omega
          obtain ⟨p, hp, _, hc⟩ := (H.out.below HB.out).int hlt
          have hlt' : k < classes.length := by have := HE.out; omega
          obtain ⟨p', hp', _, hcl⟩ := (H'.out.below HB.out).int hlt'
          subst hp hp'
          obtain ⟨x, hx⟩ : ∃ x, chars[k] = x := ⟨_, rfl⟩
          obtain ⟨y, hy⟩ : ∃ x, classes[k] = x := ⟨_, rfl⟩
          rw [hx] at hc
          rw [hy] at hcl
          have HX : Hid (cAt chars k = x) := Lib.hid (by simp [cAt, hlt, hx])
          have HY : Hid (cAt classes k = y) := Lib.hid (by simp [cAt, hlt', hy])
          have k0 : (0 : Int) ≤ (k : Int) := by omega
          have k1 : (k : Int) < (chars.length : Int) := by omega
          have k2 : (k : Int) < (classes.length : Int) := by omega
          obtain ⟨AO, co, rfl, hol, hoc, _⟩ := HO.out.form
          obtain ⟨⟨o, op, ok⟩, hbk⟩ : ∃ z, bk x y = z := ⟨_, rfl⟩
          have HBK := Lib.hid hbk
          have hcc : wr.cell? (p.add k) = some (.int .i64 x) ∧ wr.cell? (p'.add k) = some (.int .i64 y) := ⟨hc, hcl⟩
          clear hx hy hen hWk hle hst hol hbk hc hcl HST
          go_wp2_with fail
          refine wp_region_held_drew (S := fun w' => w'.cell? (p.add k) = some (.int .i64 x) ∧ w'.cell? (p'.add k) = some (.int .i64 y)) (by kernel_rfl) (hcc) (fun hHeld => ?_)
          refine' wpAnyH_take (i := 0) (v := _) rfl (by kernel_rfl) (by kernel_rfl) (by kernel_rfl) (fun _ _ _ h => h) (Or.inl ⟨by rfl, fun u hu => ?_⟩) (by assumption) ?_
          rotate_left
          · (try dsimp only at hu)
            go_simp
            try with_reducible rfl
          try simp only [Act.put, List.getElem_toArray, List.getElem_cons_zero, List.setIfInBounds_toArray, List.set_cons_zero, List.set_cons_succ]
          refine' wpAnyH_take (i := 1) (v := _) rfl (by kernel_rfl) (by kernel_rfl) (by kernel_rfl) (fun _ _ _ h => h) (Or.inl ⟨by rfl, fun u hu => ?_⟩) (by assumption) ?_
          rotate_left
          · (try dsimp only at hu)
            go_simp
            try with_reducible rfl
          try simp only [Act.put, List.getElem_toArray, List.getElem_cons_zero, List.getElem_cons_succ, List.setIfInBounds_toArray, List.set_cons_zero, List.set_cons_succ]
          refine' wpAnyH_take (i := 2) (v := _) rfl (by kernel_rfl) (by kernel_rfl) (by kernel_rfl) (fun _ _ _ h => h) (Or.inl ⟨by rfl, fun u hu => ?_⟩) (by assumption) ?_
          rotate_left
          · (try dsimp only at hu)
            go_simp
            try with_reducible rfl
          try simp only [Act.put, List.getElem_toArray, List.getElem_cons_zero, List.getElem_cons_succ, List.setIfInBounds_toArray, List.set_cons_zero, List.set_cons_succ]
          refine' wpAnyH_take (i := 3) (v := _) rfl (by kernel_rfl) (by kernel_rfl) (by kernel_rfl) (fun _ _ _ h => h) (Or.inl ⟨by rfl, fun u hu => ?_⟩) (by assumption) ?_
          rotate_left
          · (try dsimp only at hu)
            go_simp
            try with_reducible rfl
          try simp only [Act.put, List.getElem_toArray, List.getElem_cons_zero, List.getElem_cons_succ, List.setIfInBounds_toArray, List.set_cons_zero, List.set_cons_succ]
          refine' wpAnyH_take (i := 4) (v := _) rfl (by kernel_rfl) (by kernel_rfl) (by kernel_rfl) (fun _ _ _ h => h) (Or.inl ⟨by rfl, fun u hu => ?_⟩) (by assumption) ?_
          rotate_left
          · (try dsimp only at hu)
            go_simp
            try with_reducible rfl
          try simp only [Act.put, List.getElem_toArray, List.getElem_cons_zero, List.getElem_cons_succ, List.setIfInBounds_toArray, List.set_cons_zero, List.set_cons_succ]
          refine' wpAnyH_take (i := 5) (v := _) rfl (by kernel_rfl) (by kernel_rfl) (by kernel_rfl) (fun _ _ _ h => h) (Or.inl ⟨by rfl, fun u hu => ?_⟩) (by assumption) ?_
          rotate_left
          · (try dsimp only at hu)
            go_simp
            try with_reducible rfl
          try simp only [Act.put, List.getElem_toArray, List.getElem_cons_zero, List.getElem_cons_succ, List.setIfInBounds_toArray, List.set_cons_zero, List.set_cons_succ]
          refine' wpAnyH_take (i := 6) (v := _) rfl (by kernel_rfl) (by kernel_rfl) (by kernel_rfl) (fun _ _ _ h => h) (Or.inl ⟨by rfl, fun u hu => ?_⟩) (by assumption) ?_
          rotate_left
          · (try dsimp only at hu)
            go_simp
            try with_reducible rfl
          try simp only [Act.put, List.getElem_toArray, List.getElem_cons_zero, List.getElem_cons_succ, List.setIfInBounds_toArray, List.set_cons_zero, List.set_cons_succ]
          refine' wpAnyH_take (i := 7) (v := _) rfl (by kernel_rfl) (by kernel_rfl) (by kernel_rfl) (fun _ _ _ h => h) (Or.inl ⟨by rfl, fun u hu => ?_⟩) (by assumption) ?_
          rotate_left
          · (try dsimp only at hu)
            go_simp
            try with_reducible rfl
          try simp only [Act.put, List.getElem_toArray, List.getElem_cons_zero, List.getElem_cons_succ, List.setIfInBounds_toArray, List.set_cons_zero, List.set_cons_succ]
          refine wpAnyH_ready (rs := [8]) (by kernel_rfl) (by simp) ?_
          refine AllReadyH.cons rfl (fun K hK => ?_) AllReadyH.nil
          simp only [List.getElem_toArray, List.getElem_cons_zero, List.getElem_cons_succ]
          go_simp
          refine (bk_any x y _).mono ?_
          rintro e w1 ⟨rfl, b_⟩
          rw [HBK.out]
          have B1 : Hid (Below wr.heap.size wr w1) := Lib.hid (undrew (by exact b_))
          clear b_
          have BW1 := Lib.hid (HB.out.trans (B1.out.mono HB.out.size))
          have UQ1 := Lib.hid (UQ.out.below B1.out (Nat.le_refl _))
          have HO1 := Lib.hid (HO.out.below B1.out (Nat.le_refl _))
          have hcc1 := And.intro ((B1.out.cell (World.block_lt_of_cell? wr _ hcc.1)).trans hcc.1) ((B1.out.cell (World.block_lt_of_cell? wr _ hcc.2)).trans hcc.2)
          go_wp2_with fail
          refine hK.out _ _ (by exact hcc1) (fun hHeld => ?_)
          clear hK K
          try simp only [Act.put, List.getElem_toArray, List.getElem_cons_zero, List.getElem_cons_succ, List.setIfInBounds_toArray, List.set_cons_zero, List.set_cons_succ]
          refine' wpAnyH_take (i := 9) (v := _) rfl (by kernel_rfl) (by kernel_rfl) (by kernel_rfl) (fun _ _ _ h => h) (Or.inl ⟨by rfl, fun u hu => ?_⟩) (by assumption) ?_
          rotate_left
          · (try dsimp only at hu)
            go_simp
            try with_reducible rfl
          try simp only [Act.put, List.getElem_toArray, List.getElem_cons_zero, List.getElem_cons_succ, List.setIfInBounds_toArray, List.set_cons_zero, List.set_cons_succ]
          refine' wpAnyH_take (i := 10) (v := _) rfl (by kernel_rfl) (by kernel_rfl) (by kernel_rfl) (fun _ _ _ h => h) (Or.inl ⟨by rfl, fun u hu => ?_⟩) (by assumption) ?_
          rotate_left
          · (try dsimp only at hu)
            go_simp
            try with_reducible rfl
          try simp only [Act.put, List.getElem_toArray, List.getElem_cons_zero, List.getElem_cons_succ, List.setIfInBounds_toArray, List.set_cons_zero, List.set_cons_succ]
          refine' wpAnyH_take (i := 11) (v := _) rfl (by kernel_rfl) (by kernel_rfl) (by kernel_rfl) (fun _ _ _ h => h) (Or.inl ⟨by rfl, fun u hu => ?_⟩) (by assumption) ?_
          rotate_left
          · (try dsimp only at hu)
            go_simp
            try with_reducible rfl
          try simp only [Act.put, List.getElem_toArray, List.getElem_cons_zero, List.getElem_cons_succ, List.setIfInBounds_toArray, List.set_cons_zero, List.set_cons_succ]
          refine' wpAnyH_take (i := 12) (v := _) rfl (by kernel_rfl) (by kernel_rfl) (by kernel_rfl) (fun _ _ _ h => h) (Or.inl ⟨by rfl, fun u hu => ?_⟩) (by assumption) ?_
          rotate_left
          · (try dsimp only at hu)
            go_simp
            try with_reducible rfl
          try simp only [Act.put, List.getElem_toArray, List.getElem_cons_zero, List.getElem_cons_succ, List.setIfInBounds_toArray, List.set_cons_zero, List.set_cons_succ]
          refine' wpAnyH_take (i := 13) (v := _) rfl (by kernel_rfl) (by kernel_rfl) (by kernel_rfl) (fun _ _ _ h => h) (Or.inl ⟨by rfl, fun u hu => ?_⟩) (by assumption) ?_
          rotate_left
          · (try dsimp only at hu)
            go_simp
            try with_reducible rfl
          try simp only [Act.put, List.getElem_toArray, List.getElem_cons_zero, List.getElem_cons_succ, List.setIfInBounds_toArray, List.set_cons_zero, List.set_cons_succ]
          refine' wpAnyH_take (i := 14) (v := _) rfl (by kernel_rfl) (by kernel_rfl) (by kernel_rfl) (fun _ _ _ h => h) (Or.inl ⟨by rfl, fun u hu => ?_⟩) (by assumption) ?_
          rotate_left
          · (try dsimp only at hu)
            go_simp
            try with_reducible rfl
          try simp only [Act.put, List.getElem_toArray, List.getElem_cons_zero, List.getElem_cons_succ, List.setIfInBounds_toArray, List.set_cons_zero, List.set_cons_succ]
          refine' wpAnyH_take (i := 15) (v := _) rfl (by kernel_rfl) (by kernel_rfl) (by kernel_rfl) (fun _ _ _ h => h) (Or.inl ⟨by rfl, fun u hu => ?_⟩) (by assumption) ?_
          rotate_left
          · (try dsimp only at hu)
            go_simp
            try with_reducible rfl
          try simp only [Act.put, List.getElem_toArray, List.getElem_cons_zero, List.getElem_cons_succ, List.setIfInBounds_toArray, List.set_cons_zero, List.set_cons_succ]
          refine wpAnyH_done (by kernel_rfl) ?_ _
          clear hcc hcc1
          rcases op with _ | _
          · rcases ok with _ | _
            · have HS : Hid (rawN chars classes (k + 1) = st) := Lib.hid (by rw [HNX.out]; exact rawS_stay HEN.out (by rw [HX.out, HY.out, HBK.out]))
              go_wp2_with fail
              go_step3
              refine ⟨rfl, ⟨k + 1, st.waits, _, _, _, _, _, _, _, _, _, _, _, _, _, _, _, _, _, _, _, _, _, _, _, _, _, _, _, _, _, _, _, _, _, _, _, _, _, _, _, _, _, _, _, _, _, _, _, _, _, _, _, _, _, _, _, _, _, _, _, _, _, _, _, _, by go_num, by omega, .inl ⟨by rw [HS.out]; exact HEN.out, by rw [HS.out]⟩, by rw [HS.out]; exact HO1, UQ1, BW1⟩, ?_⟩
              simp [intOf]; omega
            · have hWl : st.waits.length ≤ 1000 := by rw [HM.out]; omega
              have hWc : ∀ x ∈ st.waits, x < chars.length := fun x hx => by have := HWK.out x hx; omega
              have hcon := lastSame_any (some p) chars c AQ st.waits cq o w1 ((H.out.up BW1.out)) (by have := (LQ.out.below B1.out); exact this.wider B1.out.size) hWc hWl (by omega)
              rw [HM.out] at hcon
              have HF := Lib.hid (rawS_find (st := st) (k := k) HEN.out (chars := chars) (classes := classes) (by rw [HX.out, HY.out, HBK.out]) (by rw [HX.out, HY.out, HBK.out]))
              rw [HX.out, HY.out, HBK.out] at HF
              clear hWl hWc
              rcases hfw : findW chars o st.waits with _ | ⟨v, ws⟩
              · have HS : Hid (rawN chars classes (k + 1) = st) := Lib.hid (by rw [HNX.out, HF.out]; simp only [hfw])
                have HLN : Hid (lastN chars o st.waits = -1) := Lib.hid (by rw [lastN, hfw])
                clear hfw
                go_wp2_with fail
                refine hcon.mono ?_
                rintro e w2 ⟨rfl, b2⟩
                rw [HLN.out]
                have UQ2 := Lib.hid (UQ1.out.below b2 (Nat.le_refl _))
                have HO2 := Lib.hid (HO1.out.below b2 (Nat.le_refl _))
                have BW2 := Lib.hid (BW1.out.trans (b2.mono BW1.out.size))
                clear b2 hcon
                go_wp2_with fail
                go_step3
                refine ⟨rfl, ⟨k + 1, st.waits, _, _, _, _, _, _, _, _, _, _, _, _, _, _, _, _, _, _, _, _, _, _, _, _, _, _, _, _, _, _, _, _, _, _, _, _, _, _, _, _, _, _, _, _, _, _, _, _, _, _, _, _, _, _, _, _, _, _, _, _, _, _, _, _, by go_num, by omega, .inl ⟨by rw [HS.out]; exact HEN.out, by rw [HS.out]⟩, by rw [HS.out]; exact HO2, UQ2, BW2⟩, ?_⟩
                simp [intOf]; omega
              · have HS : Hid (rawN chars classes (k + 1) = { st with out := st.out ++ [((v : Int), (k : Int))], waits := ws }) := Lib.hid (by rw [HNX.out, HF.out]; simp only [hfw])
                obtain ⟨j, hj⟩ : ∃ j, ws.length = j := ⟨_, rfl⟩
                have HLN : Hid (lastN chars o st.waits = (j : Int)) := Lib.hid (by rw [lastN, hfw]; exact congrArg _ hj)
                obtain ⟨g1, g2, g3⟩ := findW_get chars o st.waits v ws hfw
                rw [hj] at g1 g2 g3
                have hjm : j < m := by rw [← HM.out]; exact g1
                have hjw : j < (waitL st.waits).length := by rw [waitL_length]; exact g1
                have G2 : Hid ((waitL st.waits)[j] = (v : Int)) := Lib.hid (by rw [List.getElem?_eq_getElem hjw] at g2; injection g2)
                have G3 := Lib.hid g3
                have j0 : (0 : Int) ≤ (j : Int) := by omega
                have j1 : (j : Int) < (m : Int) := by omega
                have j2 : decide ((0 : Int) ≤ (j : Int)) = true := by simp
                clear hfw g1 g2 g3
                go_wp2_with fail
                refine hcon.mono ?_
                rintro e w2 ⟨rfl, b2⟩
                rw [HLN.out]
                have UQ2 := Lib.hid (UQ1.out.below b2 (Nat.le_refl _))
                have HO2 := Lib.hid (HO1.out.below b2 (Nat.le_refl _))
                have BW2 := Lib.hid (BW1.out.trans (b2.mono BW1.out.size))
                obtain ⟨pq, hpq, _, hcq⟩ := ((LQ.out.below B1.out).below (b2.mono B1.out.size)).int hjw
                subst hpq
                rw [G2.out] at hcq
                clear b2 hcon
                go_wp2_with (first
                  | (at_builtin; refine appN_at prT w (w2.alloc (.cells #[.int .i64 (v : Int), .int .i64 (k : Int)] 37)) w.heap.size _ _ _ (.slice AO st.out.length co) st.out.length 1 (prC st.out) [.int .i64 (v : Int), .int .i64 (k : Int)] _ _ rfl rfl rfl rfl (HO2.out.alloc _) (Lies.lit (w := w2) (e := 37) #[.int .i64 (v : Int), .int .i64 (k : Int)]) rfl (by simp [Value.oneCell']) (BW2.out.alloc BW2.out.size _) (BW2.out.alloc BW2.out.size _).size (by unfold maxLen; omega) (by omega) ?_; intro v3 w3 o3 b3 g3 _; have O3 := Lib.hid o3; have B3 := Lib.hid b3; have UQ3 := Lib.hid ((UQ2.out.alloc (.cells #[.int .i64 (v : Int), .int .i64 (k : Int)] 37)).keep g3 (OwnN.unlike (show OwnN _ w.heap.size 3 1 (.slice (some pq) m cq) _ _ from UQ2.out) HO2.out (by decide))); clear o3 b3 g3)
                  | (refine short_own intsT w3 w.heap.size _ _ .i64 (j : Int) (.slice (some pq) m cq) (ints .i64 (waitL st.waits)) rfl rfl rfl rfl j0 UQ3.out (by simp [waitL_length, HM.out]; omega) ?_; intro v5 o5 _; have O5 := Lib.hid o5; clear o5)
                  | fail)
                go_step3
                refine ⟨rfl, ⟨k + 1, ws, _, _, _, _, _, _, _, _, _, _, _, _, _, _, _, _, _, _, _, _, _, _, _, _, _, _, _, _, _, _, _, _, _, _, _, _, _, _, _, _, _, _, _, _, _, _, _, _, _, _, _, _, _, _, _, _, _, _, _, _, _, _, _, _, by go_num, by omega, .inl ⟨by rw [HS.out]; exact HEN.out, by rw [HS.out]⟩, by rw [HS.out]; exact Lib.hid (by have := O3.out; simpa [prC] using this), Lib.hid (by have := O5.out; rw [Int.toNat_natCast, ← List.map_take, G3.out] at this; exact this), B3⟩, ?_⟩
                simp [intOf]; omega
          · have HPU := Lib.hid (rawS_push (st := st) (k := k) HEN.out (chars := chars) (classes := classes) (by rw [HX.out, HY.out, HBK.out]))
            go_wp2_with (first
              | (at_builtin; refine app_lit intsT w w1 w.heap.size _ _ #[.int .i64 (k : Int)] 1 (.slice AQ m cq) (ints .i64 (waitL st.waits)) rfl rfl rfl rfl UQ1.out (by simp [Value.oneCell']) BW1.out BW1.out.size (by unfold maxLen; simp [waitL_length, HM.out]; omega) (by simp [waitL_length, HM.out]; omega) ?_; intro v2 w2 o2 b2 g2 _; have O2 := Lib.hid (show Own w2 w.heap.size 3 v2 (ints .i64 (waitL (k :: st.waits))) by rw [waitL_cons]; simpa [ints] using o2); have B2 := Lib.hid b2; have HO2 := Lib.hid (HO1.out.keep g2 (OwnN.unlike HO1.out (show OwnN w1 w.heap.size 3 1 (.slice AQ m cq) _ _ from UQ1.out) (by decide))); clear o2 b2 g2)
              | fail)
            go_step3
            refine ⟨rfl, ⟨k + 1, k :: st.waits, _, _, _, _, _, _, _, _, _, _, _, _, _, _, _, _, _, _, _, _, _, _, _, _, _, _, _, _, _, _, _, _, _, _, _, _, _, _, _, _, _, _, _, _, _, _, _, _, _, _, _, _, _, _, _, _, _, _, _, _, _, _, _, _, by go_num, by omega, ?_, Lib.hid ?_, O2, B2⟩, ?_⟩
            · by_cases h63 : st.waits.length = 63
              · exact .inr ⟨by rw [HNX.out, HPU.out, if_pos h63], by rw [List.length_cons, h63]⟩
              · exact .inl ⟨by rw [HNX.out, HPU.out, if_neg h63]; exact HEN.out, by rw [HNX.out, HPU.out, if_neg h63]⟩
            · have e : (rawN chars classes (k + 1)).out = st.out := by rw [HNX.out, HPU.out]; split <;> rfl
              rw [e]; exact HO2.out
            · simp [intOf]; omega
        · have d2 : decide ((m : Int) ≤ 63) = false := by simp; omega
          have HEND : Hid (k = chars.length ∨ (rawN chars classes k).ended = true) := Lib.hid (by
            rcases HST.out with ⟨_, h⟩ | ⟨h, _⟩
            · have := raw_waits chars classes k; have := HM.out; rw [h] at this; omega
            · exact .inr h)
          have HSO := Lib.hid (sortPr_any w.heap.size ov (rawN chars classes k).out wr HO.out (by have := raw_le chars classes k; omega) HB.out.size)
          have HIN := Lib.hid HO.out.inside
          obtain ⟨AO, co, rfl, hol, hoc, _⟩ := HO.out.form
          clear hol HST
          go_wp2_with fail
          refine HSO.out.mono ?_
          rintro e w2 ⟨rfl, L, hp, hs, ⟨A2, c2, hv, hL⟩, b2⟩
          have HLE := Lib.hid (raw_end HE.out hk HEND.out hp hs)
          have hlen := hp.length_eq
          injection hv with hvA hvn hvc
          subst hvA hvc
          have HLL := Lib.hid hL
          have BW2 := Lib.hid (HB.out.trans b2)
          have HLN := Lib.hid hlen
          clear b2 hL hp hs hlen hvn
          go_wp2_with fail
          go_ret
          refine ⟨AO, co, ?_, by rw [← HLE.out]; exact HLL.out, BW2.out, fun p hp => (HIN.out p.block (by rw [hp]; rfl)).1⟩
          rw [← HLE.out, HLN.out]
          rfl
      · have d1 : decide ((k : Int) < (chars.length : Int)) = false := by simp; omega
        have HEND : Hid (k = chars.length ∨ (rawN chars classes k).ended = true) := Lib.hid (.inl (by omega))
        have HSO := Lib.hid (sortPr_any w.heap.size ov (rawN chars classes k).out wr HO.out (by have := raw_le chars classes k; omega) HB.out.size)
        have HIN := Lib.hid HO.out.inside
        obtain ⟨AO, co, rfl, hol, hoc, _⟩ := HO.out.form
        clear hol HST
        go_wp2_with fail
        refine HSO.out.mono ?_
        rintro e w2 ⟨rfl, L, hp, hs, ⟨A2, c2, hv, hL⟩, b2⟩
        have HLE := Lib.hid (raw_end HE.out hk HEND.out hp hs)
        have hlen := hp.length_eq
        injection hv with hvA hvn hvc
        subst hvA hvc
        have HLL := Lib.hid hL
        have BW2 := Lib.hid (HB.out.trans b2)
        have HLN := Lib.hid hlen
        clear b2 hL hp hs hlen hvn
        go_wp2_with fail
        go_ret
        refine ⟨AO, co, ?_, by rw [← HLE.out]; exact HLL.out, BW2.out, fun p hp => (HIN.out p.block (by rw [hp]; rfl)).1⟩
        rw [← HLE.out, HLN.out]
        rfl
    · intro hpass
      go_wp2
      go_step3
      go_simp
      rename_i K hK
      refine hK _ _ ?_
      exact hpass _ _ ⟨0, [], _, _, _, _, _, _, _, _, _, _, _, _, _, _, _, _, _, _, _, _, _, _, _, _, _, _, _, _, _, _, _, _, _, _, _, _, _, _, _, _, _, _, _, _, _, _, _, _, _, _, _, _, _, _, _, _, _, _, _, _, _, _, _, _, rfl, by omega, .inl ⟨rfl, rfl⟩, Lib.hid (OwnN.empty _ _ _ _), Lib.hid (Own.empty _ _ _), Lib.hid (Below.refl _ _)⟩
  · have hP : pairsI chars classes = [] := by rw [pairsI, if_neg he]
    have hne : ((chars.length : Int) != (classes.length : Int)) = true := by simp; omega
    rw [hP]
    clear hP he
    go_enter Try.func12, Try.ntmps12
    go_wp2_with fail
    go_step3
    go_wp2_with fail
    rw [Exit.noGoto_ret]
    go_ret
    exact ⟨none, 0, rfl, Lies.empty, Below.refl _ _, fun p hp => by cases hp⟩
theorem bpairs_any (A : Option Addr) (chars : List Int) (c : Nat) (A' : Option Addr) (classes : List Int) (c' : Nat) (w : World) (h : Lies w w.heap.size A (ints .i64 chars)) (h' : Lies w w.heap.size A' (ints .i64 classes)) (hl : chars.length ≤ 1000) (_ : classes.length ≤ 1000) :
    Calls Try.prog 12 #[.slice A chars.length c, .slice A' classes.length c'] w (RowedPr w (pairsI chars classes)) :=
  (bpairs_new A chars c A' classes c' w h h' hl).mono fun _ _ ⟨A1, c1, e, h1, b, _⟩ => ⟨A1, c1, e, h1, b⟩
end Go.Proofs.Ytoiolgpbecgfkaa
