/- Layer 15: read, caught, Of (printed by tools/gen/gen_tkh.py). -/
import Derived.ScopeJumps
import Derived.WalkMore
import Derived.Test.YtpllklikjnndcaaTkG
namespace Go.Proofs.Ytpllklikjnndcaa
open Go.RowKit

/-- as Q; by a goto to one of two labels: J0, J1 -/
def Exit.jump2 (l0 l1 : Nat) (J0 J1 : Act → World → Prop) (Q : Exit → Act → World → Prop) : Exit → Act → World → Prop
  | .goto l, a, w => (l = l0 ∧ J0 a w) ∨ (l = l1 ∧ J1 a w)
  | e, a, w => Q e a w
section
variable {P : Program} {a : Act} {w : World} {Q : Exit → Act → World → Prop}
/-- a scope in which the run jumps to two labels -/
theorem wp_scope_two {c r0 r1 : Code} (l0 l1 : Nat) (J0 J1 : Act → World → Prop) (μ : Act → World → Nat) (hf0 : findLabel c l0 = some r0) (hf1 : findLabel c l1 = some r1)
    (pass0 : ∀ a w, J0 a w → r0.wp P (Exit.jump2 l0 l1 (fun a' w' => J0 a' w' ∧ μ a' w' < μ a w) (fun a' w' => J1 a' w' ∧ μ a' w' < μ a w) Q) a w)
    (pass1 : ∀ a w, J1 a w → r1.wp P (Exit.jump2 l0 l1 (fun a' w' => J0 a' w' ∧ μ a' w' < μ a w) (fun a' w' => J1 a' w' ∧ μ a' w' < μ a w) Q) a w)
    (first : c.wp P (Exit.jump2 l0 l1 J0 J1 Q) a w) : (Code.scope c).wp P Q a w := by
  intro b k cs
  have hg0 : gotoIn l0 (.inScope c :: k) = some (.code r0 :: .inScope c :: k) := by simp [gotoIn, hf0]
  have hg1 : gotoIn l1 (.inScope c :: k) = some (.code r1 :: .inScope c :: k) := by simp [gotoIn, hf1]
  have key : ∀ n a w, μ a w = n →
      (J0 a w → ∃ e a' w', Q e a' w' ∧ Arrives P (lone (b.at a (.code r0 :: .inScope c :: k)) cs w) b k cs e a' w') ∧
      (J1 a w → ∃ e a' w', Q e a' w' ∧ Arrives P (lone (b.at a (.code r1 :: .inScope c :: k)) cs w) b k cs e a' w') := by
    intro n
    induction n using Nat.strongRecOn with
    | _ n ih =>
      intro a w hn
      have one : ∀ r : Code, r.wp P (Exit.jump2 l0 l1 (fun a' w' => J0 a' w' ∧ μ a' w' < μ a w) (fun a' w' => J1 a' w' ∧ μ a' w' < μ a w) Q) a w → ∃ e a' w', Q e a' w' ∧ Arrives P (lone (b.at a (.code r :: .inScope c :: k)) cs w) b k cs e a' w' := by
        intro r hr
        obtain ⟨e, a₁, w₁, hq, harr⟩ := hr b (.inScope c :: k) cs
        cases e with
        | normal => exact ⟨.normal, a₁, w₁, hq, Steps.trans harr (.one step_inScope)⟩
        | exit id => exact ⟨.exit id, a₁, w₁, hq, fun k' hk => harr k' (by simp [exitTo, hk])⟩
        | goto l' =>
          rcases hq with ⟨rfl, hJ', hlt⟩ | ⟨rfl, hJ', hlt⟩
          · obtain ⟨e₂, a₂, w₂, hq₂, harr₂⟩ := (ih _ (by omega) a₁ w₁ rfl).1 hJ'
            exact ⟨e₂, a₂, w₂, hq₂, .of_steps (harr _ hg0) harr₂⟩
          · obtain ⟨e₂, a₂, w₂, hq₂, harr₂⟩ := (ih _ (by omega) a₁ w₁ rfl).2 hJ'
            exact ⟨e₂, a₂, w₂, hq₂, .of_steps (harr _ hg1) harr₂⟩
        | ret => exact ⟨_, a₁, w₁, hq, harr⟩
        | panic ch => exact ⟨_, a₁, w₁, hq, harr⟩
        | outgrown => exact ⟨_, a₁, w₁, hq, harr⟩
      exact ⟨fun hJ => one r0 (pass0 a w hJ), fun hJ => one r1 (pass1 a w hJ)⟩
  obtain ⟨e, a₁, w₁, hq, harr⟩ := first b (.inScope c :: k) cs
  cases e with
  | normal => exact ⟨.normal, a₁, w₁, hq, .head step_scope (Steps.trans harr (.one step_inScope))⟩
  | exit id => exact ⟨.exit id, a₁, w₁, hq, fun k' hk => .head step_scope (harr k' (by simp [exitTo, hk]))⟩
  | goto l' =>
    rcases hq with ⟨rfl, hJ'⟩ | ⟨rfl, hJ'⟩
    · obtain ⟨e₂, a₂, w₂, hq₂, harr₂⟩ := (key _ a₁ w₁ rfl).1 hJ'
      exact ⟨e₂, a₂, w₂, hq₂, .of_steps (.head step_scope (harr _ hg0)) harr₂⟩
    · obtain ⟨e₂, a₂, w₂, hq₂, harr₂⟩ := (key _ a₁ w₁ rfl).2 hJ'
      exact ⟨e₂, a₂, w₂, hq₂, .of_steps (.head step_scope (harr _ hg1)) harr₂⟩
  | ret => exact ⟨_, a₁, w₁, hq, .of_steps (.one step_scope) harr⟩
  | panic ch => exact ⟨_, a₁, w₁, hq, .of_steps (.one step_scope) harr⟩
  | outgrown => exact ⟨_, a₁, w₁, hq, .of_steps (.one step_scope) harr⟩
/-- .. entered at the first of them -/
theorem wp_scope_enter2 {c r0 r1 : Code} (l0 l1 : Nat) (J0 J1 : Act → World → Prop) (μ : Act → World → Nat) (hf0 : findLabel c l0 = some (Code.skip.seq r0)) (hf1 : findLabel c l1 = some (Code.skip.seq r1))
    (pass0 : ∀ a w, J0 a w → r0.wp P (Exit.jump2 l0 l1 (fun a' w' => J0 a' w' ∧ μ a' w' < μ a w) (fun a' w' => J1 a' w' ∧ μ a' w' < μ a w) Q) a w)
    (pass1 : ∀ a w, J1 a w → r1.wp P (Exit.jump2 l0 l1 (fun a' w' => J0 a' w' ∧ μ a' w' < μ a w) (fun a' w' => J1 a' w' ∧ μ a' w' < μ a w) Q) a w)
    (first : (∀ a w, J0 a w → r0.wp P (Exit.jump2 l0 l1 J0 J1 Q) a w) → c.wp P (Exit.jump2 l0 l1 J0 J1 Q) a w) : (Code.scope c).wp P Q a w := by
  refine wp_scope_two l0 l1 J0 J1 μ hf0 hf1 (fun a w h => wp_seq (wp_skip (pass0 a w h))) (fun a w h => wp_seq (wp_skip (pass1 a w h))) (first fun a w h => wp_mono (pass0 a w h) fun e a' w' hq => ?_)
  cases e with
  | goto l' =>
    rcases hq with ⟨h1, h2, _⟩ | ⟨h1, h2, _⟩
    · exact .inl ⟨h1, h2⟩
    · exact .inr ⟨h1, h2⟩
  | _ => exact hq
end

/-- all tokens, in memory of the call's own, or what is wrong -/
def ReadTo (w : World) (r : Wr (List Tok)) (ed : Ending) (w' : World) : Prop := match r with
  | .ok T => (∃ tv, ed = .returned tv ∧ OwnN w' w.heap.size 30 5 tv T.length (tokCells T)) ∧ Below w.heap.size w w'
  | .error (n, x) => ed = .panicked [{ v := .iface 38 (.agg #[.int .i64 n, .int .i64 x]), recovered := false }] ∧ Below w.heap.size w w'
theorem readT_end (l : List Int) (n : Nat) (T : List Tok) : readT l (n + 1) false l.length T = .ok T := by simp [readT]
theorem readT_out {l : List Int} {n k : Nat} {T : List Tok} (hk : k ≠ l.length) : readT l (n + 1) false k T = (match outT l (lastR T) k with
    | .error e => .error e
    | .ok (t, k') => readT l n (t.k == 7) k' (T ++ [t])) := by
  rw [readT, if_neg (fun h => hk h.2), if_neg (by simp)]; rfl
theorem readT_in {l : List Int} {n k : Nat} {T : List Tok} : readT l (n + 1) true k T = (match inT l k with
    | .error e => .error e
    | .ok (t, k') => readT l n (t.k != 8) k' (T ++ [t])) := by
  rw [readT, if_neg (fun h => by cases h.1), if_pos rfl]; rfl

set_option maxRecDepth 20000 in
set_option maxHeartbeats 4000000 in
theorem tkread_any (w : World) (c : Nat) (A : Option Addr) (l : List Int) (h : Lies w w.heap.size A (ints .i64 l)) (hl : l.length ≤ 1000) (hc : l.length ≤ c) :
    Calls Try.prog 16 #[.slice A l.length c] w (ReadTo w (readT l (l.length + 1) false 0 [])) := by
  obtain ⟨R, hR⟩ : ∃ R, readT l (l.length + 1) false 0 [] = R := ⟨_, rfl⟩
  rw [hR]
  have HR0 := Lib.hid hR
  have H := Lib.hid h
  clear h hR
  go_enter Try.func16, Try.ntmps16
  go_wp2_with fail
  refine wp_scope_enter2 0 1 (fun a' w' => ∃ (k n : Nat) (T : List Tok) (tv u4 u5 u6 u7 u8 u9 u10 u11 u12 u13 u14 u15 u16 : Value), a' = { tmps := #[.slice A l.length c, undef, .slice none 0 0, .pointer (some ⟨w.heap.size, 0, none⟩), u4, u5, u6, u7, u8, u9, u10, u11, u12, u13, u14, u15, u16], defers := [] } ∧ Hid (IsR w' w.heap.size A l c k tv T) ∧ Hid (Below w.heap.size w w') ∧ Hid (T.length ≤ k ∧ l.length - k < n ∧ readT l n false k T = R)) (fun a' w' => ∃ (k n : Nat) (T : List Tok) (tv u4 u5 u6 u7 u8 u9 u10 u11 u12 u13 u14 u15 u16 : Value), a' = { tmps := #[.slice A l.length c, undef, .slice none 0 0, .pointer (some ⟨w.heap.size, 0, none⟩), u4, u5, u6, u7, u8, u9, u10, u11, u12, u13, u14, u15, u16], defers := [] } ∧ Hid (IsR w' w.heap.size A l c k tv T) ∧ Hid (Below w.heap.size w w') ∧ Hid (T.length ≤ k ∧ l.length - k < n ∧ readT l n true k T = R)) (fun _ w' => l.length - readAt w.heap.size w') rfl rfl ?_ ?_ ?_
  · rintro a wr ⟨k, n, T, tv, u4, u5, u6, u7, u8, u9, u10, u11, u12, u13, u14, u15, u16, rfl, HR, HB, HP⟩
    have h0 := HP.out
    have hle := HR.out.le
    obtain ⟨n', rfl⟩ : ∃ n', n = n' + 1 := ⟨n - 1, by omega⟩
    obtain ⟨c0, c1, c2⟩ := HR.out.cells
    have hT : T.length ≤ 1000 := by omega
    have hread := h0.2.2
    clear h0
    by_cases hke : k = l.length
    · subst hke
      rw [readT_end] at hread
      have HRE := Lib.hid hread
      obtain ⟨At, ct, rfl, -, -, -⟩ := HR.out.toks.form
      clear hread hle HP
      go_wp2_with fail
      go_ret
      rw [← HRE.out]
      exact ⟨⟨_, rfl, HR.out.toks⟩, HB.out⟩
    · have d0 : ((k : Int) == (l.length : Int)) = false := beq_eq_false_iff_ne.2 (by omega)
      rw [readT_out hke] at hread
      have HC := Lib.hid (tkoutside_any wr w.heap.size c k A l tv T HR.out hl hT)
      rcases hn : outT l (lastR T) k with ⟨n, x⟩ | ⟨t, k'⟩
      · rw [hn] at HC hread
        simp only at hread
        have HRE := Lib.hid hread
        clear hread hn
        go_wp2_with fail
        refine HC.out.mono ?_
        rintro e w2 ⟨rfl, b2⟩
        have B2 := Lib.hid (HB.out.trans b2)
        clear b2
        go_wp2_with fail
        exact ⟨rfl, by rw [← HRE.out]; exact ⟨rfl, B2.out⟩⟩
      · rw [hn] at HC hread
        simp only at hread
        have hk' := outT_ok hn
        have hP := HP.out
        rcases hk : (t.k == 7) with _ | _
        · have HRE : Hid (readT l n' false k' (T ++ [t]) = R) := Lib.hid (by rw [← hread, hk])
          clear hread hn
          go_wp2_with fail
          refine HC.out.mono ?_
          rintro e w2 ⟨rfl, ⟨tv2, h2⟩, b2⟩
          have H2 := Lib.hid h2
          have B2 := Lib.hid (HB.out.trans b2)
          clear b2 h2
          go_wp2_with fail
          go_step3
          refine .inl ⟨rfl, ⟨k', n', T ++ [t], tv2, _, _, _, _, _, _, _, _, _, _, _, _, _, rfl, H2, B2, Lib.hid ⟨by rw [List.length_append]; simp; omega, by omega, HRE.out⟩⟩, ?_⟩
          rw [readAt_of H2.out, readAt_of HR.out]; omega
        · have HRE : Hid (readT l n' true k' (T ++ [t]) = R) := Lib.hid (by rw [← hread, hk])
          clear hread hn
          go_wp2_with fail
          refine HC.out.mono ?_
          rintro e w2 ⟨rfl, ⟨tv2, h2⟩, b2⟩
          have H2 := Lib.hid h2
          have B2 := Lib.hid (HB.out.trans b2)
          clear b2 h2
          go_wp2_with fail
          go_step3
          refine .inr ⟨rfl, ⟨k', n', T ++ [t], tv2, _, _, _, _, _, _, _, _, _, _, _, _, _, rfl, H2, B2, Lib.hid ⟨by rw [List.length_append]; simp; omega, by omega, HRE.out⟩⟩, ?_⟩
          rw [readAt_of H2.out, readAt_of HR.out]; omega
  · rintro a wr ⟨k, n, T, tv, u4, u5, u6, u7, u8, u9, u10, u11, u12, u13, u14, u15, u16, rfl, HR, HB, HP⟩
    have h0 := HP.out
    have hle := HR.out.le
    obtain ⟨n', rfl⟩ : ∃ n', n = n' + 1 := ⟨n - 1, by omega⟩
    obtain ⟨c0, c1, c2⟩ := HR.out.cells
    have hT : T.length ≤ 1000 := by omega
    have hread := h0.2.2
    clear h0
    rw [readT_in] at hread
    have HC := Lib.hid (tkwithin_any wr w.heap.size c k A l tv T HR.out hl hT)
    rcases hn : inT l k with ⟨n, x⟩ | ⟨t, k'⟩
    · rw [hn] at HC hread
      simp only at hread
      have HRE := Lib.hid hread
      clear hread hn
      go_wp2_with fail
      refine HC.out.mono ?_
      rintro e w2 ⟨rfl, b2⟩
      have B2 := Lib.hid (HB.out.trans b2)
      clear b2
      go_wp2_with fail
      exact ⟨rfl, by rw [← HRE.out]; exact ⟨rfl, B2.out⟩⟩
    · rw [hn] at HC hread
      simp only at hread
      have hk' := inT_ok hn
      have hP := HP.out
      rcases hk : (t.k == 8) with _ | _
      · have HRE : Hid (readT l n' true k' (T ++ [t]) = R) := Lib.hid (by rw [← hread, bne, hk]; rfl)
        clear hread hn
        go_wp2_with fail
        refine HC.out.mono ?_
        rintro e w2 ⟨rfl, ⟨tv2, h2⟩, b2⟩
        have H2 := Lib.hid h2
        have B2 := Lib.hid (HB.out.trans b2)
        clear b2 h2
        go_wp2_with fail
        go_step3
        refine .inr ⟨rfl, ⟨k', n', T ++ [t], tv2, _, _, _, _, _, _, _, _, _, _, _, _, _, rfl, H2, B2, Lib.hid ⟨by rw [List.length_append]; simp; omega, by omega, HRE.out⟩⟩, ?_⟩
        rw [readAt_of H2.out, readAt_of HR.out]; omega
      · have HRE : Hid (readT l n' false k' (T ++ [t]) = R) := Lib.hid (by rw [← hread, bne, hk]; rfl)
        clear hread hn
        go_wp2_with fail
        refine HC.out.mono ?_
        rintro e w2 ⟨rfl, ⟨tv2, h2⟩, b2⟩
        have H2 := Lib.hid h2
        have B2 := Lib.hid (HB.out.trans b2)
        clear b2 h2
        go_wp2_with fail
        go_step3
        refine .inl ⟨rfl, ⟨k', n', T ++ [t], tv2, _, _, _, _, _, _, _, _, _, _, _, _, _, rfl, H2, B2, Lib.hid ⟨by rw [List.length_append]; simp; omega, by omega, HRE.out⟩⟩, ?_⟩
        rw [readAt_of H2.out, readAt_of HR.out]; omega
  · intro hpass
    go_wp2_with fail
    go_step3
    go_simp
    rename_i K hK
    refine hK _ _ ?_
    exact hpass _ _ ⟨0, l.length + 1, [], .slice none 0 0, _, _, _, _, _, _, _, _, _, _, _, _, _, rfl, Lib.hid ⟨Box.new w _ _, OwnN.empty _ _ _ _, H.out.alloc (Nat.le_refl _) _, by omega, hc⟩, Lib.hid (below_alloc w _), Lib.hid ⟨by simp, by omega, HR0.out⟩⟩
end Go.Proofs.Ytpllklikjnndcaa
