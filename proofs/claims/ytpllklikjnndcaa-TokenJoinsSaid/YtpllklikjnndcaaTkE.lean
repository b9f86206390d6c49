/- Layer 15: number, the reader's digits. -/
import Derived.Test.YtpllklikjnndcaaTkD
namespace Go.Proofs.Ytpllklikjnndcaa
open Go.RowKit

theorem numF_bound {n x : Int} (h0 : 0 ≤ n) (hx : isDig x = true) : 0 ≤ numF n x ∧ numF n x ≤ 21 := by
  simp only [isDig, Bool.and_eq_true, decide_eq_true_eq] at hx
  unfold numF; omega
theorem numFold_bound : ∀ (D : List Int) (n : Int), 0 ≤ n → n ≤ 21 → (∀ d ∈ D, isDig d = true) → 0 ≤ D.foldl numF n ∧ D.foldl numF n ≤ 21
  | [], n, h0, h1, _ => ⟨h0, h1⟩
  | d :: D, n, h0, _, h => by
    have := numF_bound h0 (h d (by simp))
    exact numFold_bound D _ this.1 this.2 (fun x hx => h x (by simp [hx]))

set_option maxRecDepth 20000 in
set_option maxHeartbeats 4000000 in
theorem tknumber_any (w : World) (B : Nat) (A : Option Addr) (D : List Int) (c : Nat) (h : Lies w B A (ints .i64 D)) (hd : ∀ d ∈ D, isDig d = true) (hl : D.length ≤ 1000) :
    Calls Try.prog 30 #[.slice A D.length c] w fun e w' => e = .returned (.int .i64 (numT D)) ∧ w = w' := by
  by_cases h0 : D.length = 0
  · have hD : D = [] := List.eq_nil_of_length_eq_zero h0
    subst hD
    have d0 : ((([] : List Int).length : Int) == 0) = true := rfl
    go_enter Try.func30, Try.ntmps30
    go_wp2
    go_ret
    exact ⟨rfl, rfl⟩
  · have d0 : ((D.length : Int) == 0) = false := beq_eq_false_iff_ne.2 (by omega)
    have hne : D ≠ [] := fun e => h0 (by rw [e]; rfl)
    obtain ⟨b, off, rfl, -, hc⟩ := h.plainInts (by omega)
    have h00 := hc 0 (by omega)
    simp only [Nat.add_zero] at h00
    have k1 : (0 : Int) < (D.length : Int) := by omega
    obtain ⟨x0, hx0⟩ : ∃ x, D[0]'(by omega) = x := ⟨_, rfl⟩
    rw [hx0] at h00
    have hx0' : D[0]? = some x0 := by rw [List.getElem?_eq_getElem (by omega), hx0]
    have HL := Lib.hid h
    have HD := Lib.hid hd
    by_cases hlong : D[0]? = some 48 ∧ 1 < D.length
    · have hn : numT D = 21 := by unfold numT; rw [if_neg hne, if_pos hlong]
      rw [hn]
      have d48 : (x0 == 48) = true := by have := hlong.1; rw [hx0'] at this; injection this with this; simpa using this
      have d1 : decide ((1 : Int) < (D.length : Int)) = true := decide_eq_true (by have := hlong.2; omega)
      clear hlong hn hx0 hx0' hne h hd hc h0
      go_enter Try.func30, Try.ntmps30
      go_wp2
      go_ret
      exact ⟨rfl, rfl⟩
    · have hn : numT D = D.foldl numF 0 := by unfold numT; rw [if_neg hne, if_neg hlong]
      rw [hn]
      obtain ⟨z, hz⟩ : ∃ z, D.foldl numF 0 = z := ⟨_, rfl⟩
      have HZ := Lib.hid hz
      rw [hz]
      have hor : (x0 == 48) = false ∨ ((x0 == 48) = true ∧ decide ((1 : Int) < (D.length : Int)) = false) := by
        rcases hx : (x0 == 48) with _ | _
        · exact .inl rfl
        · refine .inr ⟨rfl, decide_eq_false fun hlt => hlong ⟨?_, by omega⟩⟩
          rw [hx0']; congr 1; simpa using hx
      clear hlong hn hx0 hx0' hne h hd hc h0 hz
      rcases hor with d48 | ⟨d48, d1⟩
      all_goals
        go_enter Try.func30, Try.ntmps30
        go_wp2
        go_loopw [22, 3] (fun iv nv wr => ∃ (k : Nat) (n : Int), k ≤ D.length ∧ iv = .int .i64 k ∧ nv = .int .i64 n ∧ Hid ((D.take k).foldl numF 0 = n) ∧ 0 ≤ n ∧ n ≤ 21 ∧ wr = w) (fun iv _ _ => D.length - (intOf iv).toNat)
        case atStart => exact ⟨0, 0, by omega, rfl, rfl, Lib.hid rfl, by omega, by omega, rfl⟩
        case round =>
          obtain ⟨k, n, hk, rfl, rfl, HN, hn0, hn1, rfl⟩ := hrel
          by_cases hlt : k < D.length
          · obtain ⟨p, hp, -, hck⟩ := HL.out.int hlt
            injection hp with hp
            subst hp
            rw [add_plain] at hck
            have hdig := HD.out _ (List.getElem_mem hlt)
            have HS : Hid ((D.take (k + 1)).foldl numF 0 = numF n (D[k]'hlt)) := Lib.hid (by rw [List.take_succ_eq_append_getElem hlt, List.foldl_append, HN.out]; rfl)
            obtain ⟨x, hx⟩ : ∃ x, D[k]'hlt = x := ⟨_, rfl⟩
            rw [hx] at hck hdig HS
            have HB := Lib.hid (numF_bound hn0 hdig)
            simp only [isDig, Bool.and_eq_true, decide_eq_true_eq] at hdig
            obtain ⟨v, hv⟩ : ∃ v, 10 * n + x - 48 = v := ⟨_, rfl⟩
            have hw1 : IntKind.i64.wrap (10 * n) = 10 * n := IntWalk.i64_in _ (by omega)
            have hw2 : IntKind.i64.wrap (10 * n + x) = 10 * n + x := IntWalk.i64_in _ (by omega)
            have hw3 : IntKind.i64.wrap (10 * n + x - 48) = v := by rw [IntWalk.i64_in _ (by omega)]; exact hv
            have HF : Hid (numF n x = if 21 < v then 21 else v) := Lib.hid (by unfold numF; rw [hv]; split <;> omega)
            have k0 : (0 : Int) ≤ (k : Int) := by omega
            have k2 : (k : Int) < (D.length : Int) := by omega
            clear hx hv hdig
            by_cases h21 : 21 < v
            · have HE : Hid (numF n x = 21) := Lib.hid (by rw [HF.out, if_pos h21])
              go_wp2_with fail
              go_roundw
              case rel => exact ⟨k + 1, 21, by omega, by go_num, rfl, Lib.hid (by rw [HS.out, HE.out]), by omega, by omega, trivial⟩
              case measure => simp [intOf]; omega
            · have HE : Hid (numF n x = v) := Lib.hid (by rw [HF.out, if_neg h21])
              have HV := HB.out
              rw [HE.out] at HV
              have HVV := Lib.hid HV
              clear HV
              go_wp2_with fail
              go_roundw
              case rel => exact ⟨k + 1, v, by omega, by go_num, rfl, Lib.hid (by rw [HS.out, HE.out]), HVV.out.1, HVV.out.2, trivial⟩
              case measure => simp [intOf]; omega
          · obtain rfl : k = D.length := by omega
            have hzn : z = n := by rw [← HZ.out, ← HN.out, List.take_length]
            subst hzn
            go_wp2_with fail
            go_ret
            exact ⟨rfl, rfl⟩

/-- where a reader's loop is -/
def readAt (b : Nat) (w : World) : Nat := match w.cell? ⟨b, 1, none⟩ with
  | some (.int _ n) => n.toNat
  | _ => 0
theorem readAt_of {w : World} {b c k : Nat} {A : Option Addr} {l : List Int} {tv : Value} {T : List Tok} (h : IsR w b A l c k tv T) : readAt b w = k := by
  unfold readAt; rw [h.cells.2.1]; simp
theorem digT_length (l : List Int) (k : Nat) : (digT l k).length ≤ l.length - k := by
  unfold digT
  have := (List.takeWhile_sublist (p := isDig) (l := l.drop k)).length_le
  simpa using this
theorem digT_all (l : List Int) (k : Nat) : ∀ d ∈ digT l k, isDig d = true := fun d hd => by
  exact List.all_eq_true.1 List.all_takeWhile d hd
theorem digT_next {l : List Int} {k : Nat} (hk : k < l.length) : digT l k = if isDig l[k] = true then l[k] :: digT l (k + 1) else [] := by
  unfold digT
  rw [List.drop_eq_getElem_cons hk, List.takeWhile_cons]
theorem digT_end {l : List Int} {k : Nat} (hk : l.length ≤ k) : digT l k = [] := by
  unfold digT; rw [List.drop_eq_nil_of_le hk]; rfl
theorem digT_take (l : List Int) (k : Nat) : digT l k = (l.drop k).take (digT l k).length := by
  unfold digT
  exact (List.prefix_iff_eq_take.1 (List.takeWhile_prefix _))
theorem tw_lt (p : Int → Bool) : ∀ (m : List Int) (j : Nat), j ≤ (m.takeWhile p).length → (j < (m.takeWhile p).length ↔ ∃ x, m[j]? = some x ∧ p x = true)
  | [], j, _ => by simp
  | x :: m, j, h => by
    rcases hp : p x with _ | _
    · rw [List.takeWhile_cons, hp] at h ⊢
      obtain rfl : j = 0 := by simpa using h
      simp [hp]
    · rw [List.takeWhile_cons, hp] at h ⊢
      rcases j with _ | j
      · simp [hp]
      · have := tw_lt p m j (by simpa using h)
        simpa using this
/-- how far the digits go on -/
theorem digT_more {l : List Int} {k j : Nat} (hj : j ≤ (digT l k).length) : (j < (digT l k).length ↔ ∃ x, l[k + j]? = some x ∧ isDig x = true) := by
  unfold digT at hj ⊢
  rw [tw_lt isDig _ j hj, List.getElem?_drop]

/-- digits: a part of the pattern; the reader goes on behind them -/
def RowedD (w : World) (b : Nat) (A : Option Addr) (l : List Int) (c k : Nat) (tv : Value) (T : List Tok) (D : List Int) (ed : Ending) (w' : World) : Prop :=
  ∃ A' c', ed = .returned (.slice A' D.length c') ∧ Lies w' b A' (ints .i64 D) ∧ IsR w' b A l c (k + D.length) tv T ∧ w.grownBy w' (some b)
theorem dig_done {w w' : World} {b c k m n c' : Nat} {A A' : Option Addr} {l : List Int} {tv : Value} {T : List Tok} (hm : (digT l k).length = m) (hn : n = m) (hA : 0 < n → A' = A.map (·.add k)) (h : IsR w' b A l c (k + m) tv T) (hg : w.grownBy w' (some b)) :
    RowedD w b A l c k tv T (digT l k) (.returned (.slice A' n c')) w' := by
  subst hn hm
  refine ⟨A', c', rfl, ?_, h, hg⟩
  intro hne
  have h0 : 0 < (digT l k).length := by
    rcases hd : digT l k with _ | ⟨x, r⟩
    · rw [hd] at hne; exact absurd rfl hne
    · simp
  rw [hA h0] at *
  have := h.lies.part k (digT l k).length
  rw [← List.map_drop, ← List.map_take, ← digT_take] at this
  exact this hne

set_option maxRecDepth 20000 in
set_option maxHeartbeats 4000000 in
theorem tkdigits_any (w : World) (b c k : Nat) (A : Option Addr) (l : List Int) (tv : Value) (T : List Tok) (h : IsR w b A l c k tv T) (hl : l.length ≤ 1000) :
    Calls Try.prog 29 #[.pointer (some ⟨b, 0, none⟩)] w (RowedD w b A l c k tv T (digT l k)) := by
  obtain ⟨c0, c1, c2⟩ := h.cells
  have H := Lib.hid h
  have hkl := h.le
  obtain ⟨m, hm⟩ : ∃ m, (digT l k).length = m := ⟨_, rfl⟩
  have hml : k + m ≤ l.length := by have := digT_length l k; omega
  have HM := Lib.hid hm
  have HMR : Hid (∀ j, j ≤ m → (j < m ↔ ∃ x, l[k + j]? = some x ∧ isDig x = true)) := Lib.hid (fun j hj => by subst hm; exact digT_more hj)
  clear h
  go_enter Try.func29, Try.ntmps29
  go_wp2
  clear c0 c1 c2 hm
  go_loopw [] (fun wr => ∃ j : Nat, j ≤ m ∧ Hid (IsR wr b A l c (k + j) tv T) ∧ Hid (w.grownBy wr (some b))) (fun wr => l.length - readAt b wr)
  case atStart => exact ⟨0, by omega, H, Lib.hid (grown_refl _ _)⟩
  case round =>
    obtain ⟨j, hj, HR, HG⟩ := hrel
    obtain ⟨i, hi⟩ : ∃ i, k + j = i := ⟨_, rfl⟩
    have hmr := HMR.out j hj
    rw [hi] at HR hmr
    obtain ⟨c0, c1, c2⟩ := HR.out.cells
    have hil := HR.out.le
    by_cases hlt : i < l.length
    · obtain ⟨p, hA, -, hc⟩ := HR.out.char hlt
      rw [List.getElem?_eq_getElem hlt] at hmr
      obtain ⟨x, hx⟩ : ∃ x, l[i] = x := ⟨_, rfl⟩
      rw [hx] at hc hmr
      have hmr : j < m ↔ isDig x = true := by rw [hmr]; simp
      have k0 : (0 : Int) ≤ (i : Int) := by omega
      have k1 : (i : Int) < (l.length : Int) := by omega
      have d0 : decide ((i : Int) < (l.length : Int)) = true := decide_eq_true k1
      subst hA
      clear hx
      rcases h48 : decide (48 ≤ x) with _ | _
      · have hjm : j = m := by
          have : ¬ j < m := by rw [hmr]; simp [isDig, h48]
          omega
        clear hmr
        have hcl : l.length ≤ c := HR.out.cap
        have b0 : (0 : Int) ≤ (k : Int) := by omega
        have b1 : (k : Int) ≤ (i : Int) := by omega
        have b2 : (i : Int) ≤ (c : Int) := by omega
        have HRX : Hid (IsR wr b (some p) l c (k + m) tv T) := Lib.hid (by rw [← hjm, hi]; exact HR.out)
        go_wp2_with fail
        go_quiet (fail)
        go_wp2_with fail
        go_quiet (fail)
        go_wp2_with fail
        all_goals
          go_ret
          exact dig_done HM.out (by omega) (fun hn => by first | rfl | (exfalso; omega)) (by first | exact HRX.out.drewN _ | exact (HRX.out.drewN _).drewN _ | (subst_vars; exact HRX.out.drewN _)) (by first | exact grown_draws HG.out _ | exact grown_draws (grown_draws HG.out _) _)
      · rcases h57 : decide (x ≤ 57) with _ | _
        · have hjm : j = m := by
            have : ¬ j < m := by rw [hmr]; simp [isDig, h57]
            omega
          clear hmr
          have hcl : l.length ≤ c := HR.out.cap
          have b0 : (0 : Int) ≤ (k : Int) := by omega
          have b1 : (k : Int) ≤ (i : Int) := by omega
          have b2 : (i : Int) ≤ (c : Int) := by omega
          have HRX : Hid (IsR wr b (some p) l c (k + m) tv T) := Lib.hid (by rw [← hjm, hi]; exact HR.out)
          go_wp2_with fail
          go_quiet (fail)
          go_wp2_with fail
          go_quiet (fail)
          go_wp2_with fail
          all_goals
            go_ret
            exact dig_done HM.out (by omega) (fun hn => by first | rfl | (exfalso; omega)) (by first | exact HRX.out.drewN _ | exact (HRX.out.drewN _).drewN _ | (subst_vars; exact HRX.out.drewN _)) (by first | exact grown_draws HG.out _ | exact grown_draws (grown_draws HG.out _) _)
        · have hjm : j < m := by rw [hmr, isDig, h48, h57]; rfl
          have hw := tkwrap (k := i) (by omega)
          have HI := Lib.hid hi
          clear hmr hi
          go_wp2_with fail
          go_quiet (fail)
          go_wp2_with (first
            | (refine store_at _ _ _ (i + 1) rfl rfl rfl rfl rfl (HR.out.drewN _) (by omega) ?_; intro w2 h2 g2; have H2 := Lib.hid h2; have G2 := Lib.hid ((grown_draws HG.out _).trans g2); clear h2 g2)
            | fail)
          refine ⟨⟨j + 1, by omega, by rw [show k + (j + 1) = i + 1 by have := HI.out; omega]; exact H2, G2⟩, ?_⟩
          rw [readAt_of H2.out, readAt_of HR.out]; omega
    · have hjm : j = m := by
        have : ¬ j < m := by rw [hmr, List.getElem?_eq_none (by omega)]; simp
        omega
      obtain rfl : i = l.length := by omega
      clear hmr hlt hil
      rcases A with _ | p
      · have hl0 : l.length = 0 := by
          apply Classical.byContradiction
          intro hne
          obtain ⟨p, hp, _⟩ := HR.out.char (i := 0) (by omega)
          cases hp
        have hcl : l.length ≤ c := HR.out.cap
        have b0 : (0 : Int) ≤ (k : Int) := by omega
        have b1 : (k : Int) ≤ (l.length : Int) := by omega
        have b2 : (l.length : Int) ≤ (c : Int) := by omega
        have HRX : Hid (IsR wr b none l c (k + m) tv T) := Lib.hid (by rw [← hjm, hi]; exact HR.out)
        go_wp2_with fail
        go_quiet (fail)
        go_wp2_with fail
        go_quiet (fail)
        go_wp2_with fail
        all_goals
          go_ret
          exact dig_done HM.out (by omega) (fun hn => by first | rfl | (exfalso; omega)) (by first | exact HRX.out.drewN _ | exact (HRX.out.drewN _).drewN _ | (subst_vars; exact HRX.out.drewN _)) (by first | exact grown_draws HG.out _ | exact grown_draws (grown_draws HG.out _) _)
      · have hcl : l.length ≤ c := HR.out.cap
        have b0 : (0 : Int) ≤ (k : Int) := by omega
        have b1 : (k : Int) ≤ (l.length : Int) := by omega
        have b2 : (l.length : Int) ≤ (c : Int) := by omega
        have HRX : Hid (IsR wr b (some p) l c (k + m) tv T) := Lib.hid (by rw [← hjm, hi]; exact HR.out)
        go_wp2_with fail
        go_quiet (fail)
        go_wp2_with fail
        go_quiet (fail)
        go_wp2_with fail
        all_goals
          go_ret
          exact dig_done HM.out (by omega) (fun hn => by first | rfl | (exfalso; omega)) (by first | exact HRX.out.drewN _ | exact (HRX.out.drewN _).drewN _ | (subst_vars; exact HRX.out.drewN _)) (by first | exact grown_draws HG.out _ | exact grown_draws (grown_draws HG.out _) _)
end Go.Proofs.Ytpllklikjnndcaa
