/- Layer 15: Quote; the same tokens. -/
import Derived.Test.YtpllklikjnndcaaTkI
import Derived.Test.YtpllklikjnndcaaInts
namespace Go.Proofs.Ytpllklikjnndcaa
open Go.RowKit

/-- characters, as a pattern -/
def quoteI (l : List Int) : List Int := l.flatMap fun c => if signI c = true then [92, c] else [c]
theorem quoteI_append (l m : List Int) : quoteI (l ++ m) = quoteI l ++ quoteI m := by simp [quoteI]
theorem quoteI_take {l : List Int} {k : Nat} (hk : k < l.length) : quoteI (l.take (k + 1)) = quoteI (l.take k) ++ (if signI l[k] = true then [92, l[k]] else [l[k]]) := by
  rw [List.take_succ_eq_append_getElem hk, quoteI_append]; simp [quoteI]
theorem quoteI_length (l : List Int) : (quoteI l).length ≤ 2 * l.length := by
  induction l with
  | nil => simp [quoteI]
  | cons c l ih =>
    have : quoteI (c :: l) = (if signI c = true then [92, c] else [c]) ++ quoteI l := rfl
    rw [this, List.length_append]
    split <;> simp <;> omega
theorem quoteI_take_le (l : List Int) (k : Nat) (hl : l.length ≤ 1000) : (quoteI (l.take k)).length ≤ 2000 := by
  have := quoteI_length (l.take k)
  have h2 : (l.take k).length ≤ l.length := by simp; omega
  omega

set_option maxRecDepth 20000 in
set_option maxHeartbeats 4000000 in
theorem tkquote_any (w : World) (A : Option Addr) (l : List Int) (c : Nat) (h : Lies w w.heap.size A (ints .i64 l)) (hl : l.length ≤ 1000) :
    Calls Try.prog 9 #[.slice A l.length c] w (Rowed w w.heap.size 3 (ints .i64 (quoteI l))) := by
  have HL := Lib.hid h
  have HQ : Hid (∀ k, (quoteI (l.take k)).length ≤ 2000) := Lib.hid (fun k => quoteI_take_le l k hl)
  clear h
  go_enter Try.func9, Try.ntmps9
  go_wp2_with fail
  go_loopw [8, 3] (fun iv ov wr => ∃ k : Nat, k ≤ l.length ∧ iv = .int .i64 k ∧ Hid (Own wr w.heap.size 3 ov (ints .i64 (quoteI (l.take k)))) ∧ Hid (Below w.heap.size w wr)) (fun iv _ _ => l.length - (intOf iv).toNat)
  case atStart => exact ⟨0, by omega, rfl, Lib.hid (Own.empty _ _ _), Lib.hid (Below.refl _ _)⟩
  case round =>
    obtain ⟨k, hk, rfl, HO, HB⟩ := hrel
    by_cases hlt : k < l.length
    · obtain ⟨p, rfl, -, hc⟩ := (Lies.up HL.out HB.out).int hlt
      have HT := Lib.hid (quoteI_take hlt)
      obtain ⟨x, hx⟩ : ∃ x, l[k] = x := ⟨_, rfl⟩
      rw [hx] at hc HT
      have k0 : (0 : Int) ≤ (k : Int) := by omega
      have k1 : (k : Int) < (l.length : Int) := by omega
      have HS := Lib.hid (tksign_any x wr)
      clear hx
      rcases hs : signI x with _ | _
      · have HT2 : Hid (ints .i64 (quoteI (l.take k)) ++ [Value.int .i64 x] = ints .i64 (quoteI (l.take (k + 1)))) := Lib.hid (by rw [HT.out, hs]; simp [ints])
        rw [hs] at HS
        clear hs
        go_wp2_with fail
        refine HS.out.mono ?_
        rintro e wq ⟨rfl, rfl⟩
        go_wp2_with (first
          | (at_builtin; refine app_lit intsT w wr w.heap.size _ _ #[.int .i64 x] 1 _ (ints .i64 (quoteI (l.take k))) rfl rfl rfl rfl HO.out (by simp [Value.oneCell']) HB.out HB.out.size (by have := HQ.out k; unfold maxLen; simp; omega) (by have := HQ.out k; simp; omega) ?_; intro v2 w2 o2 b2 _ _; have O2 : Hid (Own w2 w.heap.size 3 v2 (ints .i64 (quoteI (l.take (k + 1))))) := Lib.hid (by rw [← HT2.out]; exact o2); have B2 := Lib.hid b2; clear o2 b2)
          | fail)
        go_roundw
        case rel => exact ⟨k + 1, by omega, by go_num, O2, B2⟩
        case measure => simp [intOf]; omega
      · have HT2 : Hid ((ints .i64 (quoteI (l.take k)) ++ [Value.int .i64 92]) ++ [Value.int .i64 x] = ints .i64 (quoteI (l.take (k + 1)))) := Lib.hid (by rw [HT.out, hs]; simp [ints])
        rw [hs] at HS
        clear hs
        go_wp2_with fail
        refine HS.out.mono ?_
        rintro e wq ⟨rfl, rfl⟩
        go_wp2_with (first
          | (at_builtin; refine app_lit intsT w wr w.heap.size _ _ #[.int .i64 92] 1 _ (ints .i64 (quoteI (l.take k))) rfl rfl rfl rfl HO.out (by simp [Value.oneCell']) HB.out HB.out.size (by have := HQ.out k; unfold maxLen; simp; omega) (by have := HQ.out k; simp; omega) ?_; intro v2 w2 o2 b2 _ _; have O2 := Lib.hid o2; have B2 := Lib.hid b2; clear o2 b2 HO)
          | (at_builtin; refine app_lit intsT w w2 w.heap.size _ _ #[.int .i64 x] 1 _ (ints .i64 (quoteI (l.take k)) ++ [Value.int .i64 92]) rfl rfl rfl rfl O2.out (by simp [Value.oneCell']) B2.out B2.out.size (by have := HQ.out k; unfold maxLen; simp; omega) (by have := HQ.out k; simp; omega) ?_; intro v3 w3 o3 b3 _ _; have O3 : Hid (Own w3 w.heap.size 3 v3 (ints .i64 (quoteI (l.take (k + 1))))) := Lib.hid (by rw [← HT2.out]; exact o3); have B3 := Lib.hid b3; clear o3 b3)
          | fail)
        go_roundw
        case rel => exact ⟨k + 1, by omega, by go_num, O3, B3⟩
        case measure => simp [intOf]; omega
    · obtain rfl : k = l.length := by omega
      have HO2 := HO.out
      rw [List.take_length] at HO2
      have O2 := Lib.hid HO2
      clear HO2
      go_wp2_with fail
      go_ret
      exact rowed_ret O2.out HB.out rfl

/-! the same tokens -/
theorem tokCells_get : ∀ (T : List Tok) (k j : Nat) (hk : k < T.length), j < 5 → (tokCells T)[k * 5 + j]? = T[k].arr[j]?
  | [], k, j, hk, _ => by simp at hk
  | t :: T, k, j, hk, hj => by
    have e : tokCells (t :: T) = t.arr.toList ++ tokCells T := by rw [show t :: T = [t] ++ T from rfl, tokCells_append, tokCells_one]
    rw [e]
    rcases k with _ | k
    · rw [List.getElem?_append_left (by simp; omega), Nat.zero_mul, Nat.zero_add, List.getElem_cons_zero]
      simp
    · rw [List.getElem?_append_right (by simp; omega), List.getElem_cons_succ, ← tokCells_get T k j (by simpa using hk) hj]
      congr 1; simp; omega
theorem eq_tok (t : Tok) (w : World) : (Op.equalIn 10000 30 (.agg #[.int .i64 t.k, .int .i64 t.c, .int .i64 t.lo, .int .i64 t.hi, .int .i64 t.pos]) (.agg #[.int .i64 t.k, .int .i64 t.c, .int .i64 t.lo, .int .i64 t.hi, .int .i64 t.pos])).run Try.prog w = .ok true w := by
  have u3 := Try.underlying3
  have a3 := Try.isAgg3
  have z3 := Try.sizeOf3
  have hS : Try.prog.underlying 30 = some (.struct (Try.prog.fieldsOf 30)) := by kernel_rfl
  have hp : Try.prog.stoodInHeld 30 = false := by kernel_rfl
  rw [show (10000 : Nat) = 9999 + 1 from rfl, run_equalIn_agg w 9999 30 _ _ hS hp]
  simp only [Program.fieldsOf, Try.underlying30]
  go_simp
theorem tok_cells_at {w : World} {B g n c : Nat} {T : List Tok} (h : OwnN w B 30 5 (.slice (some ⟨g, 0, none⟩) n c) n (tokCells T)) (hn : n = T.length) {k : Nat} (hk : k < T.length) :
    w.cell? ⟨g, k * 5, none⟩ = some (.int .i64 T[k].k) ∧ w.cell? ⟨g, k * 5 + 1, none⟩ = some (.int .i64 T[k].c) ∧ w.cell? ⟨g, k * 5 + 2, none⟩ = some (.int .i64 T[k].lo) ∧ w.cell? ⟨g, k * 5 + 3, none⟩ = some (.int .i64 T[k].hi) ∧ w.cell? ⟨g, k * 5 + 4, none⟩ = some (.int .i64 T[k].pos) := by
  have key : ∀ j, j < 5 → w.cell? ⟨g, k * 5 + j, none⟩ = T[k].arr[j]? := fun j hj => by
    rw [World.ownsRow.cellAt h (k * 5 + j) (by omega), tokCells_get T k j hk hj]
  exact ⟨key 0 (by omega), key 1 (by omega), key 2 (by omega), key 3 (by omega), key 4 (by omega)⟩
set_option maxRecDepth 20000 in
set_option maxHeartbeats 4000000 in
theorem tksame_any (w : World) (B B' : Nat) (A A' : Option Addr) (c c' : Nat) (T : List Tok) (n : Nat) (hn : n = T.length) (o : OwnN w B 30 5 (.slice A n c) n (tokCells T)) (o' : OwnN w B' 30 5 (.slice A' n c') n (tokCells T)) (hl : T.length ≤ 1000) :
    Calls Try.prog 10 #[.slice A n c, .slice A' n c'] w fun e w' => e = .returned (.bool true) ∧ Below w.heap.size w w' := by
  have HN := Lib.hid hn
  have O := Lib.hid o
  have O' := Lib.hid o'
  have hnl : n ≤ 1000 := by omega
  have d0 : ((n : Int) != (n : Int)) = false := by simp
  clear o o' hn hl
  go_enter Try.func10, Try.ntmps10
  go_wp2_with fail
  go_loopw [5] (fun iv wr => ∃ k m : Nat, k ≤ n ∧ iv = .int .i64 k ∧ wr = w.drewN m) (fun iv _ => n - (intOf iv).toNat)
  case atStart => exact ⟨0, 0, by omega, rfl, rfl⟩
  case round =>
    obtain ⟨k, m, hk, rfl, rfl⟩ := hrel
    by_cases hlt : k < n
    · obtain ⟨g, ca, hv, -, -, -, -⟩ := O.out.block (by omega)
      obtain ⟨g', ca', hv', -, -, -, -⟩ := O'.out.block (by omega)
      injection hv with hA _ hcc
      injection hv' with hA' _ hcc'
      subst hA hA' hcc hcc'
      have hkT : k < T.length := by rw [← HN.out]; exact hlt
      obtain ⟨a0, a1, a2, a3, a4⟩ := tok_cells_at O.out HN.out hkT
      obtain ⟨b0, b1, b2, b3, b4⟩ := tok_cells_at O'.out HN.out hkT
      obtain ⟨t, ht⟩ : ∃ t, T[k] = t := ⟨_, rfl⟩
      rw [ht] at a0 a1 a2 a3 a4 b0 b1 b2 b3 b4
      have heq := fun u => eq_tok t u
      have k0 : (0 : Int) ≤ (k : Int) := by omega
      have k1 : (k : Int) < (n : Int) := by omega
      clear ht hkT
      go_wp2_with fail
      go_quiet (fail)
      go_wp2_with fail
      go_roundw
      case rel => exact ⟨k + 1, m + nq, by omega, by go_num, rfl⟩
      case measure => simp [intOf]; omega
    · obtain rfl : k = n := by omega
      go_wp2_with fail
      go_ret
      exact ⟨rfl, below_drawn (Below.refl _ _) _⟩
end Go.Proofs.Ytpllklikjnndcaa
