/- Layer 8: the law's own: are two rows of pairs the same? -/
import Derived.Test.YtajgjloailliiaaSqH
namespace Go.Proofs.Ytajgjloailliiaa
open Go.RowKit

/-- the second of two literals, one behind the other -/
theorem Lies.second {w : World} {e : TypeId} (o : Obj) (cs : Array Value) : Lies ((w.alloc o).alloc (.cells cs e)) ((w.alloc o).alloc (.cells cs e)).heap.size (some ⟨w.heap.size + 1, 0, none⟩) cs.toList := by
  have := Lies.litUp (w := w.alloc o) (e := e) cs; simpa using this
/-- a row of pairs, to be read: each is a list's first and last -/
def PairsR (w : World) (A : Option Addr) (L : List (List Int)) : Prop := Lies w w.heap.size A (pairsOf L)
def RowedP (w : World) (L : List (List Int)) (ed : Ending) (w' : World) : Prop := ∃ A c, ed = .returned (.slice A L.length c) ∧ PairsR w' A L ∧ Below w.heap.size w w'
theorem pairsOf_length (L : List (List Int)) : (pairsOf L).length = L.length * 2 := by
  induction L with
  | nil => rfl
  | cons r L ih => rw [show pairsOf (r :: L) = [.int .i64 (headI r), .int .i64 (lastI r)] ++ pairsOf L from rfl, List.length_append, ih]; simp; omega
theorem pairsOf_get (L : List (List Int)) : ∀ j (hj : j < L.length), (pairsOf L)[j * 2]? = some (.int .i64 (headI L[j])) ∧ (pairsOf L)[j * 2 + 1]? = some (.int .i64 (lastI L[j])) := by
  induction L with
  | nil => intro j hj; simp at hj
  | cons r L ih =>
    intro j hj
    rw [show pairsOf (r :: L) = [.int .i64 (headI r), .int .i64 (lastI r)] ++ pairsOf L from rfl]
    cases j with
    | zero => exact ⟨rfl, rfl⟩
    | succ j =>
      obtain ⟨h1, h2⟩ := ih j (by simpa using hj)
      rw [List.getElem?_append_right (by simp; omega), List.getElem?_append_right (by simp; omega)]
      simp only [List.length_cons, List.length_nil, List.getElem_cons_succ]
      rw [show (j + 1) * 2 - (0 + 1 + 1) = j * 2 by omega, show (j + 1) * 2 + 1 - (0 + 1 + 1) = j * 2 + 1 by omega]
      exact ⟨h1, h2⟩
theorem PairsR.at' {w : World} {A : Option Addr} {L : List (List Int)} (h : PairsR w A L) {j : Nat} (hj : j < L.length) :
    ∃ g off, A = some ⟨g, off, none⟩ ∧ g < w.heap.size ∧ w.cell? ⟨g, off + j * 2, none⟩ = some (.int .i64 (headI L[j])) ∧ w.cell? ⟨g, off + j * 2 + 1, none⟩ = some (.int .i64 (lastI L[j])) := by
  have hl := pairsOf_length L
  obtain ⟨g, off, hA, hg, hc⟩ := Lies.plain h (by omega)
  obtain ⟨h1, h2⟩ := pairsOf_get L j hj
  have k1 := hc (j * 2) (by omega)
  have k2 := hc (j * 2 + 1) (by omega)
  rw [← Nat.add_assoc] at k2
  refine ⟨g, off, hA, hg, ?_, ?_⟩
  · rw [k1, ← List.getElem?_eq_getElem, h1]
  · rw [k2, ← List.getElem?_eq_getElem, h2]

theorem eq_pair (x y : Int) (w : World) : (Op.equalIn 10000 39 (.agg #[.int .i64 x, .int .i64 y]) (.agg #[.int .i64 x, .int .i64 y])).run Try.prog w = .ok true w := by
  have u3 := Try.underlying3
  have a3 := Try.isAgg3
  have z3 := Try.sizeOf3
  rw [show (10000 : Nat) = 9999 + 1 from rfl, Op.equalIn]
  simp only [Sem.run_bind, run_underlying Try.underlying39, Result.andThen_ok]
  simp only [Std.Legacy.Range.forIn_eq_forIn_range', Std.Legacy.Range.size, Nat.sub_zero, Nat.add_sub_cancel, Nat.div_one, List.range'_succ, List.range'_zero, List.forIn_cons, List.forIn_nil]
  go_simp
set_option maxHeartbeats 2000000 in
/-- the same row of pairs, wherever it lies -/
theorem lsame8_any (A : Option Addr) (c : Nat) (L : List (List Int)) (A' : Option Addr) (c' : Nat) (w : World) (h : PairsR w A L) (h' : PairsR w A' L) (hl : L.length ≤ 1000000) :
    Calls Try.prog 10 #[.slice A L.length c, .slice A' L.length c'] w fun e w' => e = .returned (.bool true) ∧ Below w.heap.size w w' := by
  have H := Lib.hid h
  have H' := Lib.hid h'
  clear h h'
  go_enter Try.func10, Try.ntmps10
  go_wp2
  go_loopw [5] (fun i wr => ∃ k : Nat, k ≤ L.length ∧ i = .int .i64 k ∧ Below w.heap.size w wr) (fun i _ => L.length - (intOf i).toNat)
  case atStart => exact ⟨0, by omega, rfl, Below.refl _ _⟩
  case round =>
    obtain ⟨k, hk, rfl, hb⟩ := hrel
    have HB := Lib.hid hb
    clear hb
    by_cases hlt : k < L.length
    · obtain ⟨g, off, hA, hg, p0, p1⟩ := PairsR.at' (Lies.up H.out HB.out) hlt
      obtain ⟨g', off', hA', hg', q0, q1⟩ := PairsR.at' (Lies.up H'.out HB.out) hlt
      subst hA hA'
      have b0 : (0 : Int) ≤ (k : Int) := by omega
      have b1 : (k : Int) < (L.length : Int) := by omega
      obtain ⟨x, hx⟩ : ∃ x, headI L[k] = x := ⟨_, rfl⟩
      obtain ⟨y, hy⟩ : ∃ x, lastI L[k] = x := ⟨_, rfl⟩
      rw [hx] at p0 q0
      rw [hy] at p1 q1
      clear hx hy
      have hk0 : wr.drew.cell? ⟨g, off + k * 2, none⟩ = some (.int .i64 x) ∧ wr.drew.cell? ⟨g, off + k * 2 + 1, none⟩ = some (.int .i64 y) ∧ wr.drew.cell? ⟨g', off' + k * 2, none⟩ = some (.int .i64 x) ∧ wr.drew.cell? ⟨g', off' + k * 2 + 1, none⟩ = some (.int .i64 y) := ⟨p0, p1, q0, q1⟩
      have heq := fun u => eq_pair x y u
      clear p0 p1 q0 q1
      go_wp2_with fail
      refine wp_region_E (S := fun w' => w'.cell? ⟨g, off + k * 2, none⟩ = some (.int .i64 x) ∧ w'.cell? ⟨g, off + k * 2 + 1, none⟩ = some (.int .i64 y) ∧ w'.cell? ⟨g', off' + k * 2, none⟩ = some (.int .i64 x) ∧ w'.cell? ⟨g', off' + k * 2 + 1, none⟩ = some (.int .i64 y)) [] (by kernel_rfl) (hk0) (fun hHeld hClosed => ?_)
      refine' wpAnyE_take (i := 0) (v := _) rfl (by kernel_rfl) (by kernel_rfl) (by kernel_rfl) (by kernel_rfl) (fun _ _ _ h => h) (Or.inl ⟨by rfl, fun u hu => ?_⟩) hHeld hClosed (fun hNext => ?_)
      rotate_left
      · (try dsimp only at hu)
        go_simp
        try with_reducible rfl
      clear hClosed
      have hClosed := hNext
      clear hNext
      try simp only [Act.put, List.getElem_toArray, List.getElem_cons_zero, List.setIfInBounds_toArray, List.set_cons_zero, List.set_cons_succ]
      refine' wpAnyE_take (i := 1) (v := _) rfl (by kernel_rfl) (by kernel_rfl) (by kernel_rfl) (by kernel_rfl) (fun _ _ _ h => h) (Or.inl ⟨by rfl, fun u hu => ?_⟩) hHeld hClosed (fun hNext => ?_)
      rotate_left
      · (try dsimp only at hu)
        go_simp
        try with_reducible rfl
      clear hClosed
      have hClosed := hNext
      clear hNext
      try simp only [Act.put, List.getElem_toArray, List.getElem_cons_zero, List.getElem_cons_succ, List.setIfInBounds_toArray, List.set_cons_zero, List.set_cons_succ]
      refine' wpAnyE_take (i := 2) (v := _) rfl (by kernel_rfl) (by kernel_rfl) (by kernel_rfl) (by kernel_rfl) (fun _ _ _ h => h) (Or.inl ⟨by rfl, fun u hu => ?_⟩) hHeld hClosed (fun hNext => ?_)
      rotate_left
      · (try dsimp only at hu)
        go_simp
        try with_reducible rfl
      clear hClosed
      have hClosed := hNext
      clear hNext
      try simp only [Act.put, List.getElem_toArray, List.getElem_cons_zero, List.getElem_cons_succ, List.setIfInBounds_toArray, List.set_cons_zero, List.set_cons_succ]
      refine' wpAnyE_take (i := 3) (v := _) rfl (by kernel_rfl) (by kernel_rfl) (by kernel_rfl) (by kernel_rfl) (fun _ _ _ h => h) (Or.inl ⟨by rfl, fun u hu => ?_⟩) hHeld hClosed (fun hNext => ?_)
      rotate_left
      · (try dsimp only at hu)
        go_simp
        try with_reducible rfl
      clear hClosed
      have hClosed := hNext
      clear hNext
      try simp only [Act.put, List.getElem_toArray, List.getElem_cons_zero, List.getElem_cons_succ, List.setIfInBounds_toArray, List.set_cons_zero, List.set_cons_succ]
      refine' wpAnyE_take (i := 4) (v := _) rfl (by kernel_rfl) (by kernel_rfl) (by kernel_rfl) (by kernel_rfl) (fun _ _ _ h => h) (Or.inl ⟨by rfl, fun u hu => ?_⟩) hHeld hClosed (fun hNext => ?_)
      rotate_left
      · (try dsimp only at hu)
        go_simp
        try with_reducible rfl
      clear hClosed
      have hClosed := hNext
      clear hNext
      try simp only [Act.put, List.getElem_toArray, List.getElem_cons_zero, List.getElem_cons_succ, List.setIfInBounds_toArray, List.set_cons_zero, List.set_cons_succ]
      refine' wpAnyE_take (i := 5) (v := _) rfl (by kernel_rfl) (by kernel_rfl) (by kernel_rfl) (by kernel_rfl) (fun _ _ _ h => h) (Or.inl ⟨by rfl, fun u hu => ?_⟩) hHeld hClosed (fun hNext => ?_)
      rotate_left
      · (try dsimp only at hu)
        go_simp
        try with_reducible rfl
      clear hClosed
      have hClosed := hNext
      clear hNext
      try simp only [Act.put, List.getElem_toArray, List.getElem_cons_zero, List.getElem_cons_succ, List.setIfInBounds_toArray, List.set_cons_zero, List.set_cons_succ]
      refine' wpAnyE_take (i := 6) (v := _) rfl (by kernel_rfl) (by kernel_rfl) (by kernel_rfl) (by kernel_rfl) (fun _ _ _ h => h) (Or.inl ⟨by rfl, fun u hu => ?_⟩) hHeld hClosed (fun hNext => ?_)
      rotate_left
      · (try dsimp only at hu)
        go_simp
        try with_reducible rfl
      clear hClosed
      have hClosed := hNext
      clear hNext
      try simp only [Act.put, List.getElem_toArray, List.getElem_cons_zero, List.getElem_cons_succ, List.setIfInBounds_toArray, List.set_cons_zero, List.set_cons_succ]
      refine' wpAnyE_take (i := 7) (v := _) rfl (by kernel_rfl) (by kernel_rfl) (by kernel_rfl) (by kernel_rfl) (fun _ _ _ h => h) (Or.inl ⟨by rfl, fun u hu => ?_⟩) hHeld hClosed (fun hNext => ?_)
      rotate_left
      · (try dsimp only at hu)
        go_simp
        try with_reducible rfl
      clear hClosed
      have hClosed := hNext
      clear hNext
      try simp only [Act.put, List.getElem_toArray, List.getElem_cons_zero, List.getElem_cons_succ, List.setIfInBounds_toArray, List.set_cons_zero, List.set_cons_succ]
      refine' wpAnyE_take (i := 8) (v := _) rfl (by kernel_rfl) (by kernel_rfl) (by kernel_rfl) (by kernel_rfl) (fun _ _ _ h => h) (Or.inl ⟨by rfl, fun u hu => ?_⟩) hHeld hClosed (fun hNext => ?_)
      rotate_left
      · (try dsimp only at hu)
        go_simp
        try with_reducible rfl
      clear hClosed
      have hClosed := hNext
      clear hNext
      try simp only [Act.put, List.getElem_toArray, List.getElem_cons_zero, List.getElem_cons_succ, List.setIfInBounds_toArray, List.set_cons_zero, List.set_cons_succ]
      refine wpAnyE_done (by kernel_rfl) ?_ _
      clear hClosed
      go_wp2_with fail
      go_roundw
      case rel => exact ⟨k + 1, by omega, by go_num, by exact below_same HB.out rfl rfl rfl rfl⟩
      case measure => simp [intOf]; omega
    · obtain rfl : k = L.length := by omega
      go_wp2
      go_ret
      exact ⟨rfl, HB.out⟩
end Go.Proofs.Ytajgjloailliiaa
