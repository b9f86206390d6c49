/- Layer 8: sequences that are read; are two rows of them the same? -/
import Derived.Test.YtajgjloailliiaaSqG
import Derived.Test.YtajgjloailliiaaInts2
namespace Go.Proofs.Ytajgjloailliiaa
open Go.RowKit

/-- a row of sequences, to be read -/
structure SeqsR (w : World) (A : Option Addr) (L : List Sq) (vs : List Value) : Prop where
  len : vs.length = L.length
  outer : Lies w w.heap.size A (sqCells vs L)
  inner : ∀ (j : Nat) (h1 : j < vs.length) (h2 : j < L.length), ∃ Aj cj, vs[j] = .slice Aj L[j].pl.length cj ∧ Lies w w.heap.size Aj (ints .i64 L[j].pl)
theorem SeqsR.up {w w' : World} {A : Option Addr} {L : List Sq} {vs : List Value} (h : SeqsR w A L vs) (hb : Below w.heap.size w w') : SeqsR w' A L vs :=
  ⟨h.len, h.outer.up hb, fun j h1 h2 => by
    obtain ⟨Aj, cj, e, hl⟩ := h.inner j h1 h2
    exact ⟨Aj, cj, e, hl.up hb⟩⟩
/-- what a call hands back that tells sequences -/
def RowedS (w : World) (L : List Sq) (ed : Ending) (w' : World) : Prop := ∃ A c vs, ed = .returned (.slice A L.length c) ∧ SeqsR w' A L vs ∧ Below w.heap.size w w'
theorem Seqs.read {w : World} {B : Nat} {v : Value} {vs : List Value} {L : List Sq} (h : Seqs w B v vs L) : ∃ A c, v = .slice A L.length c ∧ SeqsR w A L vs := by
  obtain ⟨A, c, hv, hl, _, _⟩ := h.outer.form
  refine ⟨A, c, hv, h.len, hl, fun j h1 h2 => ?_⟩
  obtain ⟨Aj, cj, e, hj, _, _⟩ := (h.inner j h1 h2).form
  rw [List.length_map] at e
  exact ⟨Aj, cj, e, hj⟩
/-- a sequence's four cells -/
abbrev SqCell (w : World) (g o : Nat) (v : Value) (s : Sq) : Prop := w.cell? ⟨g, o, none⟩ = some v ∧ w.cell? ⟨g, o + 1, none⟩ = some (.int .i64 s.lev) ∧ w.cell? ⟨g, o + 2, none⟩ = some (.int .i64 s.sos) ∧ w.cell? ⟨g, o + 3, none⟩ = some (.int .i64 s.eos)
theorem SeqsR.at' {w : World} {A : Option Addr} {L : List Sq} {vs : List Value} (h : SeqsR w A L vs) {j : Nat} (hj : j < L.length) :
    ∃ g off Aj cj, A = some ⟨g, off, none⟩ ∧ g < w.heap.size ∧ SqCell w g (off + j * 4) (.slice Aj L[j].pl.length cj) L[j] ∧ Lies w w.heap.size Aj (ints .i64 L[j].pl) := by
  have hl := h.len
  obtain ⟨Aj, cj, e, hi⟩ := h.inner j (by omega) hj
  obtain ⟨g, off, hA, hg, hc⟩ := h.outer.plain (by rw [sqCells_length _ _ hl]; omega)
  have key : ∀ t, t < 4 → w.cell? ⟨g, off + j * 4 + t, none⟩ = (L[j].cells (vs[j]'(by omega)))[t]? := fun t ht => by
    have h1 := hc (j * 4 + t) (by rw [sqCells_length _ _ hl]; omega)
    rw [show off + j * 4 + t = off + (j * 4 + t) by omega, h1, ← List.getElem?_eq_getElem, sqCells_get vs L hl j hj t ht]
  refine ⟨g, off, Aj, cj, hA, hg, ⟨?_, ?_, ?_, ?_⟩, hi⟩
  · have := key 0 (by omega); rw [e] at this; exact this
  · exact key 1 (by omega)
  · exact key 2 (by omega)
  · exact key 3 (by omega)
theorem SqCell.up {w w' : World} {g o : Nat} {v : Value} {s : Sq} {B : Nat} (h : SqCell w g o v s) (hb : Below B w w') (hg : g < B) : SqCell w' g o v s :=
  ⟨by rw [hb.cell hg]; exact h.1, by rw [hb.cell hg]; exact h.2.1, by rw [hb.cell hg]; exact h.2.2.1, by rw [hb.cell hg]; exact h.2.2.2⟩

set_option maxRecDepth 20000 in
set_option maxHeartbeats 8000000 in
theorem rsame8_any (A : Option Addr) (c : Nat) (L : List Sq) (vs : List Value) (A' : Option Addr) (c' : Nat) (L' : List Sq) (vs' : List Value) (w : World) (h : SeqsR w A L vs) (h' : SeqsR w A' L' vs') (hl : L.length ≤ 1000000) (hp : ∀ s ∈ L, s.pl.length ≤ 1000000) (hp' : ∀ s ∈ L', s.pl.length ≤ 1000000) :
    Calls Try.prog 9 #[.slice A L.length c, .slice A' L'.length c'] w fun e w' => e = .returned (.bool (decide (L = L'))) ∧ Below w.heap.size w w' := by
  have H := Lib.hid h
  have H' := Lib.hid h'
  have HP := Lib.hid hp
  have HP' := Lib.hid hp'
  clear h h' hp hp'
  by_cases hn : L.length = L'.length
  · have hd : ((L.length : Int) != (L'.length : Int)) = false := by simp [hn]
    have HN := Lib.hid hn
    clear hn
    go_enter Try.func9, Try.ntmps9
    go_wp2
    go_loopw [5] (fun i wr => ∃ k : Nat, k ≤ L.length ∧ i = .int .i64 k ∧ Hid (L.take k = L'.take k) ∧ Below w.heap.size w wr) (fun i _ => L.length - (intOf i).toNat)
    case atStart => exact ⟨0, by omega, rfl, Lib.hid rfl, Below.refl _ _⟩
    case round =>
      obtain ⟨k, hk, rfl, HE, hb⟩ := hrel
      have HB := Lib.hid hb
      clear hb
      by_cases hlt : k < L.length
      · have hlt' : k < L'.length := by have := HN.out; omega
        obtain ⟨g, off, Aj, cj, hA, hg, hc, hj⟩ := (H.out.up HB.out).at' hlt
        obtain ⟨g', off', Aj', cj', hA', hg', hc', hj'⟩ := (H'.out.up HB.out).at' hlt'
        subst hA hA'
        have b0 : (0 : Int) ≤ (k : Int) := by omega
        have b1 : (k : Int) < (L.length : Int) := by omega
        have b2 : (k : Int) < (L'.length : Int) := by omega
        have hx : L[k].pl.length ≤ 1000000 := HP.out _ (List.getElem_mem hlt)
        have hx' : L'[k].pl.length ≤ 1000000 := HP'.out _ (List.getElem_mem hlt')
        obtain ⟨s, hs⟩ : ∃ s, L[k] = s := ⟨_, rfl⟩
        obtain ⟨s', hs'⟩ : ∃ s, L'[k] = s := ⟨_, rfl⟩
        rw [hs] at hc hj hx
        rw [hs'] at hc' hj' hx'
        have XS := Lib.hid (And.intro hs hs')
        clear hs hs'
        obtain ⟨pl, lev, sos, eos⟩ := s
        obtain ⟨pl', lev', sos', eos'⟩ := s'
        simp only at hc hj hc' hj' hx hx'
        obtain ⟨n, hn⟩ : ∃ n, pl.length = n := ⟨_, rfl⟩
        obtain ⟨n', hn'⟩ : ∃ n, pl'.length = n := ⟨_, rfl⟩
        have hI := ints_any Aj Aj' pl pl' cj cj' (w := wr.drew) (hj.sameHeap rfl) (hj'.sameHeap rfl) hx hx'
        rw [hn, hn'] at hI
        rw [hn] at hc
        rw [hn'] at hc'
        have HI := Lib.hid hI
        obtain ⟨p0, p1, p2, p3⟩ := hc
        obtain ⟨q0, q1, q2, q3⟩ := hc'
        have SK : Hid (∀ w', Below wr.heap.size wr w' → SqCell w' g (off + k * 4) (.slice Aj n cj) ⟨pl, lev, sos, eos⟩ ∧ SqCell w' g' (off' + k * 4) (.slice Aj' n' cj') ⟨pl', lev', sos', eos'⟩) :=
          Lib.hid fun w' h => ⟨SqCell.up (w := wr) ⟨p0, p1, p2, p3⟩ h hg, SqCell.up (w := wr) ⟨q0, q1, q2, q3⟩ h hg'⟩
        have hk0 := SK.out wr.drew (by exact below_same (Below.refl _ _) rfl rfl rfl rfl)
        clear hn hn' hI hj hj' p0 p1 p2 p3 q0 q1 q2 q3 hx hx'
        rcases e1 : decide (pl = pl') with _ | _
        · have P1 := Lib.hid e1
          clear e1
          go_wp2_with fail
          refine wp_region_E (S := fun w' => SqCell w' g (off + k * 4) (.slice Aj n cj) ⟨pl, lev, sos, eos⟩ ∧ SqCell w' g' (off' + k * 4) (.slice Aj' n' cj') ⟨pl', lev', sos', eos'⟩) [] (by kernel_rfl) (hk0) (fun hHeld hClosed => ?_)
          refine' wpAnyE_take (i := 0) (v := _) rfl (by kernel_rfl) (by kernel_rfl) (by kernel_rfl) (by kernel_rfl) (fun _ _ _ h => h) (Or.inl ⟨by rfl, fun u hu => ?_⟩) hHeld hClosed (fun hNext => ?_)
          rotate_left
          · (try dsimp only at hu)
            go_simp
            try with_reducible rfl
          clear hClosed
          have hClosed := hNext
          clear hNext
          try simp only [Act.put, List.getElem_toArray, List.getElem_cons_zero, List.setIfInBounds_toArray, List.set_cons_zero, List.set_cons_succ]
          refine' wpAnyE_take (i := 1) (v := _) rfl (by kernel_rfl) (by kernel_rfl) (by kernel_rfl) (by kernel_rfl) (fun _ _ _ h => h) (Or.inl ⟨by rfl, fun u hu => ?_⟩) hHeld hClosed (fun hNext => ?_)
          rotate_left
          · (try dsimp only at hu)
            go_simp
            try with_reducible rfl
          clear hClosed
          have hClosed := hNext
          clear hNext
          try simp only [Act.put, List.getElem_toArray, List.getElem_cons_zero, List.getElem_cons_succ, List.setIfInBounds_toArray, List.set_cons_zero, List.set_cons_succ]
          refine' wpAnyE_take (i := 2) (v := _) rfl (by kernel_rfl) (by kernel_rfl) (by kernel_rfl) (by kernel_rfl) (fun _ _ _ h => h) (Or.inl ⟨by rfl, fun u hu => ?_⟩) hHeld hClosed (fun hNext => ?_)
          rotate_left
          · (try dsimp only at hu)
            go_simp
            try with_reducible rfl
          clear hClosed
          have hClosed := hNext
          clear hNext
          try simp only [Act.put, List.getElem_toArray, List.getElem_cons_zero, List.getElem_cons_succ, List.setIfInBounds_toArray, List.set_cons_zero, List.set_cons_succ]
          refine' wpAnyE_take (i := 3) (v := _) rfl (by kernel_rfl) (by kernel_rfl) (by kernel_rfl) (by kernel_rfl) (fun _ _ _ h => h) (Or.inl ⟨by rfl, fun u hu => ?_⟩) hHeld hClosed (fun hNext => ?_)
          rotate_left
          · (try dsimp only at hu)
            go_simp
            try with_reducible rfl
          clear hClosed
          have hClosed := hNext
          clear hNext
          try simp only [Act.put, List.getElem_toArray, List.getElem_cons_zero, List.getElem_cons_succ, List.setIfInBounds_toArray, List.set_cons_zero, List.set_cons_succ]
          refine' wpAnyE_take (i := 4) (v := _) rfl (by kernel_rfl) (by kernel_rfl) (by kernel_rfl) (by kernel_rfl) (fun _ _ _ h => h) (Or.inl ⟨by rfl, fun u hu => ?_⟩) hHeld hClosed (fun hNext => ?_)
          rotate_left
          · (try dsimp only at hu)
            go_simp
            try with_reducible rfl
          clear hClosed
          have hClosed := hNext
          clear hNext
          try simp only [Act.put, List.getElem_toArray, List.getElem_cons_zero, List.getElem_cons_succ, List.setIfInBounds_toArray, List.set_cons_zero, List.set_cons_succ]
          refine' wpAnyE_take (i := 5) (v := _) rfl (by kernel_rfl) (by kernel_rfl) (by kernel_rfl) (by kernel_rfl) (fun _ _ _ h => h) (Or.inl ⟨by rfl, fun u hu => ?_⟩) hHeld hClosed (fun hNext => ?_)
          rotate_left
          · (try dsimp only at hu)
            go_simp
            try with_reducible rfl
          clear hClosed
          have hClosed := hNext
          clear hNext
          try simp only [Act.put, List.getElem_toArray, List.getElem_cons_zero, List.getElem_cons_succ, List.setIfInBounds_toArray, List.set_cons_zero, List.set_cons_succ]
          refine' wpAnyE_take (i := 6) (v := _) rfl (by kernel_rfl) (by kernel_rfl) (by kernel_rfl) (by kernel_rfl) (fun _ _ _ h => h) (Or.inl ⟨by rfl, fun u hu => ?_⟩) hHeld hClosed (fun hNext => ?_)
          rotate_left
          · (try dsimp only at hu)
            go_simp
            try with_reducible rfl
          clear hClosed
          have hClosed := hNext
          clear hNext
          try simp only [Act.put, List.getElem_toArray, List.getElem_cons_zero, List.getElem_cons_succ, List.setIfInBounds_toArray, List.set_cons_zero, List.set_cons_succ]
          refine' wpAnyE_take (i := 7) (v := _) rfl (by kernel_rfl) (by kernel_rfl) (by kernel_rfl) (by kernel_rfl) (fun _ _ _ h => h) (Or.inl ⟨by rfl, fun u hu => ?_⟩) hHeld hClosed (fun hNext => ?_)
          rotate_left
          · (try dsimp only at hu)
            go_simp
            try with_reducible rfl
          clear hClosed
          have hClosed := hNext
          clear hNext
          try simp only [Act.put, List.getElem_toArray, List.getElem_cons_zero, List.getElem_cons_succ, List.setIfInBounds_toArray, List.set_cons_zero, List.set_cons_succ]
          refine' wpAnyE_take (i := 8) (v := _) rfl (by kernel_rfl) (by kernel_rfl) (by kernel_rfl) (by kernel_rfl) (fun _ _ _ h => h) (Or.inl ⟨by rfl, fun u hu => ?_⟩) hHeld hClosed (fun hNext => ?_)
          rotate_left
          · (try dsimp only at hu)
            go_simp
            try with_reducible rfl
          clear hClosed
          have hClosed := hNext
          clear hNext
          try simp only [Act.put, List.getElem_toArray, List.getElem_cons_zero, List.getElem_cons_succ, List.setIfInBounds_toArray, List.set_cons_zero, List.set_cons_succ]
          refine' wpAnyE_take (i := 9) (v := _) rfl (by kernel_rfl) (by kernel_rfl) (by kernel_rfl) (by kernel_rfl) (fun _ _ _ h => h) (Or.inl ⟨by rfl, fun u hu => ?_⟩) hHeld hClosed (fun hNext => ?_)
          rotate_left
          · (try dsimp only at hu)
            go_simp
            try with_reducible rfl
          clear hClosed
          have hClosed := hNext
          clear hNext
          try simp only [Act.put, List.getElem_toArray, List.getElem_cons_zero, List.getElem_cons_succ, List.setIfInBounds_toArray, List.set_cons_zero, List.set_cons_succ]
          refine wpAnyE_ready (rs := [10]) (by kernel_rfl) (by simp) ?_
          refine AllReadyE.cons rfl (fun K hK => ?_) AllReadyE.nil
          all_goals simp only [List.getElem_toArray, List.getElem_cons_zero, List.getElem_cons_succ]
          all_goals go_simp
          refine HI.out.mono ?_
          rintro e w5 ⟨rfl, b5⟩
          rw [P1.out]
          have B5 := Lib.hid (show Below wr.heap.size wr w5 from ⟨b5.os, b5.tape, b5.output, b5.size, b5.block⟩)
          clear b5
          refine hK.out _ _ (fun _ => SK.out _ B5.out) (fun hHeld => ?_) (fun hX => (by first | cases hX | simp at hX))
          replace hClosed := hClosed.step 10 (by kernel_rfl)
          clear hK K
          try simp only [Act.put, List.getElem_toArray, List.getElem_cons_zero, List.getElem_cons_succ, List.setIfInBounds_toArray, List.set_cons_zero, List.set_cons_succ]
          refine' wpAnyE_take (i := 11) (v := _) rfl (by kernel_rfl) (by kernel_rfl) (by kernel_rfl) (by kernel_rfl) (fun _ _ _ h => h) (Or.inl ⟨by rfl, fun u hu => ?_⟩) hHeld hClosed (fun hNext => ?_)
          rotate_left
          · (try dsimp only at hu)
            go_simp
            try with_reducible rfl
          clear hClosed
          have hClosed := hNext
          clear hNext
          try simp only [Act.put, List.getElem_toArray, List.getElem_cons_zero, List.getElem_cons_succ, List.setIfInBounds_toArray, List.set_cons_zero, List.set_cons_succ]
          refine' wpAnyE_take (i := 12) (v := _) rfl (by kernel_rfl) (by kernel_rfl) (by kernel_rfl) (by kernel_rfl) (fun _ _ _ h => h) (Or.inl ⟨by rfl, fun u hu => ?_⟩) hHeld hClosed (fun hNext => ?_)
          rotate_left
          · (try dsimp only at hu)
            go_simp
            try with_reducible rfl
          clear hClosed
          have hClosed := hNext
          clear hNext
          try simp only [Act.put, List.getElem_toArray, List.getElem_cons_zero, List.getElem_cons_succ, List.setIfInBounds_toArray, List.set_cons_zero, List.set_cons_succ]
          refine' wpAnyE_take (i := 13) (v := _) rfl (by kernel_rfl) (by kernel_rfl) (by kernel_rfl) (by kernel_rfl) (fun _ _ _ h => h) (Or.inr ⟨by rfl, rfl⟩) hHeld hClosed (fun hNext => ?_)
          clear hClosed
          have hClosed := hNext
          clear hNext
          try simp only [Act.put, List.getElem_toArray, List.getElem_cons_zero, List.getElem_cons_succ, List.setIfInBounds_toArray, List.set_cons_zero, List.set_cons_succ]
          refine' wpAnyE_take (i := 14) (v := _) rfl (by kernel_rfl) (by kernel_rfl) (by kernel_rfl) (by kernel_rfl) (fun _ _ _ h => h) (Or.inr ⟨by rfl, rfl⟩) hHeld hClosed (fun hNext => ?_)
          clear hClosed
          have hClosed := hNext
          clear hNext
          try simp only [Act.put, List.getElem_toArray, List.getElem_cons_zero, List.getElem_cons_succ, List.setIfInBounds_toArray, List.set_cons_zero, List.set_cons_succ]
          refine' wpAnyE_take (i := 15) (v := _) rfl (by kernel_rfl) (by kernel_rfl) (by kernel_rfl) (by kernel_rfl) (fun _ _ _ h => h) (Or.inr ⟨by rfl, rfl⟩) hHeld hClosed (fun hNext => ?_)
          clear hClosed
          have hClosed := hNext
          clear hNext
          try simp only [Act.put, List.getElem_toArray, List.getElem_cons_zero, List.getElem_cons_succ, List.setIfInBounds_toArray, List.set_cons_zero, List.set_cons_succ]
          refine' wpAnyE_take (i := 16) (v := _) rfl (by kernel_rfl) (by kernel_rfl) (by kernel_rfl) (by kernel_rfl) (fun _ _ _ h => h) (Or.inr ⟨by rfl, rfl⟩) hHeld hClosed (fun hNext => ?_)
          clear hClosed
          have hClosed := hNext
          clear hNext
          try simp only [Act.put, List.getElem_toArray, List.getElem_cons_zero, List.getElem_cons_succ, List.setIfInBounds_toArray, List.set_cons_zero, List.set_cons_succ]
          refine' wpAnyE_take (i := 17) (v := _) rfl (by kernel_rfl) (by kernel_rfl) (by kernel_rfl) (by kernel_rfl) (fun _ _ _ h => h) (Or.inr ⟨by rfl, rfl⟩) hHeld hClosed (fun hNext => ?_)
          clear hClosed
          have hClosed := hNext
          clear hNext
          try simp only [Act.put, List.getElem_toArray, List.getElem_cons_zero, List.getElem_cons_succ, List.setIfInBounds_toArray, List.set_cons_zero, List.set_cons_succ]
          refine' wpAnyE_take (i := 18) (v := _) rfl (by kernel_rfl) (by kernel_rfl) (by kernel_rfl) (by kernel_rfl) (fun _ _ _ h => h) (Or.inr ⟨by rfl, rfl⟩) hHeld hClosed (fun hNext => ?_)
          clear hClosed
          have hClosed := hNext
          clear hNext
          try simp only [Act.put, List.getElem_toArray, List.getElem_cons_zero, List.getElem_cons_succ, List.setIfInBounds_toArray, List.set_cons_zero, List.set_cons_succ]
          refine' wpAnyE_take (i := 19) (v := _) rfl (by kernel_rfl) (by kernel_rfl) (by kernel_rfl) (by kernel_rfl) (fun _ _ _ h => h) (Or.inr ⟨by rfl, rfl⟩) hHeld hClosed (fun hNext => ?_)
          clear hClosed
          have hClosed := hNext
          clear hNext
          try simp only [Act.put, List.getElem_toArray, List.getElem_cons_zero, List.getElem_cons_succ, List.setIfInBounds_toArray, List.set_cons_zero, List.set_cons_succ]
          refine' wpAnyE_take (i := 20) (v := _) rfl (by kernel_rfl) (by kernel_rfl) (by kernel_rfl) (by kernel_rfl) (fun _ _ _ h => h) (Or.inr ⟨by rfl, rfl⟩) hHeld hClosed (fun hNext => ?_)
          clear hClosed
          have hClosed := hNext
          clear hNext
          try simp only [Act.put, List.getElem_toArray, List.getElem_cons_zero, List.getElem_cons_succ, List.setIfInBounds_toArray, List.set_cons_zero, List.set_cons_succ]
          refine' wpAnyE_take (i := 21) (v := _) rfl (by kernel_rfl) (by kernel_rfl) (by kernel_rfl) (by kernel_rfl) (fun _ _ _ h => h) (Or.inr ⟨by rfl, rfl⟩) hHeld hClosed (fun hNext => ?_)
          clear hClosed
          have hClosed := hNext
          clear hNext
          try simp only [Act.put, List.getElem_toArray, List.getElem_cons_zero, List.getElem_cons_succ, List.setIfInBounds_toArray, List.set_cons_zero, List.set_cons_succ]
          refine' wpAnyE_take (i := 22) (v := _) rfl (by kernel_rfl) (by kernel_rfl) (by kernel_rfl) (by kernel_rfl) (fun _ _ _ h => h) (Or.inr ⟨by rfl, rfl⟩) hHeld hClosed (fun hNext => ?_)
          clear hClosed
          have hClosed := hNext
          clear hNext
          try simp only [Act.put, List.getElem_toArray, List.getElem_cons_zero, List.getElem_cons_succ, List.setIfInBounds_toArray, List.set_cons_zero, List.set_cons_succ]
          refine' wpAnyE_take (i := 23) (v := _) rfl (by kernel_rfl) (by kernel_rfl) (by kernel_rfl) (by kernel_rfl) (fun _ _ _ h => h) (Or.inr ⟨by rfl, rfl⟩) hHeld hClosed (fun hNext => ?_)
          clear hClosed
          have hClosed := hNext
          clear hNext
          try simp only [Act.put, List.getElem_toArray, List.getElem_cons_zero, List.getElem_cons_succ, List.setIfInBounds_toArray, List.set_cons_zero, List.set_cons_succ]
          refine' wpAnyE_take (i := 24) (v := _) rfl (by kernel_rfl) (by kernel_rfl) (by kernel_rfl) (by kernel_rfl) (fun _ _ _ h => h) (Or.inl ⟨by rfl, fun u hu => ?_⟩) hHeld hClosed (fun hNext => ?_)
          rotate_left
          · (try dsimp only at hu)
            go_simp
            try with_reducible rfl
          clear hClosed
          have hClosed := hNext
          clear hNext
          try simp only [Act.put, List.getElem_toArray, List.getElem_cons_zero, List.getElem_cons_succ, List.setIfInBounds_toArray, List.set_cons_zero, List.set_cons_succ]
          refine' wpAnyE_take (i := 25) (v := _) rfl (by kernel_rfl) (by kernel_rfl) (by kernel_rfl) (by kernel_rfl) (fun _ _ _ h => h) (Or.inl ⟨by rfl, fun u hu => ?_⟩) hHeld hClosed (fun hNext => ?_)
          rotate_left
          · (try dsimp only at hu)
            go_simp
            try with_reducible rfl
          clear hClosed
          have hClosed := hNext
          clear hNext
          try simp only [Act.put, List.getElem_toArray, List.getElem_cons_zero, List.getElem_cons_succ, List.setIfInBounds_toArray, List.set_cons_zero, List.set_cons_succ]
          refine' wpAnyE_take (i := 26) (v := _) rfl (by kernel_rfl) (by kernel_rfl) (by kernel_rfl) (by kernel_rfl) (fun _ _ _ h => h) (Or.inr ⟨by rfl, rfl⟩) hHeld hClosed (fun hNext => ?_)
          clear hClosed
          have hClosed := hNext
          clear hNext
          try simp only [Act.put, List.getElem_toArray, List.getElem_cons_zero, List.getElem_cons_succ, List.setIfInBounds_toArray, List.set_cons_zero, List.set_cons_succ]
          refine' wpAnyE_take (i := 27) (v := _) rfl (by kernel_rfl) (by kernel_rfl) (by kernel_rfl) (by kernel_rfl) (fun _ _ _ h => h) (Or.inr ⟨by rfl, rfl⟩) hHeld hClosed (fun hNext => ?_)
          clear hClosed
          have hClosed := hNext
          clear hNext
          try simp only [Act.put, List.getElem_toArray, List.getElem_cons_zero, List.getElem_cons_succ, List.setIfInBounds_toArray, List.set_cons_zero, List.set_cons_succ]
          refine' wpAnyE_take (i := 28) (v := _) rfl (by kernel_rfl) (by kernel_rfl) (by kernel_rfl) (by kernel_rfl) (fun _ _ _ h => h) (Or.inr ⟨by rfl, rfl⟩) hHeld hClosed (fun hNext => ?_)
          clear hClosed
          have hClosed := hNext
          clear hNext
          try simp only [Act.put, List.getElem_toArray, List.getElem_cons_zero, List.getElem_cons_succ, List.setIfInBounds_toArray, List.set_cons_zero, List.set_cons_succ]
          refine' wpAnyE_take (i := 29) (v := _) rfl (by kernel_rfl) (by kernel_rfl) (by kernel_rfl) (by kernel_rfl) (fun _ _ _ h => h) (Or.inr ⟨by rfl, rfl⟩) hHeld hClosed (fun hNext => ?_)
          clear hClosed
          have hClosed := hNext
          clear hNext
          try simp only [Act.put, List.getElem_toArray, List.getElem_cons_zero, List.getElem_cons_succ, List.setIfInBounds_toArray, List.set_cons_zero, List.set_cons_succ]
          refine' wpAnyE_take (i := 30) (v := _) rfl (by kernel_rfl) (by kernel_rfl) (by kernel_rfl) (by kernel_rfl) (fun _ _ _ h => h) (Or.inr ⟨by rfl, rfl⟩) hHeld hClosed (fun hNext => ?_)
          clear hClosed
          have hClosed := hNext
          clear hNext
          try simp only [Act.put, List.getElem_toArray, List.getElem_cons_zero, List.getElem_cons_succ, List.setIfInBounds_toArray, List.set_cons_zero, List.set_cons_succ]
          refine' wpAnyE_take (i := 31) (v := _) rfl (by kernel_rfl) (by kernel_rfl) (by kernel_rfl) (by kernel_rfl) (fun _ _ _ h => h) (Or.inr ⟨by rfl, rfl⟩) hHeld hClosed (fun hNext => ?_)
          clear hClosed
          have hClosed := hNext
          clear hNext
          try simp only [Act.put, List.getElem_toArray, List.getElem_cons_zero, List.getElem_cons_succ, List.setIfInBounds_toArray, List.set_cons_zero, List.set_cons_succ]
          refine' wpAnyE_take (i := 32) (v := _) rfl (by kernel_rfl) (by kernel_rfl) (by kernel_rfl) (by kernel_rfl) (fun _ _ _ h => h) (Or.inr ⟨by rfl, rfl⟩) hHeld hClosed (fun hNext => ?_)
          clear hClosed
          have hClosed := hNext
          clear hNext
          try simp only [Act.put, List.getElem_toArray, List.getElem_cons_zero, List.getElem_cons_succ, List.setIfInBounds_toArray, List.set_cons_zero, List.set_cons_succ]
          refine' wpAnyE_take (i := 33) (v := _) rfl (by kernel_rfl) (by kernel_rfl) (by kernel_rfl) (by kernel_rfl) (fun _ _ _ h => h) (Or.inr ⟨by rfl, rfl⟩) hHeld hClosed (fun hNext => ?_)
          clear hClosed
          have hClosed := hNext
          clear hNext
          try simp only [Act.put, List.getElem_toArray, List.getElem_cons_zero, List.getElem_cons_succ, List.setIfInBounds_toArray, List.set_cons_zero, List.set_cons_succ]
          refine' wpAnyE_take (i := 34) (v := _) rfl (by kernel_rfl) (by kernel_rfl) (by kernel_rfl) (by kernel_rfl) (fun _ _ _ h => h) (Or.inr ⟨by rfl, rfl⟩) hHeld hClosed (fun hNext => ?_)
          clear hClosed
          have hClosed := hNext
          clear hNext
          try simp only [Act.put, List.getElem_toArray, List.getElem_cons_zero, List.getElem_cons_succ, List.setIfInBounds_toArray, List.set_cons_zero, List.set_cons_succ]
          refine' wpAnyE_take (i := 35) (v := _) rfl (by kernel_rfl) (by kernel_rfl) (by kernel_rfl) (by kernel_rfl) (fun _ _ _ h => h) (Or.inr ⟨by rfl, rfl⟩) hHeld hClosed (fun hNext => ?_)
          clear hClosed
          have hClosed := hNext
          clear hNext
          try simp only [Act.put, List.getElem_toArray, List.getElem_cons_zero, List.getElem_cons_succ, List.setIfInBounds_toArray, List.set_cons_zero, List.set_cons_succ]
          refine' wpAnyE_take (i := 36) (v := _) rfl (by kernel_rfl) (by kernel_rfl) (by kernel_rfl) (by kernel_rfl) (fun _ _ _ h => h) (Or.inr ⟨by rfl, rfl⟩) hHeld hClosed (fun hNext => ?_)
          clear hClosed
          have hClosed := hNext
          clear hNext
          try simp only [Act.put, List.getElem_toArray, List.getElem_cons_zero, List.getElem_cons_succ, List.setIfInBounds_toArray, List.set_cons_zero, List.set_cons_succ]
          refine' wpAnyE_take (i := 37) (v := _) rfl (by kernel_rfl) (by kernel_rfl) (by kernel_rfl) (by kernel_rfl) (fun _ _ _ h => h) (Or.inl ⟨by rfl, fun u hu => ?_⟩) hHeld hClosed (fun hNext => ?_)
          rotate_left
          · (try dsimp only at hu)
            go_simp
            try with_reducible rfl
          clear hClosed
          have hClosed := hNext
          clear hNext
          try simp only [Act.put, List.getElem_toArray, List.getElem_cons_zero, List.getElem_cons_succ, List.setIfInBounds_toArray, List.set_cons_zero, List.set_cons_succ]
          refine' wpAnyE_take (i := 38) (v := _) rfl (by kernel_rfl) (by kernel_rfl) (by kernel_rfl) (by kernel_rfl) (fun _ _ _ h => h) (Or.inl ⟨by rfl, fun u hu => ?_⟩) hHeld hClosed (fun hNext => ?_)
          rotate_left
          · (try dsimp only at hu)
            go_simp
            try with_reducible rfl
          clear hClosed
          have hClosed := hNext
          clear hNext
          try simp only [Act.put, List.getElem_toArray, List.getElem_cons_zero, List.getElem_cons_succ, List.setIfInBounds_toArray, List.set_cons_zero, List.set_cons_succ]
          refine' wpAnyE_take (i := 39) (v := _) rfl (by kernel_rfl) (by kernel_rfl) (by kernel_rfl) (by kernel_rfl) (fun _ _ _ h => h) (Or.inr ⟨by rfl, rfl⟩) hHeld hClosed (fun hNext => ?_)
          clear hClosed
          have hClosed := hNext
          clear hNext
          try simp only [Act.put, List.getElem_toArray, List.getElem_cons_zero, List.getElem_cons_succ, List.setIfInBounds_toArray, List.set_cons_zero, List.set_cons_succ]
          refine' wpAnyE_take (i := 40) (v := _) rfl (by kernel_rfl) (by kernel_rfl) (by kernel_rfl) (by kernel_rfl) (fun _ _ _ h => h) (Or.inr ⟨by rfl, rfl⟩) hHeld hClosed (fun hNext => ?_)
          clear hClosed
          have hClosed := hNext
          clear hNext
          try simp only [Act.put, List.getElem_toArray, List.getElem_cons_zero, List.getElem_cons_succ, List.setIfInBounds_toArray, List.set_cons_zero, List.set_cons_succ]
          refine' wpAnyE_take (i := 41) (v := _) rfl (by kernel_rfl) (by kernel_rfl) (by kernel_rfl) (by kernel_rfl) (fun _ _ _ h => h) (Or.inr ⟨by rfl, rfl⟩) hHeld hClosed (fun hNext => ?_)
          clear hClosed
          have hClosed := hNext
          clear hNext
          try simp only [Act.put, List.getElem_toArray, List.getElem_cons_zero, List.getElem_cons_succ, List.setIfInBounds_toArray, List.set_cons_zero, List.set_cons_succ]
          refine' wpAnyE_take (i := 42) (v := _) rfl (by kernel_rfl) (by kernel_rfl) (by kernel_rfl) (by kernel_rfl) (fun _ _ _ h => h) (Or.inr ⟨by rfl, rfl⟩) hHeld hClosed (fun hNext => ?_)
          clear hClosed
          have hClosed := hNext
          clear hNext
          try simp only [Act.put, List.getElem_toArray, List.getElem_cons_zero, List.getElem_cons_succ, List.setIfInBounds_toArray, List.set_cons_zero, List.set_cons_succ]
          refine' wpAnyE_take (i := 43) (v := _) rfl (by kernel_rfl) (by kernel_rfl) (by kernel_rfl) (by kernel_rfl) (fun _ _ _ h => h) (Or.inr ⟨by rfl, rfl⟩) hHeld hClosed (fun hNext => ?_)
          clear hClosed
          have hClosed := hNext
          clear hNext
          try simp only [Act.put, List.getElem_toArray, List.getElem_cons_zero, List.getElem_cons_succ, List.setIfInBounds_toArray, List.set_cons_zero, List.set_cons_succ]
          refine' wpAnyE_take (i := 44) (v := _) rfl (by kernel_rfl) (by kernel_rfl) (by kernel_rfl) (by kernel_rfl) (fun _ _ _ h => h) (Or.inr ⟨by rfl, rfl⟩) hHeld hClosed (fun hNext => ?_)
          clear hClosed
          have hClosed := hNext
          clear hNext
          try simp only [Act.put, List.getElem_toArray, List.getElem_cons_zero, List.getElem_cons_succ, List.setIfInBounds_toArray, List.set_cons_zero, List.set_cons_succ]
          refine' wpAnyE_take (i := 45) (v := _) rfl (by kernel_rfl) (by kernel_rfl) (by kernel_rfl) (by kernel_rfl) (fun _ _ _ h => h) (Or.inr ⟨by rfl, rfl⟩) hHeld hClosed (fun hNext => ?_)
          clear hClosed
          have hClosed := hNext
          clear hNext
          try simp only [Act.put, List.getElem_toArray, List.getElem_cons_zero, List.getElem_cons_succ, List.setIfInBounds_toArray, List.set_cons_zero, List.set_cons_succ]
          refine' wpAnyE_take (i := 46) (v := _) rfl (by kernel_rfl) (by kernel_rfl) (by kernel_rfl) (by kernel_rfl) (fun _ _ _ h => h) (Or.inr ⟨by rfl, rfl⟩) hHeld hClosed (fun hNext => ?_)
          clear hClosed
          have hClosed := hNext
          clear hNext
          try simp only [Act.put, List.getElem_toArray, List.getElem_cons_zero, List.getElem_cons_succ, List.setIfInBounds_toArray, List.set_cons_zero, List.set_cons_succ]
          refine' wpAnyE_take (i := 47) (v := _) rfl (by kernel_rfl) (by kernel_rfl) (by kernel_rfl) (by kernel_rfl) (fun _ _ _ h => h) (Or.inr ⟨by rfl, rfl⟩) hHeld hClosed (fun hNext => ?_)
          clear hClosed
          have hClosed := hNext
          clear hNext
          try simp only [Act.put, List.getElem_toArray, List.getElem_cons_zero, List.getElem_cons_succ, List.setIfInBounds_toArray, List.set_cons_zero, List.set_cons_succ]
          refine' wpAnyE_take (i := 48) (v := _) rfl (by kernel_rfl) (by kernel_rfl) (by kernel_rfl) (by kernel_rfl) (fun _ _ _ h => h) (Or.inr ⟨by rfl, rfl⟩) hHeld hClosed (fun hNext => ?_)
          clear hClosed
          have hClosed := hNext
          clear hNext
          try simp only [Act.put, List.getElem_toArray, List.getElem_cons_zero, List.getElem_cons_succ, List.setIfInBounds_toArray, List.set_cons_zero, List.set_cons_succ]
          refine' wpAnyE_take (i := 49) (v := _) rfl (by kernel_rfl) (by kernel_rfl) (by kernel_rfl) (by kernel_rfl) (fun _ _ _ h => h) (Or.inr ⟨by rfl, rfl⟩) hHeld hClosed (fun hNext => ?_)
          clear hClosed
          have hClosed := hNext
          clear hNext
          try simp only [Act.put, List.getElem_toArray, List.getElem_cons_zero, List.getElem_cons_succ, List.setIfInBounds_toArray, List.set_cons_zero, List.set_cons_succ]
          refine' wpAnyE_take (i := 50) (v := _) rfl (by kernel_rfl) (by kernel_rfl) (by kernel_rfl) (by kernel_rfl) (fun _ _ _ h => h) (Or.inl ⟨by rfl, fun u hu => ?_⟩) hHeld hClosed (fun hNext => ?_)
          rotate_left
          · (try dsimp only at hu)
            go_simp
            try with_reducible rfl
          clear hClosed
          have hClosed := hNext
          clear hNext
          try simp only [Act.put, List.getElem_toArray, List.getElem_cons_zero, List.getElem_cons_succ, List.setIfInBounds_toArray, List.set_cons_zero, List.set_cons_succ]
          refine wpAnyE_done (by kernel_rfl) ?_ _
          clear hClosed
          go_wp2_with fail
          go_ret
          exact ⟨ret_bool (by
            rw [eq_comm, decide_eq_false_iff_not]
            intro e
            have h1 := XS.out.1
            have h2 := XS.out.2
            subst e
            rw [h1] at h2
            injection h2 with h2 h3 h4 h5
            have := P1.out; simp [h2] at this), HB.out.trans (B5.out.mono HB.out.size)⟩

        · have P1 := Lib.hid e1
          clear e1
          rcases e2 : (lev != lev') with _ | _
          · rcases e3 : (sos != sos') with _ | _
            · rcases e4 : (eos != eos') with _ | _
              · have TT := trivial
                go_wp2_with fail
                refine wp_region_E (S := fun w' => SqCell w' g (off + k * 4) (.slice Aj n cj) ⟨pl, lev, sos, eos⟩ ∧ SqCell w' g' (off' + k * 4) (.slice Aj' n' cj') ⟨pl', lev', sos', eos'⟩) [] (by kernel_rfl) (hk0) (fun hHeld hClosed => ?_)
                refine' wpAnyE_take (i := 0) (v := _) rfl (by kernel_rfl) (by kernel_rfl) (by kernel_rfl) (by kernel_rfl) (fun _ _ _ h => h) (Or.inl ⟨by rfl, fun u hu => ?_⟩) hHeld hClosed (fun hNext => ?_)
                rotate_left
                · (try dsimp only at hu)
                  go_simp
                  try with_reducible rfl
                clear hClosed
                have hClosed := hNext
                clear hNext
                try simp only [Act.put, List.getElem_toArray, List.getElem_cons_zero, List.setIfInBounds_toArray, List.set_cons_zero, List.set_cons_succ]
                refine' wpAnyE_take (i := 1) (v := _) rfl (by kernel_rfl) (by kernel_rfl) (by kernel_rfl) (by kernel_rfl) (fun _ _ _ h => h) (Or.inl ⟨by rfl, fun u hu => ?_⟩) hHeld hClosed (fun hNext => ?_)
                rotate_left
                · (try dsimp only at hu)
                  go_simp
                  try with_reducible rfl
                clear hClosed
                have hClosed := hNext
                clear hNext
                try simp only [Act.put, List.getElem_toArray, List.getElem_cons_zero, List.getElem_cons_succ, List.setIfInBounds_toArray, List.set_cons_zero, List.set_cons_succ]
                refine' wpAnyE_take (i := 2) (v := _) rfl (by kernel_rfl) (by kernel_rfl) (by kernel_rfl) (by kernel_rfl) (fun _ _ _ h => h) (Or.inl ⟨by rfl, fun u hu => ?_⟩) hHeld hClosed (fun hNext => ?_)
                rotate_left
                · (try dsimp only at hu)
                  go_simp
                  try with_reducible rfl
                clear hClosed
                have hClosed := hNext
                clear hNext
                try simp only [Act.put, List.getElem_toArray, List.getElem_cons_zero, List.getElem_cons_succ, List.setIfInBounds_toArray, List.set_cons_zero, List.set_cons_succ]
                refine' wpAnyE_take (i := 3) (v := _) rfl (by kernel_rfl) (by kernel_rfl) (by kernel_rfl) (by kernel_rfl) (fun _ _ _ h => h) (Or.inl ⟨by rfl, fun u hu => ?_⟩) hHeld hClosed (fun hNext => ?_)
                rotate_left
                · (try dsimp only at hu)
                  go_simp
                  try with_reducible rfl
                clear hClosed
                have hClosed := hNext
                clear hNext
                try simp only [Act.put, List.getElem_toArray, List.getElem_cons_zero, List.getElem_cons_succ, List.setIfInBounds_toArray, List.set_cons_zero, List.set_cons_succ]
                refine' wpAnyE_take (i := 4) (v := _) rfl (by kernel_rfl) (by kernel_rfl) (by kernel_rfl) (by kernel_rfl) (fun _ _ _ h => h) (Or.inl ⟨by rfl, fun u hu => ?_⟩) hHeld hClosed (fun hNext => ?_)
                rotate_left
                · (try dsimp only at hu)
                  go_simp
                  try with_reducible rfl
                clear hClosed
                have hClosed := hNext
                clear hNext
                try simp only [Act.put, List.getElem_toArray, List.getElem_cons_zero, List.getElem_cons_succ, List.setIfInBounds_toArray, List.set_cons_zero, List.set_cons_succ]
                refine' wpAnyE_take (i := 5) (v := _) rfl (by kernel_rfl) (by kernel_rfl) (by kernel_rfl) (by kernel_rfl) (fun _ _ _ h => h) (Or.inl ⟨by rfl, fun u hu => ?_⟩) hHeld hClosed (fun hNext => ?_)
                rotate_left
                · (try dsimp only at hu)
                  go_simp
                  try with_reducible rfl
                clear hClosed
                have hClosed := hNext
                clear hNext
                try simp only [Act.put, List.getElem_toArray, List.getElem_cons_zero, List.getElem_cons_succ, List.setIfInBounds_toArray, List.set_cons_zero, List.set_cons_succ]
                refine' wpAnyE_take (i := 6) (v := _) rfl (by kernel_rfl) (by kernel_rfl) (by kernel_rfl) (by kernel_rfl) (fun _ _ _ h => h) (Or.inl ⟨by rfl, fun u hu => ?_⟩) hHeld hClosed (fun hNext => ?_)
                rotate_left
                · (try dsimp only at hu)
                  go_simp
                  try with_reducible rfl
                clear hClosed
                have hClosed := hNext
                clear hNext
                try simp only [Act.put, List.getElem_toArray, List.getElem_cons_zero, List.getElem_cons_succ, List.setIfInBounds_toArray, List.set_cons_zero, List.set_cons_succ]
                refine' wpAnyE_take (i := 7) (v := _) rfl (by kernel_rfl) (by kernel_rfl) (by kernel_rfl) (by kernel_rfl) (fun _ _ _ h => h) (Or.inl ⟨by rfl, fun u hu => ?_⟩) hHeld hClosed (fun hNext => ?_)
                rotate_left
                · (try dsimp only at hu)
                  go_simp
                  try with_reducible rfl
                clear hClosed
                have hClosed := hNext
                clear hNext
                try simp only [Act.put, List.getElem_toArray, List.getElem_cons_zero, List.getElem_cons_succ, List.setIfInBounds_toArray, List.set_cons_zero, List.set_cons_succ]
                refine' wpAnyE_take (i := 8) (v := _) rfl (by kernel_rfl) (by kernel_rfl) (by kernel_rfl) (by kernel_rfl) (fun _ _ _ h => h) (Or.inl ⟨by rfl, fun u hu => ?_⟩) hHeld hClosed (fun hNext => ?_)
                rotate_left
                · (try dsimp only at hu)
                  go_simp
                  try with_reducible rfl
                clear hClosed
                have hClosed := hNext
                clear hNext
                try simp only [Act.put, List.getElem_toArray, List.getElem_cons_zero, List.getElem_cons_succ, List.setIfInBounds_toArray, List.set_cons_zero, List.set_cons_succ]
                refine' wpAnyE_take (i := 9) (v := _) rfl (by kernel_rfl) (by kernel_rfl) (by kernel_rfl) (by kernel_rfl) (fun _ _ _ h => h) (Or.inl ⟨by rfl, fun u hu => ?_⟩) hHeld hClosed (fun hNext => ?_)
                rotate_left
                · (try dsimp only at hu)
                  go_simp
                  try with_reducible rfl
                clear hClosed
                have hClosed := hNext
                clear hNext
                try simp only [Act.put, List.getElem_toArray, List.getElem_cons_zero, List.getElem_cons_succ, List.setIfInBounds_toArray, List.set_cons_zero, List.set_cons_succ]
                refine wpAnyE_ready (rs := [10]) (by kernel_rfl) (by simp) ?_
                refine AllReadyE.cons rfl (fun K hK => ?_) AllReadyE.nil
                all_goals simp only [List.getElem_toArray, List.getElem_cons_zero, List.getElem_cons_succ]
                all_goals go_simp
                refine HI.out.mono ?_
                rintro e w5 ⟨rfl, b5⟩
                rw [P1.out]
                have B5 := Lib.hid (show Below wr.heap.size wr w5 from ⟨b5.os, b5.tape, b5.output, b5.size, b5.block⟩)
                clear b5
                refine hK.out _ _ (fun _ => SK.out _ B5.out) (fun hHeld => ?_) (fun hX => (by first | cases hX | simp at hX))
                replace hClosed := hClosed.step 10 (by kernel_rfl)
                clear hK K
                try simp only [Act.put, List.getElem_toArray, List.getElem_cons_zero, List.getElem_cons_succ, List.setIfInBounds_toArray, List.set_cons_zero, List.set_cons_succ]
                refine' wpAnyE_take (i := 11) (v := _) rfl (by kernel_rfl) (by kernel_rfl) (by kernel_rfl) (by kernel_rfl) (fun _ _ _ h => h) (Or.inl ⟨by rfl, fun u hu => ?_⟩) hHeld hClosed (fun hNext => ?_)
                rotate_left
                · (try dsimp only at hu)
                  go_simp
                  try with_reducible rfl
                clear hClosed
                have hClosed := hNext
                clear hNext
                try simp only [Act.put, List.getElem_toArray, List.getElem_cons_zero, List.getElem_cons_succ, List.setIfInBounds_toArray, List.set_cons_zero, List.set_cons_succ]
                refine' wpAnyE_take (i := 12) (v := _) rfl (by kernel_rfl) (by kernel_rfl) (by kernel_rfl) (by kernel_rfl) (fun _ _ _ h => h) (Or.inl ⟨by rfl, fun u hu => ?_⟩) hHeld hClosed (fun hNext => ?_)
                rotate_left
                · (try dsimp only at hu)
                  go_simp
                  try with_reducible rfl
                clear hClosed
                have hClosed := hNext
                clear hNext
                try simp only [Act.put, List.getElem_toArray, List.getElem_cons_zero, List.getElem_cons_succ, List.setIfInBounds_toArray, List.set_cons_zero, List.set_cons_succ]
                refine' wpAnyE_take (i := 13) (v := _) rfl (by kernel_rfl) (by kernel_rfl) (by kernel_rfl) (by kernel_rfl) (fun _ _ _ h => h) (Or.inl ⟨by rfl, fun u hu => ?_⟩) hHeld hClosed (fun hNext => ?_)
                rotate_left
                · (try dsimp only at hu)
                  go_simp
                  try with_reducible rfl
                clear hClosed
                have hClosed := hNext
                clear hNext
                try simp only [Act.put, List.getElem_toArray, List.getElem_cons_zero, List.getElem_cons_succ, List.setIfInBounds_toArray, List.set_cons_zero, List.set_cons_succ]
                refine' wpAnyE_take (i := 14) (v := _) rfl (by kernel_rfl) (by kernel_rfl) (by kernel_rfl) (by kernel_rfl) (fun _ _ _ h => h) (Or.inl ⟨by rfl, fun u hu => ?_⟩) hHeld hClosed (fun hNext => ?_)
                rotate_left
                · (try dsimp only at hu)
                  go_simp
                  try with_reducible rfl
                clear hClosed
                have hClosed := hNext
                clear hNext
                try simp only [Act.put, List.getElem_toArray, List.getElem_cons_zero, List.getElem_cons_succ, List.setIfInBounds_toArray, List.set_cons_zero, List.set_cons_succ]
                refine' wpAnyE_take (i := 15) (v := _) rfl (by kernel_rfl) (by kernel_rfl) (by kernel_rfl) (by kernel_rfl) (fun _ _ _ h => h) (Or.inl ⟨by rfl, fun u hu => ?_⟩) hHeld hClosed (fun hNext => ?_)
                rotate_left
                · (try dsimp only at hu)
                  go_simp
                  try with_reducible rfl
                clear hClosed
                have hClosed := hNext
                clear hNext
                try simp only [Act.put, List.getElem_toArray, List.getElem_cons_zero, List.getElem_cons_succ, List.setIfInBounds_toArray, List.set_cons_zero, List.set_cons_succ]
                refine' wpAnyE_take (i := 16) (v := _) rfl (by kernel_rfl) (by kernel_rfl) (by kernel_rfl) (by kernel_rfl) (fun _ _ _ h => h) (Or.inl ⟨by rfl, fun u hu => ?_⟩) hHeld hClosed (fun hNext => ?_)
                rotate_left
                · (try dsimp only at hu)
                  go_simp
                  try with_reducible rfl
                clear hClosed
                have hClosed := hNext
                clear hNext
                try simp only [Act.put, List.getElem_toArray, List.getElem_cons_zero, List.getElem_cons_succ, List.setIfInBounds_toArray, List.set_cons_zero, List.set_cons_succ]
                refine' wpAnyE_take (i := 17) (v := _) rfl (by kernel_rfl) (by kernel_rfl) (by kernel_rfl) (by kernel_rfl) (fun _ _ _ h => h) (Or.inl ⟨by rfl, fun u hu => ?_⟩) hHeld hClosed (fun hNext => ?_)
                rotate_left
                · (try dsimp only at hu)
                  go_simp
                  try with_reducible rfl
                clear hClosed
                have hClosed := hNext
                clear hNext
                try simp only [Act.put, List.getElem_toArray, List.getElem_cons_zero, List.getElem_cons_succ, List.setIfInBounds_toArray, List.set_cons_zero, List.set_cons_succ]
                refine' wpAnyE_take (i := 18) (v := _) rfl (by kernel_rfl) (by kernel_rfl) (by kernel_rfl) (by kernel_rfl) (fun _ _ _ h => h) (Or.inl ⟨by rfl, fun u hu => ?_⟩) hHeld hClosed (fun hNext => ?_)
                rotate_left
                · (try dsimp only at hu)
                  go_simp
                  try with_reducible rfl
                clear hClosed
                have hClosed := hNext
                clear hNext
                try simp only [Act.put, List.getElem_toArray, List.getElem_cons_zero, List.getElem_cons_succ, List.setIfInBounds_toArray, List.set_cons_zero, List.set_cons_succ]
                refine' wpAnyE_take (i := 19) (v := _) rfl (by kernel_rfl) (by kernel_rfl) (by kernel_rfl) (by kernel_rfl) (fun _ _ _ h => h) (Or.inl ⟨by rfl, fun u hu => ?_⟩) hHeld hClosed (fun hNext => ?_)
                rotate_left
                · (try dsimp only at hu)
                  go_simp
                  try with_reducible rfl
                clear hClosed
                have hClosed := hNext
                clear hNext
                try simp only [Act.put, List.getElem_toArray, List.getElem_cons_zero, List.getElem_cons_succ, List.setIfInBounds_toArray, List.set_cons_zero, List.set_cons_succ]
                refine' wpAnyE_take (i := 20) (v := _) rfl (by kernel_rfl) (by kernel_rfl) (by kernel_rfl) (by kernel_rfl) (fun _ _ _ h => h) (Or.inl ⟨by rfl, fun u hu => ?_⟩) hHeld hClosed (fun hNext => ?_)
                rotate_left
                · (try dsimp only at hu)
                  go_simp
                  try with_reducible rfl
                clear hClosed
                have hClosed := hNext
                clear hNext
                try simp only [Act.put, List.getElem_toArray, List.getElem_cons_zero, List.getElem_cons_succ, List.setIfInBounds_toArray, List.set_cons_zero, List.set_cons_succ]
                refine' wpAnyE_take (i := 21) (v := _) rfl (by kernel_rfl) (by kernel_rfl) (by kernel_rfl) (by kernel_rfl) (fun _ _ _ h => h) (Or.inl ⟨by rfl, fun u hu => ?_⟩) hHeld hClosed (fun hNext => ?_)
                rotate_left
                · (try dsimp only at hu)
                  go_simp
                  try with_reducible rfl
                clear hClosed
                have hClosed := hNext
                clear hNext
                try simp only [Act.put, List.getElem_toArray, List.getElem_cons_zero, List.getElem_cons_succ, List.setIfInBounds_toArray, List.set_cons_zero, List.set_cons_succ]
                refine' wpAnyE_take (i := 22) (v := _) rfl (by kernel_rfl) (by kernel_rfl) (by kernel_rfl) (by kernel_rfl) (fun _ _ _ h => h) (Or.inl ⟨by rfl, fun u hu => ?_⟩) hHeld hClosed (fun hNext => ?_)
                rotate_left
                · (try dsimp only at hu)
                  go_simp
                  try with_reducible rfl
                clear hClosed
                have hClosed := hNext
                clear hNext
                try simp only [Act.put, List.getElem_toArray, List.getElem_cons_zero, List.getElem_cons_succ, List.setIfInBounds_toArray, List.set_cons_zero, List.set_cons_succ]
                refine' wpAnyE_take (i := 23) (v := _) rfl (by kernel_rfl) (by kernel_rfl) (by kernel_rfl) (by kernel_rfl) (fun _ _ _ h => h) (Or.inl ⟨by rfl, fun u hu => ?_⟩) hHeld hClosed (fun hNext => ?_)
                rotate_left
                · (try dsimp only at hu)
                  go_simp
                  try with_reducible rfl
                clear hClosed
                have hClosed := hNext
                clear hNext
                try simp only [Act.put, List.getElem_toArray, List.getElem_cons_zero, List.getElem_cons_succ, List.setIfInBounds_toArray, List.set_cons_zero, List.set_cons_succ]
                refine' wpAnyE_take (i := 24) (v := _) rfl (by kernel_rfl) (by kernel_rfl) (by kernel_rfl) (by kernel_rfl) (fun _ _ _ h => h) (Or.inl ⟨by rfl, fun u hu => ?_⟩) hHeld hClosed (fun hNext => ?_)
                rotate_left
                · (try dsimp only at hu)
                  go_simp
                  try with_reducible rfl
                clear hClosed
                have hClosed := hNext
                clear hNext
                try simp only [Act.put, List.getElem_toArray, List.getElem_cons_zero, List.getElem_cons_succ, List.setIfInBounds_toArray, List.set_cons_zero, List.set_cons_succ]
                refine' wpAnyE_take (i := 25) (v := _) rfl (by kernel_rfl) (by kernel_rfl) (by kernel_rfl) (by kernel_rfl) (fun _ _ _ h => h) (Or.inl ⟨by rfl, fun u hu => ?_⟩) hHeld hClosed (fun hNext => ?_)
                rotate_left
                · (try dsimp only at hu)
                  go_simp
                  try with_reducible rfl
                clear hClosed
                have hClosed := hNext
                clear hNext
                try simp only [Act.put, List.getElem_toArray, List.getElem_cons_zero, List.getElem_cons_succ, List.setIfInBounds_toArray, List.set_cons_zero, List.set_cons_succ]
                refine' wpAnyE_take (i := 26) (v := _) rfl (by kernel_rfl) (by kernel_rfl) (by kernel_rfl) (by kernel_rfl) (fun _ _ _ h => h) (Or.inl ⟨by rfl, fun u hu => ?_⟩) hHeld hClosed (fun hNext => ?_)
                rotate_left
                · (try dsimp only at hu)
                  go_simp
                  try with_reducible rfl
                clear hClosed
                have hClosed := hNext
                clear hNext
                try simp only [Act.put, List.getElem_toArray, List.getElem_cons_zero, List.getElem_cons_succ, List.setIfInBounds_toArray, List.set_cons_zero, List.set_cons_succ]
                refine' wpAnyE_take (i := 27) (v := _) rfl (by kernel_rfl) (by kernel_rfl) (by kernel_rfl) (by kernel_rfl) (fun _ _ _ h => h) (Or.inl ⟨by rfl, fun u hu => ?_⟩) hHeld hClosed (fun hNext => ?_)
                rotate_left
                · (try dsimp only at hu)
                  go_simp
                  try with_reducible rfl
                clear hClosed
                have hClosed := hNext
                clear hNext
                try simp only [Act.put, List.getElem_toArray, List.getElem_cons_zero, List.getElem_cons_succ, List.setIfInBounds_toArray, List.set_cons_zero, List.set_cons_succ]
                refine' wpAnyE_take (i := 28) (v := _) rfl (by kernel_rfl) (by kernel_rfl) (by kernel_rfl) (by kernel_rfl) (fun _ _ _ h => h) (Or.inl ⟨by rfl, fun u hu => ?_⟩) hHeld hClosed (fun hNext => ?_)
                rotate_left
                · (try dsimp only at hu)
                  go_simp
                  try with_reducible rfl
                clear hClosed
                have hClosed := hNext
                clear hNext
                try simp only [Act.put, List.getElem_toArray, List.getElem_cons_zero, List.getElem_cons_succ, List.setIfInBounds_toArray, List.set_cons_zero, List.set_cons_succ]
                refine' wpAnyE_take (i := 29) (v := _) rfl (by kernel_rfl) (by kernel_rfl) (by kernel_rfl) (by kernel_rfl) (fun _ _ _ h => h) (Or.inl ⟨by rfl, fun u hu => ?_⟩) hHeld hClosed (fun hNext => ?_)
                rotate_left
                · (try dsimp only at hu)
                  go_simp
                  try with_reducible rfl
                clear hClosed
                have hClosed := hNext
                clear hNext
                try simp only [Act.put, List.getElem_toArray, List.getElem_cons_zero, List.getElem_cons_succ, List.setIfInBounds_toArray, List.set_cons_zero, List.set_cons_succ]
                refine' wpAnyE_take (i := 30) (v := _) rfl (by kernel_rfl) (by kernel_rfl) (by kernel_rfl) (by kernel_rfl) (fun _ _ _ h => h) (Or.inl ⟨by rfl, fun u hu => ?_⟩) hHeld hClosed (fun hNext => ?_)
                rotate_left
                · (try dsimp only at hu)
                  go_simp
                  try with_reducible rfl
                clear hClosed
                have hClosed := hNext
                clear hNext
                try simp only [Act.put, List.getElem_toArray, List.getElem_cons_zero, List.getElem_cons_succ, List.setIfInBounds_toArray, List.set_cons_zero, List.set_cons_succ]
                refine' wpAnyE_take (i := 31) (v := _) rfl (by kernel_rfl) (by kernel_rfl) (by kernel_rfl) (by kernel_rfl) (fun _ _ _ h => h) (Or.inl ⟨by rfl, fun u hu => ?_⟩) hHeld hClosed (fun hNext => ?_)
                rotate_left
                · (try dsimp only at hu)
                  go_simp
                  try with_reducible rfl
                clear hClosed
                have hClosed := hNext
                clear hNext
                try simp only [Act.put, List.getElem_toArray, List.getElem_cons_zero, List.getElem_cons_succ, List.setIfInBounds_toArray, List.set_cons_zero, List.set_cons_succ]
                refine' wpAnyE_take (i := 32) (v := _) rfl (by kernel_rfl) (by kernel_rfl) (by kernel_rfl) (by kernel_rfl) (fun _ _ _ h => h) (Or.inl ⟨by rfl, fun u hu => ?_⟩) hHeld hClosed (fun hNext => ?_)
                rotate_left
                · (try dsimp only at hu)
                  go_simp
                  try with_reducible rfl
                clear hClosed
                have hClosed := hNext
                clear hNext
                try simp only [Act.put, List.getElem_toArray, List.getElem_cons_zero, List.getElem_cons_succ, List.setIfInBounds_toArray, List.set_cons_zero, List.set_cons_succ]
                refine' wpAnyE_take (i := 33) (v := _) rfl (by kernel_rfl) (by kernel_rfl) (by kernel_rfl) (by kernel_rfl) (fun _ _ _ h => h) (Or.inl ⟨by rfl, fun u hu => ?_⟩) hHeld hClosed (fun hNext => ?_)
                rotate_left
                · (try dsimp only at hu)
                  go_simp
                  try with_reducible rfl
                clear hClosed
                have hClosed := hNext
                clear hNext
                try simp only [Act.put, List.getElem_toArray, List.getElem_cons_zero, List.getElem_cons_succ, List.setIfInBounds_toArray, List.set_cons_zero, List.set_cons_succ]
                refine' wpAnyE_take (i := 34) (v := _) rfl (by kernel_rfl) (by kernel_rfl) (by kernel_rfl) (by kernel_rfl) (fun _ _ _ h => h) (Or.inl ⟨by rfl, fun u hu => ?_⟩) hHeld hClosed (fun hNext => ?_)
                rotate_left
                · (try dsimp only at hu)
                  go_simp
                  try with_reducible rfl
                clear hClosed
                have hClosed := hNext
                clear hNext
                try simp only [Act.put, List.getElem_toArray, List.getElem_cons_zero, List.getElem_cons_succ, List.setIfInBounds_toArray, List.set_cons_zero, List.set_cons_succ]
                refine' wpAnyE_take (i := 35) (v := _) rfl (by kernel_rfl) (by kernel_rfl) (by kernel_rfl) (by kernel_rfl) (fun _ _ _ h => h) (Or.inl ⟨by rfl, fun u hu => ?_⟩) hHeld hClosed (fun hNext => ?_)
                rotate_left
                · (try dsimp only at hu)
                  go_simp
                  try with_reducible rfl
                clear hClosed
                have hClosed := hNext
                clear hNext
                try simp only [Act.put, List.getElem_toArray, List.getElem_cons_zero, List.getElem_cons_succ, List.setIfInBounds_toArray, List.set_cons_zero, List.set_cons_succ]
                refine' wpAnyE_take (i := 36) (v := _) rfl (by kernel_rfl) (by kernel_rfl) (by kernel_rfl) (by kernel_rfl) (fun _ _ _ h => h) (Or.inl ⟨by rfl, fun u hu => ?_⟩) hHeld hClosed (fun hNext => ?_)
                rotate_left
                · (try dsimp only at hu)
                  go_simp
                  try with_reducible rfl
                clear hClosed
                have hClosed := hNext
                clear hNext
                try simp only [Act.put, List.getElem_toArray, List.getElem_cons_zero, List.getElem_cons_succ, List.setIfInBounds_toArray, List.set_cons_zero, List.set_cons_succ]
                refine' wpAnyE_take (i := 37) (v := _) rfl (by kernel_rfl) (by kernel_rfl) (by kernel_rfl) (by kernel_rfl) (fun _ _ _ h => h) (Or.inl ⟨by rfl, fun u hu => ?_⟩) hHeld hClosed (fun hNext => ?_)
                rotate_left
                · (try dsimp only at hu)
                  go_simp
                  try with_reducible rfl
                clear hClosed
                have hClosed := hNext
                clear hNext
                try simp only [Act.put, List.getElem_toArray, List.getElem_cons_zero, List.getElem_cons_succ, List.setIfInBounds_toArray, List.set_cons_zero, List.set_cons_succ]
                refine' wpAnyE_take (i := 38) (v := _) rfl (by kernel_rfl) (by kernel_rfl) (by kernel_rfl) (by kernel_rfl) (fun _ _ _ h => h) (Or.inl ⟨by rfl, fun u hu => ?_⟩) hHeld hClosed (fun hNext => ?_)
                rotate_left
                · (try dsimp only at hu)
                  go_simp
                  try with_reducible rfl
                clear hClosed
                have hClosed := hNext
                clear hNext
                try simp only [Act.put, List.getElem_toArray, List.getElem_cons_zero, List.getElem_cons_succ, List.setIfInBounds_toArray, List.set_cons_zero, List.set_cons_succ]
                refine' wpAnyE_take (i := 39) (v := _) rfl (by kernel_rfl) (by kernel_rfl) (by kernel_rfl) (by kernel_rfl) (fun _ _ _ h => h) (Or.inl ⟨by rfl, fun u hu => ?_⟩) hHeld hClosed (fun hNext => ?_)
                rotate_left
                · (try dsimp only at hu)
                  go_simp
                  try with_reducible rfl
                clear hClosed
                have hClosed := hNext
                clear hNext
                try simp only [Act.put, List.getElem_toArray, List.getElem_cons_zero, List.getElem_cons_succ, List.setIfInBounds_toArray, List.set_cons_zero, List.set_cons_succ]
                refine' wpAnyE_take (i := 40) (v := _) rfl (by kernel_rfl) (by kernel_rfl) (by kernel_rfl) (by kernel_rfl) (fun _ _ _ h => h) (Or.inl ⟨by rfl, fun u hu => ?_⟩) hHeld hClosed (fun hNext => ?_)
                rotate_left
                · (try dsimp only at hu)
                  go_simp
                  try with_reducible rfl
                clear hClosed
                have hClosed := hNext
                clear hNext
                try simp only [Act.put, List.getElem_toArray, List.getElem_cons_zero, List.getElem_cons_succ, List.setIfInBounds_toArray, List.set_cons_zero, List.set_cons_succ]
                refine' wpAnyE_take (i := 41) (v := _) rfl (by kernel_rfl) (by kernel_rfl) (by kernel_rfl) (by kernel_rfl) (fun _ _ _ h => h) (Or.inl ⟨by rfl, fun u hu => ?_⟩) hHeld hClosed (fun hNext => ?_)
                rotate_left
                · (try dsimp only at hu)
                  go_simp
                  try with_reducible rfl
                clear hClosed
                have hClosed := hNext
                clear hNext
                try simp only [Act.put, List.getElem_toArray, List.getElem_cons_zero, List.getElem_cons_succ, List.setIfInBounds_toArray, List.set_cons_zero, List.set_cons_succ]
                refine' wpAnyE_take (i := 42) (v := _) rfl (by kernel_rfl) (by kernel_rfl) (by kernel_rfl) (by kernel_rfl) (fun _ _ _ h => h) (Or.inl ⟨by rfl, fun u hu => ?_⟩) hHeld hClosed (fun hNext => ?_)
                rotate_left
                · (try dsimp only at hu)
                  go_simp
                  try with_reducible rfl
                clear hClosed
                have hClosed := hNext
                clear hNext
                try simp only [Act.put, List.getElem_toArray, List.getElem_cons_zero, List.getElem_cons_succ, List.setIfInBounds_toArray, List.set_cons_zero, List.set_cons_succ]
                refine' wpAnyE_take (i := 43) (v := _) rfl (by kernel_rfl) (by kernel_rfl) (by kernel_rfl) (by kernel_rfl) (fun _ _ _ h => h) (Or.inl ⟨by rfl, fun u hu => ?_⟩) hHeld hClosed (fun hNext => ?_)
                rotate_left
                · (try dsimp only at hu)
                  go_simp
                  try with_reducible rfl
                clear hClosed
                have hClosed := hNext
                clear hNext
                try simp only [Act.put, List.getElem_toArray, List.getElem_cons_zero, List.getElem_cons_succ, List.setIfInBounds_toArray, List.set_cons_zero, List.set_cons_succ]
                refine' wpAnyE_take (i := 44) (v := _) rfl (by kernel_rfl) (by kernel_rfl) (by kernel_rfl) (by kernel_rfl) (fun _ _ _ h => h) (Or.inl ⟨by rfl, fun u hu => ?_⟩) hHeld hClosed (fun hNext => ?_)
                rotate_left
                · (try dsimp only at hu)
                  go_simp
                  try with_reducible rfl
                clear hClosed
                have hClosed := hNext
                clear hNext
                try simp only [Act.put, List.getElem_toArray, List.getElem_cons_zero, List.getElem_cons_succ, List.setIfInBounds_toArray, List.set_cons_zero, List.set_cons_succ]
                refine' wpAnyE_take (i := 45) (v := _) rfl (by kernel_rfl) (by kernel_rfl) (by kernel_rfl) (by kernel_rfl) (fun _ _ _ h => h) (Or.inl ⟨by rfl, fun u hu => ?_⟩) hHeld hClosed (fun hNext => ?_)
                rotate_left
                · (try dsimp only at hu)
                  go_simp
                  try with_reducible rfl
                clear hClosed
                have hClosed := hNext
                clear hNext
                try simp only [Act.put, List.getElem_toArray, List.getElem_cons_zero, List.getElem_cons_succ, List.setIfInBounds_toArray, List.set_cons_zero, List.set_cons_succ]
                refine' wpAnyE_take (i := 46) (v := _) rfl (by kernel_rfl) (by kernel_rfl) (by kernel_rfl) (by kernel_rfl) (fun _ _ _ h => h) (Or.inl ⟨by rfl, fun u hu => ?_⟩) hHeld hClosed (fun hNext => ?_)
                rotate_left
                · (try dsimp only at hu)
                  go_simp
                  try with_reducible rfl
                clear hClosed
                have hClosed := hNext
                clear hNext
                try simp only [Act.put, List.getElem_toArray, List.getElem_cons_zero, List.getElem_cons_succ, List.setIfInBounds_toArray, List.set_cons_zero, List.set_cons_succ]
                refine' wpAnyE_take (i := 47) (v := _) rfl (by kernel_rfl) (by kernel_rfl) (by kernel_rfl) (by kernel_rfl) (fun _ _ _ h => h) (Or.inl ⟨by rfl, fun u hu => ?_⟩) hHeld hClosed (fun hNext => ?_)
                rotate_left
                · (try dsimp only at hu)
                  go_simp
                  try with_reducible rfl
                clear hClosed
                have hClosed := hNext
                clear hNext
                try simp only [Act.put, List.getElem_toArray, List.getElem_cons_zero, List.getElem_cons_succ, List.setIfInBounds_toArray, List.set_cons_zero, List.set_cons_succ]
                refine' wpAnyE_take (i := 48) (v := _) rfl (by kernel_rfl) (by kernel_rfl) (by kernel_rfl) (by kernel_rfl) (fun _ _ _ h => h) (Or.inl ⟨by rfl, fun u hu => ?_⟩) hHeld hClosed (fun hNext => ?_)
                rotate_left
                · (try dsimp only at hu)
                  go_simp
                  try with_reducible rfl
                clear hClosed
                have hClosed := hNext
                clear hNext
                try simp only [Act.put, List.getElem_toArray, List.getElem_cons_zero, List.getElem_cons_succ, List.setIfInBounds_toArray, List.set_cons_zero, List.set_cons_succ]
                refine' wpAnyE_take (i := 49) (v := _) rfl (by kernel_rfl) (by kernel_rfl) (by kernel_rfl) (by kernel_rfl) (fun _ _ _ h => h) (Or.inl ⟨by rfl, fun u hu => ?_⟩) hHeld hClosed (fun hNext => ?_)
                rotate_left
                · (try dsimp only at hu)
                  go_simp
                  try with_reducible rfl
                clear hClosed
                have hClosed := hNext
                clear hNext
                try simp only [Act.put, List.getElem_toArray, List.getElem_cons_zero, List.getElem_cons_succ, List.setIfInBounds_toArray, List.set_cons_zero, List.set_cons_succ]
                refine' wpAnyE_take (i := 50) (v := _) rfl (by kernel_rfl) (by kernel_rfl) (by kernel_rfl) (by kernel_rfl) (fun _ _ _ h => h) (Or.inl ⟨by rfl, fun u hu => ?_⟩) hHeld hClosed (fun hNext => ?_)
                rotate_left
                · (try dsimp only at hu)
                  go_simp
                  try with_reducible rfl
                clear hClosed
                have hClosed := hNext
                clear hNext
                try simp only [Act.put, List.getElem_toArray, List.getElem_cons_zero, List.getElem_cons_succ, List.setIfInBounds_toArray, List.set_cons_zero, List.set_cons_succ]
                refine wpAnyE_done (by kernel_rfl) ?_ _
                clear hClosed
                go_wp2_with fail
                go_roundw
                case rel =>
                  refine ⟨k + 1, by omega, by go_num, Lib.hid ?_, HB.out.trans (B5.out.mono HB.out.size)⟩
                  rw [List.take_succ_eq_append_getElem hlt, List.take_succ_eq_append_getElem hlt', HE.out, XS.out.1, XS.out.2]
                  have h1 : pl = pl' := by simpa using P1.out
                  have h2 : lev = lev' := by simpa using e2
                  have h3 : sos = sos' := by simpa using e3
                  have h4 : eos = eos' := by simpa using e4
                  rw [h1, h2, h3, h4]
                case measure => simp [intOf]; omega

              · have TT := trivial
                go_wp2_with fail
                refine wp_region_E (S := fun w' => SqCell w' g (off + k * 4) (.slice Aj n cj) ⟨pl, lev, sos, eos⟩ ∧ SqCell w' g' (off' + k * 4) (.slice Aj' n' cj') ⟨pl', lev', sos', eos'⟩) [] (by kernel_rfl) (hk0) (fun hHeld hClosed => ?_)
                refine' wpAnyE_take (i := 0) (v := _) rfl (by kernel_rfl) (by kernel_rfl) (by kernel_rfl) (by kernel_rfl) (fun _ _ _ h => h) (Or.inl ⟨by rfl, fun u hu => ?_⟩) hHeld hClosed (fun hNext => ?_)
                rotate_left
                · (try dsimp only at hu)
                  go_simp
                  try with_reducible rfl
                clear hClosed
                have hClosed := hNext
                clear hNext
                try simp only [Act.put, List.getElem_toArray, List.getElem_cons_zero, List.setIfInBounds_toArray, List.set_cons_zero, List.set_cons_succ]
                refine' wpAnyE_take (i := 1) (v := _) rfl (by kernel_rfl) (by kernel_rfl) (by kernel_rfl) (by kernel_rfl) (fun _ _ _ h => h) (Or.inl ⟨by rfl, fun u hu => ?_⟩) hHeld hClosed (fun hNext => ?_)
                rotate_left
                · (try dsimp only at hu)
                  go_simp
                  try with_reducible rfl
                clear hClosed
                have hClosed := hNext
                clear hNext
                try simp only [Act.put, List.getElem_toArray, List.getElem_cons_zero, List.getElem_cons_succ, List.setIfInBounds_toArray, List.set_cons_zero, List.set_cons_succ]
                refine' wpAnyE_take (i := 2) (v := _) rfl (by kernel_rfl) (by kernel_rfl) (by kernel_rfl) (by kernel_rfl) (fun _ _ _ h => h) (Or.inl ⟨by rfl, fun u hu => ?_⟩) hHeld hClosed (fun hNext => ?_)
                rotate_left
                · (try dsimp only at hu)
                  go_simp
                  try with_reducible rfl
                clear hClosed
                have hClosed := hNext
                clear hNext
                try simp only [Act.put, List.getElem_toArray, List.getElem_cons_zero, List.getElem_cons_succ, List.setIfInBounds_toArray, List.set_cons_zero, List.set_cons_succ]
                refine' wpAnyE_take (i := 3) (v := _) rfl (by kernel_rfl) (by kernel_rfl) (by kernel_rfl) (by kernel_rfl) (fun _ _ _ h => h) (Or.inl ⟨by rfl, fun u hu => ?_⟩) hHeld hClosed (fun hNext => ?_)
                rotate_left
                · (try dsimp only at hu)
                  go_simp
                  try with_reducible rfl
                clear hClosed
                have hClosed := hNext
                clear hNext
                try simp only [Act.put, List.getElem_toArray, List.getElem_cons_zero, List.getElem_cons_succ, List.setIfInBounds_toArray, List.set_cons_zero, List.set_cons_succ]
                refine' wpAnyE_take (i := 4) (v := _) rfl (by kernel_rfl) (by kernel_rfl) (by kernel_rfl) (by kernel_rfl) (fun _ _ _ h => h) (Or.inl ⟨by rfl, fun u hu => ?_⟩) hHeld hClosed (fun hNext => ?_)
                rotate_left
                · (try dsimp only at hu)
                  go_simp
                  try with_reducible rfl
                clear hClosed
                have hClosed := hNext
                clear hNext
                try simp only [Act.put, List.getElem_toArray, List.getElem_cons_zero, List.getElem_cons_succ, List.setIfInBounds_toArray, List.set_cons_zero, List.set_cons_succ]
                refine' wpAnyE_take (i := 5) (v := _) rfl (by kernel_rfl) (by kernel_rfl) (by kernel_rfl) (by kernel_rfl) (fun _ _ _ h => h) (Or.inl ⟨by rfl, fun u hu => ?_⟩) hHeld hClosed (fun hNext => ?_)
                rotate_left
                · (try dsimp only at hu)
                  go_simp
                  try with_reducible rfl
                clear hClosed
                have hClosed := hNext
                clear hNext
                try simp only [Act.put, List.getElem_toArray, List.getElem_cons_zero, List.getElem_cons_succ, List.setIfInBounds_toArray, List.set_cons_zero, List.set_cons_succ]
                refine' wpAnyE_take (i := 6) (v := _) rfl (by kernel_rfl) (by kernel_rfl) (by kernel_rfl) (by kernel_rfl) (fun _ _ _ h => h) (Or.inl ⟨by rfl, fun u hu => ?_⟩) hHeld hClosed (fun hNext => ?_)
                rotate_left
                · (try dsimp only at hu)
                  go_simp
                  try with_reducible rfl
                clear hClosed
                have hClosed := hNext
                clear hNext
                try simp only [Act.put, List.getElem_toArray, List.getElem_cons_zero, List.getElem_cons_succ, List.setIfInBounds_toArray, List.set_cons_zero, List.set_cons_succ]
                refine' wpAnyE_take (i := 7) (v := _) rfl (by kernel_rfl) (by kernel_rfl) (by kernel_rfl) (by kernel_rfl) (fun _ _ _ h => h) (Or.inl ⟨by rfl, fun u hu => ?_⟩) hHeld hClosed (fun hNext => ?_)
                rotate_left
                · (try dsimp only at hu)
                  go_simp
                  try with_reducible rfl
                clear hClosed
                have hClosed := hNext
                clear hNext
                try simp only [Act.put, List.getElem_toArray, List.getElem_cons_zero, List.getElem_cons_succ, List.setIfInBounds_toArray, List.set_cons_zero, List.set_cons_succ]
                refine' wpAnyE_take (i := 8) (v := _) rfl (by kernel_rfl) (by kernel_rfl) (by kernel_rfl) (by kernel_rfl) (fun _ _ _ h => h) (Or.inl ⟨by rfl, fun u hu => ?_⟩) hHeld hClosed (fun hNext => ?_)
                rotate_left
                · (try dsimp only at hu)
                  go_simp
                  try with_reducible rfl
                clear hClosed
                have hClosed := hNext
                clear hNext
                try simp only [Act.put, List.getElem_toArray, List.getElem_cons_zero, List.getElem_cons_succ, List.setIfInBounds_toArray, List.set_cons_zero, List.set_cons_succ]
                refine' wpAnyE_take (i := 9) (v := _) rfl (by kernel_rfl) (by kernel_rfl) (by kernel_rfl) (by kernel_rfl) (fun _ _ _ h => h) (Or.inl ⟨by rfl, fun u hu => ?_⟩) hHeld hClosed (fun hNext => ?_)
                rotate_left
                · (try dsimp only at hu)
                  go_simp
                  try with_reducible rfl
                clear hClosed
                have hClosed := hNext
                clear hNext
                try simp only [Act.put, List.getElem_toArray, List.getElem_cons_zero, List.getElem_cons_succ, List.setIfInBounds_toArray, List.set_cons_zero, List.set_cons_succ]
                refine wpAnyE_ready (rs := [10]) (by kernel_rfl) (by simp) ?_
                refine AllReadyE.cons rfl (fun K hK => ?_) AllReadyE.nil
                all_goals simp only [List.getElem_toArray, List.getElem_cons_zero, List.getElem_cons_succ]
                all_goals go_simp
                refine HI.out.mono ?_
                rintro e w5 ⟨rfl, b5⟩
                rw [P1.out]
                have B5 := Lib.hid (show Below wr.heap.size wr w5 from ⟨b5.os, b5.tape, b5.output, b5.size, b5.block⟩)
                clear b5
                refine hK.out _ _ (fun _ => SK.out _ B5.out) (fun hHeld => ?_) (fun hX => (by first | cases hX | simp at hX))
                replace hClosed := hClosed.step 10 (by kernel_rfl)
                clear hK K
                try simp only [Act.put, List.getElem_toArray, List.getElem_cons_zero, List.getElem_cons_succ, List.setIfInBounds_toArray, List.set_cons_zero, List.set_cons_succ]
                refine' wpAnyE_take (i := 11) (v := _) rfl (by kernel_rfl) (by kernel_rfl) (by kernel_rfl) (by kernel_rfl) (fun _ _ _ h => h) (Or.inl ⟨by rfl, fun u hu => ?_⟩) hHeld hClosed (fun hNext => ?_)
                rotate_left
                · (try dsimp only at hu)
                  go_simp
                  try with_reducible rfl
                clear hClosed
                have hClosed := hNext
                clear hNext
                try simp only [Act.put, List.getElem_toArray, List.getElem_cons_zero, List.getElem_cons_succ, List.setIfInBounds_toArray, List.set_cons_zero, List.set_cons_succ]
                refine' wpAnyE_take (i := 12) (v := _) rfl (by kernel_rfl) (by kernel_rfl) (by kernel_rfl) (by kernel_rfl) (fun _ _ _ h => h) (Or.inl ⟨by rfl, fun u hu => ?_⟩) hHeld hClosed (fun hNext => ?_)
                rotate_left
                · (try dsimp only at hu)
                  go_simp
                  try with_reducible rfl
                clear hClosed
                have hClosed := hNext
                clear hNext
                try simp only [Act.put, List.getElem_toArray, List.getElem_cons_zero, List.getElem_cons_succ, List.setIfInBounds_toArray, List.set_cons_zero, List.set_cons_succ]
                refine' wpAnyE_take (i := 13) (v := _) rfl (by kernel_rfl) (by kernel_rfl) (by kernel_rfl) (by kernel_rfl) (fun _ _ _ h => h) (Or.inl ⟨by rfl, fun u hu => ?_⟩) hHeld hClosed (fun hNext => ?_)
                rotate_left
                · (try dsimp only at hu)
                  go_simp
                  try with_reducible rfl
                clear hClosed
                have hClosed := hNext
                clear hNext
                try simp only [Act.put, List.getElem_toArray, List.getElem_cons_zero, List.getElem_cons_succ, List.setIfInBounds_toArray, List.set_cons_zero, List.set_cons_succ]
                refine' wpAnyE_take (i := 14) (v := _) rfl (by kernel_rfl) (by kernel_rfl) (by kernel_rfl) (by kernel_rfl) (fun _ _ _ h => h) (Or.inl ⟨by rfl, fun u hu => ?_⟩) hHeld hClosed (fun hNext => ?_)
                rotate_left
                · (try dsimp only at hu)
                  go_simp
                  try with_reducible rfl
                clear hClosed
                have hClosed := hNext
                clear hNext
                try simp only [Act.put, List.getElem_toArray, List.getElem_cons_zero, List.getElem_cons_succ, List.setIfInBounds_toArray, List.set_cons_zero, List.set_cons_succ]
                refine' wpAnyE_take (i := 15) (v := _) rfl (by kernel_rfl) (by kernel_rfl) (by kernel_rfl) (by kernel_rfl) (fun _ _ _ h => h) (Or.inl ⟨by rfl, fun u hu => ?_⟩) hHeld hClosed (fun hNext => ?_)
                rotate_left
                · (try dsimp only at hu)
                  go_simp
                  try with_reducible rfl
                clear hClosed
                have hClosed := hNext
                clear hNext
                try simp only [Act.put, List.getElem_toArray, List.getElem_cons_zero, List.getElem_cons_succ, List.setIfInBounds_toArray, List.set_cons_zero, List.set_cons_succ]
                refine' wpAnyE_take (i := 16) (v := _) rfl (by kernel_rfl) (by kernel_rfl) (by kernel_rfl) (by kernel_rfl) (fun _ _ _ h => h) (Or.inl ⟨by rfl, fun u hu => ?_⟩) hHeld hClosed (fun hNext => ?_)
                rotate_left
                · (try dsimp only at hu)
                  go_simp
                  try with_reducible rfl
                clear hClosed
                have hClosed := hNext
                clear hNext
                try simp only [Act.put, List.getElem_toArray, List.getElem_cons_zero, List.getElem_cons_succ, List.setIfInBounds_toArray, List.set_cons_zero, List.set_cons_succ]
                refine' wpAnyE_take (i := 17) (v := _) rfl (by kernel_rfl) (by kernel_rfl) (by kernel_rfl) (by kernel_rfl) (fun _ _ _ h => h) (Or.inl ⟨by rfl, fun u hu => ?_⟩) hHeld hClosed (fun hNext => ?_)
                rotate_left
                · (try dsimp only at hu)
                  go_simp
                  try with_reducible rfl
                clear hClosed
                have hClosed := hNext
                clear hNext
                try simp only [Act.put, List.getElem_toArray, List.getElem_cons_zero, List.getElem_cons_succ, List.setIfInBounds_toArray, List.set_cons_zero, List.set_cons_succ]
                refine' wpAnyE_take (i := 18) (v := _) rfl (by kernel_rfl) (by kernel_rfl) (by kernel_rfl) (by kernel_rfl) (fun _ _ _ h => h) (Or.inl ⟨by rfl, fun u hu => ?_⟩) hHeld hClosed (fun hNext => ?_)
                rotate_left
                · (try dsimp only at hu)
                  go_simp
                  try with_reducible rfl
                clear hClosed
                have hClosed := hNext
                clear hNext
                try simp only [Act.put, List.getElem_toArray, List.getElem_cons_zero, List.getElem_cons_succ, List.setIfInBounds_toArray, List.set_cons_zero, List.set_cons_succ]
                refine' wpAnyE_take (i := 19) (v := _) rfl (by kernel_rfl) (by kernel_rfl) (by kernel_rfl) (by kernel_rfl) (fun _ _ _ h => h) (Or.inl ⟨by rfl, fun u hu => ?_⟩) hHeld hClosed (fun hNext => ?_)
                rotate_left
                · (try dsimp only at hu)
                  go_simp
                  try with_reducible rfl
                clear hClosed
                have hClosed := hNext
                clear hNext
                try simp only [Act.put, List.getElem_toArray, List.getElem_cons_zero, List.getElem_cons_succ, List.setIfInBounds_toArray, List.set_cons_zero, List.set_cons_succ]
                refine' wpAnyE_take (i := 20) (v := _) rfl (by kernel_rfl) (by kernel_rfl) (by kernel_rfl) (by kernel_rfl) (fun _ _ _ h => h) (Or.inl ⟨by rfl, fun u hu => ?_⟩) hHeld hClosed (fun hNext => ?_)
                rotate_left
                · (try dsimp only at hu)
                  go_simp
                  try with_reducible rfl
                clear hClosed
                have hClosed := hNext
                clear hNext
                try simp only [Act.put, List.getElem_toArray, List.getElem_cons_zero, List.getElem_cons_succ, List.setIfInBounds_toArray, List.set_cons_zero, List.set_cons_succ]
                refine' wpAnyE_take (i := 21) (v := _) rfl (by kernel_rfl) (by kernel_rfl) (by kernel_rfl) (by kernel_rfl) (fun _ _ _ h => h) (Or.inl ⟨by rfl, fun u hu => ?_⟩) hHeld hClosed (fun hNext => ?_)
                rotate_left
                · (try dsimp only at hu)
                  go_simp
                  try with_reducible rfl
                clear hClosed
                have hClosed := hNext
                clear hNext
                try simp only [Act.put, List.getElem_toArray, List.getElem_cons_zero, List.getElem_cons_succ, List.setIfInBounds_toArray, List.set_cons_zero, List.set_cons_succ]
                refine' wpAnyE_take (i := 22) (v := _) rfl (by kernel_rfl) (by kernel_rfl) (by kernel_rfl) (by kernel_rfl) (fun _ _ _ h => h) (Or.inl ⟨by rfl, fun u hu => ?_⟩) hHeld hClosed (fun hNext => ?_)
                rotate_left
                · (try dsimp only at hu)
                  go_simp
                  try with_reducible rfl
                clear hClosed
                have hClosed := hNext
                clear hNext
                try simp only [Act.put, List.getElem_toArray, List.getElem_cons_zero, List.getElem_cons_succ, List.setIfInBounds_toArray, List.set_cons_zero, List.set_cons_succ]
                refine' wpAnyE_take (i := 23) (v := _) rfl (by kernel_rfl) (by kernel_rfl) (by kernel_rfl) (by kernel_rfl) (fun _ _ _ h => h) (Or.inl ⟨by rfl, fun u hu => ?_⟩) hHeld hClosed (fun hNext => ?_)
                rotate_left
                · (try dsimp only at hu)
                  go_simp
                  try with_reducible rfl
                clear hClosed
                have hClosed := hNext
                clear hNext
                try simp only [Act.put, List.getElem_toArray, List.getElem_cons_zero, List.getElem_cons_succ, List.setIfInBounds_toArray, List.set_cons_zero, List.set_cons_succ]
                refine' wpAnyE_take (i := 24) (v := _) rfl (by kernel_rfl) (by kernel_rfl) (by kernel_rfl) (by kernel_rfl) (fun _ _ _ h => h) (Or.inl ⟨by rfl, fun u hu => ?_⟩) hHeld hClosed (fun hNext => ?_)
                rotate_left
                · (try dsimp only at hu)
                  go_simp
                  try with_reducible rfl
                clear hClosed
                have hClosed := hNext
                clear hNext
                try simp only [Act.put, List.getElem_toArray, List.getElem_cons_zero, List.getElem_cons_succ, List.setIfInBounds_toArray, List.set_cons_zero, List.set_cons_succ]
                refine' wpAnyE_take (i := 25) (v := _) rfl (by kernel_rfl) (by kernel_rfl) (by kernel_rfl) (by kernel_rfl) (fun _ _ _ h => h) (Or.inl ⟨by rfl, fun u hu => ?_⟩) hHeld hClosed (fun hNext => ?_)
                rotate_left
                · (try dsimp only at hu)
                  go_simp
                  try with_reducible rfl
                clear hClosed
                have hClosed := hNext
                clear hNext
                try simp only [Act.put, List.getElem_toArray, List.getElem_cons_zero, List.getElem_cons_succ, List.setIfInBounds_toArray, List.set_cons_zero, List.set_cons_succ]
                refine' wpAnyE_take (i := 26) (v := _) rfl (by kernel_rfl) (by kernel_rfl) (by kernel_rfl) (by kernel_rfl) (fun _ _ _ h => h) (Or.inl ⟨by rfl, fun u hu => ?_⟩) hHeld hClosed (fun hNext => ?_)
                rotate_left
                · (try dsimp only at hu)
                  go_simp
                  try with_reducible rfl
                clear hClosed
                have hClosed := hNext
                clear hNext
                try simp only [Act.put, List.getElem_toArray, List.getElem_cons_zero, List.getElem_cons_succ, List.setIfInBounds_toArray, List.set_cons_zero, List.set_cons_succ]
                refine' wpAnyE_take (i := 27) (v := _) rfl (by kernel_rfl) (by kernel_rfl) (by kernel_rfl) (by kernel_rfl) (fun _ _ _ h => h) (Or.inl ⟨by rfl, fun u hu => ?_⟩) hHeld hClosed (fun hNext => ?_)
                rotate_left
                · (try dsimp only at hu)
                  go_simp
                  try with_reducible rfl
                clear hClosed
                have hClosed := hNext
                clear hNext
                try simp only [Act.put, List.getElem_toArray, List.getElem_cons_zero, List.getElem_cons_succ, List.setIfInBounds_toArray, List.set_cons_zero, List.set_cons_succ]
                refine' wpAnyE_take (i := 28) (v := _) rfl (by kernel_rfl) (by kernel_rfl) (by kernel_rfl) (by kernel_rfl) (fun _ _ _ h => h) (Or.inl ⟨by rfl, fun u hu => ?_⟩) hHeld hClosed (fun hNext => ?_)
                rotate_left
                · (try dsimp only at hu)
                  go_simp
                  try with_reducible rfl
                clear hClosed
                have hClosed := hNext
                clear hNext
                try simp only [Act.put, List.getElem_toArray, List.getElem_cons_zero, List.getElem_cons_succ, List.setIfInBounds_toArray, List.set_cons_zero, List.set_cons_succ]
                refine' wpAnyE_take (i := 29) (v := _) rfl (by kernel_rfl) (by kernel_rfl) (by kernel_rfl) (by kernel_rfl) (fun _ _ _ h => h) (Or.inl ⟨by rfl, fun u hu => ?_⟩) hHeld hClosed (fun hNext => ?_)
                rotate_left
                · (try dsimp only at hu)
                  go_simp
                  try with_reducible rfl
                clear hClosed
                have hClosed := hNext
                clear hNext
                try simp only [Act.put, List.getElem_toArray, List.getElem_cons_zero, List.getElem_cons_succ, List.setIfInBounds_toArray, List.set_cons_zero, List.set_cons_succ]
                refine' wpAnyE_take (i := 30) (v := _) rfl (by kernel_rfl) (by kernel_rfl) (by kernel_rfl) (by kernel_rfl) (fun _ _ _ h => h) (Or.inl ⟨by rfl, fun u hu => ?_⟩) hHeld hClosed (fun hNext => ?_)
                rotate_left
                · (try dsimp only at hu)
                  go_simp
                  try with_reducible rfl
                clear hClosed
                have hClosed := hNext
                clear hNext
                try simp only [Act.put, List.getElem_toArray, List.getElem_cons_zero, List.getElem_cons_succ, List.setIfInBounds_toArray, List.set_cons_zero, List.set_cons_succ]
                refine' wpAnyE_take (i := 31) (v := _) rfl (by kernel_rfl) (by kernel_rfl) (by kernel_rfl) (by kernel_rfl) (fun _ _ _ h => h) (Or.inl ⟨by rfl, fun u hu => ?_⟩) hHeld hClosed (fun hNext => ?_)
                rotate_left
                · (try dsimp only at hu)
                  go_simp
                  try with_reducible rfl
                clear hClosed
                have hClosed := hNext
                clear hNext
                try simp only [Act.put, List.getElem_toArray, List.getElem_cons_zero, List.getElem_cons_succ, List.setIfInBounds_toArray, List.set_cons_zero, List.set_cons_succ]
                refine' wpAnyE_take (i := 32) (v := _) rfl (by kernel_rfl) (by kernel_rfl) (by kernel_rfl) (by kernel_rfl) (fun _ _ _ h => h) (Or.inl ⟨by rfl, fun u hu => ?_⟩) hHeld hClosed (fun hNext => ?_)
                rotate_left
                · (try dsimp only at hu)
                  go_simp
                  try with_reducible rfl
                clear hClosed
                have hClosed := hNext
                clear hNext
                try simp only [Act.put, List.getElem_toArray, List.getElem_cons_zero, List.getElem_cons_succ, List.setIfInBounds_toArray, List.set_cons_zero, List.set_cons_succ]
                refine' wpAnyE_take (i := 33) (v := _) rfl (by kernel_rfl) (by kernel_rfl) (by kernel_rfl) (by kernel_rfl) (fun _ _ _ h => h) (Or.inl ⟨by rfl, fun u hu => ?_⟩) hHeld hClosed (fun hNext => ?_)
                rotate_left
                · (try dsimp only at hu)
                  go_simp
                  try with_reducible rfl
                clear hClosed
                have hClosed := hNext
                clear hNext
                try simp only [Act.put, List.getElem_toArray, List.getElem_cons_zero, List.getElem_cons_succ, List.setIfInBounds_toArray, List.set_cons_zero, List.set_cons_succ]
                refine' wpAnyE_take (i := 34) (v := _) rfl (by kernel_rfl) (by kernel_rfl) (by kernel_rfl) (by kernel_rfl) (fun _ _ _ h => h) (Or.inl ⟨by rfl, fun u hu => ?_⟩) hHeld hClosed (fun hNext => ?_)
                rotate_left
                · (try dsimp only at hu)
                  go_simp
                  try with_reducible rfl
                clear hClosed
                have hClosed := hNext
                clear hNext
                try simp only [Act.put, List.getElem_toArray, List.getElem_cons_zero, List.getElem_cons_succ, List.setIfInBounds_toArray, List.set_cons_zero, List.set_cons_succ]
                refine' wpAnyE_take (i := 35) (v := _) rfl (by kernel_rfl) (by kernel_rfl) (by kernel_rfl) (by kernel_rfl) (fun _ _ _ h => h) (Or.inl ⟨by rfl, fun u hu => ?_⟩) hHeld hClosed (fun hNext => ?_)
                rotate_left
                · (try dsimp only at hu)
                  go_simp
                  try with_reducible rfl
                clear hClosed
                have hClosed := hNext
                clear hNext
                try simp only [Act.put, List.getElem_toArray, List.getElem_cons_zero, List.getElem_cons_succ, List.setIfInBounds_toArray, List.set_cons_zero, List.set_cons_succ]
                refine' wpAnyE_take (i := 36) (v := _) rfl (by kernel_rfl) (by kernel_rfl) (by kernel_rfl) (by kernel_rfl) (fun _ _ _ h => h) (Or.inl ⟨by rfl, fun u hu => ?_⟩) hHeld hClosed (fun hNext => ?_)
                rotate_left
                · (try dsimp only at hu)
                  go_simp
                  try with_reducible rfl
                clear hClosed
                have hClosed := hNext
                clear hNext
                try simp only [Act.put, List.getElem_toArray, List.getElem_cons_zero, List.getElem_cons_succ, List.setIfInBounds_toArray, List.set_cons_zero, List.set_cons_succ]
                refine' wpAnyE_take (i := 37) (v := _) rfl (by kernel_rfl) (by kernel_rfl) (by kernel_rfl) (by kernel_rfl) (fun _ _ _ h => h) (Or.inl ⟨by rfl, fun u hu => ?_⟩) hHeld hClosed (fun hNext => ?_)
                rotate_left
                · (try dsimp only at hu)
                  go_simp
                  try with_reducible rfl
                clear hClosed
                have hClosed := hNext
                clear hNext
                try simp only [Act.put, List.getElem_toArray, List.getElem_cons_zero, List.getElem_cons_succ, List.setIfInBounds_toArray, List.set_cons_zero, List.set_cons_succ]
                refine' wpAnyE_take (i := 38) (v := _) rfl (by kernel_rfl) (by kernel_rfl) (by kernel_rfl) (by kernel_rfl) (fun _ _ _ h => h) (Or.inl ⟨by rfl, fun u hu => ?_⟩) hHeld hClosed (fun hNext => ?_)
                rotate_left
                · (try dsimp only at hu)
                  go_simp
                  try with_reducible rfl
                clear hClosed
                have hClosed := hNext
                clear hNext
                try simp only [Act.put, List.getElem_toArray, List.getElem_cons_zero, List.getElem_cons_succ, List.setIfInBounds_toArray, List.set_cons_zero, List.set_cons_succ]
                refine' wpAnyE_take (i := 39) (v := _) rfl (by kernel_rfl) (by kernel_rfl) (by kernel_rfl) (by kernel_rfl) (fun _ _ _ h => h) (Or.inl ⟨by rfl, fun u hu => ?_⟩) hHeld hClosed (fun hNext => ?_)
                rotate_left
                · (try dsimp only at hu)
                  go_simp
                  try with_reducible rfl
                clear hClosed
                have hClosed := hNext
                clear hNext
                try simp only [Act.put, List.getElem_toArray, List.getElem_cons_zero, List.getElem_cons_succ, List.setIfInBounds_toArray, List.set_cons_zero, List.set_cons_succ]
                refine' wpAnyE_take (i := 40) (v := _) rfl (by kernel_rfl) (by kernel_rfl) (by kernel_rfl) (by kernel_rfl) (fun _ _ _ h => h) (Or.inl ⟨by rfl, fun u hu => ?_⟩) hHeld hClosed (fun hNext => ?_)
                rotate_left
                · (try dsimp only at hu)
                  go_simp
                  try with_reducible rfl
                clear hClosed
                have hClosed := hNext
                clear hNext
                try simp only [Act.put, List.getElem_toArray, List.getElem_cons_zero, List.getElem_cons_succ, List.setIfInBounds_toArray, List.set_cons_zero, List.set_cons_succ]
                refine' wpAnyE_take (i := 41) (v := _) rfl (by kernel_rfl) (by kernel_rfl) (by kernel_rfl) (by kernel_rfl) (fun _ _ _ h => h) (Or.inl ⟨by rfl, fun u hu => ?_⟩) hHeld hClosed (fun hNext => ?_)
                rotate_left
                · (try dsimp only at hu)
                  go_simp
                  try with_reducible rfl
                clear hClosed
                have hClosed := hNext
                clear hNext
                try simp only [Act.put, List.getElem_toArray, List.getElem_cons_zero, List.getElem_cons_succ, List.setIfInBounds_toArray, List.set_cons_zero, List.set_cons_succ]
                refine' wpAnyE_take (i := 42) (v := _) rfl (by kernel_rfl) (by kernel_rfl) (by kernel_rfl) (by kernel_rfl) (fun _ _ _ h => h) (Or.inl ⟨by rfl, fun u hu => ?_⟩) hHeld hClosed (fun hNext => ?_)
                rotate_left
                · (try dsimp only at hu)
                  go_simp
                  try with_reducible rfl
                clear hClosed
                have hClosed := hNext
                clear hNext
                try simp only [Act.put, List.getElem_toArray, List.getElem_cons_zero, List.getElem_cons_succ, List.setIfInBounds_toArray, List.set_cons_zero, List.set_cons_succ]
                refine' wpAnyE_take (i := 43) (v := _) rfl (by kernel_rfl) (by kernel_rfl) (by kernel_rfl) (by kernel_rfl) (fun _ _ _ h => h) (Or.inl ⟨by rfl, fun u hu => ?_⟩) hHeld hClosed (fun hNext => ?_)
                rotate_left
                · (try dsimp only at hu)
                  go_simp
                  try with_reducible rfl
                clear hClosed
                have hClosed := hNext
                clear hNext
                try simp only [Act.put, List.getElem_toArray, List.getElem_cons_zero, List.getElem_cons_succ, List.setIfInBounds_toArray, List.set_cons_zero, List.set_cons_succ]
                refine' wpAnyE_take (i := 44) (v := _) rfl (by kernel_rfl) (by kernel_rfl) (by kernel_rfl) (by kernel_rfl) (fun _ _ _ h => h) (Or.inl ⟨by rfl, fun u hu => ?_⟩) hHeld hClosed (fun hNext => ?_)
                rotate_left
                · (try dsimp only at hu)
                  go_simp
                  try with_reducible rfl
                clear hClosed
                have hClosed := hNext
                clear hNext
                try simp only [Act.put, List.getElem_toArray, List.getElem_cons_zero, List.getElem_cons_succ, List.setIfInBounds_toArray, List.set_cons_zero, List.set_cons_succ]
                refine' wpAnyE_take (i := 45) (v := _) rfl (by kernel_rfl) (by kernel_rfl) (by kernel_rfl) (by kernel_rfl) (fun _ _ _ h => h) (Or.inl ⟨by rfl, fun u hu => ?_⟩) hHeld hClosed (fun hNext => ?_)
                rotate_left
                · (try dsimp only at hu)
                  go_simp
                  try with_reducible rfl
                clear hClosed
                have hClosed := hNext
                clear hNext
                try simp only [Act.put, List.getElem_toArray, List.getElem_cons_zero, List.getElem_cons_succ, List.setIfInBounds_toArray, List.set_cons_zero, List.set_cons_succ]
                refine' wpAnyE_take (i := 46) (v := _) rfl (by kernel_rfl) (by kernel_rfl) (by kernel_rfl) (by kernel_rfl) (fun _ _ _ h => h) (Or.inl ⟨by rfl, fun u hu => ?_⟩) hHeld hClosed (fun hNext => ?_)
                rotate_left
                · (try dsimp only at hu)
                  go_simp
                  try with_reducible rfl
                clear hClosed
                have hClosed := hNext
                clear hNext
                try simp only [Act.put, List.getElem_toArray, List.getElem_cons_zero, List.getElem_cons_succ, List.setIfInBounds_toArray, List.set_cons_zero, List.set_cons_succ]
                refine' wpAnyE_take (i := 47) (v := _) rfl (by kernel_rfl) (by kernel_rfl) (by kernel_rfl) (by kernel_rfl) (fun _ _ _ h => h) (Or.inl ⟨by rfl, fun u hu => ?_⟩) hHeld hClosed (fun hNext => ?_)
                rotate_left
                · (try dsimp only at hu)
                  go_simp
                  try with_reducible rfl
                clear hClosed
                have hClosed := hNext
                clear hNext
                try simp only [Act.put, List.getElem_toArray, List.getElem_cons_zero, List.getElem_cons_succ, List.setIfInBounds_toArray, List.set_cons_zero, List.set_cons_succ]
                refine' wpAnyE_take (i := 48) (v := _) rfl (by kernel_rfl) (by kernel_rfl) (by kernel_rfl) (by kernel_rfl) (fun _ _ _ h => h) (Or.inl ⟨by rfl, fun u hu => ?_⟩) hHeld hClosed (fun hNext => ?_)
                rotate_left
                · (try dsimp only at hu)
                  go_simp
                  try with_reducible rfl
                clear hClosed
                have hClosed := hNext
                clear hNext
                try simp only [Act.put, List.getElem_toArray, List.getElem_cons_zero, List.getElem_cons_succ, List.setIfInBounds_toArray, List.set_cons_zero, List.set_cons_succ]
                refine' wpAnyE_take (i := 49) (v := _) rfl (by kernel_rfl) (by kernel_rfl) (by kernel_rfl) (by kernel_rfl) (fun _ _ _ h => h) (Or.inl ⟨by rfl, fun u hu => ?_⟩) hHeld hClosed (fun hNext => ?_)
                rotate_left
                · (try dsimp only at hu)
                  go_simp
                  try with_reducible rfl
                clear hClosed
                have hClosed := hNext
                clear hNext
                try simp only [Act.put, List.getElem_toArray, List.getElem_cons_zero, List.getElem_cons_succ, List.setIfInBounds_toArray, List.set_cons_zero, List.set_cons_succ]
                refine' wpAnyE_take (i := 50) (v := _) rfl (by kernel_rfl) (by kernel_rfl) (by kernel_rfl) (by kernel_rfl) (fun _ _ _ h => h) (Or.inl ⟨by rfl, fun u hu => ?_⟩) hHeld hClosed (fun hNext => ?_)
                rotate_left
                · (try dsimp only at hu)
                  go_simp
                  try with_reducible rfl
                clear hClosed
                have hClosed := hNext
                clear hNext
                try simp only [Act.put, List.getElem_toArray, List.getElem_cons_zero, List.getElem_cons_succ, List.setIfInBounds_toArray, List.set_cons_zero, List.set_cons_succ]
                refine wpAnyE_done (by kernel_rfl) ?_ _
                clear hClosed
                go_wp2_with fail
                go_ret
                exact ⟨ret_bool (by
                  rw [eq_comm, decide_eq_false_iff_not]
                  intro e
                  have h1 := XS.out.1
                  have h2 := XS.out.2
                  subst e
                  rw [h1] at h2
                  injection h2 with h2 h3 h4 h5
                  simp [h5] at e4), HB.out.trans (B5.out.mono HB.out.size)⟩

            · have TT := trivial
              go_wp2_with fail
              refine wp_region_E (S := fun w' => SqCell w' g (off + k * 4) (.slice Aj n cj) ⟨pl, lev, sos, eos⟩ ∧ SqCell w' g' (off' + k * 4) (.slice Aj' n' cj') ⟨pl', lev', sos', eos'⟩) [] (by kernel_rfl) (hk0) (fun hHeld hClosed => ?_)
              refine' wpAnyE_take (i := 0) (v := _) rfl (by kernel_rfl) (by kernel_rfl) (by kernel_rfl) (by kernel_rfl) (fun _ _ _ h => h) (Or.inl ⟨by rfl, fun u hu => ?_⟩) hHeld hClosed (fun hNext => ?_)
              rotate_left
              · (try dsimp only at hu)
                go_simp
                try with_reducible rfl
              clear hClosed
              have hClosed := hNext
              clear hNext
              try simp only [Act.put, List.getElem_toArray, List.getElem_cons_zero, List.setIfInBounds_toArray, List.set_cons_zero, List.set_cons_succ]
              refine' wpAnyE_take (i := 1) (v := _) rfl (by kernel_rfl) (by kernel_rfl) (by kernel_rfl) (by kernel_rfl) (fun _ _ _ h => h) (Or.inl ⟨by rfl, fun u hu => ?_⟩) hHeld hClosed (fun hNext => ?_)
              rotate_left
              · (try dsimp only at hu)
                go_simp
                try with_reducible rfl
              clear hClosed
              have hClosed := hNext
              clear hNext
              try simp only [Act.put, List.getElem_toArray, List.getElem_cons_zero, List.getElem_cons_succ, List.setIfInBounds_toArray, List.set_cons_zero, List.set_cons_succ]
              refine' wpAnyE_take (i := 2) (v := _) rfl (by kernel_rfl) (by kernel_rfl) (by kernel_rfl) (by kernel_rfl) (fun _ _ _ h => h) (Or.inl ⟨by rfl, fun u hu => ?_⟩) hHeld hClosed (fun hNext => ?_)
              rotate_left
              · (try dsimp only at hu)
                go_simp
                try with_reducible rfl
              clear hClosed
              have hClosed := hNext
              clear hNext
              try simp only [Act.put, List.getElem_toArray, List.getElem_cons_zero, List.getElem_cons_succ, List.setIfInBounds_toArray, List.set_cons_zero, List.set_cons_succ]
              refine' wpAnyE_take (i := 3) (v := _) rfl (by kernel_rfl) (by kernel_rfl) (by kernel_rfl) (by kernel_rfl) (fun _ _ _ h => h) (Or.inl ⟨by rfl, fun u hu => ?_⟩) hHeld hClosed (fun hNext => ?_)
              rotate_left
              · (try dsimp only at hu)
                go_simp
                try with_reducible rfl
              clear hClosed
              have hClosed := hNext
              clear hNext
              try simp only [Act.put, List.getElem_toArray, List.getElem_cons_zero, List.getElem_cons_succ, List.setIfInBounds_toArray, List.set_cons_zero, List.set_cons_succ]
              refine' wpAnyE_take (i := 4) (v := _) rfl (by kernel_rfl) (by kernel_rfl) (by kernel_rfl) (by kernel_rfl) (fun _ _ _ h => h) (Or.inl ⟨by rfl, fun u hu => ?_⟩) hHeld hClosed (fun hNext => ?_)
              rotate_left
              · (try dsimp only at hu)
                go_simp
                try with_reducible rfl
              clear hClosed
              have hClosed := hNext
              clear hNext
              try simp only [Act.put, List.getElem_toArray, List.getElem_cons_zero, List.getElem_cons_succ, List.setIfInBounds_toArray, List.set_cons_zero, List.set_cons_succ]
              refine' wpAnyE_take (i := 5) (v := _) rfl (by kernel_rfl) (by kernel_rfl) (by kernel_rfl) (by kernel_rfl) (fun _ _ _ h => h) (Or.inl ⟨by rfl, fun u hu => ?_⟩) hHeld hClosed (fun hNext => ?_)
              rotate_left
              · (try dsimp only at hu)
                go_simp
                try with_reducible rfl
              clear hClosed
              have hClosed := hNext
              clear hNext
              try simp only [Act.put, List.getElem_toArray, List.getElem_cons_zero, List.getElem_cons_succ, List.setIfInBounds_toArray, List.set_cons_zero, List.set_cons_succ]
              refine' wpAnyE_take (i := 6) (v := _) rfl (by kernel_rfl) (by kernel_rfl) (by kernel_rfl) (by kernel_rfl) (fun _ _ _ h => h) (Or.inl ⟨by rfl, fun u hu => ?_⟩) hHeld hClosed (fun hNext => ?_)
              rotate_left
              · (try dsimp only at hu)
                go_simp
                try with_reducible rfl
              clear hClosed
              have hClosed := hNext
              clear hNext
              try simp only [Act.put, List.getElem_toArray, List.getElem_cons_zero, List.getElem_cons_succ, List.setIfInBounds_toArray, List.set_cons_zero, List.set_cons_succ]
              refine' wpAnyE_take (i := 7) (v := _) rfl (by kernel_rfl) (by kernel_rfl) (by kernel_rfl) (by kernel_rfl) (fun _ _ _ h => h) (Or.inl ⟨by rfl, fun u hu => ?_⟩) hHeld hClosed (fun hNext => ?_)
              rotate_left
              · (try dsimp only at hu)
                go_simp
                try with_reducible rfl
              clear hClosed
              have hClosed := hNext
              clear hNext
              try simp only [Act.put, List.getElem_toArray, List.getElem_cons_zero, List.getElem_cons_succ, List.setIfInBounds_toArray, List.set_cons_zero, List.set_cons_succ]
              refine' wpAnyE_take (i := 8) (v := _) rfl (by kernel_rfl) (by kernel_rfl) (by kernel_rfl) (by kernel_rfl) (fun _ _ _ h => h) (Or.inl ⟨by rfl, fun u hu => ?_⟩) hHeld hClosed (fun hNext => ?_)
              rotate_left
              · (try dsimp only at hu)
                go_simp
                try with_reducible rfl
              clear hClosed
              have hClosed := hNext
              clear hNext
              try simp only [Act.put, List.getElem_toArray, List.getElem_cons_zero, List.getElem_cons_succ, List.setIfInBounds_toArray, List.set_cons_zero, List.set_cons_succ]
              refine' wpAnyE_take (i := 9) (v := _) rfl (by kernel_rfl) (by kernel_rfl) (by kernel_rfl) (by kernel_rfl) (fun _ _ _ h => h) (Or.inl ⟨by rfl, fun u hu => ?_⟩) hHeld hClosed (fun hNext => ?_)
              rotate_left
              · (try dsimp only at hu)
                go_simp
                try with_reducible rfl
              clear hClosed
              have hClosed := hNext
              clear hNext
              try simp only [Act.put, List.getElem_toArray, List.getElem_cons_zero, List.getElem_cons_succ, List.setIfInBounds_toArray, List.set_cons_zero, List.set_cons_succ]
              refine wpAnyE_ready (rs := [10]) (by kernel_rfl) (by simp) ?_
              refine AllReadyE.cons rfl (fun K hK => ?_) AllReadyE.nil
              all_goals simp only [List.getElem_toArray, List.getElem_cons_zero, List.getElem_cons_succ]
              all_goals go_simp
              refine HI.out.mono ?_
              rintro e w5 ⟨rfl, b5⟩
              rw [P1.out]
              have B5 := Lib.hid (show Below wr.heap.size wr w5 from ⟨b5.os, b5.tape, b5.output, b5.size, b5.block⟩)
              clear b5
              refine hK.out _ _ (fun _ => SK.out _ B5.out) (fun hHeld => ?_) (fun hX => (by first | cases hX | simp at hX))
              replace hClosed := hClosed.step 10 (by kernel_rfl)
              clear hK K
              try simp only [Act.put, List.getElem_toArray, List.getElem_cons_zero, List.getElem_cons_succ, List.setIfInBounds_toArray, List.set_cons_zero, List.set_cons_succ]
              refine' wpAnyE_take (i := 11) (v := _) rfl (by kernel_rfl) (by kernel_rfl) (by kernel_rfl) (by kernel_rfl) (fun _ _ _ h => h) (Or.inl ⟨by rfl, fun u hu => ?_⟩) hHeld hClosed (fun hNext => ?_)
              rotate_left
              · (try dsimp only at hu)
                go_simp
                try with_reducible rfl
              clear hClosed
              have hClosed := hNext
              clear hNext
              try simp only [Act.put, List.getElem_toArray, List.getElem_cons_zero, List.getElem_cons_succ, List.setIfInBounds_toArray, List.set_cons_zero, List.set_cons_succ]
              refine' wpAnyE_take (i := 12) (v := _) rfl (by kernel_rfl) (by kernel_rfl) (by kernel_rfl) (by kernel_rfl) (fun _ _ _ h => h) (Or.inl ⟨by rfl, fun u hu => ?_⟩) hHeld hClosed (fun hNext => ?_)
              rotate_left
              · (try dsimp only at hu)
                go_simp
                try with_reducible rfl
              clear hClosed
              have hClosed := hNext
              clear hNext
              try simp only [Act.put, List.getElem_toArray, List.getElem_cons_zero, List.getElem_cons_succ, List.setIfInBounds_toArray, List.set_cons_zero, List.set_cons_succ]
              refine' wpAnyE_take (i := 13) (v := _) rfl (by kernel_rfl) (by kernel_rfl) (by kernel_rfl) (by kernel_rfl) (fun _ _ _ h => h) (Or.inl ⟨by rfl, fun u hu => ?_⟩) hHeld hClosed (fun hNext => ?_)
              rotate_left
              · (try dsimp only at hu)
                go_simp
                try with_reducible rfl
              clear hClosed
              have hClosed := hNext
              clear hNext
              try simp only [Act.put, List.getElem_toArray, List.getElem_cons_zero, List.getElem_cons_succ, List.setIfInBounds_toArray, List.set_cons_zero, List.set_cons_succ]
              refine' wpAnyE_take (i := 14) (v := _) rfl (by kernel_rfl) (by kernel_rfl) (by kernel_rfl) (by kernel_rfl) (fun _ _ _ h => h) (Or.inl ⟨by rfl, fun u hu => ?_⟩) hHeld hClosed (fun hNext => ?_)
              rotate_left
              · (try dsimp only at hu)
                go_simp
                try with_reducible rfl
              clear hClosed
              have hClosed := hNext
              clear hNext
              try simp only [Act.put, List.getElem_toArray, List.getElem_cons_zero, List.getElem_cons_succ, List.setIfInBounds_toArray, List.set_cons_zero, List.set_cons_succ]
              refine' wpAnyE_take (i := 15) (v := _) rfl (by kernel_rfl) (by kernel_rfl) (by kernel_rfl) (by kernel_rfl) (fun _ _ _ h => h) (Or.inl ⟨by rfl, fun u hu => ?_⟩) hHeld hClosed (fun hNext => ?_)
              rotate_left
              · (try dsimp only at hu)
                go_simp
                try with_reducible rfl
              clear hClosed
              have hClosed := hNext
              clear hNext
              try simp only [Act.put, List.getElem_toArray, List.getElem_cons_zero, List.getElem_cons_succ, List.setIfInBounds_toArray, List.set_cons_zero, List.set_cons_succ]
              refine' wpAnyE_take (i := 16) (v := _) rfl (by kernel_rfl) (by kernel_rfl) (by kernel_rfl) (by kernel_rfl) (fun _ _ _ h => h) (Or.inl ⟨by rfl, fun u hu => ?_⟩) hHeld hClosed (fun hNext => ?_)
              rotate_left
              · (try dsimp only at hu)
                go_simp
                try with_reducible rfl
              clear hClosed
              have hClosed := hNext
              clear hNext
              try simp only [Act.put, List.getElem_toArray, List.getElem_cons_zero, List.getElem_cons_succ, List.setIfInBounds_toArray, List.set_cons_zero, List.set_cons_succ]
              refine' wpAnyE_take (i := 17) (v := _) rfl (by kernel_rfl) (by kernel_rfl) (by kernel_rfl) (by kernel_rfl) (fun _ _ _ h => h) (Or.inl ⟨by rfl, fun u hu => ?_⟩) hHeld hClosed (fun hNext => ?_)
              rotate_left
              · (try dsimp only at hu)
                go_simp
                try with_reducible rfl
              clear hClosed
              have hClosed := hNext
              clear hNext
              try simp only [Act.put, List.getElem_toArray, List.getElem_cons_zero, List.getElem_cons_succ, List.setIfInBounds_toArray, List.set_cons_zero, List.set_cons_succ]
              refine' wpAnyE_take (i := 18) (v := _) rfl (by kernel_rfl) (by kernel_rfl) (by kernel_rfl) (by kernel_rfl) (fun _ _ _ h => h) (Or.inl ⟨by rfl, fun u hu => ?_⟩) hHeld hClosed (fun hNext => ?_)
              rotate_left
              · (try dsimp only at hu)
                go_simp
                try with_reducible rfl
              clear hClosed
              have hClosed := hNext
              clear hNext
              try simp only [Act.put, List.getElem_toArray, List.getElem_cons_zero, List.getElem_cons_succ, List.setIfInBounds_toArray, List.set_cons_zero, List.set_cons_succ]
              refine' wpAnyE_take (i := 19) (v := _) rfl (by kernel_rfl) (by kernel_rfl) (by kernel_rfl) (by kernel_rfl) (fun _ _ _ h => h) (Or.inl ⟨by rfl, fun u hu => ?_⟩) hHeld hClosed (fun hNext => ?_)
              rotate_left
              · (try dsimp only at hu)
                go_simp
                try with_reducible rfl
              clear hClosed
              have hClosed := hNext
              clear hNext
              try simp only [Act.put, List.getElem_toArray, List.getElem_cons_zero, List.getElem_cons_succ, List.setIfInBounds_toArray, List.set_cons_zero, List.set_cons_succ]
              refine' wpAnyE_take (i := 20) (v := _) rfl (by kernel_rfl) (by kernel_rfl) (by kernel_rfl) (by kernel_rfl) (fun _ _ _ h => h) (Or.inl ⟨by rfl, fun u hu => ?_⟩) hHeld hClosed (fun hNext => ?_)
              rotate_left
              · (try dsimp only at hu)
                go_simp
                try with_reducible rfl
              clear hClosed
              have hClosed := hNext
              clear hNext
              try simp only [Act.put, List.getElem_toArray, List.getElem_cons_zero, List.getElem_cons_succ, List.setIfInBounds_toArray, List.set_cons_zero, List.set_cons_succ]
              refine' wpAnyE_take (i := 21) (v := _) rfl (by kernel_rfl) (by kernel_rfl) (by kernel_rfl) (by kernel_rfl) (fun _ _ _ h => h) (Or.inl ⟨by rfl, fun u hu => ?_⟩) hHeld hClosed (fun hNext => ?_)
              rotate_left
              · (try dsimp only at hu)
                go_simp
                try with_reducible rfl
              clear hClosed
              have hClosed := hNext
              clear hNext
              try simp only [Act.put, List.getElem_toArray, List.getElem_cons_zero, List.getElem_cons_succ, List.setIfInBounds_toArray, List.set_cons_zero, List.set_cons_succ]
              refine' wpAnyE_take (i := 22) (v := _) rfl (by kernel_rfl) (by kernel_rfl) (by kernel_rfl) (by kernel_rfl) (fun _ _ _ h => h) (Or.inl ⟨by rfl, fun u hu => ?_⟩) hHeld hClosed (fun hNext => ?_)
              rotate_left
              · (try dsimp only at hu)
                go_simp
                try with_reducible rfl
              clear hClosed
              have hClosed := hNext
              clear hNext
              try simp only [Act.put, List.getElem_toArray, List.getElem_cons_zero, List.getElem_cons_succ, List.setIfInBounds_toArray, List.set_cons_zero, List.set_cons_succ]
              refine' wpAnyE_take (i := 23) (v := _) rfl (by kernel_rfl) (by kernel_rfl) (by kernel_rfl) (by kernel_rfl) (fun _ _ _ h => h) (Or.inl ⟨by rfl, fun u hu => ?_⟩) hHeld hClosed (fun hNext => ?_)
              rotate_left
              · (try dsimp only at hu)
                go_simp
                try with_reducible rfl
              clear hClosed
              have hClosed := hNext
              clear hNext
              try simp only [Act.put, List.getElem_toArray, List.getElem_cons_zero, List.getElem_cons_succ, List.setIfInBounds_toArray, List.set_cons_zero, List.set_cons_succ]
              refine' wpAnyE_take (i := 24) (v := _) rfl (by kernel_rfl) (by kernel_rfl) (by kernel_rfl) (by kernel_rfl) (fun _ _ _ h => h) (Or.inl ⟨by rfl, fun u hu => ?_⟩) hHeld hClosed (fun hNext => ?_)
              rotate_left
              · (try dsimp only at hu)
                go_simp
                try with_reducible rfl
              clear hClosed
              have hClosed := hNext
              clear hNext
              try simp only [Act.put, List.getElem_toArray, List.getElem_cons_zero, List.getElem_cons_succ, List.setIfInBounds_toArray, List.set_cons_zero, List.set_cons_succ]
              refine' wpAnyE_take (i := 25) (v := _) rfl (by kernel_rfl) (by kernel_rfl) (by kernel_rfl) (by kernel_rfl) (fun _ _ _ h => h) (Or.inl ⟨by rfl, fun u hu => ?_⟩) hHeld hClosed (fun hNext => ?_)
              rotate_left
              · (try dsimp only at hu)
                go_simp
                try with_reducible rfl
              clear hClosed
              have hClosed := hNext
              clear hNext
              try simp only [Act.put, List.getElem_toArray, List.getElem_cons_zero, List.getElem_cons_succ, List.setIfInBounds_toArray, List.set_cons_zero, List.set_cons_succ]
              refine' wpAnyE_take (i := 26) (v := _) rfl (by kernel_rfl) (by kernel_rfl) (by kernel_rfl) (by kernel_rfl) (fun _ _ _ h => h) (Or.inl ⟨by rfl, fun u hu => ?_⟩) hHeld hClosed (fun hNext => ?_)
              rotate_left
              · (try dsimp only at hu)
                go_simp
                try with_reducible rfl
              clear hClosed
              have hClosed := hNext
              clear hNext
              try simp only [Act.put, List.getElem_toArray, List.getElem_cons_zero, List.getElem_cons_succ, List.setIfInBounds_toArray, List.set_cons_zero, List.set_cons_succ]
              refine' wpAnyE_take (i := 27) (v := _) rfl (by kernel_rfl) (by kernel_rfl) (by kernel_rfl) (by kernel_rfl) (fun _ _ _ h => h) (Or.inl ⟨by rfl, fun u hu => ?_⟩) hHeld hClosed (fun hNext => ?_)
              rotate_left
              · (try dsimp only at hu)
                go_simp
                try with_reducible rfl
              clear hClosed
              have hClosed := hNext
              clear hNext
              try simp only [Act.put, List.getElem_toArray, List.getElem_cons_zero, List.getElem_cons_succ, List.setIfInBounds_toArray, List.set_cons_zero, List.set_cons_succ]
              refine' wpAnyE_take (i := 28) (v := _) rfl (by kernel_rfl) (by kernel_rfl) (by kernel_rfl) (by kernel_rfl) (fun _ _ _ h => h) (Or.inl ⟨by rfl, fun u hu => ?_⟩) hHeld hClosed (fun hNext => ?_)
              rotate_left
              · (try dsimp only at hu)
                go_simp
                try with_reducible rfl
              clear hClosed
              have hClosed := hNext
              clear hNext
              try simp only [Act.put, List.getElem_toArray, List.getElem_cons_zero, List.getElem_cons_succ, List.setIfInBounds_toArray, List.set_cons_zero, List.set_cons_succ]
              refine' wpAnyE_take (i := 29) (v := _) rfl (by kernel_rfl) (by kernel_rfl) (by kernel_rfl) (by kernel_rfl) (fun _ _ _ h => h) (Or.inl ⟨by rfl, fun u hu => ?_⟩) hHeld hClosed (fun hNext => ?_)
              rotate_left
              · (try dsimp only at hu)
                go_simp
                try with_reducible rfl
              clear hClosed
              have hClosed := hNext
              clear hNext
              try simp only [Act.put, List.getElem_toArray, List.getElem_cons_zero, List.getElem_cons_succ, List.setIfInBounds_toArray, List.set_cons_zero, List.set_cons_succ]
              refine' wpAnyE_take (i := 30) (v := _) rfl (by kernel_rfl) (by kernel_rfl) (by kernel_rfl) (by kernel_rfl) (fun _ _ _ h => h) (Or.inl ⟨by rfl, fun u hu => ?_⟩) hHeld hClosed (fun hNext => ?_)
              rotate_left
              · (try dsimp only at hu)
                go_simp
                try with_reducible rfl
              clear hClosed
              have hClosed := hNext
              clear hNext
              try simp only [Act.put, List.getElem_toArray, List.getElem_cons_zero, List.getElem_cons_succ, List.setIfInBounds_toArray, List.set_cons_zero, List.set_cons_succ]
              refine' wpAnyE_take (i := 31) (v := _) rfl (by kernel_rfl) (by kernel_rfl) (by kernel_rfl) (by kernel_rfl) (fun _ _ _ h => h) (Or.inl ⟨by rfl, fun u hu => ?_⟩) hHeld hClosed (fun hNext => ?_)
              rotate_left
              · (try dsimp only at hu)
                go_simp
                try with_reducible rfl
              clear hClosed
              have hClosed := hNext
              clear hNext
              try simp only [Act.put, List.getElem_toArray, List.getElem_cons_zero, List.getElem_cons_succ, List.setIfInBounds_toArray, List.set_cons_zero, List.set_cons_succ]
              refine' wpAnyE_take (i := 32) (v := _) rfl (by kernel_rfl) (by kernel_rfl) (by kernel_rfl) (by kernel_rfl) (fun _ _ _ h => h) (Or.inl ⟨by rfl, fun u hu => ?_⟩) hHeld hClosed (fun hNext => ?_)
              rotate_left
              · (try dsimp only at hu)
                go_simp
                try with_reducible rfl
              clear hClosed
              have hClosed := hNext
              clear hNext
              try simp only [Act.put, List.getElem_toArray, List.getElem_cons_zero, List.getElem_cons_succ, List.setIfInBounds_toArray, List.set_cons_zero, List.set_cons_succ]
              refine' wpAnyE_take (i := 33) (v := _) rfl (by kernel_rfl) (by kernel_rfl) (by kernel_rfl) (by kernel_rfl) (fun _ _ _ h => h) (Or.inl ⟨by rfl, fun u hu => ?_⟩) hHeld hClosed (fun hNext => ?_)
              rotate_left
              · (try dsimp only at hu)
                go_simp
                try with_reducible rfl
              clear hClosed
              have hClosed := hNext
              clear hNext
              try simp only [Act.put, List.getElem_toArray, List.getElem_cons_zero, List.getElem_cons_succ, List.setIfInBounds_toArray, List.set_cons_zero, List.set_cons_succ]
              refine' wpAnyE_take (i := 34) (v := _) rfl (by kernel_rfl) (by kernel_rfl) (by kernel_rfl) (by kernel_rfl) (fun _ _ _ h => h) (Or.inl ⟨by rfl, fun u hu => ?_⟩) hHeld hClosed (fun hNext => ?_)
              rotate_left
              · (try dsimp only at hu)
                go_simp
                try with_reducible rfl
              clear hClosed
              have hClosed := hNext
              clear hNext
              try simp only [Act.put, List.getElem_toArray, List.getElem_cons_zero, List.getElem_cons_succ, List.setIfInBounds_toArray, List.set_cons_zero, List.set_cons_succ]
              refine' wpAnyE_take (i := 35) (v := _) rfl (by kernel_rfl) (by kernel_rfl) (by kernel_rfl) (by kernel_rfl) (fun _ _ _ h => h) (Or.inl ⟨by rfl, fun u hu => ?_⟩) hHeld hClosed (fun hNext => ?_)
              rotate_left
              · (try dsimp only at hu)
                go_simp
                try with_reducible rfl
              clear hClosed
              have hClosed := hNext
              clear hNext
              try simp only [Act.put, List.getElem_toArray, List.getElem_cons_zero, List.getElem_cons_succ, List.setIfInBounds_toArray, List.set_cons_zero, List.set_cons_succ]
              refine' wpAnyE_take (i := 36) (v := _) rfl (by kernel_rfl) (by kernel_rfl) (by kernel_rfl) (by kernel_rfl) (fun _ _ _ h => h) (Or.inl ⟨by rfl, fun u hu => ?_⟩) hHeld hClosed (fun hNext => ?_)
              rotate_left
              · (try dsimp only at hu)
                go_simp
                try with_reducible rfl
              clear hClosed
              have hClosed := hNext
              clear hNext
              try simp only [Act.put, List.getElem_toArray, List.getElem_cons_zero, List.getElem_cons_succ, List.setIfInBounds_toArray, List.set_cons_zero, List.set_cons_succ]
              refine' wpAnyE_take (i := 37) (v := _) rfl (by kernel_rfl) (by kernel_rfl) (by kernel_rfl) (by kernel_rfl) (fun _ _ _ h => h) (Or.inl ⟨by rfl, fun u hu => ?_⟩) hHeld hClosed (fun hNext => ?_)
              rotate_left
              · (try dsimp only at hu)
                go_simp
                try with_reducible rfl
              clear hClosed
              have hClosed := hNext
              clear hNext
              try simp only [Act.put, List.getElem_toArray, List.getElem_cons_zero, List.getElem_cons_succ, List.setIfInBounds_toArray, List.set_cons_zero, List.set_cons_succ]
              refine' wpAnyE_take (i := 38) (v := _) rfl (by kernel_rfl) (by kernel_rfl) (by kernel_rfl) (by kernel_rfl) (fun _ _ _ h => h) (Or.inl ⟨by rfl, fun u hu => ?_⟩) hHeld hClosed (fun hNext => ?_)
              rotate_left
              · (try dsimp only at hu)
                go_simp
                try with_reducible rfl
              clear hClosed
              have hClosed := hNext
              clear hNext
              try simp only [Act.put, List.getElem_toArray, List.getElem_cons_zero, List.getElem_cons_succ, List.setIfInBounds_toArray, List.set_cons_zero, List.set_cons_succ]
              refine' wpAnyE_take (i := 39) (v := _) rfl (by kernel_rfl) (by kernel_rfl) (by kernel_rfl) (by kernel_rfl) (fun _ _ _ h => h) (Or.inr ⟨by rfl, rfl⟩) hHeld hClosed (fun hNext => ?_)
              clear hClosed
              have hClosed := hNext
              clear hNext
              try simp only [Act.put, List.getElem_toArray, List.getElem_cons_zero, List.getElem_cons_succ, List.setIfInBounds_toArray, List.set_cons_zero, List.set_cons_succ]
              refine' wpAnyE_take (i := 40) (v := _) rfl (by kernel_rfl) (by kernel_rfl) (by kernel_rfl) (by kernel_rfl) (fun _ _ _ h => h) (Or.inr ⟨by rfl, rfl⟩) hHeld hClosed (fun hNext => ?_)
              clear hClosed
              have hClosed := hNext
              clear hNext
              try simp only [Act.put, List.getElem_toArray, List.getElem_cons_zero, List.getElem_cons_succ, List.setIfInBounds_toArray, List.set_cons_zero, List.set_cons_succ]
              refine' wpAnyE_take (i := 41) (v := _) rfl (by kernel_rfl) (by kernel_rfl) (by kernel_rfl) (by kernel_rfl) (fun _ _ _ h => h) (Or.inr ⟨by rfl, rfl⟩) hHeld hClosed (fun hNext => ?_)
              clear hClosed
              have hClosed := hNext
              clear hNext
              try simp only [Act.put, List.getElem_toArray, List.getElem_cons_zero, List.getElem_cons_succ, List.setIfInBounds_toArray, List.set_cons_zero, List.set_cons_succ]
              refine' wpAnyE_take (i := 42) (v := _) rfl (by kernel_rfl) (by kernel_rfl) (by kernel_rfl) (by kernel_rfl) (fun _ _ _ h => h) (Or.inr ⟨by rfl, rfl⟩) hHeld hClosed (fun hNext => ?_)
              clear hClosed
              have hClosed := hNext
              clear hNext
              try simp only [Act.put, List.getElem_toArray, List.getElem_cons_zero, List.getElem_cons_succ, List.setIfInBounds_toArray, List.set_cons_zero, List.set_cons_succ]
              refine' wpAnyE_take (i := 43) (v := _) rfl (by kernel_rfl) (by kernel_rfl) (by kernel_rfl) (by kernel_rfl) (fun _ _ _ h => h) (Or.inr ⟨by rfl, rfl⟩) hHeld hClosed (fun hNext => ?_)
              clear hClosed
              have hClosed := hNext
              clear hNext
              try simp only [Act.put, List.getElem_toArray, List.getElem_cons_zero, List.getElem_cons_succ, List.setIfInBounds_toArray, List.set_cons_zero, List.set_cons_succ]
              refine' wpAnyE_take (i := 44) (v := _) rfl (by kernel_rfl) (by kernel_rfl) (by kernel_rfl) (by kernel_rfl) (fun _ _ _ h => h) (Or.inr ⟨by rfl, rfl⟩) hHeld hClosed (fun hNext => ?_)
              clear hClosed
              have hClosed := hNext
              clear hNext
              try simp only [Act.put, List.getElem_toArray, List.getElem_cons_zero, List.getElem_cons_succ, List.setIfInBounds_toArray, List.set_cons_zero, List.set_cons_succ]
              refine' wpAnyE_take (i := 45) (v := _) rfl (by kernel_rfl) (by kernel_rfl) (by kernel_rfl) (by kernel_rfl) (fun _ _ _ h => h) (Or.inr ⟨by rfl, rfl⟩) hHeld hClosed (fun hNext => ?_)
              clear hClosed
              have hClosed := hNext
              clear hNext
              try simp only [Act.put, List.getElem_toArray, List.getElem_cons_zero, List.getElem_cons_succ, List.setIfInBounds_toArray, List.set_cons_zero, List.set_cons_succ]
              refine' wpAnyE_take (i := 46) (v := _) rfl (by kernel_rfl) (by kernel_rfl) (by kernel_rfl) (by kernel_rfl) (fun _ _ _ h => h) (Or.inr ⟨by rfl, rfl⟩) hHeld hClosed (fun hNext => ?_)
              clear hClosed
              have hClosed := hNext
              clear hNext
              try simp only [Act.put, List.getElem_toArray, List.getElem_cons_zero, List.getElem_cons_succ, List.setIfInBounds_toArray, List.set_cons_zero, List.set_cons_succ]
              refine' wpAnyE_take (i := 47) (v := _) rfl (by kernel_rfl) (by kernel_rfl) (by kernel_rfl) (by kernel_rfl) (fun _ _ _ h => h) (Or.inr ⟨by rfl, rfl⟩) hHeld hClosed (fun hNext => ?_)
              clear hClosed
              have hClosed := hNext
              clear hNext
              try simp only [Act.put, List.getElem_toArray, List.getElem_cons_zero, List.getElem_cons_succ, List.setIfInBounds_toArray, List.set_cons_zero, List.set_cons_succ]
              refine' wpAnyE_take (i := 48) (v := _) rfl (by kernel_rfl) (by kernel_rfl) (by kernel_rfl) (by kernel_rfl) (fun _ _ _ h => h) (Or.inr ⟨by rfl, rfl⟩) hHeld hClosed (fun hNext => ?_)
              clear hClosed
              have hClosed := hNext
              clear hNext
              try simp only [Act.put, List.getElem_toArray, List.getElem_cons_zero, List.getElem_cons_succ, List.setIfInBounds_toArray, List.set_cons_zero, List.set_cons_succ]
              refine' wpAnyE_take (i := 49) (v := _) rfl (by kernel_rfl) (by kernel_rfl) (by kernel_rfl) (by kernel_rfl) (fun _ _ _ h => h) (Or.inr ⟨by rfl, rfl⟩) hHeld hClosed (fun hNext => ?_)
              clear hClosed
              have hClosed := hNext
              clear hNext
              try simp only [Act.put, List.getElem_toArray, List.getElem_cons_zero, List.getElem_cons_succ, List.setIfInBounds_toArray, List.set_cons_zero, List.set_cons_succ]
              refine' wpAnyE_take (i := 50) (v := _) rfl (by kernel_rfl) (by kernel_rfl) (by kernel_rfl) (by kernel_rfl) (fun _ _ _ h => h) (Or.inl ⟨by rfl, fun u hu => ?_⟩) hHeld hClosed (fun hNext => ?_)
              rotate_left
              · (try dsimp only at hu)
                go_simp
                try with_reducible rfl
              clear hClosed
              have hClosed := hNext
              clear hNext
              try simp only [Act.put, List.getElem_toArray, List.getElem_cons_zero, List.getElem_cons_succ, List.setIfInBounds_toArray, List.set_cons_zero, List.set_cons_succ]
              refine wpAnyE_done (by kernel_rfl) ?_ _
              clear hClosed
              go_wp2_with fail
              go_ret
              exact ⟨ret_bool (by
                rw [eq_comm, decide_eq_false_iff_not]
                intro e
                have h1 := XS.out.1
                have h2 := XS.out.2
                subst e
                rw [h1] at h2
                injection h2 with h2 h3 h4 h5
                simp [h4] at e3), HB.out.trans (B5.out.mono HB.out.size)⟩

          · have TT := trivial
            go_wp2_with fail
            refine wp_region_E (S := fun w' => SqCell w' g (off + k * 4) (.slice Aj n cj) ⟨pl, lev, sos, eos⟩ ∧ SqCell w' g' (off' + k * 4) (.slice Aj' n' cj') ⟨pl', lev', sos', eos'⟩) [] (by kernel_rfl) (hk0) (fun hHeld hClosed => ?_)
            refine' wpAnyE_take (i := 0) (v := _) rfl (by kernel_rfl) (by kernel_rfl) (by kernel_rfl) (by kernel_rfl) (fun _ _ _ h => h) (Or.inl ⟨by rfl, fun u hu => ?_⟩) hHeld hClosed (fun hNext => ?_)
            rotate_left
            · (try dsimp only at hu)
              go_simp
              try with_reducible rfl
            clear hClosed
            have hClosed := hNext
            clear hNext
            try simp only [Act.put, List.getElem_toArray, List.getElem_cons_zero, List.setIfInBounds_toArray, List.set_cons_zero, List.set_cons_succ]
            refine' wpAnyE_take (i := 1) (v := _) rfl (by kernel_rfl) (by kernel_rfl) (by kernel_rfl) (by kernel_rfl) (fun _ _ _ h => h) (Or.inl ⟨by rfl, fun u hu => ?_⟩) hHeld hClosed (fun hNext => ?_)
            rotate_left
            · (try dsimp only at hu)
              go_simp
              try with_reducible rfl
            clear hClosed
            have hClosed := hNext
            clear hNext
            try simp only [Act.put, List.getElem_toArray, List.getElem_cons_zero, List.getElem_cons_succ, List.setIfInBounds_toArray, List.set_cons_zero, List.set_cons_succ]
            refine' wpAnyE_take (i := 2) (v := _) rfl (by kernel_rfl) (by kernel_rfl) (by kernel_rfl) (by kernel_rfl) (fun _ _ _ h => h) (Or.inl ⟨by rfl, fun u hu => ?_⟩) hHeld hClosed (fun hNext => ?_)
            rotate_left
            · (try dsimp only at hu)
              go_simp
              try with_reducible rfl
            clear hClosed
            have hClosed := hNext
            clear hNext
            try simp only [Act.put, List.getElem_toArray, List.getElem_cons_zero, List.getElem_cons_succ, List.setIfInBounds_toArray, List.set_cons_zero, List.set_cons_succ]
            refine' wpAnyE_take (i := 3) (v := _) rfl (by kernel_rfl) (by kernel_rfl) (by kernel_rfl) (by kernel_rfl) (fun _ _ _ h => h) (Or.inl ⟨by rfl, fun u hu => ?_⟩) hHeld hClosed (fun hNext => ?_)
            rotate_left
            · (try dsimp only at hu)
              go_simp
              try with_reducible rfl
            clear hClosed
            have hClosed := hNext
            clear hNext
            try simp only [Act.put, List.getElem_toArray, List.getElem_cons_zero, List.getElem_cons_succ, List.setIfInBounds_toArray, List.set_cons_zero, List.set_cons_succ]
            refine' wpAnyE_take (i := 4) (v := _) rfl (by kernel_rfl) (by kernel_rfl) (by kernel_rfl) (by kernel_rfl) (fun _ _ _ h => h) (Or.inl ⟨by rfl, fun u hu => ?_⟩) hHeld hClosed (fun hNext => ?_)
            rotate_left
            · (try dsimp only at hu)
              go_simp
              try with_reducible rfl
            clear hClosed
            have hClosed := hNext
            clear hNext
            try simp only [Act.put, List.getElem_toArray, List.getElem_cons_zero, List.getElem_cons_succ, List.setIfInBounds_toArray, List.set_cons_zero, List.set_cons_succ]
            refine' wpAnyE_take (i := 5) (v := _) rfl (by kernel_rfl) (by kernel_rfl) (by kernel_rfl) (by kernel_rfl) (fun _ _ _ h => h) (Or.inl ⟨by rfl, fun u hu => ?_⟩) hHeld hClosed (fun hNext => ?_)
            rotate_left
            · (try dsimp only at hu)
              go_simp
              try with_reducible rfl
            clear hClosed
            have hClosed := hNext
            clear hNext
            try simp only [Act.put, List.getElem_toArray, List.getElem_cons_zero, List.getElem_cons_succ, List.setIfInBounds_toArray, List.set_cons_zero, List.set_cons_succ]
            refine' wpAnyE_take (i := 6) (v := _) rfl (by kernel_rfl) (by kernel_rfl) (by kernel_rfl) (by kernel_rfl) (fun _ _ _ h => h) (Or.inl ⟨by rfl, fun u hu => ?_⟩) hHeld hClosed (fun hNext => ?_)
            rotate_left
            · (try dsimp only at hu)
              go_simp
              try with_reducible rfl
            clear hClosed
            have hClosed := hNext
            clear hNext
            try simp only [Act.put, List.getElem_toArray, List.getElem_cons_zero, List.getElem_cons_succ, List.setIfInBounds_toArray, List.set_cons_zero, List.set_cons_succ]
            refine' wpAnyE_take (i := 7) (v := _) rfl (by kernel_rfl) (by kernel_rfl) (by kernel_rfl) (by kernel_rfl) (fun _ _ _ h => h) (Or.inl ⟨by rfl, fun u hu => ?_⟩) hHeld hClosed (fun hNext => ?_)
            rotate_left
            · (try dsimp only at hu)
              go_simp
              try with_reducible rfl
            clear hClosed
            have hClosed := hNext
            clear hNext
            try simp only [Act.put, List.getElem_toArray, List.getElem_cons_zero, List.getElem_cons_succ, List.setIfInBounds_toArray, List.set_cons_zero, List.set_cons_succ]
            refine' wpAnyE_take (i := 8) (v := _) rfl (by kernel_rfl) (by kernel_rfl) (by kernel_rfl) (by kernel_rfl) (fun _ _ _ h => h) (Or.inl ⟨by rfl, fun u hu => ?_⟩) hHeld hClosed (fun hNext => ?_)
            rotate_left
            · (try dsimp only at hu)
              go_simp
              try with_reducible rfl
            clear hClosed
            have hClosed := hNext
            clear hNext
            try simp only [Act.put, List.getElem_toArray, List.getElem_cons_zero, List.getElem_cons_succ, List.setIfInBounds_toArray, List.set_cons_zero, List.set_cons_succ]
            refine' wpAnyE_take (i := 9) (v := _) rfl (by kernel_rfl) (by kernel_rfl) (by kernel_rfl) (by kernel_rfl) (fun _ _ _ h => h) (Or.inl ⟨by rfl, fun u hu => ?_⟩) hHeld hClosed (fun hNext => ?_)
            rotate_left
            · (try dsimp only at hu)
              go_simp
              try with_reducible rfl
            clear hClosed
            have hClosed := hNext
            clear hNext
            try simp only [Act.put, List.getElem_toArray, List.getElem_cons_zero, List.getElem_cons_succ, List.setIfInBounds_toArray, List.set_cons_zero, List.set_cons_succ]
            refine wpAnyE_ready (rs := [10]) (by kernel_rfl) (by simp) ?_
            refine AllReadyE.cons rfl (fun K hK => ?_) AllReadyE.nil
            all_goals simp only [List.getElem_toArray, List.getElem_cons_zero, List.getElem_cons_succ]
            all_goals go_simp
            refine HI.out.mono ?_
            rintro e w5 ⟨rfl, b5⟩
            rw [P1.out]
            have B5 := Lib.hid (show Below wr.heap.size wr w5 from ⟨b5.os, b5.tape, b5.output, b5.size, b5.block⟩)
            clear b5
            refine hK.out _ _ (fun _ => SK.out _ B5.out) (fun hHeld => ?_) (fun hX => (by first | cases hX | simp at hX))
            replace hClosed := hClosed.step 10 (by kernel_rfl)
            clear hK K
            try simp only [Act.put, List.getElem_toArray, List.getElem_cons_zero, List.getElem_cons_succ, List.setIfInBounds_toArray, List.set_cons_zero, List.set_cons_succ]
            refine' wpAnyE_take (i := 11) (v := _) rfl (by kernel_rfl) (by kernel_rfl) (by kernel_rfl) (by kernel_rfl) (fun _ _ _ h => h) (Or.inl ⟨by rfl, fun u hu => ?_⟩) hHeld hClosed (fun hNext => ?_)
            rotate_left
            · (try dsimp only at hu)
              go_simp
              try with_reducible rfl
            clear hClosed
            have hClosed := hNext
            clear hNext
            try simp only [Act.put, List.getElem_toArray, List.getElem_cons_zero, List.getElem_cons_succ, List.setIfInBounds_toArray, List.set_cons_zero, List.set_cons_succ]
            refine' wpAnyE_take (i := 12) (v := _) rfl (by kernel_rfl) (by kernel_rfl) (by kernel_rfl) (by kernel_rfl) (fun _ _ _ h => h) (Or.inl ⟨by rfl, fun u hu => ?_⟩) hHeld hClosed (fun hNext => ?_)
            rotate_left
            · (try dsimp only at hu)
              go_simp
              try with_reducible rfl
            clear hClosed
            have hClosed := hNext
            clear hNext
            try simp only [Act.put, List.getElem_toArray, List.getElem_cons_zero, List.getElem_cons_succ, List.setIfInBounds_toArray, List.set_cons_zero, List.set_cons_succ]
            refine' wpAnyE_take (i := 13) (v := _) rfl (by kernel_rfl) (by kernel_rfl) (by kernel_rfl) (by kernel_rfl) (fun _ _ _ h => h) (Or.inl ⟨by rfl, fun u hu => ?_⟩) hHeld hClosed (fun hNext => ?_)
            rotate_left
            · (try dsimp only at hu)
              go_simp
              try with_reducible rfl
            clear hClosed
            have hClosed := hNext
            clear hNext
            try simp only [Act.put, List.getElem_toArray, List.getElem_cons_zero, List.getElem_cons_succ, List.setIfInBounds_toArray, List.set_cons_zero, List.set_cons_succ]
            refine' wpAnyE_take (i := 14) (v := _) rfl (by kernel_rfl) (by kernel_rfl) (by kernel_rfl) (by kernel_rfl) (fun _ _ _ h => h) (Or.inl ⟨by rfl, fun u hu => ?_⟩) hHeld hClosed (fun hNext => ?_)
            rotate_left
            · (try dsimp only at hu)
              go_simp
              try with_reducible rfl
            clear hClosed
            have hClosed := hNext
            clear hNext
            try simp only [Act.put, List.getElem_toArray, List.getElem_cons_zero, List.getElem_cons_succ, List.setIfInBounds_toArray, List.set_cons_zero, List.set_cons_succ]
            refine' wpAnyE_take (i := 15) (v := _) rfl (by kernel_rfl) (by kernel_rfl) (by kernel_rfl) (by kernel_rfl) (fun _ _ _ h => h) (Or.inl ⟨by rfl, fun u hu => ?_⟩) hHeld hClosed (fun hNext => ?_)
            rotate_left
            · (try dsimp only at hu)
              go_simp
              try with_reducible rfl
            clear hClosed
            have hClosed := hNext
            clear hNext
            try simp only [Act.put, List.getElem_toArray, List.getElem_cons_zero, List.getElem_cons_succ, List.setIfInBounds_toArray, List.set_cons_zero, List.set_cons_succ]
            refine' wpAnyE_take (i := 16) (v := _) rfl (by kernel_rfl) (by kernel_rfl) (by kernel_rfl) (by kernel_rfl) (fun _ _ _ h => h) (Or.inl ⟨by rfl, fun u hu => ?_⟩) hHeld hClosed (fun hNext => ?_)
            rotate_left
            · (try dsimp only at hu)
              go_simp
              try with_reducible rfl
            clear hClosed
            have hClosed := hNext
            clear hNext
            try simp only [Act.put, List.getElem_toArray, List.getElem_cons_zero, List.getElem_cons_succ, List.setIfInBounds_toArray, List.set_cons_zero, List.set_cons_succ]
            refine' wpAnyE_take (i := 17) (v := _) rfl (by kernel_rfl) (by kernel_rfl) (by kernel_rfl) (by kernel_rfl) (fun _ _ _ h => h) (Or.inl ⟨by rfl, fun u hu => ?_⟩) hHeld hClosed (fun hNext => ?_)
            rotate_left
            · (try dsimp only at hu)
              go_simp
              try with_reducible rfl
            clear hClosed
            have hClosed := hNext
            clear hNext
            try simp only [Act.put, List.getElem_toArray, List.getElem_cons_zero, List.getElem_cons_succ, List.setIfInBounds_toArray, List.set_cons_zero, List.set_cons_succ]
            refine' wpAnyE_take (i := 18) (v := _) rfl (by kernel_rfl) (by kernel_rfl) (by kernel_rfl) (by kernel_rfl) (fun _ _ _ h => h) (Or.inl ⟨by rfl, fun u hu => ?_⟩) hHeld hClosed (fun hNext => ?_)
            rotate_left
            · (try dsimp only at hu)
              go_simp
              try with_reducible rfl
            clear hClosed
            have hClosed := hNext
            clear hNext
            try simp only [Act.put, List.getElem_toArray, List.getElem_cons_zero, List.getElem_cons_succ, List.setIfInBounds_toArray, List.set_cons_zero, List.set_cons_succ]
            refine' wpAnyE_take (i := 19) (v := _) rfl (by kernel_rfl) (by kernel_rfl) (by kernel_rfl) (by kernel_rfl) (fun _ _ _ h => h) (Or.inl ⟨by rfl, fun u hu => ?_⟩) hHeld hClosed (fun hNext => ?_)
            rotate_left
            · (try dsimp only at hu)
              go_simp
              try with_reducible rfl
            clear hClosed
            have hClosed := hNext
            clear hNext
            try simp only [Act.put, List.getElem_toArray, List.getElem_cons_zero, List.getElem_cons_succ, List.setIfInBounds_toArray, List.set_cons_zero, List.set_cons_succ]
            refine' wpAnyE_take (i := 20) (v := _) rfl (by kernel_rfl) (by kernel_rfl) (by kernel_rfl) (by kernel_rfl) (fun _ _ _ h => h) (Or.inl ⟨by rfl, fun u hu => ?_⟩) hHeld hClosed (fun hNext => ?_)
            rotate_left
            · (try dsimp only at hu)
              go_simp
              try with_reducible rfl
            clear hClosed
            have hClosed := hNext
            clear hNext
            try simp only [Act.put, List.getElem_toArray, List.getElem_cons_zero, List.getElem_cons_succ, List.setIfInBounds_toArray, List.set_cons_zero, List.set_cons_succ]
            refine' wpAnyE_take (i := 21) (v := _) rfl (by kernel_rfl) (by kernel_rfl) (by kernel_rfl) (by kernel_rfl) (fun _ _ _ h => h) (Or.inl ⟨by rfl, fun u hu => ?_⟩) hHeld hClosed (fun hNext => ?_)
            rotate_left
            · (try dsimp only at hu)
              go_simp
              try with_reducible rfl
            clear hClosed
            have hClosed := hNext
            clear hNext
            try simp only [Act.put, List.getElem_toArray, List.getElem_cons_zero, List.getElem_cons_succ, List.setIfInBounds_toArray, List.set_cons_zero, List.set_cons_succ]
            refine' wpAnyE_take (i := 22) (v := _) rfl (by kernel_rfl) (by kernel_rfl) (by kernel_rfl) (by kernel_rfl) (fun _ _ _ h => h) (Or.inl ⟨by rfl, fun u hu => ?_⟩) hHeld hClosed (fun hNext => ?_)
            rotate_left
            · (try dsimp only at hu)
              go_simp
              try with_reducible rfl
            clear hClosed
            have hClosed := hNext
            clear hNext
            try simp only [Act.put, List.getElem_toArray, List.getElem_cons_zero, List.getElem_cons_succ, List.setIfInBounds_toArray, List.set_cons_zero, List.set_cons_succ]
            refine' wpAnyE_take (i := 23) (v := _) rfl (by kernel_rfl) (by kernel_rfl) (by kernel_rfl) (by kernel_rfl) (fun _ _ _ h => h) (Or.inl ⟨by rfl, fun u hu => ?_⟩) hHeld hClosed (fun hNext => ?_)
            rotate_left
            · (try dsimp only at hu)
              go_simp
              try with_reducible rfl
            clear hClosed
            have hClosed := hNext
            clear hNext
            try simp only [Act.put, List.getElem_toArray, List.getElem_cons_zero, List.getElem_cons_succ, List.setIfInBounds_toArray, List.set_cons_zero, List.set_cons_succ]
            refine' wpAnyE_take (i := 24) (v := _) rfl (by kernel_rfl) (by kernel_rfl) (by kernel_rfl) (by kernel_rfl) (fun _ _ _ h => h) (Or.inl ⟨by rfl, fun u hu => ?_⟩) hHeld hClosed (fun hNext => ?_)
            rotate_left
            · (try dsimp only at hu)
              go_simp
              try with_reducible rfl
            clear hClosed
            have hClosed := hNext
            clear hNext
            try simp only [Act.put, List.getElem_toArray, List.getElem_cons_zero, List.getElem_cons_succ, List.setIfInBounds_toArray, List.set_cons_zero, List.set_cons_succ]
            refine' wpAnyE_take (i := 25) (v := _) rfl (by kernel_rfl) (by kernel_rfl) (by kernel_rfl) (by kernel_rfl) (fun _ _ _ h => h) (Or.inl ⟨by rfl, fun u hu => ?_⟩) hHeld hClosed (fun hNext => ?_)
            rotate_left
            · (try dsimp only at hu)
              go_simp
              try with_reducible rfl
            clear hClosed
            have hClosed := hNext
            clear hNext
            try simp only [Act.put, List.getElem_toArray, List.getElem_cons_zero, List.getElem_cons_succ, List.setIfInBounds_toArray, List.set_cons_zero, List.set_cons_succ]
            refine' wpAnyE_take (i := 26) (v := _) rfl (by kernel_rfl) (by kernel_rfl) (by kernel_rfl) (by kernel_rfl) (fun _ _ _ h => h) (Or.inr ⟨by rfl, rfl⟩) hHeld hClosed (fun hNext => ?_)
            clear hClosed
            have hClosed := hNext
            clear hNext
            try simp only [Act.put, List.getElem_toArray, List.getElem_cons_zero, List.getElem_cons_succ, List.setIfInBounds_toArray, List.set_cons_zero, List.set_cons_succ]
            refine' wpAnyE_take (i := 27) (v := _) rfl (by kernel_rfl) (by kernel_rfl) (by kernel_rfl) (by kernel_rfl) (fun _ _ _ h => h) (Or.inr ⟨by rfl, rfl⟩) hHeld hClosed (fun hNext => ?_)
            clear hClosed
            have hClosed := hNext
            clear hNext
            try simp only [Act.put, List.getElem_toArray, List.getElem_cons_zero, List.getElem_cons_succ, List.setIfInBounds_toArray, List.set_cons_zero, List.set_cons_succ]
            refine' wpAnyE_take (i := 28) (v := _) rfl (by kernel_rfl) (by kernel_rfl) (by kernel_rfl) (by kernel_rfl) (fun _ _ _ h => h) (Or.inr ⟨by rfl, rfl⟩) hHeld hClosed (fun hNext => ?_)
            clear hClosed
            have hClosed := hNext
            clear hNext
            try simp only [Act.put, List.getElem_toArray, List.getElem_cons_zero, List.getElem_cons_succ, List.setIfInBounds_toArray, List.set_cons_zero, List.set_cons_succ]
            refine' wpAnyE_take (i := 29) (v := _) rfl (by kernel_rfl) (by kernel_rfl) (by kernel_rfl) (by kernel_rfl) (fun _ _ _ h => h) (Or.inr ⟨by rfl, rfl⟩) hHeld hClosed (fun hNext => ?_)
            clear hClosed
            have hClosed := hNext
            clear hNext
            try simp only [Act.put, List.getElem_toArray, List.getElem_cons_zero, List.getElem_cons_succ, List.setIfInBounds_toArray, List.set_cons_zero, List.set_cons_succ]
            refine' wpAnyE_take (i := 30) (v := _) rfl (by kernel_rfl) (by kernel_rfl) (by kernel_rfl) (by kernel_rfl) (fun _ _ _ h => h) (Or.inr ⟨by rfl, rfl⟩) hHeld hClosed (fun hNext => ?_)
            clear hClosed
            have hClosed := hNext
            clear hNext
            try simp only [Act.put, List.getElem_toArray, List.getElem_cons_zero, List.getElem_cons_succ, List.setIfInBounds_toArray, List.set_cons_zero, List.set_cons_succ]
            refine' wpAnyE_take (i := 31) (v := _) rfl (by kernel_rfl) (by kernel_rfl) (by kernel_rfl) (by kernel_rfl) (fun _ _ _ h => h) (Or.inr ⟨by rfl, rfl⟩) hHeld hClosed (fun hNext => ?_)
            clear hClosed
            have hClosed := hNext
            clear hNext
            try simp only [Act.put, List.getElem_toArray, List.getElem_cons_zero, List.getElem_cons_succ, List.setIfInBounds_toArray, List.set_cons_zero, List.set_cons_succ]
            refine' wpAnyE_take (i := 32) (v := _) rfl (by kernel_rfl) (by kernel_rfl) (by kernel_rfl) (by kernel_rfl) (fun _ _ _ h => h) (Or.inr ⟨by rfl, rfl⟩) hHeld hClosed (fun hNext => ?_)
            clear hClosed
            have hClosed := hNext
            clear hNext
            try simp only [Act.put, List.getElem_toArray, List.getElem_cons_zero, List.getElem_cons_succ, List.setIfInBounds_toArray, List.set_cons_zero, List.set_cons_succ]
            refine' wpAnyE_take (i := 33) (v := _) rfl (by kernel_rfl) (by kernel_rfl) (by kernel_rfl) (by kernel_rfl) (fun _ _ _ h => h) (Or.inr ⟨by rfl, rfl⟩) hHeld hClosed (fun hNext => ?_)
            clear hClosed
            have hClosed := hNext
            clear hNext
            try simp only [Act.put, List.getElem_toArray, List.getElem_cons_zero, List.getElem_cons_succ, List.setIfInBounds_toArray, List.set_cons_zero, List.set_cons_succ]
            refine' wpAnyE_take (i := 34) (v := _) rfl (by kernel_rfl) (by kernel_rfl) (by kernel_rfl) (by kernel_rfl) (fun _ _ _ h => h) (Or.inr ⟨by rfl, rfl⟩) hHeld hClosed (fun hNext => ?_)
            clear hClosed
            have hClosed := hNext
            clear hNext
            try simp only [Act.put, List.getElem_toArray, List.getElem_cons_zero, List.getElem_cons_succ, List.setIfInBounds_toArray, List.set_cons_zero, List.set_cons_succ]
            refine' wpAnyE_take (i := 35) (v := _) rfl (by kernel_rfl) (by kernel_rfl) (by kernel_rfl) (by kernel_rfl) (fun _ _ _ h => h) (Or.inr ⟨by rfl, rfl⟩) hHeld hClosed (fun hNext => ?_)
            clear hClosed
            have hClosed := hNext
            clear hNext
            try simp only [Act.put, List.getElem_toArray, List.getElem_cons_zero, List.getElem_cons_succ, List.setIfInBounds_toArray, List.set_cons_zero, List.set_cons_succ]
            refine' wpAnyE_take (i := 36) (v := _) rfl (by kernel_rfl) (by kernel_rfl) (by kernel_rfl) (by kernel_rfl) (fun _ _ _ h => h) (Or.inr ⟨by rfl, rfl⟩) hHeld hClosed (fun hNext => ?_)
            clear hClosed
            have hClosed := hNext
            clear hNext
            try simp only [Act.put, List.getElem_toArray, List.getElem_cons_zero, List.getElem_cons_succ, List.setIfInBounds_toArray, List.set_cons_zero, List.set_cons_succ]
            refine' wpAnyE_take (i := 37) (v := _) rfl (by kernel_rfl) (by kernel_rfl) (by kernel_rfl) (by kernel_rfl) (fun _ _ _ h => h) (Or.inl ⟨by rfl, fun u hu => ?_⟩) hHeld hClosed (fun hNext => ?_)
            rotate_left
            · (try dsimp only at hu)
              go_simp
              try with_reducible rfl
            clear hClosed
            have hClosed := hNext
            clear hNext
            try simp only [Act.put, List.getElem_toArray, List.getElem_cons_zero, List.getElem_cons_succ, List.setIfInBounds_toArray, List.set_cons_zero, List.set_cons_succ]
            refine' wpAnyE_take (i := 38) (v := _) rfl (by kernel_rfl) (by kernel_rfl) (by kernel_rfl) (by kernel_rfl) (fun _ _ _ h => h) (Or.inl ⟨by rfl, fun u hu => ?_⟩) hHeld hClosed (fun hNext => ?_)
            rotate_left
            · (try dsimp only at hu)
              go_simp
              try with_reducible rfl
            clear hClosed
            have hClosed := hNext
            clear hNext
            try simp only [Act.put, List.getElem_toArray, List.getElem_cons_zero, List.getElem_cons_succ, List.setIfInBounds_toArray, List.set_cons_zero, List.set_cons_succ]
            refine' wpAnyE_take (i := 39) (v := _) rfl (by kernel_rfl) (by kernel_rfl) (by kernel_rfl) (by kernel_rfl) (fun _ _ _ h => h) (Or.inr ⟨by rfl, rfl⟩) hHeld hClosed (fun hNext => ?_)
            clear hClosed
            have hClosed := hNext
            clear hNext
            try simp only [Act.put, List.getElem_toArray, List.getElem_cons_zero, List.getElem_cons_succ, List.setIfInBounds_toArray, List.set_cons_zero, List.set_cons_succ]
            refine' wpAnyE_take (i := 40) (v := _) rfl (by kernel_rfl) (by kernel_rfl) (by kernel_rfl) (by kernel_rfl) (fun _ _ _ h => h) (Or.inr ⟨by rfl, rfl⟩) hHeld hClosed (fun hNext => ?_)
            clear hClosed
            have hClosed := hNext
            clear hNext
            try simp only [Act.put, List.getElem_toArray, List.getElem_cons_zero, List.getElem_cons_succ, List.setIfInBounds_toArray, List.set_cons_zero, List.set_cons_succ]
            refine' wpAnyE_take (i := 41) (v := _) rfl (by kernel_rfl) (by kernel_rfl) (by kernel_rfl) (by kernel_rfl) (fun _ _ _ h => h) (Or.inr ⟨by rfl, rfl⟩) hHeld hClosed (fun hNext => ?_)
            clear hClosed
            have hClosed := hNext
            clear hNext
            try simp only [Act.put, List.getElem_toArray, List.getElem_cons_zero, List.getElem_cons_succ, List.setIfInBounds_toArray, List.set_cons_zero, List.set_cons_succ]
            refine' wpAnyE_take (i := 42) (v := _) rfl (by kernel_rfl) (by kernel_rfl) (by kernel_rfl) (by kernel_rfl) (fun _ _ _ h => h) (Or.inr ⟨by rfl, rfl⟩) hHeld hClosed (fun hNext => ?_)
            clear hClosed
            have hClosed := hNext
            clear hNext
            try simp only [Act.put, List.getElem_toArray, List.getElem_cons_zero, List.getElem_cons_succ, List.setIfInBounds_toArray, List.set_cons_zero, List.set_cons_succ]
            refine' wpAnyE_take (i := 43) (v := _) rfl (by kernel_rfl) (by kernel_rfl) (by kernel_rfl) (by kernel_rfl) (fun _ _ _ h => h) (Or.inr ⟨by rfl, rfl⟩) hHeld hClosed (fun hNext => ?_)
            clear hClosed
            have hClosed := hNext
            clear hNext
            try simp only [Act.put, List.getElem_toArray, List.getElem_cons_zero, List.getElem_cons_succ, List.setIfInBounds_toArray, List.set_cons_zero, List.set_cons_succ]
            refine' wpAnyE_take (i := 44) (v := _) rfl (by kernel_rfl) (by kernel_rfl) (by kernel_rfl) (by kernel_rfl) (fun _ _ _ h => h) (Or.inr ⟨by rfl, rfl⟩) hHeld hClosed (fun hNext => ?_)
            clear hClosed
            have hClosed := hNext
            clear hNext
            try simp only [Act.put, List.getElem_toArray, List.getElem_cons_zero, List.getElem_cons_succ, List.setIfInBounds_toArray, List.set_cons_zero, List.set_cons_succ]
            refine' wpAnyE_take (i := 45) (v := _) rfl (by kernel_rfl) (by kernel_rfl) (by kernel_rfl) (by kernel_rfl) (fun _ _ _ h => h) (Or.inr ⟨by rfl, rfl⟩) hHeld hClosed (fun hNext => ?_)
            clear hClosed
            have hClosed := hNext
            clear hNext
            try simp only [Act.put, List.getElem_toArray, List.getElem_cons_zero, List.getElem_cons_succ, List.setIfInBounds_toArray, List.set_cons_zero, List.set_cons_succ]
            refine' wpAnyE_take (i := 46) (v := _) rfl (by kernel_rfl) (by kernel_rfl) (by kernel_rfl) (by kernel_rfl) (fun _ _ _ h => h) (Or.inr ⟨by rfl, rfl⟩) hHeld hClosed (fun hNext => ?_)
            clear hClosed
            have hClosed := hNext
            clear hNext
            try simp only [Act.put, List.getElem_toArray, List.getElem_cons_zero, List.getElem_cons_succ, List.setIfInBounds_toArray, List.set_cons_zero, List.set_cons_succ]
            refine' wpAnyE_take (i := 47) (v := _) rfl (by kernel_rfl) (by kernel_rfl) (by kernel_rfl) (by kernel_rfl) (fun _ _ _ h => h) (Or.inr ⟨by rfl, rfl⟩) hHeld hClosed (fun hNext => ?_)
            clear hClosed
            have hClosed := hNext
            clear hNext
            try simp only [Act.put, List.getElem_toArray, List.getElem_cons_zero, List.getElem_cons_succ, List.setIfInBounds_toArray, List.set_cons_zero, List.set_cons_succ]
            refine' wpAnyE_take (i := 48) (v := _) rfl (by kernel_rfl) (by kernel_rfl) (by kernel_rfl) (by kernel_rfl) (fun _ _ _ h => h) (Or.inr ⟨by rfl, rfl⟩) hHeld hClosed (fun hNext => ?_)
            clear hClosed
            have hClosed := hNext
            clear hNext
            try simp only [Act.put, List.getElem_toArray, List.getElem_cons_zero, List.getElem_cons_succ, List.setIfInBounds_toArray, List.set_cons_zero, List.set_cons_succ]
            refine' wpAnyE_take (i := 49) (v := _) rfl (by kernel_rfl) (by kernel_rfl) (by kernel_rfl) (by kernel_rfl) (fun _ _ _ h => h) (Or.inr ⟨by rfl, rfl⟩) hHeld hClosed (fun hNext => ?_)
            clear hClosed
            have hClosed := hNext
            clear hNext
            try simp only [Act.put, List.getElem_toArray, List.getElem_cons_zero, List.getElem_cons_succ, List.setIfInBounds_toArray, List.set_cons_zero, List.set_cons_succ]
            refine' wpAnyE_take (i := 50) (v := _) rfl (by kernel_rfl) (by kernel_rfl) (by kernel_rfl) (by kernel_rfl) (fun _ _ _ h => h) (Or.inl ⟨by rfl, fun u hu => ?_⟩) hHeld hClosed (fun hNext => ?_)
            rotate_left
            · (try dsimp only at hu)
              go_simp
              try with_reducible rfl
            clear hClosed
            have hClosed := hNext
            clear hNext
            try simp only [Act.put, List.getElem_toArray, List.getElem_cons_zero, List.getElem_cons_succ, List.setIfInBounds_toArray, List.set_cons_zero, List.set_cons_succ]
            refine wpAnyE_done (by kernel_rfl) ?_ _
            clear hClosed
            go_wp2_with fail
            go_ret
            exact ⟨ret_bool (by
              rw [eq_comm, decide_eq_false_iff_not]
              intro e
              have h1 := XS.out.1
              have h2 := XS.out.2
              subst e
              rw [h1] at h2
              injection h2 with h2 h3 h4 h5
              simp [h3] at e2), HB.out.trans (B5.out.mono HB.out.size)⟩

      · obtain rfl : k = L.length := by omega
        go_wp2
        go_ret
        refine ⟨ret_bool ?_, HB.out⟩
        have h1 := HE.out
        have h2 := HN.out
        rw [List.take_of_length_le (by omega), List.take_of_length_le (by omega)] at h1
        simp [h1]
  · have hd : ((L.length : Int) != (L'.length : Int)) = true := by simp; omega
    have HN := Lib.hid hn
    clear hn
    go_enter Try.func9, Try.ntmps9
    go_wp2
    go_ret
    refine ⟨ret_bool ?_, Below.refl _ _⟩
    have := HN.out
    rw [eq_comm, decide_eq_false_iff_not]
    intro e
    exact this (congrArg List.length e)
end Go.Proofs.Ytajgjloailliiaa

/- Layer 8: the law's own: are two rows of pairs the same? -/
namespace Go.Proofs.Ytajgjloailliiaa
open Go.RowKit

/-- the second of two literals, one behind the other -/
theorem Lies.second {w : World} {e : TypeId} (o : Obj) (cs : Array Value) : Lies ((w.alloc o).alloc (.cells cs e)) ((w.alloc o).alloc (.cells cs e)).heap.size (some ⟨w.heap.size + 1, 0, none⟩) cs.toList := by
  have := Lies.litUp (w := w.alloc o) (e := e) cs; simpa using this
/-- a row of pairs, to be read: each is a list's first and last -/
def PairsR (w : World) (A : Option Addr) (L : List (List Int)) : Prop := Lies w w.heap.size A (pairsOf L)
def RowedP (w : World) (L : List (List Int)) (ed : Ending) (w' : World) : Prop := ∃ A c, ed = .returned (.slice A L.length c) ∧ PairsR w' A L ∧ Below w.heap.size w w'
theorem pairsOf_length (L : List (List Int)) : (pairsOf L).length = L.length * 2 := by
  induction L with
  | nil => rfl
  | cons r L ih => rw [show pairsOf (r :: L) = [.int .i64 (headI r), .int .i64 (lastI r)] ++ pairsOf L from rfl, List.length_append, ih]; simp; omega
theorem pairsOf_get (L : List (List Int)) : ∀ j (hj : j < L.length), (pairsOf L)[j * 2]? = some (.int .i64 (headI L[j])) ∧ (pairsOf L)[j * 2 + 1]? = some (.int .i64 (lastI L[j])) := by
  induction L with
  | nil => intro j hj; simp at hj
  | cons r L ih =>
    intro j hj
    rw [show pairsOf (r :: L) = [.int .i64 (headI r), .int .i64 (lastI r)] ++ pairsOf L from rfl]
    cases j with
    | zero => exact ⟨rfl, rfl⟩
    | succ j =>
      obtain ⟨h1, h2⟩ := ih j (by simpa using hj)
      rw [List.getElem?_append_right (by simp; omega), List.getElem?_append_right (by simp; omega)]
      simp only [List.length_cons, List.length_nil, List.getElem_cons_succ]
      rw [show (j + 1) * 2 - (0 + 1 + 1) = j * 2 by omega, show (j + 1) * 2 + 1 - (0 + 1 + 1) = j * 2 + 1 by omega]
      exact ⟨h1, h2⟩
theorem PairsR.at' {w : World} {A : Option Addr} {L : List (List Int)} (h : PairsR w A L) {j : Nat} (hj : j < L.length) :
    ∃ g off, A = some ⟨g, off, none⟩ ∧ g < w.heap.size ∧ w.cell? ⟨g, off + j * 2, none⟩ = some (.int .i64 (headI L[j])) ∧ w.cell? ⟨g, off + j * 2 + 1, none⟩ = some (.int .i64 (lastI L[j])) := by
  have hl := pairsOf_length L
  obtain ⟨g, off, hA, hg, hc⟩ := Lies.plain h (by omega)
  obtain ⟨h1, h2⟩ := pairsOf_get L j hj
  have k1 := hc (j * 2) (by omega)
  have k2 := hc (j * 2 + 1) (by omega)
  rw [← Nat.add_assoc] at k2
  refine ⟨g, off, hA, hg, ?_, ?_⟩
  · rw [k1, ← List.getElem?_eq_getElem, h1]
  · rw [k2, ← List.getElem?_eq_getElem, h2]

theorem eq_pair (x y : Int) (w : World) : (Op.equalIn 10000 39 (.agg #[.int .i64 x, .int .i64 y]) (.agg #[.int .i64 x, .int .i64 y])).run Try.prog w = .ok true w := by
  have u3 := Try.underlying3
  have a3 := Try.isAgg3
  have z3 := Try.sizeOf3
  rw [show (10000 : Nat) = 9999 + 1 from rfl, Op.equalIn]
  simp only [Sem.run_bind, run_underlying Try.underlying39, Result.andThen_ok]
  simp only [Std.Legacy.Range.forIn_eq_forIn_range', Std.Legacy.Range.size, Nat.sub_zero, Nat.add_sub_cancel, Nat.div_one, List.range'_succ, List.range'_zero, List.forIn_cons, List.forIn_nil]
  go_simp
set_option maxHeartbeats 2000000 in
/-- the same row of pairs, wherever it lies -/
theorem lsame8_any (A : Option Addr) (c : Nat) (L : List (List Int)) (A' : Option Addr) (c' : Nat) (w : World) (h : PairsR w A L) (h' : PairsR w A' L) (hl : L.length ≤ 1000000) :
    Calls Try.prog 10 #[.slice A L.length c, .slice A' L.length c'] w fun e w' => e = .returned (.bool true) ∧ Below w.heap.size w w' := by
  have H := Lib.hid h
  have H' := Lib.hid h'
  clear h h'
  go_enter Try.func10, Try.ntmps10
  go_wp2
  go_loopw [5] (fun i wr => ∃ k : Nat, k ≤ L.length ∧ i = .int .i64 k ∧ Below w.heap.size w wr) (fun i _ => L.length - (intOf i).toNat)
  case atStart => exact ⟨0, by omega, rfl, Below.refl _ _⟩
  case round =>
    obtain ⟨k, hk, rfl, hb⟩ := hrel
    have HB := Lib.hid hb
    clear hb
    by_cases hlt : k < L.length
    · obtain ⟨g, off, hA, hg, p0, p1⟩ := PairsR.at' (Lies.up H.out HB.out) hlt
      obtain ⟨g', off', hA', hg', q0, q1⟩ := PairsR.at' (Lies.up H'.out HB.out) hlt
      subst hA hA'
      have b0 : (0 : Int) ≤ (k : Int) := by omega
      have b1 : (k : Int) < (L.length : Int) := by omega
      obtain ⟨x, hx⟩ : ∃ x, headI L[k] = x := ⟨_, rfl⟩
      obtain ⟨y, hy⟩ : ∃ x, lastI L[k] = x := ⟨_, rfl⟩
      rw [hx] at p0 q0
      rw [hy] at p1 q1
      clear hx hy
      have hk0 : wr.drew.cell? ⟨g, off + k * 2, none⟩ = some (.int .i64 x) ∧ wr.drew.cell? ⟨g, off + k * 2 + 1, none⟩ = some (.int .i64 y) ∧ wr.drew.cell? ⟨g', off' + k * 2, none⟩ = some (.int .i64 x) ∧ wr.drew.cell? ⟨g', off' + k * 2 + 1, none⟩ = some (.int .i64 y) := ⟨p0, p1, q0, q1⟩
      have heq := fun u => eq_pair x y u
      clear p0 p1 q0 q1
      go_wp2_with fail
      refine wp_region_E (S := fun w' => w'.cell? ⟨g, off + k * 2, none⟩ = some (.int .i64 x) ∧ w'.cell? ⟨g, off + k * 2 + 1, none⟩ = some (.int .i64 y) ∧ w'.cell? ⟨g', off' + k * 2, none⟩ = some (.int .i64 x) ∧ w'.cell? ⟨g', off' + k * 2 + 1, none⟩ = some (.int .i64 y)) [] (by kernel_rfl) (hk0) (fun hHeld hClosed => ?_)
      refine' wpAnyE_take (i := 0) (v := _) rfl (by kernel_rfl) (by kernel_rfl) (by kernel_rfl) (by kernel_rfl) (fun _ _ _ h => h) (Or.inl ⟨by rfl, fun u hu => ?_⟩) hHeld hClosed (fun hNext => ?_)
      rotate_left
      · (try dsimp only at hu)
        go_simp
        try with_reducible rfl
      clear hClosed
      have hClosed := hNext
      clear hNext
      try simp only [Act.put, List.getElem_toArray, List.getElem_cons_zero, List.setIfInBounds_toArray, List.set_cons_zero, List.set_cons_succ]
      refine' wpAnyE_take (i := 1) (v := _) rfl (by kernel_rfl) (by kernel_rfl) (by kernel_rfl) (by kernel_rfl) (fun _ _ _ h => h) (Or.inl ⟨by rfl, fun u hu => ?_⟩) hHeld hClosed (fun hNext => ?_)
      rotate_left
      · (try dsimp only at hu)
        go_simp
        try with_reducible rfl
      clear hClosed
      have hClosed := hNext
      clear hNext
      try simp only [Act.put, List.getElem_toArray, List.getElem_cons_zero, List.getElem_cons_succ, List.setIfInBounds_toArray, List.set_cons_zero, List.set_cons_succ]
      refine' wpAnyE_take (i := 2) (v := _) rfl (by kernel_rfl) (by kernel_rfl) (by kernel_rfl) (by kernel_rfl) (fun _ _ _ h => h) (Or.inl ⟨by rfl, fun u hu => ?_⟩) hHeld hClosed (fun hNext => ?_)
      rotate_left
      · (try dsimp only at hu)
        go_simp
        try with_reducible rfl
      clear hClosed
      have hClosed := hNext
      clear hNext
      try simp only [Act.put, List.getElem_toArray, List.getElem_cons_zero, List.getElem_cons_succ, List.setIfInBounds_toArray, List.set_cons_zero, List.set_cons_succ]
      refine' wpAnyE_take (i := 3) (v := _) rfl (by kernel_rfl) (by kernel_rfl) (by kernel_rfl) (by kernel_rfl) (fun _ _ _ h => h) (Or.inl ⟨by rfl, fun u hu => ?_⟩) hHeld hClosed (fun hNext => ?_)
      rotate_left
      · (try dsimp only at hu)
        go_simp
        try with_reducible rfl
      clear hClosed
      have hClosed := hNext
      clear hNext
      try simp only [Act.put, List.getElem_toArray, List.getElem_cons_zero, List.getElem_cons_succ, List.setIfInBounds_toArray, List.set_cons_zero, List.set_cons_succ]
      refine' wpAnyE_take (i := 4) (v := _) rfl (by kernel_rfl) (by kernel_rfl) (by kernel_rfl) (by kernel_rfl) (fun _ _ _ h => h) (Or.inl ⟨by rfl, fun u hu => ?_⟩) hHeld hClosed (fun hNext => ?_)
      rotate_left
      · (try dsimp only at hu)
        go_simp
        try with_reducible rfl
      clear hClosed
      have hClosed := hNext
      clear hNext
      try simp only [Act.put, List.getElem_toArray, List.getElem_cons_zero, List.getElem_cons_succ, List.setIfInBounds_toArray, List.set_cons_zero, List.set_cons_succ]
      refine' wpAnyE_take (i := 5) (v := _) rfl (by kernel_rfl) (by kernel_rfl) (by kernel_rfl) (by kernel_rfl) (fun _ _ _ h => h) (Or.inl ⟨by rfl, fun u hu => ?_⟩) hHeld hClosed (fun hNext => ?_)
      rotate_left
      · (try dsimp only at hu)
        go_simp
        try with_reducible rfl
      clear hClosed
      have hClosed := hNext
      clear hNext
      try simp only [Act.put, List.getElem_toArray, List.getElem_cons_zero, List.getElem_cons_succ, List.setIfInBounds_toArray, List.set_cons_zero, List.set_cons_succ]
      refine' wpAnyE_take (i := 6) (v := _) rfl (by kernel_rfl) (by kernel_rfl) (by kernel_rfl) (by kernel_rfl) (fun _ _ _ h => h) (Or.inl ⟨by rfl, fun u hu => ?_⟩) hHeld hClosed (fun hNext => ?_)
      rotate_left
      · (try dsimp only at hu)
        go_simp
        try with_reducible rfl
      clear hClosed
      have hClosed := hNext
      clear hNext
      try simp only [Act.put, List.getElem_toArray, List.getElem_cons_zero, List.getElem_cons_succ, List.setIfInBounds_toArray, List.set_cons_zero, List.set_cons_succ]
      refine' wpAnyE_take (i := 7) (v := _) rfl (by kernel_rfl) (by kernel_rfl) (by kernel_rfl) (by kernel_rfl) (fun _ _ _ h => h) (Or.inl ⟨by rfl, fun u hu => ?_⟩) hHeld hClosed (fun hNext => ?_)
      rotate_left
      · (try dsimp only at hu)
        go_simp
        try with_reducible rfl
      clear hClosed
      have hClosed := hNext
      clear hNext
      try simp only [Act.put, List.getElem_toArray, List.getElem_cons_zero, List.getElem_cons_succ, List.setIfInBounds_toArray, List.set_cons_zero, List.set_cons_succ]
      refine' wpAnyE_take (i := 8) (v := _) rfl (by kernel_rfl) (by kernel_rfl) (by kernel_rfl) (by kernel_rfl) (fun _ _ _ h => h) (Or.inl ⟨by rfl, fun u hu => ?_⟩) hHeld hClosed (fun hNext => ?_)
      rotate_left
      · (try dsimp only at hu)
        go_simp
        try with_reducible rfl
      clear hClosed
      have hClosed := hNext
      clear hNext
      try simp only [Act.put, List.getElem_toArray, List.getElem_cons_zero, List.getElem_cons_succ, List.setIfInBounds_toArray, List.set_cons_zero, List.set_cons_succ]
      refine wpAnyE_done (by kernel_rfl) ?_ _
      clear hClosed
      go_wp2_with fail
      go_roundw
      case rel => exact ⟨k + 1, by omega, by go_num, by exact below_same HB.out rfl rfl rfl rfl⟩
      case measure => simp [intOf]; omega
    · obtain rfl : k = L.length := by omega
      go_wp2
      go_ret
      exact ⟨rfl, HB.out⟩
end Go.Proofs.Ytajgjloailliiaa

/- Layer 8: the program's kept, last, ends, split: each run's places, cut out of one row. -/
namespace Go.Proofs.Ytajgjloailliiaa
open Go.RowKit

theorem sdir_any (k : Int) (w : World) : Calls Try.prog 13 #[.int .i64 k] w fun ed w' => ed = .returned (.int .i64 (dirL k)) ∧ Below w.heap.size w w' := by
  rcases h : (Int.tmod k 2 != 0) with _ | _
  · have hz : dirL k = 0 := by rw [dirL, if_pos ((tmod_dir k).1 (by simpa using h))]
    rw [hz]
    go_enter Try.func13, Try.ntmps13
    go_wp2
    go_ret
    exact ⟨rfl, Below.refl _ _⟩
  · have hz : dirL k = 1 := by rw [dirL, if_neg (fun e => by rw [(tmod_dir k).2 e] at h; simp at h)]
    rw [hz]
    go_enter Try.func13, Try.ntmps13
    go_wp2
    go_ret
    exact ⟨rfl, Below.refl _ _⟩

/-- a run's last place -/
theorem slast_any (b off m : Nat) (t c : Nat) (y : Int) (w : World) (hm : m = t + 1) (hm6 : m ≤ 1000000) (hy : w.cell? ⟨b, off + t, none⟩ = some (.int .i64 y)) :
    Calls Try.prog 23 #[.slice (some ⟨b, off, none⟩) m c] w fun e w' => e = .returned (.int .i64 y) ∧ w = w' := by
  have b2 : (0 : Int) ≤ (t : Int) := by omega
  have b3 : (t : Int) < (m : Int) := by omega
  have hw1 : IntKind.i64.wrap ((m : Int) - 1) = (t : Int) := by rw [IntWalk.i64_in _ (by omega)]; omega
  clear hm hm6
  go_enter Try.func23, Try.ntmps23
  go_wp2
  go_ret
  exact ⟨rfl, rfl⟩

set_option maxHeartbeats 2000000 in
theorem skept_any (A : Option Addr) (l : List Int) (c : Nat) (w : World) (h : Lies w w.heap.size A (ints .i64 l)) (hl : l.length ≤ 1000000) :
    Calls Try.prog 30 #[.slice A l.length c] w fun ed w' => Rowed w w.heap.size 3 (ints .i64 (seenI l)) ed w' := by
  have H := Lib.hid h
  clear h
  go_enter Try.func30, Try.ntmps30
  go_wp2
  go_loopw [8, 3] (fun iv ov wr => ∃ k : Nat, k ≤ l.length ∧ iv = .int .i64 k ∧ Own wr w.heap.size 3 ov (ints .i64 (seenN l k)) ∧ Below w.heap.size w wr) (fun iv _ _ => l.length - (intOf iv).toNat)
  case atStart => exact ⟨0, by omega, rfl, Own.empty _ _ _, Below.refl _ _⟩
  case round =>
    obtain ⟨k, hk, rfl, ho, hb⟩ := hrel
    have HO := Lib.hid ho
    have HB := Lib.hid hb
    clear ho hb
    by_cases hlt : k < l.length
    · obtain ⟨p, rfl, _, hcl⟩ := (H.out.below HB.out).int hlt
      obtain ⟨x, hx⟩ : ∃ x, l[k] = x := ⟨_, rfl⟩
      have HS := Lib.hid (seenN_succ l k hlt)
      rw [hx] at hcl HS
      have hle := seenN_le l k
      have b0 : (0 : Int) ≤ (k : Int) := by omega
      have b1 : (k : Int) < (l.length : Int) := by omega
      clear hx
      rcases hoc : isOut x with _ | _
      · have HOC := Lib.hid hoc
        clear hoc
        go_wp2_with fail
        refine (out_any x _).mono ?_
        rintro e w1 ⟨rfl, b1⟩
        rw [HOC.out]
        have B1 := Lib.hid (HB.out.trans (b1.mono HB.out.size))
        have D1 := Lib.hid b1
        clear b1
        have HO1 := Lib.hid (HO.out.below D1.out (Nat.le_refl _))
        go_wp2_with (first
          | (at_builtin; refine app_lit intsT w w1 w.heap.size _ _ #[.int .i64 (k : Int)] 1 _ _ rfl rfl rfl rfl HO1.out (by simp [Value.oneCell']) B1.out B1.out.size (by unfold maxLen; simp; omega) (by simp; omega) ?_; intro v2 w2 o2 b2 _ _; have O2 := Lib.hid o2; have B2 := Lib.hid b2; clear o2 b2)
          | fail)
        go_roundw
        case rel => exact ⟨k + 1, by omega, by go_num, by rw [HS.out, HOC.out, if_neg (by simp)]; simpa [ints] using O2.out, B2.out⟩
        case measure => simp [intOf]; omega
      · have HOC := Lib.hid hoc
        clear hoc
        go_wp2_with fail
        refine (out_any x _).mono ?_
        rintro e w1 ⟨rfl, b1⟩
        rw [HOC.out]
        have B1 := Lib.hid (HB.out.trans (b1.mono HB.out.size))
        have D1 := Lib.hid b1
        clear b1
        have HO1 := Lib.hid (HO.out.below D1.out (Nat.le_refl _))
        go_wp2_with fail
        go_roundw
        case rel => exact ⟨k + 1, by omega, by go_num, by rw [HS.out, HOC.out, if_pos rfl]; exact HO1.out, B1.out⟩
        case measure => simp [intOf]; omega
    · obtain rfl : k = l.length := by omega
      go_wp2
      go_ret
      exact ⟨_, rfl, HO.out, HB.out⟩

set_option maxHeartbeats 2000000 in
theorem sends_any (A : Option Addr) (cl : List Int) (c : Nat) (A' : Option Addr) (lv : List Int) (c' : Nat) (q q' : Nat) (w : World) (h : Lies w w.heap.size A (ints .i64 cl)) (h' : Lies w w.heap.size A' (ints .i64 lv)) (hq : q < cl.length) (hqv : q < lv.length) (hqv' : q' < lv.length) :
    Calls Try.prog 31 #[.slice A cl.length c, .slice A' lv.length c', .int .i64 (q : Int), .int .i64 (q' : Int)] w fun ed w' => ed = .returned (.bool (cl.getD q 0 == 10 || lv.getD q 0 != lv.getD q' 0)) ∧ Below w.heap.size w w' := by
  obtain ⟨pc, rfl, _, hcc⟩ := h.int hq
  obtain ⟨pv, rfl, _, hcv⟩ := h'.int hqv
  obtain ⟨pv', hpv', _, hcv'⟩ := h'.int hqv'
  injection hpv' with hpv'
  subst hpv'
  obtain ⟨z, hz⟩ : ∃ z, cl[q] = z := ⟨_, rfl⟩
  obtain ⟨x, hx⟩ : ∃ z, lv[q] = z := ⟨_, rfl⟩
  obtain ⟨y, hy⟩ : ∃ z, lv[q'] = z := ⟨_, rfl⟩
  rw [show cl.getD q 0 = z by simp [hq, hz], show lv.getD q 0 = x by simp [hqv, hx], show lv.getD q' 0 = y by simp [hqv', hy]]
  rw [hz] at hcc
  rw [hx] at hcv
  rw [hy] at hcv'
  have c0 : (0 : Int) ≤ (q : Int) := by omega
  have c1 : (0 : Int) ≤ (q' : Int) := by omega
  have c2 : (q : Int) < (cl.length : Int) := by omega
  have c3 : (q : Int) < (lv.length : Int) := by omega
  have c4 : (q' : Int) < (lv.length : Int) := by omega
  have hcr : w.drew.cell? (pc.add q) = some (.int .i64 z) ∧ w.drew.cell? (pv.add q) = some (.int .i64 x) ∧ w.drew.cell? (pv.add q') = some (.int .i64 y) := ⟨hcc, hcv, hcv'⟩
  clear h h' hz hx hy hq hqv hqv' hcc hcv hcv'
  rcases hz10 : (z == 10) with _ | _
  · go_enter Try.func31, Try.ntmps31
    go_wp2_with fail
    refine wp_region_held_drew (S := fun w' => w'.cell? (pc.add q) = some (.int .i64 z) ∧ w'.cell? (pv.add q) = some (.int .i64 x) ∧ w'.cell? (pv.add q') = some (.int .i64 y)) (by kernel_rfl) (hcr) (fun hHeld => ?_)
    refine' wpAnyH_take (i := 0) (v := _) rfl (by kernel_rfl) (by kernel_rfl) (by kernel_rfl) (fun _ _ _ h => h) (Or.inl ⟨by rfl, fun u hu => ?_⟩) (by assumption) ?_
    rotate_left
    · (try dsimp only at hu)
      go_simp
      try with_reducible rfl
    try simp only [Act.put, List.getElem_toArray, List.getElem_cons_zero, List.setIfInBounds_toArray, List.set_cons_zero, List.set_cons_succ]
    refine' wpAnyH_take (i := 1) (v := _) rfl (by kernel_rfl) (by kernel_rfl) (by kernel_rfl) (fun _ _ _ h => h) (Or.inl ⟨by rfl, fun u hu => ?_⟩) (by assumption) ?_
    rotate_left
    · (try dsimp only at hu)
      go_simp
      try with_reducible rfl
    try simp only [Act.put, List.getElem_toArray, List.getElem_cons_zero, List.getElem_cons_succ, List.setIfInBounds_toArray, List.set_cons_zero, List.set_cons_succ]
    refine' wpAnyH_take (i := 2) (v := _) rfl (by kernel_rfl) (by kernel_rfl) (by kernel_rfl) (fun _ _ _ h => h) (Or.inl ⟨by rfl, fun u hu => ?_⟩) (by assumption) ?_
    rotate_left
    · (try dsimp only at hu)
      go_simp
      try with_reducible rfl
    try simp only [Act.put, List.getElem_toArray, List.getElem_cons_zero, List.getElem_cons_succ, List.setIfInBounds_toArray, List.set_cons_zero, List.set_cons_succ]
    refine' wpAnyH_take (i := 3) (v := _) rfl (by kernel_rfl) (by kernel_rfl) (by kernel_rfl) (fun _ _ _ h => h) (Or.inl ⟨by rfl, fun u hu => ?_⟩) (by assumption) ?_
    rotate_left
    · (try dsimp only at hu)
      go_simp
      try with_reducible rfl
    try simp only [Act.put, List.getElem_toArray, List.getElem_cons_zero, List.getElem_cons_succ, List.setIfInBounds_toArray, List.set_cons_zero, List.set_cons_succ]
    refine' wpAnyH_take (i := 4) (v := _) rfl (by kernel_rfl) (by kernel_rfl) (by kernel_rfl) (fun _ _ _ h => h) (Or.inl ⟨by rfl, fun u hu => ?_⟩) (by assumption) ?_
    rotate_left
    · (try dsimp only at hu)
      go_simp
      try with_reducible rfl
    try simp only [Act.put, List.getElem_toArray, List.getElem_cons_zero, List.getElem_cons_succ, List.setIfInBounds_toArray, List.set_cons_zero, List.set_cons_succ]
    refine' wpAnyH_take (i := 5) (v := _) rfl (by kernel_rfl) (by kernel_rfl) (by kernel_rfl) (fun _ _ _ h => h) (Or.inl ⟨by rfl, fun u hu => ?_⟩) (by assumption) ?_
    rotate_left
    · (try dsimp only at hu)
      go_simp
      try with_reducible rfl
    try simp only [Act.put, List.getElem_toArray, List.getElem_cons_zero, List.getElem_cons_succ, List.setIfInBounds_toArray, List.set_cons_zero, List.set_cons_succ]
    refine' wpAnyH_take (i := 6) (v := _) rfl (by kernel_rfl) (by kernel_rfl) (by kernel_rfl) (fun _ _ _ h => h) (Or.inl ⟨by rfl, fun u hu => ?_⟩) (by assumption) ?_
    rotate_left
    · (try dsimp only at hu)
      go_simp
      try with_reducible rfl
    try simp only [Act.put, List.getElem_toArray, List.getElem_cons_zero, List.getElem_cons_succ, List.setIfInBounds_toArray, List.set_cons_zero, List.set_cons_succ]
    refine' wpAnyH_take (i := 7) (v := _) rfl (by kernel_rfl) (by kernel_rfl) (by kernel_rfl) (fun _ _ _ h => h) (Or.inl ⟨by rfl, fun u hu => ?_⟩) (by assumption) ?_
    rotate_left
    · (try dsimp only at hu)
      go_simp
      try with_reducible rfl
    try simp only [Act.put, List.getElem_toArray, List.getElem_cons_zero, List.getElem_cons_succ, List.setIfInBounds_toArray, List.set_cons_zero, List.set_cons_succ]
    refine' wpAnyH_take (i := 8) (v := _) rfl (by kernel_rfl) (by kernel_rfl) (by kernel_rfl) (fun _ _ _ h => h) (Or.inl ⟨by rfl, fun u hu => ?_⟩) (by assumption) ?_
    rotate_left
    · (try dsimp only at hu)
      go_simp
      try with_reducible rfl
    try simp only [Act.put, List.getElem_toArray, List.getElem_cons_zero, List.getElem_cons_succ, List.setIfInBounds_toArray, List.set_cons_zero, List.set_cons_succ]
    refine' wpAnyH_take (i := 9) (v := _) rfl (by kernel_rfl) (by kernel_rfl) (by kernel_rfl) (fun _ _ _ h => h) (Or.inl ⟨by rfl, fun u hu => ?_⟩) (by assumption) ?_
    rotate_left
    · (try dsimp only at hu)
      go_simp
      try with_reducible rfl
    try simp only [Act.put, List.getElem_toArray, List.getElem_cons_zero, List.getElem_cons_succ, List.setIfInBounds_toArray, List.set_cons_zero, List.set_cons_succ]
    refine' wpAnyH_take (i := 10) (v := _) rfl (by kernel_rfl) (by kernel_rfl) (by kernel_rfl) (fun _ _ _ h => h) (Or.inl ⟨by rfl, fun u hu => ?_⟩) (by assumption) ?_
    rotate_left
    · (try dsimp only at hu)
      go_simp
      try with_reducible rfl
    try simp only [Act.put, List.getElem_toArray, List.getElem_cons_zero, List.getElem_cons_succ, List.setIfInBounds_toArray, List.set_cons_zero, List.set_cons_succ]
    refine' wpAnyH_take (i := 11) (v := _) rfl (by kernel_rfl) (by kernel_rfl) (by kernel_rfl) (fun _ _ _ h => h) (Or.inl ⟨by rfl, fun u hu => ?_⟩) (by assumption) ?_
    rotate_left
    · (try dsimp only at hu)
      go_simp
      try with_reducible rfl
    try simp only [Act.put, List.getElem_toArray, List.getElem_cons_zero, List.getElem_cons_succ, List.setIfInBounds_toArray, List.set_cons_zero, List.set_cons_succ]
    refine' wpAnyH_take (i := 12) (v := _) rfl (by kernel_rfl) (by kernel_rfl) (by kernel_rfl) (fun _ _ _ h => h) (Or.inl ⟨by rfl, fun u hu => ?_⟩) (by assumption) ?_
    rotate_left
    · (try dsimp only at hu)
      go_simp
      try with_reducible rfl
    try simp only [Act.put, List.getElem_toArray, List.getElem_cons_zero, List.getElem_cons_succ, List.setIfInBounds_toArray, List.set_cons_zero, List.set_cons_succ]
    refine' wpAnyH_take (i := 13) (v := _) rfl (by kernel_rfl) (by kernel_rfl) (by kernel_rfl) (fun _ _ _ h => h) (Or.inl ⟨by rfl, fun u hu => ?_⟩) (by assumption) ?_
    rotate_left
    · (try dsimp only at hu)
      go_simp
      try with_reducible rfl
    try simp only [Act.put, List.getElem_toArray, List.getElem_cons_zero, List.getElem_cons_succ, List.setIfInBounds_toArray, List.set_cons_zero, List.set_cons_succ]
    refine' wpAnyH_take (i := 14) (v := _) rfl (by kernel_rfl) (by kernel_rfl) (by kernel_rfl) (fun _ _ _ h => h) (Or.inl ⟨by rfl, fun u hu => ?_⟩) (by assumption) ?_
    rotate_left
    · (try dsimp only at hu)
      go_simp
      try with_reducible rfl
    try simp only [Act.put, List.getElem_toArray, List.getElem_cons_zero, List.getElem_cons_succ, List.setIfInBounds_toArray, List.set_cons_zero, List.set_cons_succ]
    refine' wpAnyH_take (i := 15) (v := _) rfl (by kernel_rfl) (by kernel_rfl) (by kernel_rfl) (fun _ _ _ h => h) (Or.inl ⟨by rfl, fun u hu => ?_⟩) (by assumption) ?_
    rotate_left
    · (try dsimp only at hu)
      go_simp
      try with_reducible rfl
    try simp only [Act.put, List.getElem_toArray, List.getElem_cons_zero, List.getElem_cons_succ, List.setIfInBounds_toArray, List.set_cons_zero, List.set_cons_succ]
    refine' wpAnyH_take (i := 16) (v := _) rfl (by kernel_rfl) (by kernel_rfl) (by kernel_rfl) (fun _ _ _ h => h) (Or.inl ⟨by rfl, fun u hu => ?_⟩) (by assumption) ?_
    rotate_left
    · (try dsimp only at hu)
      go_simp
      try with_reducible rfl
    try simp only [Act.put, List.getElem_toArray, List.getElem_cons_zero, List.getElem_cons_succ, List.setIfInBounds_toArray, List.set_cons_zero, List.set_cons_succ]
    refine wpAnyH_done (by kernel_rfl) ?_ _
    go_wp2_with fail
    go_ret
    exact ⟨rfl, by exact below_same (Below.refl _ _) rfl rfl rfl rfl⟩
  · go_enter Try.func31, Try.ntmps31
    go_wp2_with fail
    refine wp_region_held_drew (S := fun w' => w'.cell? (pc.add q) = some (.int .i64 z) ∧ w'.cell? (pv.add q) = some (.int .i64 x) ∧ w'.cell? (pv.add q') = some (.int .i64 y)) (by kernel_rfl) (hcr) (fun hHeld => ?_)
    refine' wpAnyH_take (i := 0) (v := _) rfl (by kernel_rfl) (by kernel_rfl) (by kernel_rfl) (fun _ _ _ h => h) (Or.inl ⟨by rfl, fun u hu => ?_⟩) (by assumption) ?_
    rotate_left
    · (try dsimp only at hu)
      go_simp
      try with_reducible rfl
    try simp only [Act.put, List.getElem_toArray, List.getElem_cons_zero, List.setIfInBounds_toArray, List.set_cons_zero, List.set_cons_succ]
    refine' wpAnyH_take (i := 1) (v := _) rfl (by kernel_rfl) (by kernel_rfl) (by kernel_rfl) (fun _ _ _ h => h) (Or.inl ⟨by rfl, fun u hu => ?_⟩) (by assumption) ?_
    rotate_left
    · (try dsimp only at hu)
      go_simp
      try with_reducible rfl
    try simp only [Act.put, List.getElem_toArray, List.getElem_cons_zero, List.getElem_cons_succ, List.setIfInBounds_toArray, List.set_cons_zero, List.set_cons_succ]
    refine' wpAnyH_take (i := 2) (v := _) rfl (by kernel_rfl) (by kernel_rfl) (by kernel_rfl) (fun _ _ _ h => h) (Or.inl ⟨by rfl, fun u hu => ?_⟩) (by assumption) ?_
    rotate_left
    · (try dsimp only at hu)
      go_simp
      try with_reducible rfl
    try simp only [Act.put, List.getElem_toArray, List.getElem_cons_zero, List.getElem_cons_succ, List.setIfInBounds_toArray, List.set_cons_zero, List.set_cons_succ]
    refine' wpAnyH_take (i := 3) (v := _) rfl (by kernel_rfl) (by kernel_rfl) (by kernel_rfl) (fun _ _ _ h => h) (Or.inl ⟨by rfl, fun u hu => ?_⟩) (by assumption) ?_
    rotate_left
    · (try dsimp only at hu)
      go_simp
      try with_reducible rfl
    try simp only [Act.put, List.getElem_toArray, List.getElem_cons_zero, List.getElem_cons_succ, List.setIfInBounds_toArray, List.set_cons_zero, List.set_cons_succ]
    refine' wpAnyH_take (i := 4) (v := _) rfl (by kernel_rfl) (by kernel_rfl) (by kernel_rfl) (fun _ _ _ h => h) (Or.inl ⟨by rfl, fun u hu => ?_⟩) (by assumption) ?_
    rotate_left
    · (try dsimp only at hu)
      go_simp
      try with_reducible rfl
    try simp only [Act.put, List.getElem_toArray, List.getElem_cons_zero, List.getElem_cons_succ, List.setIfInBounds_toArray, List.set_cons_zero, List.set_cons_succ]
    refine' wpAnyH_take (i := 5) (v := _) rfl (by kernel_rfl) (by kernel_rfl) (by kernel_rfl) (fun _ _ _ h => h) (Or.inl ⟨by rfl, fun u hu => ?_⟩) (by assumption) ?_
    rotate_left
    · (try dsimp only at hu)
      go_simp
      try with_reducible rfl
    try simp only [Act.put, List.getElem_toArray, List.getElem_cons_zero, List.getElem_cons_succ, List.setIfInBounds_toArray, List.set_cons_zero, List.set_cons_succ]
    refine' wpAnyH_take (i := 6) (v := _) rfl (by kernel_rfl) (by kernel_rfl) (by kernel_rfl) (fun _ _ _ h => h) (Or.inr ⟨by rfl, rfl⟩) (by assumption) ?_
    try simp only [Act.put, List.getElem_toArray, List.getElem_cons_zero, List.getElem_cons_succ, List.setIfInBounds_toArray, List.set_cons_zero, List.set_cons_succ]
    refine' wpAnyH_take (i := 7) (v := _) rfl (by kernel_rfl) (by kernel_rfl) (by kernel_rfl) (fun _ _ _ h => h) (Or.inr ⟨by rfl, rfl⟩) (by assumption) ?_
    try simp only [Act.put, List.getElem_toArray, List.getElem_cons_zero, List.getElem_cons_succ, List.setIfInBounds_toArray, List.set_cons_zero, List.set_cons_succ]
    refine' wpAnyH_take (i := 8) (v := _) rfl (by kernel_rfl) (by kernel_rfl) (by kernel_rfl) (fun _ _ _ h => h) (Or.inr ⟨by rfl, rfl⟩) (by assumption) ?_
    try simp only [Act.put, List.getElem_toArray, List.getElem_cons_zero, List.getElem_cons_succ, List.setIfInBounds_toArray, List.set_cons_zero, List.set_cons_succ]
    refine' wpAnyH_take (i := 9) (v := _) rfl (by kernel_rfl) (by kernel_rfl) (by kernel_rfl) (fun _ _ _ h => h) (Or.inr ⟨by rfl, rfl⟩) (by assumption) ?_
    try simp only [Act.put, List.getElem_toArray, List.getElem_cons_zero, List.getElem_cons_succ, List.setIfInBounds_toArray, List.set_cons_zero, List.set_cons_succ]
    refine' wpAnyH_take (i := 10) (v := _) rfl (by kernel_rfl) (by kernel_rfl) (by kernel_rfl) (fun _ _ _ h => h) (Or.inr ⟨by rfl, rfl⟩) (by assumption) ?_
    try simp only [Act.put, List.getElem_toArray, List.getElem_cons_zero, List.getElem_cons_succ, List.setIfInBounds_toArray, List.set_cons_zero, List.set_cons_succ]
    refine' wpAnyH_take (i := 11) (v := _) rfl (by kernel_rfl) (by kernel_rfl) (by kernel_rfl) (fun _ _ _ h => h) (Or.inr ⟨by rfl, rfl⟩) (by assumption) ?_
    try simp only [Act.put, List.getElem_toArray, List.getElem_cons_zero, List.getElem_cons_succ, List.setIfInBounds_toArray, List.set_cons_zero, List.set_cons_succ]
    refine' wpAnyH_take (i := 12) (v := _) rfl (by kernel_rfl) (by kernel_rfl) (by kernel_rfl) (fun _ _ _ h => h) (Or.inr ⟨by rfl, rfl⟩) (by assumption) ?_
    try simp only [Act.put, List.getElem_toArray, List.getElem_cons_zero, List.getElem_cons_succ, List.setIfInBounds_toArray, List.set_cons_zero, List.set_cons_succ]
    refine' wpAnyH_take (i := 13) (v := _) rfl (by kernel_rfl) (by kernel_rfl) (by kernel_rfl) (fun _ _ _ h => h) (Or.inr ⟨by rfl, rfl⟩) (by assumption) ?_
    try simp only [Act.put, List.getElem_toArray, List.getElem_cons_zero, List.getElem_cons_succ, List.setIfInBounds_toArray, List.set_cons_zero, List.set_cons_succ]
    refine' wpAnyH_take (i := 14) (v := _) rfl (by kernel_rfl) (by kernel_rfl) (by kernel_rfl) (fun _ _ _ h => h) (Or.inr ⟨by rfl, rfl⟩) (by assumption) ?_
    try simp only [Act.put, List.getElem_toArray, List.getElem_cons_zero, List.getElem_cons_succ, List.setIfInBounds_toArray, List.set_cons_zero, List.set_cons_succ]
    refine' wpAnyH_take (i := 15) (v := _) rfl (by kernel_rfl) (by kernel_rfl) (by kernel_rfl) (fun _ _ _ h => h) (Or.inl ⟨by rfl, fun u hu => ?_⟩) (by assumption) ?_
    rotate_left
    · (try dsimp only at hu)
      go_simp
      try with_reducible rfl
    try simp only [Act.put, List.getElem_toArray, List.getElem_cons_zero, List.getElem_cons_succ, List.setIfInBounds_toArray, List.set_cons_zero, List.set_cons_succ]
    refine' wpAnyH_take (i := 16) (v := _) rfl (by kernel_rfl) (by kernel_rfl) (by kernel_rfl) (fun _ _ _ h => h) (Or.inl ⟨by rfl, fun u hu => ?_⟩) (by assumption) ?_
    rotate_left
    · (try dsimp only at hu)
      go_simp
      try with_reducible rfl
    try simp only [Act.put, List.getElem_toArray, List.getElem_cons_zero, List.getElem_cons_succ, List.setIfInBounds_toArray, List.set_cons_zero, List.set_cons_succ]
    refine wpAnyH_done (by kernel_rfl) ?_ _
    go_wp2_with fail
    go_ret
    exact ⟨rfl, by exact below_same (Below.refl _ _) rfl rfl rfl rfl⟩

section
variable {P : Program} {ops : Array Oper} {rest : List Oper} {o : Oper} {a : Act} {Q : Exit → Act → World → Prop}
/-- l[i:j:j] of a row that begins its block -/
theorem cut_plain {t e : TypeId} {z : Value} {bytes : Nat} (T : SliceOf P t e z bytes) (W : World) (x y1 y2 y3 : Operand) (i j g n c : Nat)
    (hgd : Region.wanted o (yielded ops a.tmps) = true) (ho : o.op = .slice t x (some y1) (some y2) (some y3)) (hx : a.eval x = .slice (some ⟨g, 0, none⟩) n c) (h1 : a.eval y1 = .int .i64 (i : Int)) (h2 : a.eval y2 = .int .i64 (j : Int)) (h3 : a.eval y3 = .int .i64 (j : Int)) (hij : i < j) (hj : j ≤ c)
    (h : wpList P ops Q rest (a.put o.dst (.slice (some ⟨g, i, none⟩) (j - i) (j - i))) W) :
    wpList P ops Q (o :: rest) a W := by
  obtain ⟨f, hi, hz0, hz1, hz2⟩ := info_parts T.elem
  have he : P.elem t = e := by simp [Program.elem, T.slice]
  have hrun := run_slice_lhm (P := P) (w := W) t (some ⟨g, 0, none⟩) n c (by rw [T.slice, he]) .i64 .i64 .i64 (i : Int) (j : Int) (j : Int) (by omega) (by omega) (by omega) (by omega)
  refine wpList_step fun K' hK' => ?_
  rw [if_pos hgd]
  unfold Oper.wp
  simp [execOp, ho, hx, h1, h2, h3, run_sliceAt_slice, T.slice, he, hrun, Result.andThen, sizeOf, typeInfo, hi, hz1, sliced]
  refine hK' _ _ ?_
  rw [if_neg (by omega), show ((⟨g, 0, none⟩ : Addr).add i) = ⟨g, i, none⟩ by rw [add_plain]; simp]
  exact h
end

/-- slices that are cut out of the row s in block g, each full: what they hold -/
structure Cuts (g : Nat) (s : List Int) (es : List Value) (L : List (List Int)) : Prop where
  len : es.length = L.length
  cut : ∀ (j : Nat) (h1 : j < es.length) (h2 : j < L.length), ∃ o, es[j] = .slice (some ⟨g, o, none⟩) L[j].length L[j].length ∧ o + L[j].length ≤ s.length ∧ ∀ t (ht : t < L[j].length), s[o + t]? = some L[j][t]
theorem Cuts.nil (g : Nat) (s : List Int) : Cuts g s [] [] := ⟨rfl, fun j h1 => by simp at h1⟩
theorem Cuts.push {g : Nat} {s : List Int} {es : List Value} {L : List (List Int)} (h : Cuts g s es L) {i j : Nat} (hij : i < j) (hj : j ≤ s.length) :
    Cuts g s (es ++ [.slice (some ⟨g, i, none⟩) (j - i) (j - i)]) (L ++ [(s.take j).drop i]) := by
  have hl := h.len
  refine ⟨by simp [hl], fun k h1 h2 => ?_⟩
  by_cases hk : k < es.length
  · simp only [List.getElem_append_left hk, List.getElem_append_left (show k < L.length by omega)]
    exact h.cut k hk (by omega)
  · have he : k = L.length := by rw [List.length_append, List.length_singleton] at h2; omega
    subst he
    simp only [List.getElem_append_right (show es.length ≤ L.length by omega), List.getElem_append_right (Nat.le_refl L.length), Nat.sub_self, show L.length - es.length = 0 by omega, List.getElem_cons_zero]
    have e : ((s.take j).drop i).length = j - i := by rw [List.length_drop, List.length_take]; omega
    refine ⟨i, by rw [e], by omega, fun t ht => ?_⟩
    rw [List.getElem_drop, List.getElem_take, List.getElem?_eq_getElem]

/-- runs that are read: each slice is full -/
structure RunsE (w : World) (A : Option Addr) (L : List (List Int)) (es : List Value) : Prop where
  len : es.length = L.length
  outer : Lies w w.heap.size A es
  inner : ∀ (j : Nat) (h1 : j < es.length) (h2 : j < L.length), ∃ Aj, es[j] = .slice Aj L[j].length L[j].length ∧ Lies w w.heap.size Aj (ints .i64 L[j])
def RunsR (w : World) (A : Option Addr) (L : List (List Int)) : Prop := ∃ es, RunsE w A L es
theorem RunsR.up {w w' : World} {A : Option Addr} {L : List (List Int)} (h : RunsR w A L) (hb : Below w.heap.size w w') : RunsR w' A L := by
  obtain ⟨es, h1, h2, h3⟩ := h
  refine ⟨es, h1, h2.up hb, fun j a b => ?_⟩
  obtain ⟨Aj, e, hl⟩ := h3 j a b
  exact ⟨Aj, e, hl.up hb⟩
theorem Cuts.read {g : Nat} {s : List Int} {es : List Value} {L : List (List Int)} {w : World} {A : Option Addr} {c n : Nat} {B : Nat} (h : Cuts g s es L) (hs : Own w B 3 (.slice (some ⟨g, 0, none⟩) n c) (ints .i64 s)) (ho : Lies w w.heap.size A es) : RunsR w A L := by
  refine ⟨es, h.len, ho, fun j h1 h2 => ?_⟩
  obtain ⟨o, e, h3, h4⟩ := h.cut j h1 h2
  refine ⟨_, e, fun hne => ⟨_, rfl, (Own.inside hs g rfl).2, fun i u hu => ?_⟩⟩
  rw [ints, List.getElem?_map] at hu
  obtain ⟨x, hx, rfl⟩ := Option.map_eq_some_iff.1 hu
  obtain ⟨hlt, rfl⟩ := List.getElem?_eq_some_iff.1 hx
  obtain ⟨A1, c1, hv, hl, _, _⟩ := hs.form
  injection hv with hA _ _
  subst hA
  have hs0 : ints .i64 s ≠ [] := fun e => by
    have e2 := congrArg List.length e
    simp only [ints, List.length_map, List.length_nil] at e2
    omega
  obtain ⟨p, hp, _, hc⟩ := hl hs0
  injection hp with hp
  subst hp
  have := hc (o + i) (.int .i64 L[j][i]) (by rw [ints, List.getElem?_map, h4 i hlt]; rfl)
  rw [add_plain] at this ⊢
  simpa using this
/-- run j's slice, its first and last places -/
theorem RunsR.at' {w : World} {A : Option Addr} {L : List (List Int)} (h : RunsR w A L) {j : Nat} (hj : j < L.length) (hne : L[j] ≠ []) :
    ∃ p b off, A = some p ∧ p.block < w.heap.size ∧ b < w.heap.size ∧ w.cell? (p.add j) = some (.slice (some ⟨b, off, none⟩) L[j].length L[j].length) ∧ w.cell? ⟨b, off, none⟩ = some (.int .i64 (headI L[j])) ∧ w.cell? ⟨b, off + (L[j].length - 1), none⟩ = some (.int .i64 (lastI L[j])) ∧ Lies w w.heap.size (some ⟨b, off, none⟩) (ints .i64 L[j]) := by
  obtain ⟨es, h1, h2, h3⟩ := h
  obtain ⟨p, hA, hp, hc⟩ := h2.cellAt (i := j) (by omega)
  obtain ⟨Aj, e, hl⟩ := h3 j (by omega) hj
  have hpos := List.length_pos_iff.2 hne
  obtain ⟨b, off, hAj, hb, hcs⟩ := hl.plainInts hpos
  subst hAj
  refine ⟨p, b, off, hA, hp, hb, by rw [hc, e], ?_, ?_, hl⟩
  · have := hcs 0 hpos
    rw [show L[j][0] = headI L[j] by simp [headI, hpos]] at this
    simpa using this
  · have := hcs (L[j].length - 1) (by omega)
    rw [this]
    simp [lastI, List.getElem?_eq_getElem (show L[j].length - 1 < L[j].length by omega)]
/-- .. behind what leaves it as it lies -/
theorem RunsR.later {w w' : World} {A : Option Addr} {L : List (List Int)} (h : RunsR w A L) (hw : Below w.heap.size w w') {j : Nat} (hj : j < L.length) (hne : L[j] ≠ []) :
    ∃ p b off, A = some p ∧ p.block < w.heap.size ∧ b < w.heap.size ∧ w'.cell? (p.add j) = some (.slice (some ⟨b, off, none⟩) L[j].length L[j].length) ∧ w'.cell? ⟨b, off, none⟩ = some (.int .i64 (headI L[j])) ∧ w'.cell? ⟨b, off + (L[j].length - 1), none⟩ = some (.int .i64 (lastI L[j])) ∧ Lies w' w.heap.size (some ⟨b, off, none⟩) (ints .i64 L[j]) := by
  obtain ⟨p, b, off, hA, hp, hb, h1, h2, h3, h4⟩ := h.at' hj hne
  exact ⟨p, b, off, hA, hp, hb, by rw [hw.cell (by rw [add_block]; exact hp)]; exact h1, by rw [hw.cell hb]; exact h2, by rw [hw.cell hb]; exact h3, h4.below hw⟩
theorem listsI_six {cl lv : List Int} (hl : cl.length ≤ 1000000) : (listsI cl lv).length ≤ 1000000 ∧ (∀ j (hj : j < (listsI cl lv).length), (listsI cl lv)[j] ≠ []) ∧ ∀ j (hj : j < (listsI cl lv).length), (listsI cl lv)[j].length ≤ 1000000 :=
  ⟨Nat.le_trans (listsI_le cl lv).1 hl, fun _ _ => listsI_ne cl lv _ (List.getElem_mem _), fun _ _ => Nat.le_trans ((listsI_le cl lv).2 _ (List.getElem_mem _)) hl⟩
end Go.Proofs.Ytajgjloailliiaa
