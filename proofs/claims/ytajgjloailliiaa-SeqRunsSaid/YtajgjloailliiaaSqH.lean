/- Layer 8: sequences that are read; are two rows of them the same? -/
import Derived.Test.YtajgjloailliiaaSqG
import Derived.Test.YtajgjloailliiaaInts2
namespace Go.Proofs.Ytajgjloailliiaa
open Go.RowKit

/-- a row of sequences, to be read -/
structure SeqsR (w : World) (A : Option Addr) (L : List Sq) (vs : List Value) : Prop where
  len : vs.length = L.length
  outer : Lies w w.heap.size A (sqCells vs L)
  inner : ∀ (j : Nat) (h1 : j < vs.length) (h2 : j < L.length), ∃ Aj cj, vs[j] = .slice Aj L[j].pl.length cj ∧ Lies w w.heap.size Aj (ints .i64 L[j].pl)
theorem SeqsR.up {w w' : World} {A : Option Addr} {L : List Sq} {vs : List Value} (h : SeqsR w A L vs) (hb : Below w.heap.size w w') : SeqsR w' A L vs :=
  ⟨h.len, h.outer.up hb, fun j h1 h2 => by
    obtain ⟨Aj, cj, e, hl⟩ := h.inner j h1 h2
    exact ⟨Aj, cj, e, hl.up hb⟩⟩
/-- what a call hands back that tells sequences -/
def RowedS (w : World) (L : List Sq) (ed : Ending) (w' : World) : Prop := ∃ A c vs, ed = .returned (.slice A L.length c) ∧ SeqsR w' A L vs ∧ Below w.heap.size w w'
theorem Seqs.read {w : World} {B : Nat} {v : Value} {vs : List Value} {L : List Sq} (h : Seqs w B v vs L) : ∃ A c, v = .slice A L.length c ∧ SeqsR w A L vs := by
  obtain ⟨A, c, hv, hl, _, _⟩ := h.outer.form
  refine ⟨A, c, hv, h.len, hl, fun j h1 h2 => ?_⟩
  obtain ⟨Aj, cj, e, hj, _, _⟩ := (h.inner j h1 h2).form
  rw [List.length_map] at e
  exact ⟨Aj, cj, e, hj⟩
/-- a sequence's four cells -/
abbrev SqCell (w : World) (g o : Nat) (v : Value) (s : Sq) : Prop := w.cell? ⟨g, o, none⟩ = some v ∧ w.cell? ⟨g, o + 1, none⟩ = some (.int .i64 s.lev) ∧ w.cell? ⟨g, o + 2, none⟩ = some (.int .i64 s.sos) ∧ w.cell? ⟨g, o + 3, none⟩ = some (.int .i64 s.eos)
theorem SeqsR.at' {w : World} {A : Option Addr} {L : List Sq} {vs : List Value} (h : SeqsR w A L vs) {j : Nat} (hj : j < L.length) :
    ∃ g off Aj cj, A = some ⟨g, off, none⟩ ∧ g < w.heap.size ∧ SqCell w g (off + j * 4) (.slice Aj L[j].pl.length cj) L[j] ∧ Lies w w.heap.size Aj (ints .i64 L[j].pl) := by
  have hl := h.len
  obtain ⟨Aj, cj, e, hi⟩ := h.inner j (by omega) hj
  obtain ⟨g, off, hA, hg, hc⟩ := h.outer.plain (by rw [sqCells_length _ _ hl]; omega)
  have key : ∀ t, t < 4 → w.cell? ⟨g, off + j * 4 + t, none⟩ = (L[j].cells (vs[j]'(by omega)))[t]? := fun t ht => by
    have h1 := hc (j * 4 + t) (by rw [sqCells_length _ _ hl]; omega)
    rw [show off + j * 4 + t = off + (j * 4 + t) by omega, h1, ← List.getElem?_eq_getElem, sqCells_get vs L hl j hj t ht]
  refine ⟨g, off, Aj, cj, hA, hg, ⟨?_, ?_, ?_, ?_⟩, hi⟩
  · have := key 0 (by omega); rw [e] at this; exact this
  · exact key 1 (by omega)
  · exact key 2 (by omega)
  · exact key 3 (by omega)
theorem SqCell.up {w w' : World} {g o : Nat} {v : Value} {s : Sq} {B : Nat} (h : SqCell w g o v s) (hb : Below B w w') (hg : g < B) : SqCell w' g o v s :=
  ⟨by rw [hb.cell hg]; exact h.1, by rw [hb.cell hg]; exact h.2.1, by rw [hb.cell hg]; exact h.2.2.1, by rw [hb.cell hg]; exact h.2.2.2⟩

set_option maxRecDepth 20000 in
set_option maxHeartbeats 8000000 in
theorem rsame8_any (A : Option Addr) (c : Nat) (L : List Sq) (vs : List Value) (A' : Option Addr) (c' : Nat) (L' : List Sq) (vs' : List Value) (w : World) (h : SeqsR w A L vs) (h' : SeqsR w A' L' vs') (hl : L.length ≤ 1000000) (hp : ∀ s ∈ L, s.pl.length ≤ 1000000) (hp' : ∀ s ∈ L', s.pl.length ≤ 1000000) :
    Calls Try.prog 9 #[.slice A L.length c, .slice A' L'.length c'] w fun e w' => e = .returned (.bool (decide (L = L'))) ∧ Below w.heap.size w w' := by
  have H := Lib.hid h
  have H' := Lib.hid h'
  have HP := Lib.hid hp
  have HP' := Lib.hid hp'
  clear h h' hp hp'
  by_cases hn : L.length = L'.length
  · have hd : ((L.length : Int) != (L'.length : Int)) = false := by simp [hn]
    have HN := Lib.hid hn
    clear hn
    go_enter Try.func9, Try.ntmps9
    go_wp2
    go_loopw [5] (fun i wr => ∃ k : Nat, k ≤ L.length ∧ i = .int .i64 k ∧ Hid (L.take k = L'.take k) ∧ Below w.heap.size w wr) (fun i _ => L.length - (intOf i).toNat)
    case atStart => exact ⟨0, by omega, rfl, Lib.hid rfl, Below.refl _ _⟩
    case round =>
      obtain ⟨k, hk, rfl, HE, hb⟩ := hrel
      have HB := Lib.hid hb
      clear hb
      by_cases hlt : k < L.length
      · have hlt' : k < L'.length := by have := HN.out; omega
        obtain ⟨g, off, Aj, cj, hA, hg, hc, hj⟩ := (H.out.up HB.out).at' hlt
        obtain ⟨g', off', Aj', cj', hA', hg', hc', hj'⟩ := (H'.out.up HB.out).at' hlt'
        subst hA hA'
        have b0 : (0 : Int) ≤ (k : Int) := by omega
        have b1 : (k : Int) < (L.length : Int) := by omega
        have b2 : (k : Int) < (L'.length : Int) := by omega
        have hx : L[k].pl.length ≤ 1000000 := HP.out _ (List.getElem_mem hlt)
        have hx' : L'[k].pl.length ≤ 1000000 := HP'.out _ (List.getElem_mem hlt')
        obtain ⟨s, hs⟩ : ∃ s, L[k] = s := ⟨_, rfl⟩
        obtain ⟨s', hs'⟩ : ∃ s, L'[k] = s := ⟨_, rfl⟩
        rw [hs] at hc hj hx
        rw [hs'] at hc' hj' hx'
        have XS := Lib.hid (And.intro hs hs')
        clear hs hs'
        obtain ⟨pl, lev, sos, eos⟩ := s
        obtain ⟨pl', lev', sos', eos'⟩ := s'
        simp only at hc hj hc' hj' hx hx'
        obtain ⟨n, hn⟩ : ∃ n, pl.length = n := ⟨_, rfl⟩
        obtain ⟨n', hn'⟩ : ∃ n, pl'.length = n := ⟨_, rfl⟩
        have hI := ints_any Aj Aj' pl pl' cj cj' (w := wr.drew) (hj.sameHeap rfl) (hj'.sameHeap rfl) hx hx'
        rw [hn, hn'] at hI
        rw [hn] at hc
        rw [hn'] at hc'
        have HI := Lib.hid hI
        obtain ⟨p0, p1, p2, p3⟩ := hc
        obtain ⟨q0, q1, q2, q3⟩ := hc'
        have SK : Hid (∀ w', Below wr.heap.size wr w' → SqCell w' g (off + k * 4) (.slice Aj n cj) ⟨pl, lev, sos, eos⟩ ∧ SqCell w' g' (off' + k * 4) (.slice Aj' n' cj') ⟨pl', lev', sos', eos'⟩) :=
          Lib.hid fun w' h => ⟨SqCell.up (w := wr) ⟨p0, p1, p2, p3⟩ h hg, SqCell.up (w := wr) ⟨q0, q1, q2, q3⟩ h hg'⟩
        have hk0 := SK.out wr.drew (by exact below_same (Below.refl _ _) rfl rfl rfl rfl)
        clear hn hn' hI hj hj' p0 p1 p2 p3 q0 q1 q2 q3 hx hx'
        rcases e1 : decide (pl = pl') with _ | _
        · have P1 := Lib.hid e1
          clear e1
          go_wp2_with fail
          refine wp_region_E (S := fun w' => SqCell w' g (off + k * 4) (.slice Aj n cj) ⟨pl, lev, sos, eos⟩ ∧ SqCell w' g' (off' + k * 4) (.slice Aj' n' cj') ⟨pl', lev', sos', eos'⟩) [] (by kernel_rfl) (hk0) (fun hHeld hClosed => ?_)
          refine' wpAnyE_take (i := 0) (v := _) rfl (by kernel_rfl) (by kernel_rfl) (by kernel_rfl) (by kernel_rfl) (fun _ _ _ h => h) (Or.inl ⟨by rfl, fun u hu => ?_⟩) hHeld hClosed (fun hNext => ?_)
          rotate_left
          · (try dsimp only at hu)
            go_simp
            try with_reducible rfl
          clear hClosed
          have hClosed := hNext
          clear hNext
          try simp only [Act.put, List.getElem_toArray, List.getElem_cons_zero, List.setIfInBounds_toArray, List.set_cons_zero, List.set_cons_succ]
          refine' wpAnyE_take (i := 1) (v := _) rfl (by kernel_rfl) (by kernel_rfl) (by kernel_rfl) (by kernel_rfl) (fun _ _ _ h => h) (Or.inl ⟨by rfl, fun u hu => ?_⟩) hHeld hClosed (fun hNext => ?_)
          rotate_left
          · (try dsimp only at hu)
            go_simp
            try with_reducible rfl
          clear hClosed
          have hClosed := hNext
          clear hNext
          try simp only [Act.put, List.getElem_toArray, List.getElem_cons_zero, List.getElem_cons_succ, List.setIfInBounds_toArray, List.set_cons_zero, List.set_cons_succ]
          refine' wpAnyE_take (i := 2) (v := _) rfl (by kernel_rfl) (by kernel_rfl) (by kernel_rfl) (by kernel_rfl) (fun _ _ _ h => h) (Or.inl ⟨by rfl, fun u hu => ?_⟩) hHeld hClosed (fun hNext => ?_)
          rotate_left
          · (try dsimp only at hu)
            go_simp
            try with_reducible rfl
          clear hClosed
          have hClosed := hNext
          clear hNext
          try simp only [Act.put, List.getElem_toArray, List.getElem_cons_zero, List.getElem_cons_succ, List.setIfInBounds_toArray, List.set_cons_zero, List.set_cons_succ]
          refine' wpAnyE_take (i := 3) (v := _) rfl (by kernel_rfl) (by kernel_rfl) (by kernel_rfl) (by kernel_rfl) (fun _ _ _ h => h) (Or.inl ⟨by rfl, fun u hu => ?_⟩) hHeld hClosed (fun hNext => ?_)
          rotate_left
          · (try dsimp only at hu)
            go_simp
            try with_reducible rfl
          clear hClosed
          have hClosed := hNext
          clear hNext
          try simp only [Act.put, List.getElem_toArray, List.getElem_cons_zero, List.getElem_cons_succ, List.setIfInBounds_toArray, List.set_cons_zero, List.set_cons_succ]
          refine' wpAnyE_take (i := 4) (v := _) rfl (by kernel_rfl) (by kernel_rfl) (by kernel_rfl) (by kernel_rfl) (fun _ _ _ h => h) (Or.inl ⟨by rfl, fun u hu => ?_⟩) hHeld hClosed (fun hNext => ?_)
          rotate_left
          · (try dsimp only at hu)
            go_simp
            try with_reducible rfl
          clear hClosed
          have hClosed := hNext
          clear hNext
          try simp only [Act.put, List.getElem_toArray, List.getElem_cons_zero, List.getElem_cons_succ, List.setIfInBounds_toArray, List.set_cons_zero, List.set_cons_succ]
          refine' wpAnyE_take (i := 5) (v := _) rfl (by kernel_rfl) (by kernel_rfl) (by kernel_rfl) (by kernel_rfl) (fun _ _ _ h => h) (Or.inl ⟨by rfl, fun u hu => ?_⟩) hHeld hClosed (fun hNext => ?_)
          rotate_left
          · (try dsimp only at hu)
            go_simp
            try with_reducible rfl
          clear hClosed
          have hClosed := hNext
          clear hNext
          try simp only [Act.put, List.getElem_toArray, List.getElem_cons_zero, List.getElem_cons_succ, List.setIfInBounds_toArray, List.set_cons_zero, List.set_cons_succ]
          refine' wpAnyE_take (i := 6) (v := _) rfl (by kernel_rfl) (by kernel_rfl) (by kernel_rfl) (by kernel_rfl) (fun _ _ _ h => h) (Or.inl ⟨by rfl, fun u hu => ?_⟩) hHeld hClosed (fun hNext => ?_)
          rotate_left
          · (try dsimp only at hu)
            go_simp
            try with_reducible rfl
          clear hClosed
          have hClosed := hNext
          clear hNext
          try simp only [Act.put, List.getElem_toArray, List.getElem_cons_zero, List.getElem_cons_succ, List.setIfInBounds_toArray, List.set_cons_zero, List.set_cons_succ]
          refine' wpAnyE_take (i := 7) (v := _) rfl (by kernel_rfl) (by kernel_rfl) (by kernel_rfl) (by kernel_rfl) (fun _ _ _ h => h) (Or.inl ⟨by rfl, fun u hu => ?_⟩) hHeld hClosed (fun hNext => ?_)
          rotate_left
          · (try dsimp only at hu)
            go_simp
            try with_reducible rfl
          clear hClosed
          have hClosed := hNext
          clear hNext
          try simp only [Act.put, List.getElem_toArray, List.getElem_cons_zero, List.getElem_cons_succ, List.setIfInBounds_toArray, List.set_cons_zero, List.set_cons_succ]
          refine' wpAnyE_take (i := 8) (v := _) rfl (by kernel_rfl) (by kernel_rfl) (by kernel_rfl) (by kernel_rfl) (fun _ _ _ h => h) (Or.inl ⟨by rfl, fun u hu => ?_⟩) hHeld hClosed (fun hNext => ?_)
          rotate_left
          · (try dsimp only at hu)
            go_simp
            try with_reducible rfl
          clear hClosed
          have hClosed := hNext
          clear hNext
          try simp only [Act.put, List.getElem_toArray, List.getElem_cons_zero, List.getElem_cons_succ, List.setIfInBounds_toArray, List.set_cons_zero, List.set_cons_succ]
          refine' wpAnyE_take (i := 9) (v := _) rfl (by kernel_rfl) (by kernel_rfl) (by kernel_rfl) (by kernel_rfl) (fun _ _ _ h => h) (Or.inl ⟨by rfl, fun u hu => ?_⟩) hHeld hClosed (fun hNext => ?_)
          rotate_left
          · (try dsimp only at hu)
            go_simp
            try with_reducible rfl
          clear hClosed
          have hClosed := hNext
          clear hNext
          try simp only [Act.put, List.getElem_toArray, List.getElem_cons_zero, List.getElem_cons_succ, List.setIfInBounds_toArray, List.set_cons_zero, List.set_cons_succ]
          refine wpAnyE_ready (rs := [10]) (by kernel_rfl) (by simp) ?_
          refine AllReadyE.cons rfl (fun K hK => ?_) AllReadyE.nil
          all_goals simp only [List.getElem_toArray, List.getElem_cons_zero, List.getElem_cons_succ]
          all_goals go_simp
          refine HI.out.mono ?_
          rintro e w5 ⟨rfl, b5⟩
          rw [P1.out]
          have B5 := Lib.hid (show Below wr.heap.size wr w5 from ⟨b5.os, b5.tape, b5.output, b5.size, b5.block⟩)
          clear b5
          refine hK.out _ _ (fun _ => SK.out _ B5.out) (fun hHeld => ?_) (fun hX => (by first | cases hX | simp at hX))
          replace hClosed := hClosed.step 10 (by kernel_rfl)
          clear hK K
          try simp only [Act.put, List.getElem_toArray, List.getElem_cons_zero, List.getElem_cons_succ, List.setIfInBounds_toArray, List.set_cons_zero, List.set_cons_succ]
          refine' wpAnyE_take (i := 11) (v := _) rfl (by kernel_rfl) (by kernel_rfl) (by kernel_rfl) (by kernel_rfl) (fun _ _ _ h => h) (Or.inl ⟨by rfl, fun u hu => ?_⟩) hHeld hClosed (fun hNext => ?_)
          rotate_left
          · (try dsimp only at hu)
            go_simp
            try with_reducible rfl
          clear hClosed
          have hClosed := hNext
          clear hNext
          try simp only [Act.put, List.getElem_toArray, List.getElem_cons_zero, List.getElem_cons_succ, List.setIfInBounds_toArray, List.set_cons_zero, List.set_cons_succ]
          refine' wpAnyE_take (i := 12) (v := _) rfl (by kernel_rfl) (by kernel_rfl) (by kernel_rfl) (by kernel_rfl) (fun _ _ _ h => h) (Or.inl ⟨by rfl, fun u hu => ?_⟩) hHeld hClosed (fun hNext => ?_)
          rotate_left
          · (try dsimp only at hu)
            go_simp
            try with_reducible rfl
          clear hClosed
          have hClosed := hNext
          clear hNext
          try simp only [Act.put, List.getElem_toArray, List.getElem_cons_zero, List.getElem_cons_succ, List.setIfInBounds_toArray, List.set_cons_zero, List.set_cons_succ]
          refine' wpAnyE_take (i := 13) (v := _) rfl (by kernel_rfl) (by kernel_rfl) (by kernel_rfl) (by kernel_rfl) (fun _ _ _ h => h) (Or.inr ⟨by rfl, rfl⟩) hHeld hClosed (fun hNext => ?_)
          clear hClosed
          have hClosed := hNext
          clear hNext
          try simp only [Act.put, List.getElem_toArray, List.getElem_cons_zero, List.getElem_cons_succ, List.setIfInBounds_toArray, List.set_cons_zero, List.set_cons_succ]
          refine' wpAnyE_take (i := 14) (v := _) rfl (by kernel_rfl) (by kernel_rfl) (by kernel_rfl) (by kernel_rfl) (fun _ _ _ h => h) (Or.inr ⟨by rfl, rfl⟩) hHeld hClosed (fun hNext => ?_)
          clear hClosed
          have hClosed := hNext
          clear hNext
          try simp only [Act.put, List.getElem_toArray, List.getElem_cons_zero, List.getElem_cons_succ, List.setIfInBounds_toArray, List.set_cons_zero, List.set_cons_succ]
          refine' wpAnyE_take (i := 15) (v := _) rfl (by kernel_rfl) (by kernel_rfl) (by kernel_rfl) (by kernel_rfl) (fun _ _ _ h => h) (Or.inr ⟨by rfl, rfl⟩) hHeld hClosed (fun hNext => ?_)
          clear hClosed
          have hClosed := hNext
          clear hNext
          try simp only [Act.put, List.getElem_toArray, List.getElem_cons_zero, List.getElem_cons_succ, List.setIfInBounds_toArray, List.set_cons_zero, List.set_cons_succ]
          refine' wpAnyE_take (i := 16) (v := _) rfl (by kernel_rfl) (by kernel_rfl) (by kernel_rfl) (by kernel_rfl) (fun _ _ _ h => h) (Or.inr ⟨by rfl, rfl⟩) hHeld hClosed (fun hNext => ?_)
          clear hClosed
          have hClosed := hNext
          clear hNext
          try simp only [Act.put, List.getElem_toArray, List.getElem_cons_zero, List.getElem_cons_succ, List.setIfInBounds_toArray, List.set_cons_zero, List.set_cons_succ]
          refine' wpAnyE_take (i := 17) (v := _) rfl (by kernel_rfl) (by kernel_rfl) (by kernel_rfl) (by kernel_rfl) (fun _ _ _ h => h) (Or.inr ⟨by rfl, rfl⟩) hHeld hClosed (fun hNext => ?_)
          clear hClosed
          have hClosed := hNext
          clear hNext
          try simp only [Act.put, List.getElem_toArray, List.getElem_cons_zero, List.getElem_cons_succ, List.setIfInBounds_toArray, List.set_cons_zero, List.set_cons_succ]
          refine' wpAnyE_take (i := 18) (v := _) rfl (by kernel_rfl) (by kernel_rfl) (by kernel_rfl) (by kernel_rfl) (fun _ _ _ h => h) (Or.inr ⟨by rfl, rfl⟩) hHeld hClosed (fun hNext => ?_)
          clear hClosed
          have hClosed := hNext
          clear hNext
          try simp only [Act.put, List.getElem_toArray, List.getElem_cons_zero, List.getElem_cons_succ, List.setIfInBounds_toArray, List.set_cons_zero, List.set_cons_succ]
          refine' wpAnyE_take (i := 19) (v := _) rfl (by kernel_rfl) (by kernel_rfl) (by kernel_rfl) (by kernel_rfl) (fun _ _ _ h => h) (Or.inr ⟨by rfl, rfl⟩) hHeld hClosed (fun hNext => ?_)
          clear hClosed
          have hClosed := hNext
          clear hNext
          try simp only [Act.put, List.getElem_toArray, List.getElem_cons_zero, List.getElem_cons_succ, List.setIfInBounds_toArray, List.set_cons_zero, List.set_cons_succ]
          refine' wpAnyE_take (i := 20) (v := _) rfl (by kernel_rfl) (by kernel_rfl) (by kernel_rfl) (by kernel_rfl) (fun _ _ _ h => h) (Or.inr ⟨by rfl, rfl⟩) hHeld hClosed (fun hNext => ?_)
          clear hClosed
          have hClosed := hNext
          clear hNext
          try simp only [Act.put, List.getElem_toArray, List.getElem_cons_zero, List.getElem_cons_succ, List.setIfInBounds_toArray, List.set_cons_zero, List.set_cons_succ]
          refine' wpAnyE_take (i := 21) (v := _) rfl (by kernel_rfl) (by kernel_rfl) (by kernel_rfl) (by kernel_rfl) (fun _ _ _ h => h) (Or.inr ⟨by rfl, rfl⟩) hHeld hClosed (fun hNext => ?_)
          clear hClosed
          have hClosed := hNext
          clear hNext
          try simp only [Act.put, List.getElem_toArray, List.getElem_cons_zero, List.getElem_cons_succ, List.setIfInBounds_toArray, List.set_cons_zero, List.set_cons_succ]
          refine' wpAnyE_take (i := 22) (v := _) rfl (by kernel_rfl) (by kernel_rfl) (by kernel_rfl) (by kernel_rfl) (fun _ _ _ h => h) (Or.inr ⟨by rfl, rfl⟩) hHeld hClosed (fun hNext => ?_)
          clear hClosed
          have hClosed := hNext
          clear hNext
          try simp only [Act.put, List.getElem_toArray, List.getElem_cons_zero, List.getElem_cons_succ, List.setIfInBounds_toArray, List.set_cons_zero, List.set_cons_succ]
          refine' wpAnyE_take (i := 23) (v := _) rfl (by kernel_rfl) (by kernel_rfl) (by kernel_rfl) (by kernel_rfl) (fun _ _ _ h => h) (Or.inr ⟨by rfl, rfl⟩) hHeld hClosed (fun hNext => ?_)
          clear hClosed
          have hClosed := hNext
          clear hNext
          try simp only [Act.put, List.getElem_toArray, List.getElem_cons_zero, List.getElem_cons_succ, List.setIfInBounds_toArray, List.set_cons_zero, List.set_cons_succ]
          refine' wpAnyE_take (i := 24) (v := _) rfl (by kernel_rfl) (by kernel_rfl) (by kernel_rfl) (by kernel_rfl) (fun _ _ _ h => h) (Or.inl ⟨by rfl, fun u hu => ?_⟩) hHeld hClosed (fun hNext => ?_)
          rotate_left
          · (try dsimp only at hu)
            go_simp
            try with_reducible rfl
          clear hClosed
          have hClosed := hNext
          clear hNext
          try simp only [Act.put, List.getElem_toArray, List.getElem_cons_zero, List.getElem_cons_succ, List.setIfInBounds_toArray, List.set_cons_zero, List.set_cons_succ]
          refine' wpAnyE_take (i := 25) (v := _) rfl (by kernel_rfl) (by kernel_rfl) (by kernel_rfl) (by kernel_rfl) (fun _ _ _ h => h) (Or.inl ⟨by rfl, fun u hu => ?_⟩) hHeld hClosed (fun hNext => ?_)
          rotate_left
          · (try dsimp only at hu)
            go_simp
            try with_reducible rfl
          clear hClosed
          have hClosed := hNext
          clear hNext
          try simp only [Act.put, List.getElem_toArray, List.getElem_cons_zero, List.getElem_cons_succ, List.setIfInBounds_toArray, List.set_cons_zero, List.set_cons_succ]
          refine' wpAnyE_take (i := 26) (v := _) rfl (by kernel_rfl) (by kernel_rfl) (by kernel_rfl) (by kernel_rfl) (fun _ _ _ h => h) (Or.inr ⟨by rfl, rfl⟩) hHeld hClosed (fun hNext => ?_)
          clear hClosed
          have hClosed := hNext
          clear hNext
          try simp only [Act.put, List.getElem_toArray, List.getElem_cons_zero, List.getElem_cons_succ, List.setIfInBounds_toArray, List.set_cons_zero, List.set_cons_succ]
          refine' wpAnyE_take (i := 27) (v := _) rfl (by kernel_rfl) (by kernel_rfl) (by kernel_rfl) (by kernel_rfl) (fun _ _ _ h => h) (Or.inr ⟨by rfl, rfl⟩) hHeld hClosed (fun hNext => ?_)
          clear hClosed
          have hClosed := hNext
          clear hNext
          try simp only [Act.put, List.getElem_toArray, List.getElem_cons_zero, List.getElem_cons_succ, List.setIfInBounds_toArray, List.set_cons_zero, List.set_cons_succ]
          refine' wpAnyE_take (i := 28) (v := _) rfl (by kernel_rfl) (by kernel_rfl) (by kernel_rfl) (by kernel_rfl) (fun _ _ _ h => h) (Or.inr ⟨by rfl, rfl⟩) hHeld hClosed (fun hNext => ?_)
          clear hClosed
          have hClosed := hNext
          clear hNext
          try simp only [Act.put, List.getElem_toArray, List.getElem_cons_zero, List.getElem_cons_succ, List.setIfInBounds_toArray, List.set_cons_zero, List.set_cons_succ]
          refine' wpAnyE_take (i := 29) (v := _) rfl (by kernel_rfl) (by kernel_rfl) (by kernel_rfl) (by kernel_rfl) (fun _ _ _ h => h) (Or.inr ⟨by rfl, rfl⟩) hHeld hClosed (fun hNext => ?_)
          clear hClosed
          have hClosed := hNext
          clear hNext
          try simp only [Act.put, List.getElem_toArray, List.getElem_cons_zero, List.getElem_cons_succ, List.setIfInBounds_toArray, List.set_cons_zero, List.set_cons_succ]
          refine' wpAnyE_take (i := 30) (v := _) rfl (by kernel_rfl) (by kernel_rfl) (by kernel_rfl) (by kernel_rfl) (fun _ _ _ h => h) (Or.inr ⟨by rfl, rfl⟩) hHeld hClosed (fun hNext => ?_)
          clear hClosed
          have hClosed := hNext
          clear hNext
          try simp only [Act.put, List.getElem_toArray, List.getElem_cons_zero, List.getElem_cons_succ, List.setIfInBounds_toArray, List.set_cons_zero, List.set_cons_succ]
          refine' wpAnyE_take (i := 31) (v := _) rfl (by kernel_rfl) (by kernel_rfl) (by kernel_rfl) (by kernel_rfl) (fun _ _ _ h => h) (Or.inr ⟨by rfl, rfl⟩) hHeld hClosed (fun hNext => ?_)
          clear hClosed
          have hClosed := hNext
          clear hNext
          try simp only [Act.put, List.getElem_toArray, List.getElem_cons_zero, List.getElem_cons_succ, List.setIfInBounds_toArray, List.set_cons_zero, List.set_cons_succ]
          refine' wpAnyE_take (i := 32) (v := _) rfl (by kernel_rfl) (by kernel_rfl) (by kernel_rfl) (by kernel_rfl) (fun _ _ _ h => h) (Or.inr ⟨by rfl, rfl⟩) hHeld hClosed (fun hNext => ?_)
          clear hClosed
          have hClosed := hNext
          clear hNext
          try simp only [Act.put, List.getElem_toArray, List.getElem_cons_zero, List.getElem_cons_succ, List.setIfInBounds_toArray, List.set_cons_zero, List.set_cons_succ]
          refine' wpAnyE_take (i := 33) (v := _) rfl (by kernel_rfl) (by kernel_rfl) (by kernel_rfl) (by kernel_rfl) (fun _ _ _ h => h) (Or.inr ⟨by rfl, rfl⟩) hHeld hClosed (fun hNext => ?_)
          clear hClosed
          have hClosed := hNext
          clear hNext
          try simp only [Act.put, List.getElem_toArray, List.getElem_cons_zero, List.getElem_cons_succ, List.setIfInBounds_toArray, List.set_cons_zero, List.set_cons_succ]
          refine' wpAnyE_take (i := 34) (v := _) rfl (by kernel_rfl) (by kernel_rfl) (by kernel_rfl) (by kernel_rfl) (fun _ _ _ h => h) (Or.inr ⟨by rfl, rfl⟩) hHeld hClosed (fun hNext => ?_)
          clear hClosed
          have hClosed := hNext
          clear hNext
          try simp only [Act.put, List.getElem_toArray, List.getElem_cons_zero, List.getElem_cons_succ, List.setIfInBounds_toArray, List.set_cons_zero, List.set_cons_succ]
          refine' wpAnyE_take (i := 35) (v := _) rfl (by kernel_rfl) (by kernel_rfl) (by kernel_rfl) (by kernel_rfl) (fun _ _ _ h => h) (Or.inr ⟨by rfl, rfl⟩) hHeld hClosed (fun hNext => ?_)
          clear hClosed
          have hClosed := hNext
          clear hNext
          try simp only [Act.put, List.getElem_toArray, List.getElem_cons_zero, List.getElem_cons_succ, List.setIfInBounds_toArray, List.set_cons_zero, List.set_cons_succ]
          refine' wpAnyE_take (i := 36) (v := _) rfl (by kernel_rfl) (by kernel_rfl) (by kernel_rfl) (by kernel_rfl) (fun _ _ _ h => h) (Or.inr ⟨by rfl, rfl⟩) hHeld hClosed (fun hNext => ?_)
          clear hClosed
          have hClosed := hNext
          clear hNext
          try simp only [Act.put, List.getElem_toArray, List.getElem_cons_zero, List.getElem_cons_succ, List.setIfInBounds_toArray, List.set_cons_zero, List.set_cons_succ]
          refine' wpAnyE_take (i := 37) (v := _) rfl (by kernel_rfl) (by kernel_rfl) (by kernel_rfl) (by kernel_rfl) (fun _ _ _ h => h) (Or.inl ⟨by rfl, fun u hu => ?_⟩) hHeld hClosed (fun hNext => ?_)
          rotate_left
          · (try dsimp only at hu)
            go_simp
            try with_reducible rfl
          clear hClosed
          have hClosed := hNext
          clear hNext
          try simp only [Act.put, List.getElem_toArray, List.getElem_cons_zero, List.getElem_cons_succ, List.setIfInBounds_toArray, List.set_cons_zero, List.set_cons_succ]
          refine' wpAnyE_take (i := 38) (v := _) rfl (by kernel_rfl) (by kernel_rfl) (by kernel_rfl) (by kernel_rfl) (fun _ _ _ h => h) (Or.inl ⟨by rfl, fun u hu => ?_⟩) hHeld hClosed (fun hNext => ?_)
          rotate_left
          · (try dsimp only at hu)
            go_simp
            try with_reducible rfl
          clear hClosed
          have hClosed := hNext
          clear hNext
          try simp only [Act.put, List.getElem_toArray, List.getElem_cons_zero, List.getElem_cons_succ, List.setIfInBounds_toArray, List.set_cons_zero, List.set_cons_succ]
          refine' wpAnyE_take (i := 39) (v := _) rfl (by kernel_rfl) (by kernel_rfl) (by kernel_rfl) (by kernel_rfl) (fun _ _ _ h => h) (Or.inr ⟨by rfl, rfl⟩) hHeld hClosed (fun hNext => ?_)
          clear hClosed
          have hClosed := hNext
          clear hNext
          try simp only [Act.put, List.getElem_toArray, List.getElem_cons_zero, List.getElem_cons_succ, List.setIfInBounds_toArray, List.set_cons_zero, List.set_cons_succ]
          refine' wpAnyE_take (i := 40) (v := _) rfl (by kernel_rfl) (by kernel_rfl) (by kernel_rfl) (by kernel_rfl) (fun _ _ _ h => h) (Or.inr ⟨by rfl, rfl⟩) hHeld hClosed (fun hNext => ?_)
          clear hClosed
          have hClosed := hNext
          clear hNext
          try simp only [Act.put, List.getElem_toArray, List.getElem_cons_zero, List.getElem_cons_succ, List.setIfInBounds_toArray, List.set_cons_zero, List.set_cons_succ]
          refine' wpAnyE_take (i := 41) (v := _) rfl (by kernel_rfl) (by kernel_rfl) (by kernel_rfl) (by kernel_rfl) (fun _ _ _ h => h) (Or.inr ⟨by rfl, rfl⟩) hHeld hClosed (fun hNext => ?_)
          clear hClosed
          have hClosed := hNext
          clear hNext
          try simp only [Act.put, List.getElem_toArray, List.getElem_cons_zero, List.getElem_cons_succ, List.setIfInBounds_toArray, List.set_cons_zero, List.set_cons_succ]
          refine' wpAnyE_take (i := 42) (v := _) rfl (by kernel_rfl) (by kernel_rfl) (by kernel_rfl) (by kernel_rfl) (fun _ _ _ h => h) (Or.inr ⟨by rfl, rfl⟩) hHeld hClosed (fun hNext => ?_)
          clear hClosed
          have hClosed := hNext
          clear hNext
          try simp only [Act.put, List.getElem_toArray, List.getElem_cons_zero, List.getElem_cons_succ, List.setIfInBounds_toArray, List.set_cons_zero, List.set_cons_succ]
          refine' wpAnyE_take (i := 43) (v := _) rfl (by kernel_rfl) (by kernel_rfl) (by kernel_rfl) (by kernel_rfl) (fun _ _ _ h => h) (Or.inr ⟨by rfl, rfl⟩) hHeld hClosed (fun hNext => ?_)
          clear hClosed
          have hClosed := hNext
          clear hNext
          try simp only [Act.put, List.getElem_toArray, List.getElem_cons_zero, List.getElem_cons_succ, List.setIfInBounds_toArray, List.set_cons_zero, List.set_cons_succ]
          refine' wpAnyE_take (i := 44) (v := _) rfl (by kernel_rfl) (by kernel_rfl) (by kernel_rfl) (by kernel_rfl) (fun _ _ _ h => h) (Or.inr ⟨by rfl, rfl⟩) hHeld hClosed (fun hNext => ?_)
          clear hClosed
          have hClosed := hNext
          clear hNext
          try simp only [Act.put, List.getElem_toArray, List.getElem_cons_zero, List.getElem_cons_succ, List.setIfInBounds_toArray, List.set_cons_zero, List.set_cons_succ]
          refine' wpAnyE_take (i := 45) (v := _) rfl (by kernel_rfl) (by kernel_rfl) (by kernel_rfl) (by kernel_rfl) (fun _ _ _ h => h) (Or.inr ⟨by rfl, rfl⟩) hHeld hClosed (fun hNext => ?_)
          clear hClosed
          have hClosed := hNext
          clear hNext
          try simp only [Act.put, List.getElem_toArray, List.getElem_cons_zero, List.getElem_cons_succ, List.setIfInBounds_toArray, List.set_cons_zero, List.set_cons_succ]
          refine' wpAnyE_take (i := 46) (v := _) rfl (by kernel_rfl) (by kernel_rfl) (by kernel_rfl) (by kernel_rfl) (fun _ _ _ h => h) (Or.inr ⟨by rfl, rfl⟩) hHeld hClosed (fun hNext => ?_)
          clear hClosed
          have hClosed := hNext
          clear hNext
          try simp only [Act.put, List.getElem_toArray, List.getElem_cons_zero, List.getElem_cons_succ, List.setIfInBounds_toArray, List.set_cons_zero, List.set_cons_succ]
          refine' wpAnyE_take (i := 47) (v := _) rfl (by kernel_rfl) (by kernel_rfl) (by kernel_rfl) (by kernel_rfl) (fun _ _ _ h => h) (Or.inr ⟨by rfl, rfl⟩) hHeld hClosed (fun hNext => ?_)
          clear hClosed
          have hClosed := hNext
          clear hNext
          try simp only [Act.put, List.getElem_toArray, List.getElem_cons_zero, List.getElem_cons_succ, List.setIfInBounds_toArray, List.set_cons_zero, List.set_cons_succ]
          refine' wpAnyE_take (i := 48) (v := _) rfl (by kernel_rfl) (by kernel_rfl) (by kernel_rfl) (by kernel_rfl) (fun _ _ _ h => h) (Or.inr ⟨by rfl, rfl⟩) hHeld hClosed (fun hNext => ?_)
          clear hClosed
          have hClosed := hNext
          clear hNext
          try simp only [Act.put, List.getElem_toArray, List.getElem_cons_zero, List.getElem_cons_succ, List.setIfInBounds_toArray, List.set_cons_zero, List.set_cons_succ]
          refine' wpAnyE_take (i := 49) (v := _) rfl (by kernel_rfl) (by kernel_rfl) (by kernel_rfl) (by kernel_rfl) (fun _ _ _ h => h) (Or.inr ⟨by rfl, rfl⟩) hHeld hClosed (fun hNext => ?_)
          clear hClosed
          have hClosed := hNext
          clear hNext
          try simp only [Act.put, List.getElem_toArray, List.getElem_cons_zero, List.getElem_cons_succ, List.setIfInBounds_toArray, List.set_cons_zero, List.set_cons_succ]
          refine' wpAnyE_take (i := 50) (v := _) rfl (by kernel_rfl) (by kernel_rfl) (by kernel_rfl) (by kernel_rfl) (fun _ _ _ h => h) (Or.inl ⟨by rfl, fun u hu => ?_⟩) hHeld hClosed (fun hNext => ?_)
          rotate_left
          · (try dsimp only at hu)
            go_simp
            try with_reducible rfl
          clear hClosed
          have hClosed := hNext
          clear hNext
          try simp only [Act.put, List.getElem_toArray, List.getElem_cons_zero, List.getElem_cons_succ, List.setIfInBounds_toArray, List.set_cons_zero, List.set_cons_succ]
          refine wpAnyE_done (by kernel_rfl) ?_ _
          clear hClosed
          go_wp2_with fail
          go_ret
          exact ⟨ret_bool (by
            rw [eq_comm, decide_eq_false_iff_not]
            intro e
            have h1 := XS.out.1
            have h2 := XS.out.2
            subst e
            rw [h1] at h2
            injection h2 with h2 h3 h4 h5
            have := P1.out; simp [h2] at this), HB.out.trans (B5.out.mono HB.out.size)⟩

        · have P1 := Lib.hid e1
          clear e1
          rcases e2 : (lev != lev') with _ | _
          · rcases e3 : (sos != sos') with _ | _
            · rcases e4 : (eos != eos') with _ | _
              · have TT := trivial
                go_wp2_with fail
                refine wp_region_E (S := fun w' => SqCell w' g (off + k * 4) (.slice Aj n cj) ⟨pl, lev, sos, eos⟩ ∧ SqCell w' g' (off' + k * 4) (.slice Aj' n' cj') ⟨pl', lev', sos', eos'⟩) [] (by kernel_rfl) (hk0) (fun hHeld hClosed => ?_)
                refine' wpAnyE_take (i := 0) (v := _) rfl (by kernel_rfl) (by kernel_rfl) (by kernel_rfl) (by kernel_rfl) (fun _ _ _ h => h) (Or.inl ⟨by rfl, fun u hu => ?_⟩) hHeld hClosed (fun hNext => ?_)
                rotate_left
                · (try dsimp only at hu)
                  go_simp
                  try with_reducible rfl
                clear hClosed
                have hClosed := hNext
                clear hNext
                try simp only [Act.put, List.getElem_toArray, List.getElem_cons_zero, List.setIfInBounds_toArray, List.set_cons_zero, List.set_cons_succ]
                refine' wpAnyE_take (i := 1) (v := _) rfl (by kernel_rfl) (by kernel_rfl) (by kernel_rfl) (by kernel_rfl) (fun _ _ _ h => h) (Or.inl ⟨by rfl, fun u hu => ?_⟩) hHeld hClosed (fun hNext => ?_)
                rotate_left
                · (try dsimp only at hu)
                  go_simp
                  try with_reducible rfl
                clear hClosed
                have hClosed := hNext
                clear hNext
                try simp only [Act.put, List.getElem_toArray, List.getElem_cons_zero, List.getElem_cons_succ, List.setIfInBounds_toArray, List.set_cons_zero, List.set_cons_succ]
                refine' wpAnyE_take (i := 2) (v := _) rfl (by kernel_rfl) (by kernel_rfl) (by kernel_rfl) (by kernel_rfl) (fun _ _ _ h => h) (Or.inl ⟨by rfl, fun u hu => ?_⟩) hHeld hClosed (fun hNext => ?_)
                rotate_left
                · (try dsimp only at hu)
                  go_simp
                  try with_reducible rfl
                clear hClosed
                have hClosed := hNext
                clear hNext
                try simp only [Act.put, List.getElem_toArray, List.getElem_cons_zero, List.getElem_cons_succ, List.setIfInBounds_toArray, List.set_cons_zero, List.set_cons_succ]
                refine' wpAnyE_take (i := 3) (v := _) rfl (by kernel_rfl) (by kernel_rfl) (by kernel_rfl) (by kernel_rfl) (fun _ _ _ h => h) (Or.inl ⟨by rfl, fun u hu => ?_⟩) hHeld hClosed (fun hNext => ?_)
                rotate_left
                · (try dsimp only at hu)
                  go_simp
                  try with_reducible rfl
                clear hClosed
                have hClosed := hNext
                clear hNext
                try simp only [Act.put, List.getElem_toArray, List.getElem_cons_zero, List.getElem_cons_succ, List.setIfInBounds_toArray, List.set_cons_zero, List.set_cons_succ]
                refine' wpAnyE_take (i := 4) (v := _) rfl (by kernel_rfl) (by kernel_rfl) (by kernel_rfl) (by kernel_rfl) (fun _ _ _ h => h) (Or.inl ⟨by rfl, fun u hu => ?_⟩) hHeld hClosed (fun hNext => ?_)
                rotate_left
                · (try dsimp only at hu)
                  go_simp
                  try with_reducible rfl
                clear hClosed
                have hClosed := hNext
                clear hNext
                try simp only [Act.put, List.getElem_toArray, List.getElem_cons_zero, List.getElem_cons_succ, List.setIfInBounds_toArray, List.set_cons_zero, List.set_cons_succ]
                refine' wpAnyE_take (i := 5) (v := _) rfl (by kernel_rfl) (by kernel_rfl) (by kernel_rfl) (by kernel_rfl) (fun _ _ _ h => h) (Or.inl ⟨by rfl, fun u hu => ?_⟩) hHeld hClosed (fun hNext => ?_)
                rotate_left
                · (try dsimp only at hu)
                  go_simp
                  try with_reducible rfl
                clear hClosed
                have hClosed := hNext
                clear hNext
                try simp only [Act.put, List.getElem_toArray, List.getElem_cons_zero, List.getElem_cons_succ, List.setIfInBounds_toArray, List.set_cons_zero, List.set_cons_succ]
                refine' wpAnyE_take (i := 6) (v := _) rfl (by kernel_rfl) (by kernel_rfl) (by kernel_rfl) (by kernel_rfl) (fun _ _ _ h => h) (Or.inl ⟨by rfl, fun u hu => ?_⟩) hHeld hClosed (fun hNext => ?_)
                rotate_left
                · (try dsimp only at hu)
                  go_simp
                  try with_reducible rfl
                clear hClosed
                have hClosed := hNext
                clear hNext
                try simp only [Act.put, List.getElem_toArray, List.getElem_cons_zero, List.getElem_cons_succ, List.setIfInBounds_toArray, List.set_cons_zero, List.set_cons_succ]
                refine' wpAnyE_take (i := 7) (v := _) rfl (by kernel_rfl) (by kernel_rfl) (by kernel_rfl) (by kernel_rfl) (fun _ _ _ h => h) (Or.inl ⟨by rfl, fun u hu => ?_⟩) hHeld hClosed (fun hNext => ?_)
                rotate_left
                · (try dsimp only at hu)
                  go_simp
                  try with_reducible rfl
                clear hClosed
                have hClosed := hNext
                clear hNext
                try simp only [Act.put, List.getElem_toArray, List.getElem_cons_zero, List.getElem_cons_succ, List.setIfInBounds_toArray, List.set_cons_zero, List.set_cons_succ]
                refine' wpAnyE_take (i := 8) (v := _) rfl (by kernel_rfl) (by kernel_rfl) (by kernel_rfl) (by kernel_rfl) (fun _ _ _ h => h) (Or.inl ⟨by rfl, fun u hu => ?_⟩) hHeld hClosed (fun hNext => ?_)
                rotate_left
                · (try dsimp only at hu)
                  go_simp
                  try with_reducible rfl
                clear hClosed
                have hClosed := hNext
                clear hNext
                try simp only [Act.put, List.getElem_toArray, List.getElem_cons_zero, List.getElem_cons_succ, List.setIfInBounds_toArray, List.set_cons_zero, List.set_cons_succ]
                refine' wpAnyE_take (i := 9) (v := _) rfl (by kernel_rfl) (by kernel_rfl) (by kernel_rfl) (by kernel_rfl) (fun _ _ _ h => h) (Or.inl ⟨by rfl, fun u hu => ?_⟩) hHeld hClosed (fun hNext => ?_)
                rotate_left
                · (try dsimp only at hu)
                  go_simp
                  try with_reducible rfl
                clear hClosed
                have hClosed := hNext
                clear hNext
                try simp only [Act.put, List.getElem_toArray, List.getElem_cons_zero, List.getElem_cons_succ, List.setIfInBounds_toArray, List.set_cons_zero, List.set_cons_succ]
                refine wpAnyE_ready (rs := [10]) (by kernel_rfl) (by simp) ?_
                refine AllReadyE.cons rfl (fun K hK => ?_) AllReadyE.nil
                all_goals simp only [List.getElem_toArray, List.getElem_cons_zero, List.getElem_cons_succ]
                all_goals go_simp
                refine HI.out.mono ?_
                rintro e w5 ⟨rfl, b5⟩
                rw [P1.out]
                have B5 := Lib.hid (show Below wr.heap.size wr w5 from ⟨b5.os, b5.tape, b5.output, b5.size, b5.block⟩)
                clear b5
                refine hK.out _ _ (fun _ => SK.out _ B5.out) (fun hHeld => ?_) (fun hX => (by first | cases hX | simp at hX))
                replace hClosed := hClosed.step 10 (by kernel_rfl)
                clear hK K
                try simp only [Act.put, List.getElem_toArray, List.getElem_cons_zero, List.getElem_cons_succ, List.setIfInBounds_toArray, List.set_cons_zero, List.set_cons_succ]
                refine' wpAnyE_take (i := 11) (v := _) rfl (by kernel_rfl) (by kernel_rfl) (by kernel_rfl) (by kernel_rfl) (fun _ _ _ h => h) (Or.inl ⟨by rfl, fun u hu => ?_⟩) hHeld hClosed (fun hNext => ?_)
                rotate_left
                · (try dsimp only at hu)
                  go_simp
                  try with_reducible rfl
                clear hClosed
                have hClosed := hNext
                clear hNext
                try simp only [Act.put, List.getElem_toArray, List.getElem_cons_zero, List.getElem_cons_succ, List.setIfInBounds_toArray, List.set_cons_zero, List.set_cons_succ]
                refine' wpAnyE_take (i := 12) (v := _) rfl (by kernel_rfl) (by kernel_rfl) (by kernel_rfl) (by kernel_rfl) (fun _ _ _ h => h) (Or.inl ⟨by rfl, fun u hu => ?_⟩) hHeld hClosed (fun hNext => ?_)
                rotate_left
                · (try dsimp only at hu)
                  go_simp
                  try with_reducible rfl
                clear hClosed
                have hClosed := hNext
                clear hNext
                try simp only [Act.put, List.getElem_toArray, List.getElem_cons_zero, List.getElem_cons_succ, List.setIfInBounds_toArray, List.set_cons_zero, List.set_cons_succ]
                refine' wpAnyE_take (i := 13) (v := _) rfl (by kernel_rfl) (by kernel_rfl) (by kernel_rfl) (by kernel_rfl) (fun _ _ _ h => h) (Or.inl ⟨by rfl, fun u hu => ?_⟩) hHeld hClosed (fun hNext => ?_)
                rotate_left
                · (try dsimp only at hu)
                  go_simp
                  try with_reducible rfl
                clear hClosed
                have hClosed := hNext
                clear hNext
                try simp only [Act.put, List.getElem_toArray, List.getElem_cons_zero, List.getElem_cons_succ, List.setIfInBounds_toArray, List.set_cons_zero, List.set_cons_succ]
                refine' wpAnyE_take (i := 14) (v := _) rfl (by kernel_rfl) (by kernel_rfl) (by kernel_rfl) (by kernel_rfl) (fun _ _ _ h => h) (Or.inl ⟨by rfl, fun u hu => ?_⟩) hHeld hClosed (fun hNext => ?_)
                rotate_left
                · (try dsimp only at hu)
                  go_simp
                  try with_reducible rfl
                clear hClosed
                have hClosed := hNext
                clear hNext
                try simp only [Act.put, List.getElem_toArray, List.getElem_cons_zero, List.getElem_cons_succ, List.setIfInBounds_toArray, List.set_cons_zero, List.set_cons_succ]
                refine' wpAnyE_take (i := 15) (v := _) rfl (by kernel_rfl) (by kernel_rfl) (by kernel_rfl) (by kernel_rfl) (fun _ _ _ h => h) (Or.inl ⟨by rfl, fun u hu => ?_⟩) hHeld hClosed (fun hNext => ?_)
                rotate_left
                · (try dsimp only at hu)
                  go_simp
                  try with_reducible rfl
                clear hClosed
                have hClosed := hNext
                clear hNext
                try simp only [Act.put, List.getElem_toArray, List.getElem_cons_zero, List.getElem_cons_succ, List.setIfInBounds_toArray, List.set_cons_zero, List.set_cons_succ]
                refine' wpAnyE_take (i := 16) (v := _) rfl (by kernel_rfl) (by kernel_rfl) (by kernel_rfl) (by kernel_rfl) (fun _ _ _ h => h) (Or.inl ⟨by rfl, fun u hu => ?_⟩) hHeld hClosed (fun hNext => ?_)
                rotate_left
                · (try dsimp only at hu)
                  go_simp
                  try with_reducible rfl
                clear hClosed
                have hClosed := hNext
                clear hNext
                try simp only [Act.put, List.getElem_toArray, List.getElem_cons_zero, List.getElem_cons_succ, List.setIfInBounds_toArray, List.set_cons_zero, List.set_cons_succ]
                refine' wpAnyE_take (i := 17) (v := _) rfl (by kernel_rfl) (by kernel_rfl) (by kernel_rfl) (by kernel_rfl) (fun _ _ _ h => h) (Or.inl ⟨by rfl, fun u hu => ?_⟩) hHeld hClosed (fun hNext => ?_)
                rotate_left
                · (try dsimp only at hu)
                  go_simp
                  try with_reducible rfl
                clear hClosed
                have hClosed := hNext
                clear hNext
                try simp only [Act.put, List.getElem_toArray, List.getElem_cons_zero, List.getElem_cons_succ, List.setIfInBounds_toArray, List.set_cons_zero, List.set_cons_succ]
                refine' wpAnyE_take (i := 18) (v := _) rfl (by kernel_rfl) (by kernel_rfl) (by kernel_rfl) (by kernel_rfl) (fun _ _ _ h => h) (Or.inl ⟨by rfl, fun u hu => ?_⟩) hHeld hClosed (fun hNext => ?_)
                rotate_left
                · (try dsimp only at hu)
                  go_simp
                  try with_reducible rfl
                clear hClosed
                have hClosed := hNext
                clear hNext
                try simp only [Act.put, List.getElem_toArray, List.getElem_cons_zero, List.getElem_cons_succ, List.setIfInBounds_toArray, List.set_cons_zero, List.set_cons_succ]
                refine' wpAnyE_take (i := 19) (v := _) rfl (by kernel_rfl) (by kernel_rfl) (by kernel_rfl) (by kernel_rfl) (fun _ _ _ h => h) (Or.inl ⟨by rfl, fun u hu => ?_⟩) hHeld hClosed (fun hNext => ?_)
                rotate_left
                · (try dsimp only at hu)
                  go_simp
                  try with_reducible rfl
                clear hClosed
                have hClosed := hNext
                clear hNext
                try simp only [Act.put, List.getElem_toArray, List.getElem_cons_zero, List.getElem_cons_succ, List.setIfInBounds_toArray, List.set_cons_zero, List.set_cons_succ]
                refine' wpAnyE_take (i := 20) (v := _) rfl (by kernel_rfl) (by kernel_rfl) (by kernel_rfl) (by kernel_rfl) (fun _ _ _ h => h) (Or.inl ⟨by rfl, fun u hu => ?_⟩) hHeld hClosed (fun hNext => ?_)
                rotate_left
                · (try dsimp only at hu)
                  go_simp
                  try with_reducible rfl
                clear hClosed
                have hClosed := hNext
                clear hNext
                try simp only [Act.put, List.getElem_toArray, List.getElem_cons_zero, List.getElem_cons_succ, List.setIfInBounds_toArray, List.set_cons_zero, List.set_cons_succ]
                refine' wpAnyE_take (i := 21) (v := _) rfl (by kernel_rfl) (by kernel_rfl) (by kernel_rfl) (by kernel_rfl) (fun _ _ _ h => h) (Or.inl ⟨by rfl, fun u hu => ?_⟩) hHeld hClosed (fun hNext => ?_)
                rotate_left
                · (try dsimp only at hu)
                  go_simp
                  try with_reducible rfl
                clear hClosed
                have hClosed := hNext
                clear hNext
                try simp only [Act.put, List.getElem_toArray, List.getElem_cons_zero, List.getElem_cons_succ, List.setIfInBounds_toArray, List.set_cons_zero, List.set_cons_succ]
                refine' wpAnyE_take (i := 22) (v := _) rfl (by kernel_rfl) (by kernel_rfl) (by kernel_rfl) (by kernel_rfl) (fun _ _ _ h => h) (Or.inl ⟨by rfl, fun u hu => ?_⟩) hHeld hClosed (fun hNext => ?_)
                rotate_left
                · (try dsimp only at hu)
                  go_simp
                  try with_reducible rfl
                clear hClosed
                have hClosed := hNext
                clear hNext
                try simp only [Act.put, List.getElem_toArray, List.getElem_cons_zero, List.getElem_cons_succ, List.setIfInBounds_toArray, List.set_cons_zero, List.set_cons_succ]
                refine' wpAnyE_take (i := 23) (v := _) rfl (by kernel_rfl) (by kernel_rfl) (by kernel_rfl) (by kernel_rfl) (fun _ _ _ h => h) (Or.inl ⟨by rfl, fun u hu => ?_⟩) hHeld hClosed (fun hNext => ?_)
                rotate_left
                · (try dsimp only at hu)
                  go_simp
                  try with_reducible rfl
                clear hClosed
                have hClosed := hNext
                clear hNext
                try simp only [Act.put, List.getElem_toArray, List.getElem_cons_zero, List.getElem_cons_succ, List.setIfInBounds_toArray, List.set_cons_zero, List.set_cons_succ]
                refine' wpAnyE_take (i := 24) (v := _) rfl (by kernel_rfl) (by kernel_rfl) (by kernel_rfl) (by kernel_rfl) (fun _ _ _ h => h) (Or.inl ⟨by rfl, fun u hu => ?_⟩) hHeld hClosed (fun hNext => ?_)
                rotate_left
                · (try dsimp only at hu)
                  go_simp
                  try with_reducible rfl
                clear hClosed
                have hClosed := hNext
                clear hNext
                try simp only [Act.put, List.getElem_toArray, List.getElem_cons_zero, List.getElem_cons_succ, List.setIfInBounds_toArray, List.set_cons_zero, List.set_cons_succ]
                refine' wpAnyE_take (i := 25) (v := _) rfl (by kernel_rfl) (by kernel_rfl) (by kernel_rfl) (by kernel_rfl) (fun _ _ _ h => h) (Or.inl ⟨by rfl, fun u hu => ?_⟩) hHeld hClosed (fun hNext => ?_)
                rotate_left
                · (try dsimp only at hu)
                  go_simp
                  try with_reducible rfl
                clear hClosed
                have hClosed := hNext
                clear hNext
                try simp only [Act.put, List.getElem_toArray, List.getElem_cons_zero, List.getElem_cons_succ, List.setIfInBounds_toArray, List.set_cons_zero, List.set_cons_succ]
                refine' wpAnyE_take (i := 26) (v := _) rfl (by kernel_rfl) (by kernel_rfl) (by kernel_rfl) (by kernel_rfl) (fun _ _ _ h => h) (Or.inl ⟨by rfl, fun u hu => ?_⟩) hHeld hClosed (fun hNext => ?_)
                rotate_left
                · (try dsimp only at hu)
                  go_simp
                  try with_reducible rfl
                clear hClosed
                have hClosed := hNext
                clear hNext
                try simp only [Act.put, List.getElem_toArray, List.getElem_cons_zero, List.getElem_cons_succ, List.setIfInBounds_toArray, List.set_cons_zero, List.set_cons_succ]
                refine' wpAnyE_take (i := 27) (v := _) rfl (by kernel_rfl) (by kernel_rfl) (by kernel_rfl) (by kernel_rfl) (fun _ _ _ h => h) (Or.inl ⟨by rfl, fun u hu => ?_⟩) hHeld hClosed (fun hNext => ?_)
                rotate_left
                · (try dsimp only at hu)
                  go_simp
                  try with_reducible rfl
                clear hClosed
                have hClosed := hNext
                clear hNext
                try simp only [Act.put, List.getElem_toArray, List.getElem_cons_zero, List.getElem_cons_succ, List.setIfInBounds_toArray, List.set_cons_zero, List.set_cons_succ]
                refine' wpAnyE_take (i := 28) (v := _) rfl (by kernel_rfl) (by kernel_rfl) (by kernel_rfl) (by kernel_rfl) (fun _ _ _ h => h) (Or.inl ⟨by rfl, fun u hu => ?_⟩) hHeld hClosed (fun hNext => ?_)
                rotate_left
                · (try dsimp only at hu)
                  go_simp
                  try with_reducible rfl
                clear hClosed
                have hClosed := hNext
                clear hNext
                try simp only [Act.put, List.getElem_toArray, List.getElem_cons_zero, List.getElem_cons_succ, List.setIfInBounds_toArray, List.set_cons_zero, List.set_cons_succ]
                refine' wpAnyE_take (i := 29) (v := _) rfl (by kernel_rfl) (by kernel_rfl) (by kernel_rfl) (by kernel_rfl) (fun _ _ _ h => h) (Or.inl ⟨by rfl, fun u hu => ?_⟩) hHeld hClosed (fun hNext => ?_)
                rotate_left
                · (try dsimp only at hu)
                  go_simp
                  try with_reducible rfl
                clear hClosed
                have hClosed := hNext
                clear hNext
                try simp only [Act.put, List.getElem_toArray, List.getElem_cons_zero, List.getElem_cons_succ, List.setIfInBounds_toArray, List.set_cons_zero, List.set_cons_succ]
                refine' wpAnyE_take (i := 30) (v := _) rfl (by kernel_rfl) (by kernel_rfl) (by kernel_rfl) (by kernel_rfl) (fun _ _ _ h => h) (Or.inl ⟨by rfl, fun u hu => ?_⟩) hHeld hClosed (fun hNext => ?_)
                rotate_left
                · (try dsimp only at hu)
                  go_simp
                  try with_reducible rfl
                clear hClosed
                have hClosed := hNext
                clear hNext
                try simp only [Act.put, List.getElem_toArray, List.getElem_cons_zero, List.getElem_cons_succ, List.setIfInBounds_toArray, List.set_cons_zero, List.set_cons_succ]
                refine' wpAnyE_take (i := 31) (v := _) rfl (by kernel_rfl) (by kernel_rfl) (by kernel_rfl) (by kernel_rfl) (fun _ _ _ h => h) (Or.inl ⟨by rfl, fun u hu => ?_⟩) hHeld hClosed (fun hNext => ?_)
                rotate_left
                · (try dsimp only at hu)
                  go_simp
                  try with_reducible rfl
                clear hClosed
                have hClosed := hNext
                clear hNext
                try simp only [Act.put, List.getElem_toArray, List.getElem_cons_zero, List.getElem_cons_succ, List.setIfInBounds_toArray, List.set_cons_zero, List.set_cons_succ]
                refine' wpAnyE_take (i := 32) (v := _) rfl (by kernel_rfl) (by kernel_rfl) (by kernel_rfl) (by kernel_rfl) (fun _ _ _ h => h) (Or.inl ⟨by rfl, fun u hu => ?_⟩) hHeld hClosed (fun hNext => ?_)
                rotate_left
                · (try dsimp only at hu)
                  go_simp
                  try with_reducible rfl
                clear hClosed
                have hClosed := hNext
                clear hNext
                try simp only [Act.put, List.getElem_toArray, List.getElem_cons_zero, List.getElem_cons_succ, List.setIfInBounds_toArray, List.set_cons_zero, List.set_cons_succ]
                refine' wpAnyE_take (i := 33) (v := _) rfl (by kernel_rfl) (by kernel_rfl) (by kernel_rfl) (by kernel_rfl) (fun _ _ _ h => h) (Or.inl ⟨by rfl, fun u hu => ?_⟩) hHeld hClosed (fun hNext => ?_)
                rotate_left
                · (try dsimp only at hu)
                  go_simp
                  try with_reducible rfl
                clear hClosed
                have hClosed := hNext
                clear hNext
                try simp only [Act.put, List.getElem_toArray, List.getElem_cons_zero, List.getElem_cons_succ, List.setIfInBounds_toArray, List.set_cons_zero, List.set_cons_succ]
                refine' wpAnyE_take (i := 34) (v := _) rfl (by kernel_rfl) (by kernel_rfl) (by kernel_rfl) (by kernel_rfl) (fun _ _ _ h => h) (Or.inl ⟨by rfl, fun u hu => ?_⟩) hHeld hClosed (fun hNext => ?_)
                rotate_left
                · (try dsimp only at hu)
                  go_simp
                  try with_reducible rfl
                clear hClosed
                have hClosed := hNext
                clear hNext
                try simp only [Act.put, List.getElem_toArray, List.getElem_cons_zero, List.getElem_cons_succ, List.setIfInBounds_toArray, List.set_cons_zero, List.set_cons_succ]
                refine' wpAnyE_take (i := 35) (v := _) rfl (by kernel_rfl) (by kernel_rfl) (by kernel_rfl) (by kernel_rfl) (fun _ _ _ h => h) (Or.inl ⟨by rfl, fun u hu => ?_⟩) hHeld hClosed (fun hNext => ?_)
                rotate_left
                · (try dsimp only at hu)
                  go_simp
                  try with_reducible rfl
                clear hClosed
                have hClosed := hNext
                clear hNext
                try simp only [Act.put, List.getElem_toArray, List.getElem_cons_zero, List.getElem_cons_succ, List.setIfInBounds_toArray, List.set_cons_zero, List.set_cons_succ]
                refine' wpAnyE_take (i := 36) (v := _) rfl (by kernel_rfl) (by kernel_rfl) (by kernel_rfl) (by kernel_rfl) (fun _ _ _ h => h) (Or.inl ⟨by rfl, fun u hu => ?_⟩) hHeld hClosed (fun hNext => ?_)
                rotate_left
                · (try dsimp only at hu)
                  go_simp
                  try with_reducible rfl
                clear hClosed
                have hClosed := hNext
                clear hNext
                try simp only [Act.put, List.getElem_toArray, List.getElem_cons_zero, List.getElem_cons_succ, List.setIfInBounds_toArray, List.set_cons_zero, List.set_cons_succ]
                refine' wpAnyE_take (i := 37) (v := _) rfl (by kernel_rfl) (by kernel_rfl) (by kernel_rfl) (by kernel_rfl) (fun _ _ _ h => h) (Or.inl ⟨by rfl, fun u hu => ?_⟩) hHeld hClosed (fun hNext => ?_)
                rotate_left
                · (try dsimp only at hu)
                  go_simp
                  try with_reducible rfl
                clear hClosed
                have hClosed := hNext
                clear hNext
                try simp only [Act.put, List.getElem_toArray, List.getElem_cons_zero, List.getElem_cons_succ, List.setIfInBounds_toArray, List.set_cons_zero, List.set_cons_succ]
                refine' wpAnyE_take (i := 38) (v := _) rfl (by kernel_rfl) (by kernel_rfl) (by kernel_rfl) (by kernel_rfl) (fun _ _ _ h => h) (Or.inl ⟨by rfl, fun u hu => ?_⟩) hHeld hClosed (fun hNext => ?_)
                rotate_left
                · (try dsimp only at hu)
                  go_simp
                  try with_reducible rfl
                clear hClosed
                have hClosed := hNext
                clear hNext
                try simp only [Act.put, List.getElem_toArray, List.getElem_cons_zero, List.getElem_cons_succ, List.setIfInBounds_toArray, List.set_cons_zero, List.set_cons_succ]
                refine' wpAnyE_take (i := 39) (v := _) rfl (by kernel_rfl) (by kernel_rfl) (by kernel_rfl) (by kernel_rfl) (fun _ _ _ h => h) (Or.inl ⟨by rfl, fun u hu => ?_⟩) hHeld hClosed (fun hNext => ?_)
                rotate_left
                · (try dsimp only at hu)
                  go_simp
                  try with_reducible rfl
                clear hClosed
                have hClosed := hNext
                clear hNext
                try simp only [Act.put, List.getElem_toArray, List.getElem_cons_zero, List.getElem_cons_succ, List.setIfInBounds_toArray, List.set_cons_zero, List.set_cons_succ]
                refine' wpAnyE_take (i := 40) (v := _) rfl (by kernel_rfl) (by kernel_rfl) (by kernel_rfl) (by kernel_rfl) (fun _ _ _ h => h) (Or.inl ⟨by rfl, fun u hu => ?_⟩) hHeld hClosed (fun hNext => ?_)
                rotate_left
                · (try dsimp only at hu)
                  go_simp
                  try with_reducible rfl
                clear hClosed
                have hClosed := hNext
                clear hNext
                try simp only [Act.put, List.getElem_toArray, List.getElem_cons_zero, List.getElem_cons_succ, List.setIfInBounds_toArray, List.set_cons_zero, List.set_cons_succ]
                refine' wpAnyE_take (i := 41) (v := _) rfl (by kernel_rfl) (by kernel_rfl) (by kernel_rfl) (by kernel_rfl) (fun _ _ _ h => h) (Or.inl ⟨by rfl, fun u hu => ?_⟩) hHeld hClosed (fun hNext => ?_)
                rotate_left
                · (try dsimp only at hu)
                  go_simp
                  try with_reducible rfl
                clear hClosed
                have hClosed := hNext
                clear hNext
                try simp only [Act.put, List.getElem_toArray, List.getElem_cons_zero, List.getElem_cons_succ, List.setIfInBounds_toArray, List.set_cons_zero, List.set_cons_succ]
                refine' wpAnyE_take (i := 42) (v := _) rfl (by kernel_rfl) (by kernel_rfl) (by kernel_rfl) (by kernel_rfl) (fun _ _ _ h => h) (Or.inl ⟨by rfl, fun u hu => ?_⟩) hHeld hClosed (fun hNext => ?_)
                rotate_left
                · (try dsimp only at hu)
                  go_simp
                  try with_reducible rfl
                clear hClosed
                have hClosed := hNext
                clear hNext
                try simp only [Act.put, List.getElem_toArray, List.getElem_cons_zero, List.getElem_cons_succ, List.setIfInBounds_toArray, List.set_cons_zero, List.set_cons_succ]
                refine' wpAnyE_take (i := 43) (v := _) rfl (by kernel_rfl) (by kernel_rfl) (by kernel_rfl) (by kernel_rfl) (fun _ _ _ h => h) (Or.inl ⟨by rfl, fun u hu => ?_⟩) hHeld hClosed (fun hNext => ?_)
                rotate_left
                · (try dsimp only at hu)
                  go_simp
                  try with_reducible rfl
                clear hClosed
                have hClosed := hNext
                clear hNext
                try simp only [Act.put, List.getElem_toArray, List.getElem_cons_zero, List.getElem_cons_succ, List.setIfInBounds_toArray, List.set_cons_zero, List.set_cons_succ]
                refine' wpAnyE_take (i := 44) (v := _) rfl (by kernel_rfl) (by kernel_rfl) (by kernel_rfl) (by kernel_rfl) (fun _ _ _ h => h) (Or.inl ⟨by rfl, fun u hu => ?_⟩) hHeld hClosed (fun hNext => ?_)
                rotate_left
                · (try dsimp only at hu)
                  go_simp
                  try with_reducible rfl
                clear hClosed
                have hClosed := hNext
                clear hNext
                try simp only [Act.put, List.getElem_toArray, List.getElem_cons_zero, List.getElem_cons_succ, List.setIfInBounds_toArray, List.set_cons_zero, List.set_cons_succ]
                refine' wpAnyE_take (i := 45) (v := _) rfl (by kernel_rfl) (by kernel_rfl) (by kernel_rfl) (by kernel_rfl) (fun _ _ _ h => h) (Or.inl ⟨by rfl, fun u hu => ?_⟩) hHeld hClosed (fun hNext => ?_)
                rotate_left
                · (try dsimp only at hu)
                  go_simp
                  try with_reducible rfl
                clear hClosed
                have hClosed := hNext
                clear hNext
                try simp only [Act.put, List.getElem_toArray, List.getElem_cons_zero, List.getElem_cons_succ, List.setIfInBounds_toArray, List.set_cons_zero, List.set_cons_succ]
                refine' wpAnyE_take (i := 46) (v := _) rfl (by kernel_rfl) (by kernel_rfl) (by kernel_rfl) (by kernel_rfl) (fun _ _ _ h => h) (Or.inl ⟨by rfl, fun u hu => ?_⟩) hHeld hClosed (fun hNext => ?_)
                rotate_left
                · (try dsimp only at hu)
                  go_simp
                  try with_reducible rfl
                clear hClosed
                have hClosed := hNext
                clear hNext
                try simp only [Act.put, List.getElem_toArray, List.getElem_cons_zero, List.getElem_cons_succ, List.setIfInBounds_toArray, List.set_cons_zero, List.set_cons_succ]
                refine' wpAnyE_take (i := 47) (v := _) rfl (by kernel_rfl) (by kernel_rfl) (by kernel_rfl) (by kernel_rfl) (fun _ _ _ h => h) (Or.inl ⟨by rfl, fun u hu => ?_⟩) hHeld hClosed (fun hNext => ?_)
                rotate_left
                · (try dsimp only at hu)
                  go_simp
                  try with_reducible rfl
                clear hClosed
                have hClosed := hNext
                clear hNext
                try simp only [Act.put, List.getElem_toArray, List.getElem_cons_zero, List.getElem_cons_succ, List.setIfInBounds_toArray, List.set_cons_zero, List.set_cons_succ]
                refine' wpAnyE_take (i := 48) (v := _) rfl (by kernel_rfl) (by kernel_rfl) (by kernel_rfl) (by kernel_rfl) (fun _ _ _ h => h) (Or.inl ⟨by rfl, fun u hu => ?_⟩) hHeld hClosed (fun hNext => ?_)
                rotate_left
                · (try dsimp only at hu)
                  go_simp
                  try with_reducible rfl
                clear hClosed
                have hClosed := hNext
                clear hNext
                try simp only [Act.put, List.getElem_toArray, List.getElem_cons_zero, List.getElem_cons_succ, List.setIfInBounds_toArray, List.set_cons_zero, List.set_cons_succ]
                refine' wpAnyE_take (i := 49) (v := _) rfl (by kernel_rfl) (by kernel_rfl) (by kernel_rfl) (by kernel_rfl) (fun _ _ _ h => h) (Or.inl ⟨by rfl, fun u hu => ?_⟩) hHeld hClosed (fun hNext => ?_)
                rotate_left
                · (try dsimp only at hu)
                  go_simp
                  try with_reducible rfl
                clear hClosed
                have hClosed := hNext
                clear hNext
                try simp only [Act.put, List.getElem_toArray, List.getElem_cons_zero, List.getElem_cons_succ, List.setIfInBounds_toArray, List.set_cons_zero, List.set_cons_succ]
                refine' wpAnyE_take (i := 50) (v := _) rfl (by kernel_rfl) (by kernel_rfl) (by kernel_rfl) (by kernel_rfl) (fun _ _ _ h => h) (Or.inl ⟨by rfl, fun u hu => ?_⟩) hHeld hClosed (fun hNext => ?_)
                rotate_left
                · (try dsimp only at hu)
                  go_simp
                  try with_reducible rfl
                clear hClosed
                have hClosed := hNext
                clear hNext
                try simp only [Act.put, List.getElem_toArray, List.getElem_cons_zero, List.getElem_cons_succ, List.setIfInBounds_toArray, List.set_cons_zero, List.set_cons_succ]
                refine wpAnyE_done (by kernel_rfl) ?_ _
                clear hClosed
                go_wp2_with fail
                go_roundw
                case rel =>
                  refine ⟨k + 1, by omega, by go_num, Lib.hid ?_, HB.out.trans (B5.out.mono HB.out.size)⟩
                  rw [List.take_succ_eq_append_getElem hlt, List.take_succ_eq_append_getElem hlt', HE.out, XS.out.1, XS.out.2]
                  have h1 : pl = pl' := by simpa using P1.out
                  have h2 : lev = lev' := by simpa using e2
                  have h3 : sos = sos' := by simpa using e3
                  have h4 : eos = eos' := by simpa using e4
                  rw [h1, h2, h3, h4]
                case measure => simp [intOf]; omega

              · have TT := trivial
                go_wp2_with fail
                refine wp_region_E (S := fun w' => SqCell w' g (off + k * 4) (.slice Aj n cj) ⟨pl, lev, sos, eos⟩ ∧ SqCell w' g' (off' + k * 4) (.slice Aj' n' cj') ⟨pl', lev', sos', eos'⟩) [] (by kernel_rfl) (hk0) (fun hHeld hClosed => ?_)
                refine' wpAnyE_take (i := 0) (v := _) rfl (by kernel_rfl) (by kernel_rfl) (by kernel_rfl) (by kernel_rfl) (fun _ _ _ h => h) (Or.inl ⟨by rfl, fun u hu => ?_⟩) hHeld hClosed (fun hNext => ?_)
                rotate_left
                · (try dsimp only at hu)
                  go_simp
                  try with_reducible rfl
                clear hClosed
                have hClosed := hNext
                clear hNext
                try simp only [Act.put, List.getElem_toArray, List.getElem_cons_zero, List.setIfInBounds_toArray, List.set_cons_zero, List.set_cons_succ]
                refine' wpAnyE_take (i := 1) (v := _) rfl (by kernel_rfl) (by kernel_rfl) (by kernel_rfl) (by kernel_rfl) (fun _ _ _ h => h) (Or.inl ⟨by rfl, fun u hu => ?_⟩) hHeld hClosed (fun hNext => ?_)
                rotate_left
                · (try dsimp only at hu)
                  go_simp
                  try with_reducible rfl
                clear hClosed
                have hClosed := hNext
                clear hNext
                try simp only [Act.put, List.getElem_toArray, List.getElem_cons_zero, List.getElem_cons_succ, List.setIfInBounds_toArray, List.set_cons_zero, List.set_cons_succ]
                refine' wpAnyE_take (i := 2) (v := _) rfl (by kernel_rfl) (by kernel_rfl) (by kernel_rfl) (by kernel_rfl) (fun _ _ _ h => h) (Or.inl ⟨by rfl, fun u hu => ?_⟩) hHeld hClosed (fun hNext => ?_)
                rotate_left
                · (try dsimp only at hu)
                  go_simp
                  try with_reducible rfl
                clear hClosed
                have hClosed := hNext
                clear hNext
                try simp only [Act.put, List.getElem_toArray, List.getElem_cons_zero, List.getElem_cons_succ, List.setIfInBounds_toArray, List.set_cons_zero, List.set_cons_succ]
                refine' wpAnyE_take (i := 3) (v := _) rfl (by kernel_rfl) (by kernel_rfl) (by kernel_rfl) (by kernel_rfl) (fun _ _ _ h => h) (Or.inl ⟨by rfl, fun u hu => ?_⟩) hHeld hClosed (fun hNext => ?_)
                rotate_left
                · (try dsimp only at hu)
                  go_simp
                  try with_reducible rfl
                clear hClosed
                have hClosed := hNext
                clear hNext
                try simp only [Act.put, List.getElem_toArray, List.getElem_cons_zero, List.getElem_cons_succ, List.setIfInBounds_toArray, List.set_cons_zero, List.set_cons_succ]
                refine' wpAnyE_take (i := 4) (v := _) rfl (by kernel_rfl) (by kernel_rfl) (by kernel_rfl) (by kernel_rfl) (fun _ _ _ h => h) (Or.inl ⟨by rfl, fun u hu => ?_⟩) hHeld hClosed (fun hNext => ?_)
                rotate_left
                · (try dsimp only at hu)
                  go_simp
                  try with_reducible rfl
                clear hClosed
                have hClosed := hNext
                clear hNext
                try simp only [Act.put, List.getElem_toArray, List.getElem_cons_zero, List.getElem_cons_succ, List.setIfInBounds_toArray, List.set_cons_zero, List.set_cons_succ]
                refine' wpAnyE_take (i := 5) (v := _) rfl (by kernel_rfl) (by kernel_rfl) (by kernel_rfl) (by kernel_rfl) (fun _ _ _ h => h) (Or.inl ⟨by rfl, fun u hu => ?_⟩) hHeld hClosed (fun hNext => ?_)
                rotate_left
                · (try dsimp only at hu)
                  go_simp
                  try with_reducible rfl
                clear hClosed
                have hClosed := hNext
                clear hNext
                try simp only [Act.put, List.getElem_toArray, List.getElem_cons_zero, List.getElem_cons_succ, List.setIfInBounds_toArray, List.set_cons_zero, List.set_cons_succ]
                refine' wpAnyE_take (i := 6) (v := _) rfl (by kernel_rfl) (by kernel_rfl) (by kernel_rfl) (by kernel_rfl) (fun _ _ _ h => h) (Or.inl ⟨by rfl, fun u hu => ?_⟩) hHeld hClosed (fun hNext => ?_)
                rotate_left
                · (try dsimp only at hu)
                  go_simp
                  try with_reducible rfl
                clear hClosed
                have hClosed := hNext
                clear hNext
                try simp only [Act.put, List.getElem_toArray, List.getElem_cons_zero, List.getElem_cons_succ, List.setIfInBounds_toArray, List.set_cons_zero, List.set_cons_succ]
                refine' wpAnyE_take (i := 7) (v := _) rfl (by kernel_rfl) (by kernel_rfl) (by kernel_rfl) (by kernel_rfl) (fun _ _ _ h => h) (Or.inl ⟨by rfl, fun u hu => ?_⟩) hHeld hClosed (fun hNext => ?_)
                rotate_left
                · (try dsimp only at hu)
                  go_simp
                  try with_reducible rfl
                clear hClosed
                have hClosed := hNext
                clear hNext
                try simp only [Act.put, List.getElem_toArray, List.getElem_cons_zero, List.getElem_cons_succ, List.setIfInBounds_toArray, List.set_cons_zero, List.set_cons_succ]
                refine' wpAnyE_take (i := 8) (v := _) rfl (by kernel_rfl) (by kernel_rfl) (by kernel_rfl) (by kernel_rfl) (fun _ _ _ h => h) (Or.inl ⟨by rfl, fun u hu => ?_⟩) hHeld hClosed (fun hNext => ?_)
                rotate_left
                · (try dsimp only at hu)
                  go_simp
                  try with_reducible rfl
                clear hClosed
                have hClosed := hNext
                clear hNext
                try simp only [Act.put, List.getElem_toArray, List.getElem_cons_zero, List.getElem_cons_succ, List.setIfInBounds_toArray, List.set_cons_zero, List.set_cons_succ]
                refine' wpAnyE_take (i := 9) (v := _) rfl (by kernel_rfl) (by kernel_rfl) (by kernel_rfl) (by kernel_rfl) (fun _ _ _ h => h) (Or.inl ⟨by rfl, fun u hu => ?_⟩) hHeld hClosed (fun hNext => ?_)
                rotate_left
                · (try dsimp only at hu)
                  go_simp
                  try with_reducible rfl
                clear hClosed
                have hClosed := hNext
                clear hNext
                try simp only [Act.put, List.getElem_toArray, List.getElem_cons_zero, List.getElem_cons_succ, List.setIfInBounds_toArray, List.set_cons_zero, List.set_cons_succ]
                refine wpAnyE_ready (rs := [10]) (by kernel_rfl) (by simp) ?_
                refine AllReadyE.cons rfl (fun K hK => ?_) AllReadyE.nil
                all_goals simp only [List.getElem_toArray, List.getElem_cons_zero, List.getElem_cons_succ]
                all_goals go_simp
                refine HI.out.mono ?_
                rintro e w5 ⟨rfl, b5⟩
                rw [P1.out]
                have B5 := Lib.hid (show Below wr.heap.size wr w5 from ⟨b5.os, b5.tape, b5.output, b5.size, b5.block⟩)
                clear b5
                refine hK.out _ _ (fun _ => SK.out _ B5.out) (fun hHeld => ?_) (fun hX => (by first | cases hX | simp at hX))
                replace hClosed := hClosed.step 10 (by kernel_rfl)
                clear hK K
                try simp only [Act.put, List.getElem_toArray, List.getElem_cons_zero, List.getElem_cons_succ, List.setIfInBounds_toArray, List.set_cons_zero, List.set_cons_succ]
                refine' wpAnyE_take (i := 11) (v := _) rfl (by kernel_rfl) (by kernel_rfl) (by kernel_rfl) (by kernel_rfl) (fun _ _ _ h => h) (Or.inl ⟨by rfl, fun u hu => ?_⟩) hHeld hClosed (fun hNext => ?_)
                rotate_left
                · (try dsimp only at hu)
                  go_simp
                  try with_reducible rfl
                clear hClosed
                have hClosed := hNext
                clear hNext
                try simp only [Act.put, List.getElem_toArray, List.getElem_cons_zero, List.getElem_cons_succ, List.setIfInBounds_toArray, List.set_cons_zero, List.set_cons_succ]
                refine' wpAnyE_take (i := 12) (v := _) rfl (by kernel_rfl) (by kernel_rfl) (by kernel_rfl) (by kernel_rfl) (fun _ _ _ h => h) (Or.inl ⟨by rfl, fun u hu => ?_⟩) hHeld hClosed (fun hNext => ?_)
                rotate_left
                · (try dsimp only at hu)
                  go_simp
                  try with_reducible rfl
                clear hClosed
                have hClosed := hNext
                clear hNext
                try simp only [Act.put, List.getElem_toArray, List.getElem_cons_zero, List.getElem_cons_succ, List.setIfInBounds_toArray, List.set_cons_zero, List.set_cons_succ]
                refine' wpAnyE_take (i := 13) (v := _) rfl (by kernel_rfl) (by kernel_rfl) (by kernel_rfl) (by kernel_rfl) (fun _ _ _ h => h) (Or.inl ⟨by rfl, fun u hu => ?_⟩) hHeld hClosed (fun hNext => ?_)
                rotate_left
                · (try dsimp only at hu)
                  go_simp
                  try with_reducible rfl
                clear hClosed
                have hClosed := hNext
                clear hNext
                try simp only [Act.put, List.getElem_toArray, List.getElem_cons_zero, List.getElem_cons_succ, List.setIfInBounds_toArray, List.set_cons_zero, List.set_cons_succ]
                refine' wpAnyE_take (i := 14) (v := _) rfl (by kernel_rfl) (by kernel_rfl) (by kernel_rfl) (by kernel_rfl) (fun _ _ _ h => h) (Or.inl ⟨by rfl, fun u hu => ?_⟩) hHeld hClosed (fun hNext => ?_)
                rotate_left
                · (try dsimp only at hu)
                  go_simp
                  try with_reducible rfl
                clear hClosed
                have hClosed := hNext
                clear hNext
                try simp only [Act.put, List.getElem_toArray, List.getElem_cons_zero, List.getElem_cons_succ, List.setIfInBounds_toArray, List.set_cons_zero, List.set_cons_succ]
                refine' wpAnyE_take (i := 15) (v := _) rfl (by kernel_rfl) (by kernel_rfl) (by kernel_rfl) (by kernel_rfl) (fun _ _ _ h => h) (Or.inl ⟨by rfl, fun u hu => ?_⟩) hHeld hClosed (fun hNext => ?_)
                rotate_left
                · (try dsimp only at hu)
                  go_simp
                  try with_reducible rfl
                clear hClosed
                have hClosed := hNext
                clear hNext
                try simp only [Act.put, List.getElem_toArray, List.getElem_cons_zero, List.getElem_cons_succ, List.setIfInBounds_toArray, List.set_cons_zero, List.set_cons_succ]
                refine' wpAnyE_take (i := 16) (v := _) rfl (by kernel_rfl) (by kernel_rfl) (by kernel_rfl) (by kernel_rfl) (fun _ _ _ h => h) (Or.inl ⟨by rfl, fun u hu => ?_⟩) hHeld hClosed (fun hNext => ?_)
                rotate_left
                · (try dsimp only at hu)
                  go_simp
                  try with_reducible rfl
                clear hClosed
                have hClosed := hNext
                clear hNext
                try simp only [Act.put, List.getElem_toArray, List.getElem_cons_zero, List.getElem_cons_succ, List.setIfInBounds_toArray, List.set_cons_zero, List.set_cons_succ]
                refine' wpAnyE_take (i := 17) (v := _) rfl (by kernel_rfl) (by kernel_rfl) (by kernel_rfl) (by kernel_rfl) (fun _ _ _ h => h) (Or.inl ⟨by rfl, fun u hu => ?_⟩) hHeld hClosed (fun hNext => ?_)
                rotate_left
                · (try dsimp only at hu)
                  go_simp
                  try with_reducible rfl
                clear hClosed
                have hClosed := hNext
                clear hNext
                try simp only [Act.put, List.getElem_toArray, List.getElem_cons_zero, List.getElem_cons_succ, List.setIfInBounds_toArray, List.set_cons_zero, List.set_cons_succ]
                refine' wpAnyE_take (i := 18) (v := _) rfl (by kernel_rfl) (by kernel_rfl) (by kernel_rfl) (by kernel_rfl) (fun _ _ _ h => h) (Or.inl ⟨by rfl, fun u hu => ?_⟩) hHeld hClosed (fun hNext => ?_)
                rotate_left
                · (try dsimp only at hu)
                  go_simp
                  try with_reducible rfl
                clear hClosed
                have hClosed := hNext
                clear hNext
                try simp only [Act.put, List.getElem_toArray, List.getElem_cons_zero, List.getElem_cons_succ, List.setIfInBounds_toArray, List.set_cons_zero, List.set_cons_succ]
                refine' wpAnyE_take (i := 19) (v := _) rfl (by kernel_rfl) (by kernel_rfl) (by kernel_rfl) (by kernel_rfl) (fun _ _ _ h => h) (Or.inl ⟨by rfl, fun u hu => ?_⟩) hHeld hClosed (fun hNext => ?_)
                rotate_left
                · (try dsimp only at hu)
                  go_simp
                  try with_reducible rfl
                clear hClosed
                have hClosed := hNext
                clear hNext
                try simp only [Act.put, List.getElem_toArray, List.getElem_cons_zero, List.getElem_cons_succ, List.setIfInBounds_toArray, List.set_cons_zero, List.set_cons_succ]
                refine' wpAnyE_take (i := 20) (v := _) rfl (by kernel_rfl) (by kernel_rfl) (by kernel_rfl) (by kernel_rfl) (fun _ _ _ h => h) (Or.inl ⟨by rfl, fun u hu => ?_⟩) hHeld hClosed (fun hNext => ?_)
                rotate_left
                · (try dsimp only at hu)
                  go_simp
                  try with_reducible rfl
                clear hClosed
                have hClosed := hNext
                clear hNext
                try simp only [Act.put, List.getElem_toArray, List.getElem_cons_zero, List.getElem_cons_succ, List.setIfInBounds_toArray, List.set_cons_zero, List.set_cons_succ]
                refine' wpAnyE_take (i := 21) (v := _) rfl (by kernel_rfl) (by kernel_rfl) (by kernel_rfl) (by kernel_rfl) (fun _ _ _ h => h) (Or.inl ⟨by rfl, fun u hu => ?_⟩) hHeld hClosed (fun hNext => ?_)
                rotate_left
                · (try dsimp only at hu)
                  go_simp
                  try with_reducible rfl
                clear hClosed
                have hClosed := hNext
                clear hNext
                try simp only [Act.put, List.getElem_toArray, List.getElem_cons_zero, List.getElem_cons_succ, List.setIfInBounds_toArray, List.set_cons_zero, List.set_cons_succ]
                refine' wpAnyE_take (i := 22) (v := _) rfl (by kernel_rfl) (by kernel_rfl) (by kernel_rfl) (by kernel_rfl) (fun _ _ _ h => h) (Or.inl ⟨by rfl, fun u hu => ?_⟩) hHeld hClosed (fun hNext => ?_)
                rotate_left
                · (try dsimp only at hu)
                  go_simp
                  try with_reducible rfl
                clear hClosed
                have hClosed := hNext
                clear hNext
                try simp only [Act.put, List.getElem_toArray, List.getElem_cons_zero, List.getElem_cons_succ, List.setIfInBounds_toArray, List.set_cons_zero, List.set_cons_succ]
                refine' wpAnyE_take (i := 23) (v := _) rfl (by kernel_rfl) (by kernel_rfl) (by kernel_rfl) (by kernel_rfl) (fun _ _ _ h => h) (Or.inl ⟨by rfl, fun u hu => ?_⟩) hHeld hClosed (fun hNext => ?_)
                rotate_left
                · (try dsimp only at hu)
                  go_simp
                  try with_reducible rfl
                clear hClosed
                have hClosed := hNext
                clear hNext
                try simp only [Act.put, List.getElem_toArray, List.getElem_cons_zero, List.getElem_cons_succ, List.setIfInBounds_toArray, List.set_cons_zero, List.set_cons_succ]
                refine' wpAnyE_take (i := 24) (v := _) rfl (by kernel_rfl) (by kernel_rfl) (by kernel_rfl) (by kernel_rfl) (fun _ _ _ h => h) (Or.inl ⟨by rfl, fun u hu => ?_⟩) hHeld hClosed (fun hNext => ?_)
                rotate_left
                · (try dsimp only at hu)
                  go_simp
                  try with_reducible rfl
                clear hClosed
                have hClosed := hNext
                clear hNext
                try simp only [Act.put, List.getElem_toArray, List.getElem_cons_zero, List.getElem_cons_succ, List.setIfInBounds_toArray, List.set_cons_zero, List.set_cons_succ]
                refine' wpAnyE_take (i := 25) (v := _) rfl (by kernel_rfl) (by kernel_rfl) (by kernel_rfl) (by kernel_rfl) (fun _ _ _ h => h) (Or.inl ⟨by rfl, fun u hu => ?_⟩) hHeld hClosed (fun hNext => ?_)
                rotate_left
                · (try dsimp only at hu)
                  go_simp
                  try with_reducible rfl
                clear hClosed
                have hClosed := hNext
                clear hNext
                try simp only [Act.put, List.getElem_toArray, List.getElem_cons_zero, List.getElem_cons_succ, List.setIfInBounds_toArray, List.set_cons_zero, List.set_cons_succ]
                refine' wpAnyE_take (i := 26) (v := _) rfl (by kernel_rfl) (by kernel_rfl) (by kernel_rfl) (by kernel_rfl) (fun _ _ _ h => h) (Or.inl ⟨by rfl, fun u hu => ?_⟩) hHeld hClosed (fun hNext => ?_)
                rotate_left
                · (try dsimp only at hu)
                  go_simp
                  try with_reducible rfl
                clear hClosed
                have hClosed := hNext
                clear hNext
                try simp only [Act.put, List.getElem_toArray, List.getElem_cons_zero, List.getElem_cons_succ, List.setIfInBounds_toArray, List.set_cons_zero, List.set_cons_succ]
                refine' wpAnyE_take (i := 27) (v := _) rfl (by kernel_rfl) (by kernel_rfl) (by kernel_rfl) (by kernel_rfl) (fun _ _ _ h => h) (Or.inl ⟨by rfl, fun u hu => ?_⟩) hHeld hClosed (fun hNext => ?_)
                rotate_left
                · (try dsimp only at hu)
                  go_simp
                  try with_reducible rfl
                clear hClosed
                have hClosed := hNext
                clear hNext
                try simp only [Act.put, List.getElem_toArray, List.getElem_cons_zero, List.getElem_cons_succ, List.setIfInBounds_toArray, List.set_cons_zero, List.set_cons_succ]
                refine' wpAnyE_take (i := 28) (v := _) rfl (by kernel_rfl) (by kernel_rfl) (by kernel_rfl) (by kernel_rfl) (fun _ _ _ h => h) (Or.inl ⟨by rfl, fun u hu => ?_⟩) hHeld hClosed (fun hNext => ?_)
                rotate_left
                · (try dsimp only at hu)
                  go_simp
                  try with_reducible rfl
                clear hClosed
                have hClosed := hNext
                clear hNext
                try simp only [Act.put, List.getElem_toArray, List.getElem_cons_zero, List.getElem_cons_succ, List.setIfInBounds_toArray, List.set_cons_zero, List.set_cons_succ]
                refine' wpAnyE_take (i := 29) (v := _) rfl (by kernel_rfl) (by kernel_rfl) (by kernel_rfl) (by kernel_rfl) (fun _ _ _ h => h) (Or.inl ⟨by rfl, fun u hu => ?_⟩) hHeld hClosed (fun hNext => ?_)
                rotate_left
                · (try dsimp only at hu)
                  go_simp
                  try with_reducible rfl
                clear hClosed
                have hClosed := hNext
                clear hNext
                try simp only [Act.put, List.getElem_toArray, List.getElem_cons_zero, List.getElem_cons_succ, List.setIfInBounds_toArray, List.set_cons_zero, List.set_cons_succ]
                refine' wpAnyE_take (i := 30) (v := _) rfl (by kernel_rfl) (by kernel_rfl) (by kernel_rfl) (by kernel_rfl) (fun _ _ _ h => h) (Or.inl ⟨by rfl, fun u hu => ?_⟩) hHeld hClosed (fun hNext => ?_)
                rotate_left
                · (try dsimp only at hu)
                  go_simp
                  try with_reducible rfl
                clear hClosed
                have hClosed := hNext
                clear hNext
                try simp only [Act.put, List.getElem_toArray, List.getElem_cons_zero, List.getElem_cons_succ, List.setIfInBounds_toArray, List.set_cons_zero, List.set_cons_succ]
                refine' wpAnyE_take (i := 31) (v := _) rfl (by kernel_rfl) (by kernel_rfl) (by kernel_rfl) (by kernel_rfl) (fun _ _ _ h => h) (Or.inl ⟨by rfl, fun u hu => ?_⟩) hHeld hClosed (fun hNext => ?_)
                rotate_left
                · (try dsimp only at hu)
                  go_simp
                  try with_reducible rfl
                clear hClosed
                have hClosed := hNext
                clear hNext
                try simp only [Act.put, List.getElem_toArray, List.getElem_cons_zero, List.getElem_cons_succ, List.setIfInBounds_toArray, List.set_cons_zero, List.set_cons_succ]
                refine' wpAnyE_take (i := 32) (v := _) rfl (by kernel_rfl) (by kernel_rfl) (by kernel_rfl) (by kernel_rfl) (fun _ _ _ h => h) (Or.inl ⟨by rfl, fun u hu => ?_⟩) hHeld hClosed (fun hNext => ?_)
                rotate_left
                · (try dsimp only at hu)
                  go_simp
                  try with_reducible rfl
                clear hClosed
                have hClosed := hNext
                clear hNext
                try simp only [Act.put, List.getElem_toArray, List.getElem_cons_zero, List.getElem_cons_succ, List.setIfInBounds_toArray, List.set_cons_zero, List.set_cons_succ]
                refine' wpAnyE_take (i := 33) (v := _) rfl (by kernel_rfl) (by kernel_rfl) (by kernel_rfl) (by kernel_rfl) (fun _ _ _ h => h) (Or.inl ⟨by rfl, fun u hu => ?_⟩) hHeld hClosed (fun hNext => ?_)
                rotate_left
                · (try dsimp only at hu)
                  go_simp
                  try with_reducible rfl
                clear hClosed
                have hClosed := hNext
                clear hNext
                try simp only [Act.put, List.getElem_toArray, List.getElem_cons_zero, List.getElem_cons_succ, List.setIfInBounds_toArray, List.set_cons_zero, List.set_cons_succ]
                refine' wpAnyE_take (i := 34) (v := _) rfl (by kernel_rfl) (by kernel_rfl) (by kernel_rfl) (by kernel_rfl) (fun _ _ _ h => h) (Or.inl ⟨by rfl, fun u hu => ?_⟩) hHeld hClosed (fun hNext => ?_)
                rotate_left
                · (try dsimp only at hu)
                  go_simp
                  try with_reducible rfl
                clear hClosed
                have hClosed := hNext
                clear hNext
                try simp only [Act.put, List.getElem_toArray, List.getElem_cons_zero, List.getElem_cons_succ, List.setIfInBounds_toArray, List.set_cons_zero, List.set_cons_succ]
                refine' wpAnyE_take (i := 35) (v := _) rfl (by kernel_rfl) (by kernel_rfl) (by kernel_rfl) (by kernel_rfl) (fun _ _ _ h => h) (Or.inl ⟨by rfl, fun u hu => ?_⟩) hHeld hClosed (fun hNext => ?_)
                rotate_left
                · (try dsimp only at hu)
                  go_simp
                  try with_reducible rfl
                clear hClosed
                have hClosed := hNext
                clear hNext
                try simp only [Act.put, List.getElem_toArray, List.getElem_cons_zero, List.getElem_cons_succ, List.setIfInBounds_toArray, List.set_cons_zero, List.set_cons_succ]
                refine' wpAnyE_take (i := 36) (v := _) rfl (by kernel_rfl) (by kernel_rfl) (by kernel_rfl) (by kernel_rfl) (fun _ _ _ h => h) (Or.inl ⟨by rfl, fun u hu => ?_⟩) hHeld hClosed (fun hNext => ?_)
                rotate_left
                · (try dsimp only at hu)
                  go_simp
                  try with_reducible rfl
                clear hClosed
                have hClosed := hNext
                clear hNext
                try simp only [Act.put, List.getElem_toArray, List.getElem_cons_zero, List.getElem_cons_succ, List.setIfInBounds_toArray, List.set_cons_zero, List.set_cons_succ]
                refine' wpAnyE_take (i := 37) (v := _) rfl (by kernel_rfl) (by kernel_rfl) (by kernel_rfl) (by kernel_rfl) (fun _ _ _ h => h) (Or.inl ⟨by rfl, fun u hu => ?_⟩) hHeld hClosed (fun hNext => ?_)
                rotate_left
                · (try dsimp only at hu)
                  go_simp
                  try with_reducible rfl
                clear hClosed
                have hClosed := hNext
                clear hNext
                try simp only [Act.put, List.getElem_toArray, List.getElem_cons_zero, List.getElem_cons_succ, List.setIfInBounds_toArray, List.set_cons_zero, List.set_cons_succ]
                refine' wpAnyE_take (i := 38) (v := _) rfl (by kernel_rfl) (by kernel_rfl) (by kernel_rfl) (by kernel_rfl) (fun _ _ _ h => h) (Or.inl ⟨by rfl, fun u hu => ?_⟩) hHeld hClosed (fun hNext => ?_)
                rotate_left
                · (try dsimp only at hu)
                  go_simp
                  try with_reducible rfl
                clear hClosed
                have hClosed := hNext
                clear hNext
                try simp only [Act.put, List.getElem_toArray, List.getElem_cons_zero, List.getElem_cons_succ, List.setIfInBounds_toArray, List.set_cons_zero, List.set_cons_succ]
                refine' wpAnyE_take (i := 39) (v := _) rfl (by kernel_rfl) (by kernel_rfl) (by kernel_rfl) (by kernel_rfl) (fun _ _ _ h => h) (Or.inl ⟨by rfl, fun u hu => ?_⟩) hHeld hClosed (fun hNext => ?_)
                rotate_left
                · (try dsimp only at hu)
                  go_simp
                  try with_reducible rfl
                clear hClosed
                have hClosed := hNext
                clear hNext
                try simp only [Act.put, List.getElem_toArray, List.getElem_cons_zero, List.getElem_cons_succ, List.setIfInBounds_toArray, List.set_cons_zero, List.set_cons_succ]
                refine' wpAnyE_take (i := 40) (v := _) rfl (by kernel_rfl) (by kernel_rfl) (by kernel_rfl) (by kernel_rfl) (fun _ _ _ h => h) (Or.inl ⟨by rfl, fun u hu => ?_⟩) hHeld hClosed (fun hNext => ?_)
                rotate_left
                · (try dsimp only at hu)
                  go_simp
                  try with_reducible rfl
                clear hClosed
                have hClosed := hNext
                clear hNext
                try simp only [Act.put, List.getElem_toArray, List.getElem_cons_zero, List.getElem_cons_succ, List.setIfInBounds_toArray, List.set_cons_zero, List.set_cons_succ]
                refine' wpAnyE_take (i := 41) (v := _) rfl (by kernel_rfl) (by kernel_rfl) (by kernel_rfl) (by kernel_rfl) (fun _ _ _ h => h) (Or.inl ⟨by rfl, fun u hu => ?_⟩) hHeld hClosed (fun hNext => ?_)
                rotate_left
                · (try dsimp only at hu)
                  go_simp
                  try with_reducible rfl
                clear hClosed
                have hClosed := hNext
                clear hNext
                try simp only [Act.put, List.getElem_toArray, List.getElem_cons_zero, List.getElem_cons_succ, List.setIfInBounds_toArray, List.set_cons_zero, List.set_cons_succ]
                refine' wpAnyE_take (i := 42) (v := _) rfl (by kernel_rfl) (by kernel_rfl) (by kernel_rfl) (by kernel_rfl) (fun _ _ _ h => h) (Or.inl ⟨by rfl, fun u hu => ?_⟩) hHeld hClosed (fun hNext => ?_)
                rotate_left
                · (try dsimp only at hu)
                  go_simp
                  try with_reducible rfl
                clear hClosed
                have hClosed := hNext
                clear hNext
                try simp only [Act.put, List.getElem_toArray, List.getElem_cons_zero, List.getElem_cons_succ, List.setIfInBounds_toArray, List.set_cons_zero, List.set_cons_succ]
                refine' wpAnyE_take (i := 43) (v := _) rfl (by kernel_rfl) (by kernel_rfl) (by kernel_rfl) (by kernel_rfl) (fun _ _ _ h => h) (Or.inl ⟨by rfl, fun u hu => ?_⟩) hHeld hClosed (fun hNext => ?_)
                rotate_left
                · (try dsimp only at hu)
                  go_simp
                  try with_reducible rfl
                clear hClosed
                have hClosed := hNext
                clear hNext
                try simp only [Act.put, List.getElem_toArray, List.getElem_cons_zero, List.getElem_cons_succ, List.setIfInBounds_toArray, List.set_cons_zero, List.set_cons_succ]
                refine' wpAnyE_take (i := 44) (v := _) rfl (by kernel_rfl) (by kernel_rfl) (by kernel_rfl) (by kernel_rfl) (fun _ _ _ h => h) (Or.inl ⟨by rfl, fun u hu => ?_⟩) hHeld hClosed (fun hNext => ?_)
                rotate_left
                · (try dsimp only at hu)
                  go_simp
                  try with_reducible rfl
                clear hClosed
                have hClosed := hNext
                clear hNext
                try simp only [Act.put, List.getElem_toArray, List.getElem_cons_zero, List.getElem_cons_succ, List.setIfInBounds_toArray, List.set_cons_zero, List.set_cons_succ]
                refine' wpAnyE_take (i := 45) (v := _) rfl (by kernel_rfl) (by kernel_rfl) (by kernel_rfl) (by kernel_rfl) (fun _ _ _ h => h) (Or.inl ⟨by rfl, fun u hu => ?_⟩) hHeld hClosed (fun hNext => ?_)
                rotate_left
                · (try dsimp only at hu)
                  go_simp
                  try with_reducible rfl
                clear hClosed
                have hClosed := hNext
                clear hNext
                try simp only [Act.put, List.getElem_toArray, List.getElem_cons_zero, List.getElem_cons_succ, List.setIfInBounds_toArray, List.set_cons_zero, List.set_cons_succ]
                refine' wpAnyE_take (i := 46) (v := _) rfl (by kernel_rfl) (by kernel_rfl) (by kernel_rfl) (by kernel_rfl) (fun _ _ _ h => h) (Or.inl ⟨by rfl, fun u hu => ?_⟩) hHeld hClosed (fun hNext => ?_)
                rotate_left
                · (try dsimp only at hu)
                  go_simp
                  try with_reducible rfl
                clear hClosed
                have hClosed := hNext
                clear hNext
                try simp only [Act.put, List.getElem_toArray, List.getElem_cons_zero, List.getElem_cons_succ, List.setIfInBounds_toArray, List.set_cons_zero, List.set_cons_succ]
                refine' wpAnyE_take (i := 47) (v := _) rfl (by kernel_rfl) (by kernel_rfl) (by kernel_rfl) (by kernel_rfl) (fun _ _ _ h => h) (Or.inl ⟨by rfl, fun u hu => ?_⟩) hHeld hClosed (fun hNext => ?_)
                rotate_left
                · (try dsimp only at hu)
                  go_simp
                  try with_reducible rfl
                clear hClosed
                have hClosed := hNext
                clear hNext
                try simp only [Act.put, List.getElem_toArray, List.getElem_cons_zero, List.getElem_cons_succ, List.setIfInBounds_toArray, List.set_cons_zero, List.set_cons_succ]
                refine' wpAnyE_take (i := 48) (v := _) rfl (by kernel_rfl) (by kernel_rfl) (by kernel_rfl) (by kernel_rfl) (fun _ _ _ h => h) (Or.inl ⟨by rfl, fun u hu => ?_⟩) hHeld hClosed (fun hNext => ?_)
                rotate_left
                · (try dsimp only at hu)
                  go_simp
                  try with_reducible rfl
                clear hClosed
                have hClosed := hNext
                clear hNext
                try simp only [Act.put, List.getElem_toArray, List.getElem_cons_zero, List.getElem_cons_succ, List.setIfInBounds_toArray, List.set_cons_zero, List.set_cons_succ]
                refine' wpAnyE_take (i := 49) (v := _) rfl (by kernel_rfl) (by kernel_rfl) (by kernel_rfl) (by kernel_rfl) (fun _ _ _ h => h) (Or.inl ⟨by rfl, fun u hu => ?_⟩) hHeld hClosed (fun hNext => ?_)
                rotate_left
                · (try dsimp only at hu)
                  go_simp
                  try with_reducible rfl
                clear hClosed
                have hClosed := hNext
                clear hNext
                try simp only [Act.put, List.getElem_toArray, List.getElem_cons_zero, List.getElem_cons_succ, List.setIfInBounds_toArray, List.set_cons_zero, List.set_cons_succ]
                refine' wpAnyE_take (i := 50) (v := _) rfl (by kernel_rfl) (by kernel_rfl) (by kernel_rfl) (by kernel_rfl) (fun _ _ _ h => h) (Or.inl ⟨by rfl, fun u hu => ?_⟩) hHeld hClosed (fun hNext => ?_)
                rotate_left
                · (try dsimp only at hu)
                  go_simp
                  try with_reducible rfl
                clear hClosed
                have hClosed := hNext
                clear hNext
                try simp only [Act.put, List.getElem_toArray, List.getElem_cons_zero, List.getElem_cons_succ, List.setIfInBounds_toArray, List.set_cons_zero, List.set_cons_succ]
                refine wpAnyE_done (by kernel_rfl) ?_ _
                clear hClosed
                go_wp2_with fail
                go_ret
                exact ⟨ret_bool (by
                  rw [eq_comm, decide_eq_false_iff_not]
                  intro e
                  have h1 := XS.out.1
                  have h2 := XS.out.2
                  subst e
                  rw [h1] at h2
                  injection h2 with h2 h3 h4 h5
                  simp [h5] at e4), HB.out.trans (B5.out.mono HB.out.size)⟩

            · have TT := trivial
              go_wp2_with fail
              refine wp_region_E (S := fun w' => SqCell w' g (off + k * 4) (.slice Aj n cj) ⟨pl, lev, sos, eos⟩ ∧ SqCell w' g' (off' + k * 4) (.slice Aj' n' cj') ⟨pl', lev', sos', eos'⟩) [] (by kernel_rfl) (hk0) (fun hHeld hClosed => ?_)
              refine' wpAnyE_take (i := 0) (v := _) rfl (by kernel_rfl) (by kernel_rfl) (by kernel_rfl) (by kernel_rfl) (fun _ _ _ h => h) (Or.inl ⟨by rfl, fun u hu => ?_⟩) hHeld hClosed (fun hNext => ?_)
              rotate_left
              · (try dsimp only at hu)
                go_simp
                try with_reducible rfl
              clear hClosed
              have hClosed := hNext
              clear hNext
              try simp only [Act.put, List.getElem_toArray, List.getElem_cons_zero, List.setIfInBounds_toArray, List.set_cons_zero, List.set_cons_succ]
              refine' wpAnyE_take (i := 1) (v := _) rfl (by kernel_rfl) (by kernel_rfl) (by kernel_rfl) (by kernel_rfl) (fun _ _ _ h => h) (Or.inl ⟨by rfl, fun u hu => ?_⟩) hHeld hClosed (fun hNext => ?_)
              rotate_left
              · (try dsimp only at hu)
                go_simp
                try with_reducible rfl
              clear hClosed
              have hClosed := hNext
              clear hNext
              try simp only [Act.put, List.getElem_toArray, List.getElem_cons_zero, List.getElem_cons_succ, List.setIfInBounds_toArray, List.set_cons_zero, List.set_cons_succ]
              refine' wpAnyE_take (i := 2) (v := _) rfl (by kernel_rfl) (by kernel_rfl) (by kernel_rfl) (by kernel_rfl) (fun _ _ _ h => h) (Or.inl ⟨by rfl, fun u hu => ?_⟩) hHeld hClosed (fun hNext => ?_)
              rotate_left
              · (try dsimp only at hu)
                go_simp
                try with_reducible rfl
              clear hClosed
              have hClosed := hNext
              clear hNext
              try simp only [Act.put, List.getElem_toArray, List.getElem_cons_zero, List.getElem_cons_succ, List.setIfInBounds_toArray, List.set_cons_zero, List.set_cons_succ]
              refine' wpAnyE_take (i := 3) (v := _) rfl (by kernel_rfl) (by kernel_rfl) (by kernel_rfl) (by kernel_rfl) (fun _ _ _ h => h) (Or.inl ⟨by rfl, fun u hu => ?_⟩) hHeld hClosed (fun hNext => ?_)
              rotate_left
              · (try dsimp only at hu)
                go_simp
                try with_reducible rfl
              clear hClosed
              have hClosed := hNext
              clear hNext
              try simp only [Act.put, List.getElem_toArray, List.getElem_cons_zero, List.getElem_cons_succ, List.setIfInBounds_toArray, List.set_cons_zero, List.set_cons_succ]
              refine' wpAnyE_take (i := 4) (v := _) rfl (by kernel_rfl) (by kernel_rfl) (by kernel_rfl) (by kernel_rfl) (fun _ _ _ h => h) (Or.inl ⟨by rfl, fun u hu => ?_⟩) hHeld hClosed (fun hNext => ?_)
              rotate_left
              · (try dsimp only at hu)
                go_simp
                try with_reducible rfl
              clear hClosed
              have hClosed := hNext
              clear hNext
              try simp only [Act.put, List.getElem_toArray, List.getElem_cons_zero, List.getElem_cons_succ, List.setIfInBounds_toArray, List.set_cons_zero, List.set_cons_succ]
              refine' wpAnyE_take (i := 5) (v := _) rfl (by kernel_rfl) (by kernel_rfl) (by kernel_rfl) (by kernel_rfl) (fun _ _ _ h => h) (Or.inl ⟨by rfl, fun u hu => ?_⟩) hHeld hClosed (fun hNext => ?_)
              rotate_left
              · (try dsimp only at hu)
                go_simp
                try with_reducible rfl
              clear hClosed
              have hClosed := hNext
              clear hNext
              try simp only [Act.put, List.getElem_toArray, List.getElem_cons_zero, List.getElem_cons_succ, List.setIfInBounds_toArray, List.set_cons_zero, List.set_cons_succ]
              refine' wpAnyE_take (i := 6) (v := _) rfl (by kernel_rfl) (by kernel_rfl) (by kernel_rfl) (by kernel_rfl) (fun _ _ _ h => h) (Or.inl ⟨by rfl, fun u hu => ?_⟩) hHeld hClosed (fun hNext => ?_)
              rotate_left
              · (try dsimp only at hu)
                go_simp
                try with_reducible rfl
              clear hClosed
              have hClosed := hNext
              clear hNext
              try simp only [Act.put, List.getElem_toArray, List.getElem_cons_zero, List.getElem_cons_succ, List.setIfInBounds_toArray, List.set_cons_zero, List.set_cons_succ]
              refine' wpAnyE_take (i := 7) (v := _) rfl (by kernel_rfl) (by kernel_rfl) (by kernel_rfl) (by kernel_rfl) (fun _ _ _ h => h) (Or.inl ⟨by rfl, fun u hu => ?_⟩) hHeld hClosed (fun hNext => ?_)
              rotate_left
              · (try dsimp only at hu)
                go_simp
                try with_reducible rfl
              clear hClosed
              have hClosed := hNext
              clear hNext
              try simp only [Act.put, List.getElem_toArray, List.getElem_cons_zero, List.getElem_cons_succ, List.setIfInBounds_toArray, List.set_cons_zero, List.set_cons_succ]
              refine' wpAnyE_take (i := 8) (v := _) rfl (by kernel_rfl) (by kernel_rfl) (by kernel_rfl) (by kernel_rfl) (fun _ _ _ h => h) (Or.inl ⟨by rfl, fun u hu => ?_⟩) hHeld hClosed (fun hNext => ?_)
              rotate_left
              · (try dsimp only at hu)
                go_simp
                try with_reducible rfl
              clear hClosed
              have hClosed := hNext
              clear hNext
              try simp only [Act.put, List.getElem_toArray, List.getElem_cons_zero, List.getElem_cons_succ, List.setIfInBounds_toArray, List.set_cons_zero, List.set_cons_succ]
              refine' wpAnyE_take (i := 9) (v := _) rfl (by kernel_rfl) (by kernel_rfl) (by kernel_rfl) (by kernel_rfl) (fun _ _ _ h => h) (Or.inl ⟨by rfl, fun u hu => ?_⟩) hHeld hClosed (fun hNext => ?_)
              rotate_left
              · (try dsimp only at hu)
                go_simp
                try with_reducible rfl
              clear hClosed
              have hClosed := hNext
              clear hNext
              try simp only [Act.put, List.getElem_toArray, List.getElem_cons_zero, List.getElem_cons_succ, List.setIfInBounds_toArray, List.set_cons_zero, List.set_cons_succ]
              refine wpAnyE_ready (rs := [10]) (by kernel_rfl) (by simp) ?_
              refine AllReadyE.cons rfl (fun K hK => ?_) AllReadyE.nil
              all_goals simp only [List.getElem_toArray, List.getElem_cons_zero, List.getElem_cons_succ]
              all_goals go_simp
              refine HI.out.mono ?_
              rintro e w5 ⟨rfl, b5⟩
              rw [P1.out]
              have B5 := Lib.hid (show Below wr.heap.size wr w5 from ⟨b5.os, b5.tape, b5.output, b5.size, b5.block⟩)
              clear b5
              refine hK.out _ _ (fun _ => SK.out _ B5.out) (fun hHeld => ?_) (fun hX => (by first | cases hX | simp at hX))
              replace hClosed := hClosed.step 10 (by kernel_rfl)
              clear hK K
              try simp only [Act.put, List.getElem_toArray, List.getElem_cons_zero, List.getElem_cons_succ, List.setIfInBounds_toArray, List.set_cons_zero, List.set_cons_succ]
              refine' wpAnyE_take (i := 11) (v := _) rfl (by kernel_rfl) (by kernel_rfl) (by kernel_rfl) (by kernel_rfl) (fun _ _ _ h => h) (Or.inl ⟨by rfl, fun u hu => ?_⟩) hHeld hClosed (fun hNext => ?_)
              rotate_left
              · (try dsimp only at hu)
                go_simp
                try with_reducible rfl
              clear hClosed
              have hClosed := hNext
              clear hNext
              try simp only [Act.put, List.getElem_toArray, List.getElem_cons_zero, List.getElem_cons_succ, List.setIfInBounds_toArray, List.set_cons_zero, List.set_cons_succ]
              refine' wpAnyE_take (i := 12) (v := _) rfl (by kernel_rfl) (by kernel_rfl) (by kernel_rfl) (by kernel_rfl) (fun _ _ _ h => h) (Or.inl ⟨by rfl, fun u hu => ?_⟩) hHeld hClosed (fun hNext => ?_)
              rotate_left
              · (try dsimp only at hu)
                go_simp
                try with_reducible rfl
              clear hClosed
              have hClosed := hNext
              clear hNext
              try simp only [Act.put, List.getElem_toArray, List.getElem_cons_zero, List.getElem_cons_succ, List.setIfInBounds_toArray, List.set_cons_zero, List.set_cons_succ]
              refine' wpAnyE_take (i := 13) (v := _) rfl (by kernel_rfl) (by kernel_rfl) (by kernel_rfl) (by kernel_rfl) (fun _ _ _ h => h) (Or.inl ⟨by rfl, fun u hu => ?_⟩) hHeld hClosed (fun hNext => ?_)
              rotate_left
              · (try dsimp only at hu)
                go_simp
                try with_reducible rfl
              clear hClosed
              have hClosed := hNext
              clear hNext
              try simp only [Act.put, List.getElem_toArray, List.getElem_cons_zero, List.getElem_cons_succ, List.setIfInBounds_toArray, List.set_cons_zero, List.set_cons_succ]
              refine' wpAnyE_take (i := 14) (v := _) rfl (by kernel_rfl) (by kernel_rfl) (by kernel_rfl) (by kernel_rfl) (fun _ _ _ h => h) (Or.inl ⟨by rfl, fun u hu => ?_⟩) hHeld hClosed (fun hNext => ?_)
              rotate_left
              · (try dsimp only at hu)
                go_simp
                try with_reducible rfl
              clear hClosed
              have hClosed := hNext
              clear hNext
              try simp only [Act.put, List.getElem_toArray, List.getElem_cons_zero, List.getElem_cons_succ, List.setIfInBounds_toArray, List.set_cons_zero, List.set_cons_succ]
              refine' wpAnyE_take (i := 15) (v := _) rfl (by kernel_rfl) (by kernel_rfl) (by kernel_rfl) (by kernel_rfl) (fun _ _ _ h => h) (Or.inl ⟨by rfl, fun u hu => ?_⟩) hHeld hClosed (fun hNext => ?_)
              rotate_left
              · (try dsimp only at hu)
                go_simp
                try with_reducible rfl
              clear hClosed
              have hClosed := hNext
              clear hNext
              try simp only [Act.put, List.getElem_toArray, List.getElem_cons_zero, List.getElem_cons_succ, List.setIfInBounds_toArray, List.set_cons_zero, List.set_cons_succ]
              refine' wpAnyE_take (i := 16) (v := _) rfl (by kernel_rfl) (by kernel_rfl) (by kernel_rfl) (by kernel_rfl) (fun _ _ _ h => h) (Or.inl ⟨by rfl, fun u hu => ?_⟩) hHeld hClosed (fun hNext => ?_)
              rotate_left
              · (try dsimp only at hu)
                go_simp
                try with_reducible rfl
              clear hClosed
              have hClosed := hNext
              clear hNext
              try simp only [Act.put, List.getElem_toArray, List.getElem_cons_zero, List.getElem_cons_succ, List.setIfInBounds_toArray, List.set_cons_zero, List.set_cons_succ]
              refine' wpAnyE_take (i := 17) (v := _) rfl (by kernel_rfl) (by kernel_rfl) (by kernel_rfl) (by kernel_rfl) (fun _ _ _ h => h) (Or.inl ⟨by rfl, fun u hu => ?_⟩) hHeld hClosed (fun hNext => ?_)
              rotate_left
              · (try dsimp only at hu)
                go_simp
                try with_reducible rfl
              clear hClosed
              have hClosed := hNext
              clear hNext
              try simp only [Act.put, List.getElem_toArray, List.getElem_cons_zero, List.getElem_cons_succ, List.setIfInBounds_toArray, List.set_cons_zero, List.set_cons_succ]
              refine' wpAnyE_take (i := 18) (v := _) rfl (by kernel_rfl) (by kernel_rfl) (by kernel_rfl) (by kernel_rfl) (fun _ _ _ h => h) (Or.inl ⟨by rfl, fun u hu => ?_⟩) hHeld hClosed (fun hNext => ?_)
              rotate_left
              · (try dsimp only at hu)
                go_simp
                try with_reducible rfl
              clear hClosed
              have hClosed := hNext
              clear hNext
              try simp only [Act.put, List.getElem_toArray, List.getElem_cons_zero, List.getElem_cons_succ, List.setIfInBounds_toArray, List.set_cons_zero, List.set_cons_succ]
              refine' wpAnyE_take (i := 19) (v := _) rfl (by kernel_rfl) (by kernel_rfl) (by kernel_rfl) (by kernel_rfl) (fun _ _ _ h => h) (Or.inl ⟨by rfl, fun u hu => ?_⟩) hHeld hClosed (fun hNext => ?_)
              rotate_left
              · (try dsimp only at hu)
                go_simp
                try with_reducible rfl
              clear hClosed
              have hClosed := hNext
              clear hNext
              try simp only [Act.put, List.getElem_toArray, List.getElem_cons_zero, List.getElem_cons_succ, List.setIfInBounds_toArray, List.set_cons_zero, List.set_cons_succ]
              refine' wpAnyE_take (i := 20) (v := _) rfl (by kernel_rfl) (by kernel_rfl) (by kernel_rfl) (by kernel_rfl) (fun _ _ _ h => h) (Or.inl ⟨by rfl, fun u hu => ?_⟩) hHeld hClosed (fun hNext => ?_)
              rotate_left
              · (try dsimp only at hu)
                go_simp
                try with_reducible rfl
              clear hClosed
              have hClosed := hNext
              clear hNext
              try simp only [Act.put, List.getElem_toArray, List.getElem_cons_zero, List.getElem_cons_succ, List.setIfInBounds_toArray, List.set_cons_zero, List.set_cons_succ]
              refine' wpAnyE_take (i := 21) (v := _) rfl (by kernel_rfl) (by kernel_rfl) (by kernel_rfl) (by kernel_rfl) (fun _ _ _ h => h) (Or.inl ⟨by rfl, fun u hu => ?_⟩) hHeld hClosed (fun hNext => ?_)
              rotate_left
              · (try dsimp only at hu)
                go_simp
                try with_reducible rfl
              clear hClosed
              have hClosed := hNext
              clear hNext
              try simp only [Act.put, List.getElem_toArray, List.getElem_cons_zero, List.getElem_cons_succ, List.setIfInBounds_toArray, List.set_cons_zero, List.set_cons_succ]
              refine' wpAnyE_take (i := 22) (v := _) rfl (by kernel_rfl) (by kernel_rfl) (by kernel_rfl) (by kernel_rfl) (fun _ _ _ h => h) (Or.inl ⟨by rfl, fun u hu => ?_⟩) hHeld hClosed (fun hNext => ?_)
              rotate_left
              · (try dsimp only at hu)
                go_simp
                try with_reducible rfl
              clear hClosed
              have hClosed := hNext
              clear hNext
              try simp only [Act.put, List.getElem_toArray, List.getElem_cons_zero, List.getElem_cons_succ, List.setIfInBounds_toArray, List.set_cons_zero, List.set_cons_succ]
              refine' wpAnyE_take (i := 23) (v := _) rfl (by kernel_rfl) (by kernel_rfl) (by kernel_rfl) (by kernel_rfl) (fun _ _ _ h => h) (Or.inl ⟨by rfl, fun u hu => ?_⟩) hHeld hClosed (fun hNext => ?_)
              rotate_left
              · (try dsimp only at hu)
                go_simp
                try with_reducible rfl
              clear hClosed
              have hClosed := hNext
              clear hNext
              try simp only [Act.put, List.getElem_toArray, List.getElem_cons_zero, List.getElem_cons_succ, List.setIfInBounds_toArray, List.set_cons_zero, List.set_cons_succ]
              refine' wpAnyE_take (i := 24) (v := _) rfl (by kernel_rfl) (by kernel_rfl) (by kernel_rfl) (by kernel_rfl) (fun _ _ _ h => h) (Or.inl ⟨by rfl, fun u hu => ?_⟩) hHeld hClosed (fun hNext => ?_)
              rotate_left
              · (try dsimp only at hu)
                go_simp
                try with_reducible rfl
              clear hClosed
              have hClosed := hNext
              clear hNext
              try simp only [Act.put, List.getElem_toArray, List.getElem_cons_zero, List.getElem_cons_succ, List.setIfInBounds_toArray, List.set_cons_zero, List.set_cons_succ]
              refine' wpAnyE_take (i := 25) (v := _) rfl (by kernel_rfl) (by kernel_rfl) (by kernel_rfl) (by kernel_rfl) (fun _ _ _ h => h) (Or.inl ⟨by rfl, fun u hu => ?_⟩) hHeld hClosed (fun hNext => ?_)
              rotate_left
              · (try dsimp only at hu)
                go_simp
                try with_reducible rfl
              clear hClosed
              have hClosed := hNext
              clear hNext
              try simp only [Act.put, List.getElem_toArray, List.getElem_cons_zero, List.getElem_cons_succ, List.setIfInBounds_toArray, List.set_cons_zero, List.set_cons_succ]
              refine' wpAnyE_take (i := 26) (v := _) rfl (by kernel_rfl) (by kernel_rfl) (by kernel_rfl) (by kernel_rfl) (fun _ _ _ h => h) (Or.inl ⟨by rfl, fun u hu => ?_⟩) hHeld hClosed (fun hNext => ?_)
              rotate_left
              · (try dsimp only at hu)
                go_simp
                try with_reducible rfl
              clear hClosed
              have hClosed := hNext
              clear hNext
              try simp only [Act.put, List.getElem_toArray, List.getElem_cons_zero, List.getElem_cons_succ, List.setIfInBounds_toArray, List.set_cons_zero, List.set_cons_succ]
              refine' wpAnyE_take (i := 27) (v := _) rfl (by kernel_rfl) (by kernel_rfl) (by kernel_rfl) (by kernel_rfl) (fun _ _ _ h => h) (Or.inl ⟨by rfl, fun u hu => ?_⟩) hHeld hClosed (fun hNext => ?_)
              rotate_left
              · (try dsimp only at hu)
                go_simp
                try with_reducible rfl
              clear hClosed
              have hClosed := hNext
              clear hNext
              try simp only [Act.put, List.getElem_toArray, List.getElem_cons_zero, List.getElem_cons_succ, List.setIfInBounds_toArray, List.set_cons_zero, List.set_cons_succ]
              refine' wpAnyE_take (i := 28) (v := _) rfl (by kernel_rfl) (by kernel_rfl) (by kernel_rfl) (by kernel_rfl) (fun _ _ _ h => h) (Or.inl ⟨by rfl, fun u hu => ?_⟩) hHeld hClosed (fun hNext => ?_)
              rotate_left
              · (try dsimp only at hu)
                go_simp
                try with_reducible rfl
              clear hClosed
              have hClosed := hNext
              clear hNext
              try simp only [Act.put, List.getElem_toArray, List.getElem_cons_zero, List.getElem_cons_succ, List.setIfInBounds_toArray, List.set_cons_zero, List.set_cons_succ]
              refine' wpAnyE_take (i := 29) (v := _) rfl (by kernel_rfl) (by kernel_rfl) (by kernel_rfl) (by kernel_rfl) (fun _ _ _ h => h) (Or.inl ⟨by rfl, fun u hu => ?_⟩) hHeld hClosed (fun hNext => ?_)
              rotate_left
              · (try dsimp only at hu)
                go_simp
                try with_reducible rfl
              clear hClosed
              have hClosed := hNext
              clear hNext
              try simp only [Act.put, List.getElem_toArray, List.getElem_cons_zero, List.getElem_cons_succ, List.setIfInBounds_toArray, List.set_cons_zero, List.set_cons_succ]
              refine' wpAnyE_take (i := 30) (v := _) rfl (by kernel_rfl) (by kernel_rfl) (by kernel_rfl) (by kernel_rfl) (fun _ _ _ h => h) (Or.inl ⟨by rfl, fun u hu => ?_⟩) hHeld hClosed (fun hNext => ?_)
              rotate_left
              · (try dsimp only at hu)
                go_simp
                try with_reducible rfl
              clear hClosed
              have hClosed := hNext
              clear hNext
              try simp only [Act.put, List.getElem_toArray, List.getElem_cons_zero, List.getElem_cons_succ, List.setIfInBounds_toArray, List.set_cons_zero, List.set_cons_succ]
              refine' wpAnyE_take (i := 31) (v := _) rfl (by kernel_rfl) (by kernel_rfl) (by kernel_rfl) (by kernel_rfl) (fun _ _ _ h => h) (Or.inl ⟨by rfl, fun u hu => ?_⟩) hHeld hClosed (fun hNext => ?_)
              rotate_left
              · (try dsimp only at hu)
                go_simp
                try with_reducible rfl
              clear hClosed
              have hClosed := hNext
              clear hNext
              try simp only [Act.put, List.getElem_toArray, List.getElem_cons_zero, List.getElem_cons_succ, List.setIfInBounds_toArray, List.set_cons_zero, List.set_cons_succ]
              refine' wpAnyE_take (i := 32) (v := _) rfl (by kernel_rfl) (by kernel_rfl) (by kernel_rfl) (by kernel_rfl) (fun _ _ _ h => h) (Or.inl ⟨by rfl, fun u hu => ?_⟩) hHeld hClosed (fun hNext => ?_)
              rotate_left
              · (try dsimp only at hu)
                go_simp
                try with_reducible rfl
              clear hClosed
              have hClosed := hNext
              clear hNext
              try simp only [Act.put, List.getElem_toArray, List.getElem_cons_zero, List.getElem_cons_succ, List.setIfInBounds_toArray, List.set_cons_zero, List.set_cons_succ]
              refine' wpAnyE_take (i := 33) (v := _) rfl (by kernel_rfl) (by kernel_rfl) (by kernel_rfl) (by kernel_rfl) (fun _ _ _ h => h) (Or.inl ⟨by rfl, fun u hu => ?_⟩) hHeld hClosed (fun hNext => ?_)
              rotate_left
              · (try dsimp only at hu)
                go_simp
                try with_reducible rfl
              clear hClosed
              have hClosed := hNext
              clear hNext
              try simp only [Act.put, List.getElem_toArray, List.getElem_cons_zero, List.getElem_cons_succ, List.setIfInBounds_toArray, List.set_cons_zero, List.set_cons_succ]
              refine' wpAnyE_take (i := 34) (v := _) rfl (by kernel_rfl) (by kernel_rfl) (by kernel_rfl) (by kernel_rfl) (fun _ _ _ h => h) (Or.inl ⟨by rfl, fun u hu => ?_⟩) hHeld hClosed (fun hNext => ?_)
              rotate_left
              · (try dsimp only at hu)
                go_simp
                try with_reducible rfl
              clear hClosed
              have hClosed := hNext
              clear hNext
              try simp only [Act.put, List.getElem_toArray, List.getElem_cons_zero, List.getElem_cons_succ, List.setIfInBounds_toArray, List.set_cons_zero, List.set_cons_succ]
              refine' wpAnyE_take (i := 35) (v := _) rfl (by kernel_rfl) (by kernel_rfl) (by kernel_rfl) (by kernel_rfl) (fun _ _ _ h => h) (Or.inl ⟨by rfl, fun u hu => ?_⟩) hHeld hClosed (fun hNext => ?_)
              rotate_left
              · (try dsimp only at hu)
                go_simp
                try with_reducible rfl
              clear hClosed
              have hClosed := hNext
              clear hNext
              try simp only [Act.put, List.getElem_toArray, List.getElem_cons_zero, List.getElem_cons_succ, List.setIfInBounds_toArray, List.set_cons_zero, List.set_cons_succ]
              refine' wpAnyE_take (i := 36) (v := _) rfl (by kernel_rfl) (by kernel_rfl) (by kernel_rfl) (by kernel_rfl) (fun _ _ _ h => h) (Or.inl ⟨by rfl, fun u hu => ?_⟩) hHeld hClosed (fun hNext => ?_)
              rotate_left
              · (try dsimp only at hu)
                go_simp
                try with_reducible rfl
              clear hClosed
              have hClosed := hNext
              clear hNext
              try simp only [Act.put, List.getElem_toArray, List.getElem_cons_zero, List.getElem_cons_succ, List.setIfInBounds_toArray, List.set_cons_zero, List.set_cons_succ]
              refine' wpAnyE_take (i := 37) (v := _) rfl (by kernel_rfl) (by kernel_rfl) (by kernel_rfl) (by kernel_rfl) (fun _ _ _ h => h) (Or.inl ⟨by rfl, fun u hu => ?_⟩) hHeld hClosed (fun hNext => ?_)
              rotate_left
              · (try dsimp only at hu)
                go_simp
                try with_reducible rfl
              clear hClosed
              have hClosed := hNext
              clear hNext
              try simp only [Act.put, List.getElem_toArray, List.getElem_cons_zero, List.getElem_cons_succ, List.setIfInBounds_toArray, List.set_cons_zero, List.set_cons_succ]
              refine' wpAnyE_take (i := 38) (v := _) rfl (by kernel_rfl) (by kernel_rfl) (by kernel_rfl) (by kernel_rfl) (fun _ _ _ h => h) (Or.inl ⟨by rfl, fun u hu => ?_⟩) hHeld hClosed (fun hNext => ?_)
              rotate_left
              · (try dsimp only at hu)
                go_simp
                try with_reducible rfl
              clear hClosed
              have hClosed := hNext
              clear hNext
              try simp only [Act.put, List.getElem_toArray, List.getElem_cons_zero, List.getElem_cons_succ, List.setIfInBounds_toArray, List.set_cons_zero, List.set_cons_succ]
              refine' wpAnyE_take (i := 39) (v := _) rfl (by kernel_rfl) (by kernel_rfl) (by kernel_rfl) (by kernel_rfl) (fun _ _ _ h => h) (Or.inr ⟨by rfl, rfl⟩) hHeld hClosed (fun hNext => ?_)
              clear hClosed
              have hClosed := hNext
              clear hNext
              try simp only [Act.put, List.getElem_toArray, List.getElem_cons_zero, List.getElem_cons_succ, List.setIfInBounds_toArray, List.set_cons_zero, List.set_cons_succ]
              refine' wpAnyE_take (i := 40) (v := _) rfl (by kernel_rfl) (by kernel_rfl) (by kernel_rfl) (by kernel_rfl) (fun _ _ _ h => h) (Or.inr ⟨by rfl, rfl⟩) hHeld hClosed (fun hNext => ?_)
              clear hClosed
              have hClosed := hNext
              clear hNext
              try simp only [Act.put, List.getElem_toArray, List.getElem_cons_zero, List.getElem_cons_succ, List.setIfInBounds_toArray, List.set_cons_zero, List.set_cons_succ]
              refine' wpAnyE_take (i := 41) (v := _) rfl (by kernel_rfl) (by kernel_rfl) (by kernel_rfl) (by kernel_rfl) (fun _ _ _ h => h) (Or.inr ⟨by rfl, rfl⟩) hHeld hClosed (fun hNext => ?_)
              clear hClosed
              have hClosed := hNext
              clear hNext
              try simp only [Act.put, List.getElem_toArray, List.getElem_cons_zero, List.getElem_cons_succ, List.setIfInBounds_toArray, List.set_cons_zero, List.set_cons_succ]
              refine' wpAnyE_take (i := 42) (v := _) rfl (by kernel_rfl) (by kernel_rfl) (by kernel_rfl) (by kernel_rfl) (fun _ _ _ h => h) (Or.inr ⟨by rfl, rfl⟩) hHeld hClosed (fun hNext => ?_)
              clear hClosed
              have hClosed := hNext
              clear hNext
              try simp only [Act.put, List.getElem_toArray, List.getElem_cons_zero, List.getElem_cons_succ, List.setIfInBounds_toArray, List.set_cons_zero, List.set_cons_succ]
              refine' wpAnyE_take (i := 43) (v := _) rfl (by kernel_rfl) (by kernel_rfl) (by kernel_rfl) (by kernel_rfl) (fun _ _ _ h => h) (Or.inr ⟨by rfl, rfl⟩) hHeld hClosed (fun hNext => ?_)
              clear hClosed
              have hClosed := hNext
              clear hNext
              try simp only [Act.put, List.getElem_toArray, List.getElem_cons_zero, List.getElem_cons_succ, List.setIfInBounds_toArray, List.set_cons_zero, List.set_cons_succ]
              refine' wpAnyE_take (i := 44) (v := _) rfl (by kernel_rfl) (by kernel_rfl) (by kernel_rfl) (by kernel_rfl) (fun _ _ _ h => h) (Or.inr ⟨by rfl, rfl⟩) hHeld hClosed (fun hNext => ?_)
              clear hClosed
              have hClosed := hNext
              clear hNext
              try simp only [Act.put, List.getElem_toArray, List.getElem_cons_zero, List.getElem_cons_succ, List.setIfInBounds_toArray, List.set_cons_zero, List.set_cons_succ]
              refine' wpAnyE_take (i := 45) (v := _) rfl (by kernel_rfl) (by kernel_rfl) (by kernel_rfl) (by kernel_rfl) (fun _ _ _ h => h) (Or.inr ⟨by rfl, rfl⟩) hHeld hClosed (fun hNext => ?_)
              clear hClosed
              have hClosed := hNext
              clear hNext
              try simp only [Act.put, List.getElem_toArray, List.getElem_cons_zero, List.getElem_cons_succ, List.setIfInBounds_toArray, List.set_cons_zero, List.set_cons_succ]
              refine' wpAnyE_take (i := 46) (v := _) rfl (by kernel_rfl) (by kernel_rfl) (by kernel_rfl) (by kernel_rfl) (fun _ _ _ h => h) (Or.inr ⟨by rfl, rfl⟩) hHeld hClosed (fun hNext => ?_)
              clear hClosed
              have hClosed := hNext
              clear hNext
              try simp only [Act.put, List.getElem_toArray, List.getElem_cons_zero, List.getElem_cons_succ, List.setIfInBounds_toArray, List.set_cons_zero, List.set_cons_succ]
              refine' wpAnyE_take (i := 47) (v := _) rfl (by kernel_rfl) (by kernel_rfl) (by kernel_rfl) (by kernel_rfl) (fun _ _ _ h => h) (Or.inr ⟨by rfl, rfl⟩) hHeld hClosed (fun hNext => ?_)
              clear hClosed
              have hClosed := hNext
              clear hNext
              try simp only [Act.put, List.getElem_toArray, List.getElem_cons_zero, List.getElem_cons_succ, List.setIfInBounds_toArray, List.set_cons_zero, List.set_cons_succ]
              refine' wpAnyE_take (i := 48) (v := _) rfl (by kernel_rfl) (by kernel_rfl) (by kernel_rfl) (by kernel_rfl) (fun _ _ _ h => h) (Or.inr ⟨by rfl, rfl⟩) hHeld hClosed (fun hNext => ?_)
              clear hClosed
              have hClosed := hNext
              clear hNext
              try simp only [Act.put, List.getElem_toArray, List.getElem_cons_zero, List.getElem_cons_succ, List.setIfInBounds_toArray, List.set_cons_zero, List.set_cons_succ]
              refine' wpAnyE_take (i := 49) (v := _) rfl (by kernel_rfl) (by kernel_rfl) (by kernel_rfl) (by kernel_rfl) (fun _ _ _ h => h) (Or.inr ⟨by rfl, rfl⟩) hHeld hClosed (fun hNext => ?_)
              clear hClosed
              have hClosed := hNext
              clear hNext
              try simp only [Act.put, List.getElem_toArray, List.getElem_cons_zero, List.getElem_cons_succ, List.setIfInBounds_toArray, List.set_cons_zero, List.set_cons_succ]
              refine' wpAnyE_take (i := 50) (v := _) rfl (by kernel_rfl) (by kernel_rfl) (by kernel_rfl) (by kernel_rfl) (fun _ _ _ h => h) (Or.inl ⟨by rfl, fun u hu => ?_⟩) hHeld hClosed (fun hNext => ?_)
              rotate_left
              · (try dsimp only at hu)
                go_simp
                try with_reducible rfl
              clear hClosed
              have hClosed := hNext
              clear hNext
              try simp only [Act.put, List.getElem_toArray, List.getElem_cons_zero, List.getElem_cons_succ, List.setIfInBounds_toArray, List.set_cons_zero, List.set_cons_succ]
              refine wpAnyE_done (by kernel_rfl) ?_ _
              clear hClosed
              go_wp2_with fail
              go_ret
              exact ⟨ret_bool (by
                rw [eq_comm, decide_eq_false_iff_not]
                intro e
                have h1 := XS.out.1
                have h2 := XS.out.2
                subst e
                rw [h1] at h2
                injection h2 with h2 h3 h4 h5
                simp [h4] at e3), HB.out.trans (B5.out.mono HB.out.size)⟩

          · have TT := trivial
            go_wp2_with fail
            refine wp_region_E (S := fun w' => SqCell w' g (off + k * 4) (.slice Aj n cj) ⟨pl, lev, sos, eos⟩ ∧ SqCell w' g' (off' + k * 4) (.slice Aj' n' cj') ⟨pl', lev', sos', eos'⟩) [] (by kernel_rfl) (hk0) (fun hHeld hClosed => ?_)
            refine' wpAnyE_take (i := 0) (v := _) rfl (by kernel_rfl) (by kernel_rfl) (by kernel_rfl) (by kernel_rfl) (fun _ _ _ h => h) (Or.inl ⟨by rfl, fun u hu => ?_⟩) hHeld hClosed (fun hNext => ?_)
            rotate_left
            · (try dsimp only at hu)
              go_simp
              try with_reducible rfl
            clear hClosed
            have hClosed := hNext
            clear hNext
            try simp only [Act.put, List.getElem_toArray, List.getElem_cons_zero, List.setIfInBounds_toArray, List.set_cons_zero, List.set_cons_succ]
            refine' wpAnyE_take (i := 1) (v := _) rfl (by kernel_rfl) (by kernel_rfl) (by kernel_rfl) (by kernel_rfl) (fun _ _ _ h => h) (Or.inl ⟨by rfl, fun u hu => ?_⟩) hHeld hClosed (fun hNext => ?_)
            rotate_left
            · (try dsimp only at hu)
              go_simp
              try with_reducible rfl
            clear hClosed
            have hClosed := hNext
            clear hNext
            try simp only [Act.put, List.getElem_toArray, List.getElem_cons_zero, List.getElem_cons_succ, List.setIfInBounds_toArray, List.set_cons_zero, List.set_cons_succ]
            refine' wpAnyE_take (i := 2) (v := _) rfl (by kernel_rfl) (by kernel_rfl) (by kernel_rfl) (by kernel_rfl) (fun _ _ _ h => h) (Or.inl ⟨by rfl, fun u hu => ?_⟩) hHeld hClosed (fun hNext => ?_)
            rotate_left
            · (try dsimp only at hu)
              go_simp
              try with_reducible rfl
            clear hClosed
            have hClosed := hNext
            clear hNext
            try simp only [Act.put, List.getElem_toArray, List.getElem_cons_zero, List.getElem_cons_succ, List.setIfInBounds_toArray, List.set_cons_zero, List.set_cons_succ]
            refine' wpAnyE_take (i := 3) (v := _) rfl (by kernel_rfl) (by kernel_rfl) (by kernel_rfl) (by kernel_rfl) (fun _ _ _ h => h) (Or.inl ⟨by rfl, fun u hu => ?_⟩) hHeld hClosed (fun hNext => ?_)
            rotate_left
            · (try dsimp only at hu)
              go_simp
              try with_reducible rfl
            clear hClosed
            have hClosed := hNext
            clear hNext
            try simp only [Act.put, List.getElem_toArray, List.getElem_cons_zero, List.getElem_cons_succ, List.setIfInBounds_toArray, List.set_cons_zero, List.set_cons_succ]
            refine' wpAnyE_take (i := 4) (v := _) rfl (by kernel_rfl) (by kernel_rfl) (by kernel_rfl) (by kernel_rfl) (fun _ _ _ h => h) (Or.inl ⟨by rfl, fun u hu => ?_⟩) hHeld hClosed (fun hNext => ?_)
            rotate_left
            · (try dsimp only at hu)
              go_simp
              try with_reducible rfl
            clear hClosed
            have hClosed := hNext
            clear hNext
            try simp only [Act.put, List.getElem_toArray, List.getElem_cons_zero, List.getElem_cons_succ, List.setIfInBounds_toArray, List.set_cons_zero, List.set_cons_succ]
            refine' wpAnyE_take (i := 5) (v := _) rfl (by kernel_rfl) (by kernel_rfl) (by kernel_rfl) (by kernel_rfl) (fun _ _ _ h => h) (Or.inl ⟨by rfl, fun u hu => ?_⟩) hHeld hClosed (fun hNext => ?_)
            rotate_left
            · (try dsimp only at hu)
              go_simp
              try with_reducible rfl
            clear hClosed
            have hClosed := hNext
            clear hNext
            try simp only [Act.put, List.getElem_toArray, List.getElem_cons_zero, List.getElem_cons_succ, List.setIfInBounds_toArray, List.set_cons_zero, List.set_cons_succ]
            refine' wpAnyE_take (i := 6) (v := _) rfl (by kernel_rfl) (by kernel_rfl) (by kernel_rfl) (by kernel_rfl) (fun _ _ _ h => h) (Or.inl ⟨by rfl, fun u hu => ?_⟩) hHeld hClosed (fun hNext => ?_)
            rotate_left
            · (try dsimp only at hu)
              go_simp
              try with_reducible rfl
            clear hClosed
            have hClosed := hNext
            clear hNext
            try simp only [Act.put, List.getElem_toArray, List.getElem_cons_zero, List.getElem_cons_succ, List.setIfInBounds_toArray, List.set_cons_zero, List.set_cons_succ]
            refine' wpAnyE_take (i := 7) (v := _) rfl (by kernel_rfl) (by kernel_rfl) (by kernel_rfl) (by kernel_rfl) (fun _ _ _ h => h) (Or.inl ⟨by rfl, fun u hu => ?_⟩) hHeld hClosed (fun hNext => ?_)
            rotate_left
            · (try dsimp only at hu)
              go_simp
              try with_reducible rfl
            clear hClosed
            have hClosed := hNext
            clear hNext
            try simp only [Act.put, List.getElem_toArray, List.getElem_cons_zero, List.getElem_cons_succ, List.setIfInBounds_toArray, List.set_cons_zero, List.set_cons_succ]
            refine' wpAnyE_take (i := 8) (v := _) rfl (by kernel_rfl) (by kernel_rfl) (by kernel_rfl) (by kernel_rfl) (fun _ _ _ h => h) (Or.inl ⟨by rfl, fun u hu => ?_⟩) hHeld hClosed (fun hNext => ?_)
            rotate_left
            · (try dsimp only at hu)
              go_simp
              try with_reducible rfl
            clear hClosed
            have hClosed := hNext
            clear hNext
            try simp only [Act.put, List.getElem_toArray, List.getElem_cons_zero, List.getElem_cons_succ, List.setIfInBounds_toArray, List.set_cons_zero, List.set_cons_succ]
            refine' wpAnyE_take (i := 9) (v := _) rfl (by kernel_rfl) (by kernel_rfl) (by kernel_rfl) (by kernel_rfl) (fun _ _ _ h => h) (Or.inl ⟨by rfl, fun u hu => ?_⟩) hHeld hClosed (fun hNext => ?_)
            rotate_left
            · (try dsimp only at hu)
              go_simp
              try with_reducible rfl
            clear hClosed
            have hClosed := hNext
            clear hNext
            try simp only [Act.put, List.getElem_toArray, List.getElem_cons_zero, List.getElem_cons_succ, List.setIfInBounds_toArray, List.set_cons_zero, List.set_cons_succ]
            refine wpAnyE_ready (rs := [10]) (by kernel_rfl) (by simp) ?_
            refine AllReadyE.cons rfl (fun K hK => ?_) AllReadyE.nil
            all_goals simp only [List.getElem_toArray, List.getElem_cons_zero, List.getElem_cons_succ]
            all_goals go_simp
            refine HI.out.mono ?_
            rintro e w5 ⟨rfl, b5⟩
            rw [P1.out]
            have B5 := Lib.hid (show Below wr.heap.size wr w5 from ⟨b5.os, b5.tape, b5.output, b5.size, b5.block⟩)
            clear b5
            refine hK.out _ _ (fun _ => SK.out _ B5.out) (fun hHeld => ?_) (fun hX => (by first | cases hX | simp at hX))
            replace hClosed := hClosed.step 10 (by kernel_rfl)
            clear hK K
            try simp only [Act.put, List.getElem_toArray, List.getElem_cons_zero, List.getElem_cons_succ, List.setIfInBounds_toArray, List.set_cons_zero, List.set_cons_succ]
            refine' wpAnyE_take (i := 11) (v := _) rfl (by kernel_rfl) (by kernel_rfl) (by kernel_rfl) (by kernel_rfl) (fun _ _ _ h => h) (Or.inl ⟨by rfl, fun u hu => ?_⟩) hHeld hClosed (fun hNext => ?_)
            rotate_left
            · (try dsimp only at hu)
              go_simp
              try with_reducible rfl
            clear hClosed
            have hClosed := hNext
            clear hNext
            try simp only [Act.put, List.getElem_toArray, List.getElem_cons_zero, List.getElem_cons_succ, List.setIfInBounds_toArray, List.set_cons_zero, List.set_cons_succ]
            refine' wpAnyE_take (i := 12) (v := _) rfl (by kernel_rfl) (by kernel_rfl) (by kernel_rfl) (by kernel_rfl) (fun _ _ _ h => h) (Or.inl ⟨by rfl, fun u hu => ?_⟩) hHeld hClosed (fun hNext => ?_)
            rotate_left
            · (try dsimp only at hu)
              go_simp
              try with_reducible rfl
            clear hClosed
            have hClosed := hNext
            clear hNext
            try simp only [Act.put, List.getElem_toArray, List.getElem_cons_zero, List.getElem_cons_succ, List.setIfInBounds_toArray, List.set_cons_zero, List.set_cons_succ]
            refine' wpAnyE_take (i := 13) (v := _) rfl (by kernel_rfl) (by kernel_rfl) (by kernel_rfl) (by kernel_rfl) (fun _ _ _ h => h) (Or.inl ⟨by rfl, fun u hu => ?_⟩) hHeld hClosed (fun hNext => ?_)
            rotate_left
            · (try dsimp only at hu)
              go_simp
              try with_reducible rfl
            clear hClosed
            have hClosed := hNext
            clear hNext
            try simp only [Act.put, List.getElem_toArray, List.getElem_cons_zero, List.getElem_cons_succ, List.setIfInBounds_toArray, List.set_cons_zero, List.set_cons_succ]
            refine' wpAnyE_take (i := 14) (v := _) rfl (by kernel_rfl) (by kernel_rfl) (by kernel_rfl) (by kernel_rfl) (fun _ _ _ h => h) (Or.inl ⟨by rfl, fun u hu => ?_⟩) hHeld hClosed (fun hNext => ?_)
            rotate_left
            · (try dsimp only at hu)
              go_simp
              try with_reducible rfl
            clear hClosed
            have hClosed := hNext
            clear hNext
            try simp only [Act.put, List.getElem_toArray, List.getElem_cons_zero, List.getElem_cons_succ, List.setIfInBounds_toArray, List.set_cons_zero, List.set_cons_succ]
            refine' wpAnyE_take (i := 15) (v := _) rfl (by kernel_rfl) (by kernel_rfl) (by kernel_rfl) (by kernel_rfl) (fun _ _ _ h => h) (Or.inl ⟨by rfl, fun u hu => ?_⟩) hHeld hClosed (fun hNext => ?_)
            rotate_left
            · (try dsimp only at hu)
              go_simp
              try with_reducible rfl
            clear hClosed
            have hClosed := hNext
            clear hNext
            try simp only [Act.put, List.getElem_toArray, List.getElem_cons_zero, List.getElem_cons_succ, List.setIfInBounds_toArray, List.set_cons_zero, List.set_cons_succ]
            refine' wpAnyE_take (i := 16) (v := _) rfl (by kernel_rfl) (by kernel_rfl) (by kernel_rfl) (by kernel_rfl) (fun _ _ _ h => h) (Or.inl ⟨by rfl, fun u hu => ?_⟩) hHeld hClosed (fun hNext => ?_)
            rotate_left
            · (try dsimp only at hu)
              go_simp
              try with_reducible rfl
            clear hClosed
            have hClosed := hNext
            clear hNext
            try simp only [Act.put, List.getElem_toArray, List.getElem_cons_zero, List.getElem_cons_succ, List.setIfInBounds_toArray, List.set_cons_zero, List.set_cons_succ]
            refine' wpAnyE_take (i := 17) (v := _) rfl (by kernel_rfl) (by kernel_rfl) (by kernel_rfl) (by kernel_rfl) (fun _ _ _ h => h) (Or.inl ⟨by rfl, fun u hu => ?_⟩) hHeld hClosed (fun hNext => ?_)
            rotate_left
            · (try dsimp only at hu)
              go_simp
              try with_reducible rfl
            clear hClosed
            have hClosed := hNext
            clear hNext
            try simp only [Act.put, List.getElem_toArray, List.getElem_cons_zero, List.getElem_cons_succ, List.setIfInBounds_toArray, List.set_cons_zero, List.set_cons_succ]
            refine' wpAnyE_take (i := 18) (v := _) rfl (by kernel_rfl) (by kernel_rfl) (by kernel_rfl) (by kernel_rfl) (fun _ _ _ h => h) (Or.inl ⟨by rfl, fun u hu => ?_⟩) hHeld hClosed (fun hNext => ?_)
            rotate_left
            · (try dsimp only at hu)
              go_simp
              try with_reducible rfl
            clear hClosed
            have hClosed := hNext
            clear hNext
            try simp only [Act.put, List.getElem_toArray, List.getElem_cons_zero, List.getElem_cons_succ, List.setIfInBounds_toArray, List.set_cons_zero, List.set_cons_succ]
            refine' wpAnyE_take (i := 19) (v := _) rfl (by kernel_rfl) (by kernel_rfl) (by kernel_rfl) (by kernel_rfl) (fun _ _ _ h => h) (Or.inl ⟨by rfl, fun u hu => ?_⟩) hHeld hClosed (fun hNext => ?_)
            rotate_left
            · (try dsimp only at hu)
              go_simp
              try with_reducible rfl
            clear hClosed
            have hClosed := hNext
            clear hNext
            try simp only [Act.put, List.getElem_toArray, List.getElem_cons_zero, List.getElem_cons_succ, List.setIfInBounds_toArray, List.set_cons_zero, List.set_cons_succ]
            refine' wpAnyE_take (i := 20) (v := _) rfl (by kernel_rfl) (by kernel_rfl) (by kernel_rfl) (by kernel_rfl) (fun _ _ _ h => h) (Or.inl ⟨by rfl, fun u hu => ?_⟩) hHeld hClosed (fun hNext => ?_)
            rotate_left
            · (try dsimp only at hu)
              go_simp
              try with_reducible rfl
            clear hClosed
            have hClosed := hNext
            clear hNext
            try simp only [Act.put, List.getElem_toArray, List.getElem_cons_zero, List.getElem_cons_succ, List.setIfInBounds_toArray, List.set_cons_zero, List.set_cons_succ]
            refine' wpAnyE_take (i := 21) (v := _) rfl (by kernel_rfl) (by kernel_rfl) (by kernel_rfl) (by kernel_rfl) (fun _ _ _ h => h) (Or.inl ⟨by rfl, fun u hu => ?_⟩) hHeld hClosed (fun hNext => ?_)
            rotate_left
            · (try dsimp only at hu)
              go_simp
              try with_reducible rfl
            clear hClosed
            have hClosed := hNext
            clear hNext
            try simp only [Act.put, List.getElem_toArray, List.getElem_cons_zero, List.getElem_cons_succ, List.setIfInBounds_toArray, List.set_cons_zero, List.set_cons_succ]
            refine' wpAnyE_take (i := 22) (v := _) rfl (by kernel_rfl) (by kernel_rfl) (by kernel_rfl) (by kernel_rfl) (fun _ _ _ h => h) (Or.inl ⟨by rfl, fun u hu => ?_⟩) hHeld hClosed (fun hNext => ?_)
            rotate_left
            · (try dsimp only at hu)
              go_simp
              try with_reducible rfl
            clear hClosed
            have hClosed := hNext
            clear hNext
            try simp only [Act.put, List.getElem_toArray, List.getElem_cons_zero, List.getElem_cons_succ, List.setIfInBounds_toArray, List.set_cons_zero, List.set_cons_succ]
            refine' wpAnyE_take (i := 23) (v := _) rfl (by kernel_rfl) (by kernel_rfl) (by kernel_rfl) (by kernel_rfl) (fun _ _ _ h => h) (Or.inl ⟨by rfl, fun u hu => ?_⟩) hHeld hClosed (fun hNext => ?_)
            rotate_left
            · (try dsimp only at hu)
              go_simp
              try with_reducible rfl
            clear hClosed
            have hClosed := hNext
            clear hNext
            try simp only [Act.put, List.getElem_toArray, List.getElem_cons_zero, List.getElem_cons_succ, List.setIfInBounds_toArray, List.set_cons_zero, List.set_cons_succ]
            refine' wpAnyE_take (i := 24) (v := _) rfl (by kernel_rfl) (by kernel_rfl) (by kernel_rfl) (by kernel_rfl) (fun _ _ _ h => h) (Or.inl ⟨by rfl, fun u hu => ?_⟩) hHeld hClosed (fun hNext => ?_)
            rotate_left
            · (try dsimp only at hu)
              go_simp
              try with_reducible rfl
            clear hClosed
            have hClosed := hNext
            clear hNext
            try simp only [Act.put, List.getElem_toArray, List.getElem_cons_zero, List.getElem_cons_succ, List.setIfInBounds_toArray, List.set_cons_zero, List.set_cons_succ]
            refine' wpAnyE_take (i := 25) (v := _) rfl (by kernel_rfl) (by kernel_rfl) (by kernel_rfl) (by kernel_rfl) (fun _ _ _ h => h) (Or.inl ⟨by rfl, fun u hu => ?_⟩) hHeld hClosed (fun hNext => ?_)
            rotate_left
            · (try dsimp only at hu)
              go_simp
              try with_reducible rfl
            clear hClosed
            have hClosed := hNext
            clear hNext
            try simp only [Act.put, List.getElem_toArray, List.getElem_cons_zero, List.getElem_cons_succ, List.setIfInBounds_toArray, List.set_cons_zero, List.set_cons_succ]
            refine' wpAnyE_take (i := 26) (v := _) rfl (by kernel_rfl) (by kernel_rfl) (by kernel_rfl) (by kernel_rfl) (fun _ _ _ h => h) (Or.inr ⟨by rfl, rfl⟩) hHeld hClosed (fun hNext => ?_)
            clear hClosed
            have hClosed := hNext
            clear hNext
            try simp only [Act.put, List.getElem_toArray, List.getElem_cons_zero, List.getElem_cons_succ, List.setIfInBounds_toArray, List.set_cons_zero, List.set_cons_succ]
            refine' wpAnyE_take (i := 27) (v := _) rfl (by kernel_rfl) (by kernel_rfl) (by kernel_rfl) (by kernel_rfl) (fun _ _ _ h => h) (Or.inr ⟨by rfl, rfl⟩) hHeld hClosed (fun hNext => ?_)
            clear hClosed
            have hClosed := hNext
            clear hNext
            try simp only [Act.put, List.getElem_toArray, List.getElem_cons_zero, List.getElem_cons_succ, List.setIfInBounds_toArray, List.set_cons_zero, List.set_cons_succ]
            refine' wpAnyE_take (i := 28) (v := _) rfl (by kernel_rfl) (by kernel_rfl) (by kernel_rfl) (by kernel_rfl) (fun _ _ _ h => h) (Or.inr ⟨by rfl, rfl⟩) hHeld hClosed (fun hNext => ?_)
            clear hClosed
            have hClosed := hNext
            clear hNext
            try simp only [Act.put, List.getElem_toArray, List.getElem_cons_zero, List.getElem_cons_succ, List.setIfInBounds_toArray, List.set_cons_zero, List.set_cons_succ]
            refine' wpAnyE_take (i := 29) (v := _) rfl (by kernel_rfl) (by kernel_rfl) (by kernel_rfl) (by kernel_rfl) (fun _ _ _ h => h) (Or.inr ⟨by rfl, rfl⟩) hHeld hClosed (fun hNext => ?_)
            clear hClosed
            have hClosed := hNext
            clear hNext
            try simp only [Act.put, List.getElem_toArray, List.getElem_cons_zero, List.getElem_cons_succ, List.setIfInBounds_toArray, List.set_cons_zero, List.set_cons_succ]
            refine' wpAnyE_take (i := 30) (v := _) rfl (by kernel_rfl) (by kernel_rfl) (by kernel_rfl) (by kernel_rfl) (fun _ _ _ h => h) (Or.inr ⟨by rfl, rfl⟩) hHeld hClosed (fun hNext => ?_)
            clear hClosed
            have hClosed := hNext
            clear hNext
            try simp only [Act.put, List.getElem_toArray, List.getElem_cons_zero, List.getElem_cons_succ, List.setIfInBounds_toArray, List.set_cons_zero, List.set_cons_succ]
            refine' wpAnyE_take (i := 31) (v := _) rfl (by kernel_rfl) (by kernel_rfl) (by kernel_rfl) (by kernel_rfl) (fun _ _ _ h => h) (Or.inr ⟨by rfl, rfl⟩) hHeld hClosed (fun hNext => ?_)
            clear hClosed
            have hClosed := hNext
            clear hNext
            try simp only [Act.put, List.getElem_toArray, List.getElem_cons_zero, List.getElem_cons_succ, List.setIfInBounds_toArray, List.set_cons_zero, List.set_cons_succ]
            refine' wpAnyE_take (i := 32) (v := _) rfl (by kernel_rfl) (by kernel_rfl) (by kernel_rfl) (by kernel_rfl) (fun _ _ _ h => h) (Or.inr ⟨by rfl, rfl⟩) hHeld hClosed (fun hNext => ?_)
            clear hClosed
            have hClosed := hNext
            clear hNext
            try simp only [Act.put, List.getElem_toArray, List.getElem_cons_zero, List.getElem_cons_succ, List.setIfInBounds_toArray, List.set_cons_zero, List.set_cons_succ]
            refine' wpAnyE_take (i := 33) (v := _) rfl (by kernel_rfl) (by kernel_rfl) (by kernel_rfl) (by kernel_rfl) (fun _ _ _ h => h) (Or.inr ⟨by rfl, rfl⟩) hHeld hClosed (fun hNext => ?_)
            clear hClosed
            have hClosed := hNext
            clear hNext
            try simp only [Act.put, List.getElem_toArray, List.getElem_cons_zero, List.getElem_cons_succ, List.setIfInBounds_toArray, List.set_cons_zero, List.set_cons_succ]
            refine' wpAnyE_take (i := 34) (v := _) rfl (by kernel_rfl) (by kernel_rfl) (by kernel_rfl) (by kernel_rfl) (fun _ _ _ h => h) (Or.inr ⟨by rfl, rfl⟩) hHeld hClosed (fun hNext => ?_)
            clear hClosed
            have hClosed := hNext
            clear hNext
            try simp only [Act.put, List.getElem_toArray, List.getElem_cons_zero, List.getElem_cons_succ, List.setIfInBounds_toArray, List.set_cons_zero, List.set_cons_succ]
            refine' wpAnyE_take (i := 35) (v := _) rfl (by kernel_rfl) (by kernel_rfl) (by kernel_rfl) (by kernel_rfl) (fun _ _ _ h => h) (Or.inr ⟨by rfl, rfl⟩) hHeld hClosed (fun hNext => ?_)
            clear hClosed
            have hClosed := hNext
            clear hNext
            try simp only [Act.put, List.getElem_toArray, List.getElem_cons_zero, List.getElem_cons_succ, List.setIfInBounds_toArray, List.set_cons_zero, List.set_cons_succ]
            refine' wpAnyE_take (i := 36) (v := _) rfl (by kernel_rfl) (by kernel_rfl) (by kernel_rfl) (by kernel_rfl) (fun _ _ _ h => h) (Or.inr ⟨by rfl, rfl⟩) hHeld hClosed (fun hNext => ?_)
            clear hClosed
            have hClosed := hNext
            clear hNext
            try simp only [Act.put, List.getElem_toArray, List.getElem_cons_zero, List.getElem_cons_succ, List.setIfInBounds_toArray, List.set_cons_zero, List.set_cons_succ]
            refine' wpAnyE_take (i := 37) (v := _) rfl (by kernel_rfl) (by kernel_rfl) (by kernel_rfl) (by kernel_rfl) (fun _ _ _ h => h) (Or.inl ⟨by rfl, fun u hu => ?_⟩) hHeld hClosed (fun hNext => ?_)
            rotate_left
            · (try dsimp only at hu)
              go_simp
              try with_reducible rfl
            clear hClosed
            have hClosed := hNext
            clear hNext
            try simp only [Act.put, List.getElem_toArray, List.getElem_cons_zero, List.getElem_cons_succ, List.setIfInBounds_toArray, List.set_cons_zero, List.set_cons_succ]
            refine' wpAnyE_take (i := 38) (v := _) rfl (by kernel_rfl) (by kernel_rfl) (by kernel_rfl) (by kernel_rfl) (fun _ _ _ h => h) (Or.inl ⟨by rfl, fun u hu => ?_⟩) hHeld hClosed (fun hNext => ?_)
            rotate_left
            · (try dsimp only at hu)
              go_simp
              try with_reducible rfl
            clear hClosed
            have hClosed := hNext
            clear hNext
            try simp only [Act.put, List.getElem_toArray, List.getElem_cons_zero, List.getElem_cons_succ, List.setIfInBounds_toArray, List.set_cons_zero, List.set_cons_succ]
            refine' wpAnyE_take (i := 39) (v := _) rfl (by kernel_rfl) (by kernel_rfl) (by kernel_rfl) (by kernel_rfl) (fun _ _ _ h => h) (Or.inr ⟨by rfl, rfl⟩) hHeld hClosed (fun hNext => ?_)
            clear hClosed
            have hClosed := hNext
            clear hNext
            try simp only [Act.put, List.getElem_toArray, List.getElem_cons_zero, List.getElem_cons_succ, List.setIfInBounds_toArray, List.set_cons_zero, List.set_cons_succ]
            refine' wpAnyE_take (i := 40) (v := _) rfl (by kernel_rfl) (by kernel_rfl) (by kernel_rfl) (by kernel_rfl) (fun _ _ _ h => h) (Or.inr ⟨by rfl, rfl⟩) hHeld hClosed (fun hNext => ?_)
            clear hClosed
            have hClosed := hNext
            clear hNext
            try simp only [Act.put, List.getElem_toArray, List.getElem_cons_zero, List.getElem_cons_succ, List.setIfInBounds_toArray, List.set_cons_zero, List.set_cons_succ]
            refine' wpAnyE_take (i := 41) (v := _) rfl (by kernel_rfl) (by kernel_rfl) (by kernel_rfl) (by kernel_rfl) (fun _ _ _ h => h) (Or.inr ⟨by rfl, rfl⟩) hHeld hClosed (fun hNext => ?_)
            clear hClosed
            have hClosed := hNext
            clear hNext
            try simp only [Act.put, List.getElem_toArray, List.getElem_cons_zero, List.getElem_cons_succ, List.setIfInBounds_toArray, List.set_cons_zero, List.set_cons_succ]
            refine' wpAnyE_take (i := 42) (v := _) rfl (by kernel_rfl) (by kernel_rfl) (by kernel_rfl) (by kernel_rfl) (fun _ _ _ h => h) (Or.inr ⟨by rfl, rfl⟩) hHeld hClosed (fun hNext => ?_)
            clear hClosed
            have hClosed := hNext
            clear hNext
            try simp only [Act.put, List.getElem_toArray, List.getElem_cons_zero, List.getElem_cons_succ, List.setIfInBounds_toArray, List.set_cons_zero, List.set_cons_succ]
            refine' wpAnyE_take (i := 43) (v := _) rfl (by kernel_rfl) (by kernel_rfl) (by kernel_rfl) (by kernel_rfl) (fun _ _ _ h => h) (Or.inr ⟨by rfl, rfl⟩) hHeld hClosed (fun hNext => ?_)
            clear hClosed
            have hClosed := hNext
            clear hNext
            try simp only [Act.put, List.getElem_toArray, List.getElem_cons_zero, List.getElem_cons_succ, List.setIfInBounds_toArray, List.set_cons_zero, List.set_cons_succ]
            refine' wpAnyE_take (i := 44) (v := _) rfl (by kernel_rfl) (by kernel_rfl) (by kernel_rfl) (by kernel_rfl) (fun _ _ _ h => h) (Or.inr ⟨by rfl, rfl⟩) hHeld hClosed (fun hNext => ?_)
            clear hClosed
            have hClosed := hNext
            clear hNext
            try simp only [Act.put, List.getElem_toArray, List.getElem_cons_zero, List.getElem_cons_succ, List.setIfInBounds_toArray, List.set_cons_zero, List.set_cons_succ]
            refine' wpAnyE_take (i := 45) (v := _) rfl (by kernel_rfl) (by kernel_rfl) (by kernel_rfl) (by kernel_rfl) (fun _ _ _ h => h) (Or.inr ⟨by rfl, rfl⟩) hHeld hClosed (fun hNext => ?_)
            clear hClosed
            have hClosed := hNext
            clear hNext
            try simp only [Act.put, List.getElem_toArray, List.getElem_cons_zero, List.getElem_cons_succ, List.setIfInBounds_toArray, List.set_cons_zero, List.set_cons_succ]
            refine' wpAnyE_take (i := 46) (v := _) rfl (by kernel_rfl) (by kernel_rfl) (by kernel_rfl) (by kernel_rfl) (fun _ _ _ h => h) (Or.inr ⟨by rfl, rfl⟩) hHeld hClosed (fun hNext => ?_)
            clear hClosed
            have hClosed := hNext
            clear hNext
            try simp only [Act.put, List.getElem_toArray, List.getElem_cons_zero, List.getElem_cons_succ, List.setIfInBounds_toArray, List.set_cons_zero, List.set_cons_succ]
            refine' wpAnyE_take (i := 47) (v := _) rfl (by kernel_rfl) (by kernel_rfl) (by kernel_rfl) (by kernel_rfl) (fun _ _ _ h => h) (Or.inr ⟨by rfl, rfl⟩) hHeld hClosed (fun hNext => ?_)
            clear hClosed
            have hClosed := hNext
            clear hNext
            try simp only [Act.put, List.getElem_toArray, List.getElem_cons_zero, List.getElem_cons_succ, List.setIfInBounds_toArray, List.set_cons_zero, List.set_cons_succ]
            refine' wpAnyE_take (i := 48) (v := _) rfl (by kernel_rfl) (by kernel_rfl) (by kernel_rfl) (by kernel_rfl) (fun _ _ _ h => h) (Or.inr ⟨by rfl, rfl⟩) hHeld hClosed (fun hNext => ?_)
            clear hClosed
            have hClosed := hNext
            clear hNext
            try simp only [Act.put, List.getElem_toArray, List.getElem_cons_zero, List.getElem_cons_succ, List.setIfInBounds_toArray, List.set_cons_zero, List.set_cons_succ]
            refine' wpAnyE_take (i := 49) (v := _) rfl (by kernel_rfl) (by kernel_rfl) (by kernel_rfl) (by kernel_rfl) (fun _ _ _ h => h) (Or.inr ⟨by rfl, rfl⟩) hHeld hClosed (fun hNext => ?_)
            clear hClosed
            have hClosed := hNext
            clear hNext
            try simp only [Act.put, List.getElem_toArray, List.getElem_cons_zero, List.getElem_cons_succ, List.setIfInBounds_toArray, List.set_cons_zero, List.set_cons_succ]
            refine' wpAnyE_take (i := 50) (v := _) rfl (by kernel_rfl) (by kernel_rfl) (by kernel_rfl) (by kernel_rfl) (fun _ _ _ h => h) (Or.inl ⟨by rfl, fun u hu => ?_⟩) hHeld hClosed (fun hNext => ?_)
            rotate_left
            · (try dsimp only at hu)
              go_simp
              try with_reducible rfl
            clear hClosed
            have hClosed := hNext
            clear hNext
            try simp only [Act.put, List.getElem_toArray, List.getElem_cons_zero, List.getElem_cons_succ, List.setIfInBounds_toArray, List.set_cons_zero, List.set_cons_succ]
            refine wpAnyE_done (by kernel_rfl) ?_ _
            clear hClosed
            go_wp2_with fail
            go_ret
            exact ⟨ret_bool (by
              rw [eq_comm, decide_eq_false_iff_not]
              intro e
              have h1 := XS.out.1
              have h2 := XS.out.2
              subst e
              rw [h1] at h2
              injection h2 with h2 h3 h4 h5
              simp [h3] at e2), HB.out.trans (B5.out.mono HB.out.size)⟩

      · obtain rfl : k = L.length := by omega
        go_wp2
        go_ret
        refine ⟨ret_bool ?_, HB.out⟩
        have h1 := HE.out
        have h2 := HN.out
        rw [List.take_of_length_le (by omega), List.take_of_length_le (by omega)] at h1
        simp [h1]
  · have hd : ((L.length : Int) != (L'.length : Int)) = true := by simp; omega
    have HN := Lib.hid hn
    clear hn
    go_enter Try.func9, Try.ntmps9
    go_wp2
    go_ret
    refine ⟨ret_bool ?_, Below.refl _ _⟩
    have := HN.out
    rw [eq_comm, decide_eq_false_iff_not]
    intro e
    exact this (congrArg List.length e)
end Go.Proofs.Ytajgjloailliiaa
