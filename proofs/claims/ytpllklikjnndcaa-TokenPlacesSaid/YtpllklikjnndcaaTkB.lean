/- Layer 15: the reader's next, sees, class, escape, item, upTo. -/
import Derived.Test.YtpllklikjnndcaaTkA
import Derived.Test.YtpllklikjnndcaaHeld
import Derived.BigQuiet
namespace Go.Proofs.Ytpllklikjnndcaa
open Go.RowKit

theorem tkwrap {k : Nat} (h : k ≤ 1000) : IntKind.i64.wrap ((k : Int) + 1) = ((k + 1 : Nat) : Int) := by rw [IntWalk.i64_in _ (by omega)]; omega

/-- a block as a row of one cell each -/
theorem OwnN.ofBox {w : World} {g : Nat} {cs : Array Value} {e : TypeId} (h : Box w g cs e) (hm : cs.size ≤ maxLen) : OwnN w g e 1 (.slice (some ⟨g, 0, none⟩) cs.toList.length cs.size) cs.toList.length cs.toList :=
  ⟨by simp, .inr ⟨g, cs.size, cs, rfl, Nat.le_refl _, h, by simp, hm, by simp, List.take_of_length_le (by simp)⟩⟩
theorem Box.ofOwn {w : World} {B g n m : Nat} {e : TypeId} {xs : List Value} (h : OwnN w B e 1 (.slice (some ⟨g, 0, none⟩) m n) m xs) (hn : m = n) : Box w g xs.toArray e := by
  subst hn
  rcases h.2 with ⟨hv, _⟩ | ⟨g', cap, cur, hv, hbg, hh, hc, hm, hs, ht⟩
  · cases hv
  · injection hv with h1 _ h3
    injection h1 with h1
    injection h1 with h1
    subst h1 h3
    unfold Box
    rw [hh]
    congr 2
    have h4 : cur.toList = xs := by rw [← ht, List.take_of_length_le (by simp; omega)]
    rw [← h4]
section
variable {P : Program} {ops : Array Oper} {rest : List Oper} {o : Oper} {a : Act} {Q : Exit → Act → World → Prop}
/-- at a store of one cell into a box -/
theorem store_in {t e : TypeId} (W : World) (x y : Operand) (g j : Nat) (u : Value) (cs : Array Value)
    (hgd : o.guard = none) (hd : o.dst = none) (ho : o.op = .store t x y) (ht : (P.info? t).map (·.size) = some 1) (hu : u.oneCell' = true) (hx : a.eval x = .pointer (some ⟨g, j, none⟩)) (hy : a.eval y = u) (hb : Box W g cs e) (hj : j < cs.size) (hm : cs.size ≤ maxLen)
    (h : ∀ w', Box w' g (cs.setIfInBounds j u) e → W.grownBy w' (some g) → wpList P ops Q rest a w') : wpList P ops Q (o :: rest) a W := by
  refine store_cell W g x y g j cs.size u cs.toList W hgd hd ho ht hu hx hy (OwnN.ofBox hb hm) (by simpa using hj) (Below.refl _ _) fun w' h1 _ h3 => h w' ?_ h3
  have h4 : OwnN w' g e 1 (.slice (some ⟨g, 0, none⟩) (cs.toList.set j u).length cs.size) (cs.toList.set j u).length (cs.toList.set j u) := by simpa using h1
  have h5 := Box.ofOwn h4 (by simp)
  rw [← Array.toList_setIfInBounds, Array.toArray_toList] at h5
  exact h5
end
section
variable {P : Program} {ops : Array Oper} {o : Oper} {a : Act} {K : Act → World → Prop} {Q : Exit → Act → World → Prop} {E : Prop}
/-- .. at a step of a region -/
theorem step_in {t e : TypeId} (W : World) (x y : Operand) (g j : Nat) (u : Value) (cs : Array Value)
    (hgd : o.guard = none) (hd : o.dst = none) (ho : o.op = .store t x y) (ht : (P.info? t).map (·.size) = some 1) (hu : u.oneCell' = true) (hx : a.eval x = .pointer (some ⟨g, j, none⟩)) (hy : a.eval y = u) (hb : Box W g cs e) (hj : j < cs.size) (hm : cs.size ≤ maxLen)
    (h : ∀ w', Box w' g (cs.setIfInBounds j u) e → W.grownBy w' (some g) → K a w') : if Region.wanted o (yielded ops a.tmps) = true then Oper.wp P o a W K Q else E := by
  refine step_store W g x y g j cs.size u cs.toList W hgd hd ho ht hu hx hy (OwnN.ofBox hb hm) (by simpa using hj) (Below.refl _ _) fun w' h1 _ h3 => h w' ?_ h3
  have h4 : OwnN w' g e 1 (.slice (some ⟨g, 0, none⟩) (cs.toList.set j u).length cs.size) (cs.toList.set j u).length (cs.toList.set j u) := by simpa using h1
  have h5 := Box.ofOwn h4 (by simp)
  rw [← Array.toList_setIfInBounds, Array.toArray_toList] at h5
  exact h5
end
theorem IsR.went {w w' : World} {b c k k' : Nat} {A : Option Addr} {l : List Int} {tv : Value} {T : List Tok} (h : IsR w b A l c k tv T) (hb : Box w' b #[.slice A l.length c, .int .i64 k', tv] 44) (hg : w.grownBy w' (some b)) (hk : k' ≤ l.length) : IsR w' b A l c k' tv T :=
  ⟨hb, h.toks.keep hg (.inr h.far), h.lies.same (fun q hq => World.cell?_of_block (hg.block q.block (by have := h.lt; omega) (fun e => by injection e with e; omega))), hk, h.cap⟩

set_option maxHeartbeats 1000000 in
theorem tknext_any (w : World) (b c k : Nat) (A : Option Addr) (l : List Int) (tv : Value) (T : List Tok) (h : IsR w b A l c k tv T) (hl : l.length ≤ 1000) :
    Calls Try.prog 19 #[.pointer (some ⟨b, 0, none⟩)] w (Told w b A l c tv T (Value.int .i64) (nxT l k)) := by
  obtain ⟨h0, h1, h2⟩ := h.cells
  have hf := h.frozen 1
  have H := Lib.hid h
  by_cases hk : k < l.length
  · rw [nxT_at hk]
    obtain ⟨p, rfl, -, hc⟩ := h.char hk
    have d1 : ((k : Int) == (l.length : Int)) = false := by simp; omega
    have k0 : (0 : Int) ≤ (k : Int) := by omega
    have k1 : (k : Int) < (l.length : Int) := by omega
    have hw := tkwrap (k := k) (by omega)
    obtain ⟨x, hx⟩ : ∃ x, l[k] = x := ⟨_, rfl⟩
    rw [hx] at hc ⊢
    clear h
    go_enter Try.func19, Try.ntmps19
    go_wp2
    go_quiet (fail)
    go_wp2
    go_quiet (fail)
    go_wp2
    go_ret
    exact ⟨rfl, (H.out.drewN _).goes (k + 1) (by omega), (grown_draws (grown_refl _ _) _).trans (grown_set _ _ _ _)⟩
  · have hkl : k = l.length := by have := h.le; omega
    rw [nxT_end (by omega)]
    have d1 : ((k : Int) == (l.length : Int)) = true := by simp; omega
    clear h
    go_enter Try.func19, Try.ntmps19
    go_wp2
    go_quiet (fail)
    go_wp2
    exact ⟨rfl, rfl, grown_draws (grown_refl _ _) _⟩
theorem beq_eq_decide' (a b : Int) : decide (some a = some b) = (a == b) := by
  by_cases h : a = b <;> simp [h]
/-- it stays while a box is written that is neither the reader nor its tokens -/
theorem IsR.new {w w' : World} {b c k g : Nat} {A : Option Addr} {l : List Int} {tv : Value} {T : List Tok} (h : IsR w b A l c k tv T) (hg : w.grownBy w' (some g)) (hb : b < g) (hv : tv.ownBlock ≠ some g) : IsR w' b A l c k tv T :=
  h.kept hg (by simp; omega) (fun x e => by injection e with e; omega) (.inr hv)
theorem grown_any {w w' : World} (h : w.grownBy w' none) (row : Option Nat) : w.grownBy w' row := ⟨h.os, h.tape, h.output, h.size, fun k hk _ => h.block k hk (by simp)⟩
/-- a reader's tokens lie where they lay -/
theorem IsR.old {w : World} {b c k g : Nat} {A : Option Addr} {l : List Int} {tv : Value} {T : List Tok} (h : IsR w b A l c k tv T) (hg : w.heap.size ≤ g) : tv.ownBlock ≠ some g := fun e => by
  have := (h.toks.inside g e).2; omega
theorem intInfo : (Try.prog.info? 3).map (·.size) = some 1 := by kernel_rfl
section
variable {ops : Array Oper} {rest : List Oper} {o : Oper} {a : Act} {Q : Exit → Act → World → Prop}
/-- at a store of where the reader goes on -/
theorem store_at (W : World) (x y : Operand) {b c k : Nat} {A : Option Addr} {l : List Int} {tv : Value} {T : List Tok} (k' : Nat)
    (hgd : o.guard = none) (hd : o.dst = none) (ho : o.op = .store 3 x y) (hx : a.eval x = .pointer (some ⟨b, 1, none⟩)) (hy : a.eval y = .int .i64 (k' : Int)) (h : IsR W b A l c k tv T) (hk : k' ≤ l.length)
    (hn : ∀ w', IsR w' b A l c k' tv T → W.grownBy w' (some b) → wpList Try.prog ops Q rest a w') : wpList Try.prog ops Q (o :: rest) a W :=
  store_in W x y b 1 (.int .i64 (k' : Int)) _ hgd hd ho intInfo rfl hx hy h.box (by simp) (by simp [maxLen]) fun w' h1 h2 => hn w' (h.went h1 h2 hk) h2
/-- at a store of a token's character -/
theorem store_char (W : World) (x y : Operand) (g : Nat) (t : Tok) (n : Int)
    (hgd : o.guard = none) (hd : o.dst = none) (ho : o.op = .store 3 x y) (hx : a.eval x = .pointer (some ⟨g, 1, none⟩)) (hy : a.eval y = .int .i64 n) (hb : Box W g t.arr 30)
    (h : ∀ w', Box w' g (⟨t.k, n, t.lo, t.hi, t.pos⟩ : Tok).arr 30 → W.grownBy w' (some g) → wpList Try.prog ops Q rest a w') : wpList Try.prog ops Q (o :: rest) a W :=
  store_in W x y g 1 (.int .i64 n) _ hgd hd ho intInfo rfl hx hy hb (by simp) (by simp [maxLen]) fun w' h1 h2 => h w' h1 h2
end
/-- does a character stand there? -/
def seesB (l : List Int) (i : Nat) (x : Int) : Bool := decide (l[i]? = some x)
set_option maxHeartbeats 1000000 in
theorem tksees_any (w : World) (b c k : Nat) (A : Option Addr) (l : List Int) (tv : Value) (T : List Tok) (h : IsR w b A l c k tv T) (hl : l.length ≤ 1000) (n : Nat) (y x : Int) (hy : y = (n : Int)) (hn : n ≤ 1000) :
    Calls Try.prog 26 #[.pointer (some ⟨b, 0, none⟩), .int .i64 y, .int .i64 x] w fun e w' => e = .returned (.bool (seesB l (k + n) x)) ∧ w = w' := by
  subst hy
  obtain ⟨h0, h1, h2⟩ := h.cells
  have hkl := h.le
  obtain ⟨i, hi⟩ : ∃ i, k + n = i := ⟨_, rfl⟩
  have hw : IntKind.i64.wrap ((k : Int) + (n : Int)) = (i : Int) := by rw [IntWalk.i64_in _ (by omega)]; omega
  rw [hi]
  by_cases hk : i < l.length
  · obtain ⟨p, rfl, -, hc⟩ := h.char hk
    have k0 : (0 : Int) ≤ (i : Int) := by omega
    have k1 : (i : Int) < (l.length : Int) := by omega
    have d1 : decide ((i : Int) < (l.length : Int)) = true := by simpa using hk
    have e1 : seesB l i x = (l[i] == x) := by rw [seesB, List.getElem?_eq_getElem hk]; rw [beq_eq_decide']
    rw [e1]
    obtain ⟨z, hz⟩ : ∃ z, l[i] = z := ⟨_, rfl⟩
    rw [hz] at hc ⊢
    clear h e1 hz hi
    go_enter Try.func26, Try.ntmps26
    go_wp2
    go_ret
    exact ⟨rfl, rfl⟩
  · have e1 : seesB l i x = false := by rw [seesB, List.getElem?_eq_none (by omega)]; simp
    have d1 : decide ((i : Int) < (l.length : Int)) = false := by simp; omega
    rw [e1]
    clear h e1 hi
    go_enter Try.func26, Try.ntmps26
    go_wp2
    go_ret
    exact ⟨rfl, rfl⟩

set_option maxHeartbeats 1000000 in
theorem tkclass_any (w : World) (b c k : Nat) (A : Option Addr) (l : List Int) (tv : Value) (T : List Tok) (h : IsR w b A l c k tv T) (hl : l.length ≤ 1000) :
    Calls Try.prog 23 #[.pointer (some ⟨b, 0, none⟩)] w fun e w' => e = .returned (.agg (claT l k).1.arr) ∧ IsR w' b A l c (claT l k).2 tv T ∧ w.grownBy w' (some b) := by
  obtain ⟨w0, hw0⟩ : ∃ u, w.alloc (.cells #[.int .i64 0, .int .i64 0, .int .i64 0, .int .i64 0, .int .i64 0] 30) = u := ⟨_, rfl⟩
  have X0 : Hid (Box w0 w.heap.size noTok.arr 30) := Lib.hid (hw0 ▸ Box.new w _ _)
  have G0 : Hid (w.grownBy w0 none) := Lib.hid (hw0 ▸ grown_new w _ _)
  have H0 : Hid (IsR w0 b A l c k tv T) := Lib.hid (h.grown G0.out)
  have hbw := h.lt
  have HO : Hid (∀ g, w.heap.size ≤ g → tv.ownBlock ≠ some g) := Lib.hid fun g hg => h.old hg
  have Z0 : Hid (w0.heap.size = w.heap.size + 1) := Lib.hid (by rw [← hw0]; simp)
  have HW0 := Lib.hid hw0
  clear h hw0
  obtain ⟨w1, hw1⟩ : ∃ u, w0.alloc (.cells #[.int .i64 7, .int .i64 0, .int .i64 0, .int .i64 0, .int .i64 0] 30) = u := ⟨_, rfl⟩
  have HW1 := Lib.hid hw1
  have X1 : Hid (Box w1 (w.heap.size + 1) (⟨7, 0, 0, 0, 0⟩ : Tok).arr 30) := Lib.hid (by rw [← Z0.out, ← hw1]; exact Box.new w0 _ _)
  have Y1 : Hid (Box w1 w.heap.size noTok.arr 30) := Lib.hid (X0.out.kept (hw1 ▸ grown_new w0 _ none) (by simp))
  have G1 : Hid (w.grownBy w1 none) := Lib.hid (G0.out.trans (hw1 ▸ grown_new w0 _ _))
  have H1 : Hid (IsR w1 b A l c k tv T) := Lib.hid (H0.out.grown (hw1 ▸ grown_new w0 _ _))
  clear hw1
  rcases hs : seesB l (k + 0) 94 with _ | _
  · have HC : Hid (claT l k = (⟨7, 0, 0, 0, 0⟩, k)) := Lib.hid (by unfold claT; rw [if_neg (by simpa [seesB] using hs)])
    rw [HC.out]
    have HS := Lib.hid hs
    clear hs
    go_enter Try.func23, Try.ntmps23
    go_wp2_with fail
    rw [HW0.out, HW1.out]
    refine (tksees_any w1 b c k A l tv T H1.out hl 0 0 94 rfl (by omega)).mono ?_
    rintro e wq ⟨rfl, rfl⟩
    rw [HS.out]
    go_wp2_with (first
      | (refine load_box _ (w.heap.size + 1) _ _ rfl rfl rfl X1.out Try.underlying30 rfl (tokInfo _) ?_)
      | (refine store_tok w1 _ _ w.heap.size noTok ⟨7, 0, 0, 0, 0⟩ rfl rfl rfl rfl rfl Y1.out ?_; intro w2 x2 g2; have X2 := Lib.hid x2; have G2 := Lib.hid g2; clear x2 g2)
      | fail)
    (try simp only [Exit.inBlock, Exit.then])
    exact bodyPost_ret (v := .agg (⟨7, 0, 0, 0, 0⟩ : Tok).arr) (ret_tok rfl _ _ w.heap.size _ rfl X2.out) rfl ⟨rfl, H1.out.new G2.out hbw (HO.out _ (Nat.le_refl _)), grown_two (grown_any G1.out _) G2.out (Nat.le_refl _)⟩
  · have hk : k < l.length := by
      rw [seesB, Nat.add_zero] at hs
      exact (List.getElem?_eq_some_iff.1 (of_decide_eq_true hs)).1
    have HC : Hid (claT l k = (⟨7, 1, 0, 0, 0⟩, k + 1)) := Lib.hid (by unfold claT; rw [if_pos (by simpa [seesB] using hs)])
    rw [HC.out]
    have HS := Lib.hid hs
    have hw := tkwrap (k := k) (by omega)
    obtain ⟨h0, h1, h2⟩ := H1.out.cells
    clear hs
    go_enter Try.func23, Try.ntmps23
    go_wp2_with fail
    rw [HW0.out, HW1.out]
    refine (tksees_any w1 b c k A l tv T H1.out hl 0 0 94 rfl (by omega)).mono ?_
    rintro e wq ⟨rfl, rfl⟩
    rw [HS.out]
    go_wp2_with (first
      | (refine store_at w1 _ _ (k + 1) rfl rfl rfl rfl rfl H1.out hk ?_; intro w2 h2 g2; have H2 := Lib.hid h2; have X2 := Lib.hid (X1.out.kept g2 (by simp; omega)); have Y2 := Lib.hid (Y1.out.kept g2 (by simp; omega)); have G2 := Lib.hid ((grown_any G1.out (some b)).trans g2); clear h2 g2)
      | (refine store_char w2 _ _ (w.heap.size + 1) ⟨7, 0, 0, 0, 0⟩ 1 rfl rfl rfl rfl rfl X2.out ?_; intro w3 x3 g3; have H3 := Lib.hid (H2.out.new g3 (by omega) (HO.out _ (by omega))); have X3 : Hid (Box w3 (w.heap.size + 1) (⟨7, 1, 0, 0, 0⟩ : Tok).arr 30) := Lib.hid x3; have Y3 := Lib.hid (Y2.out.kept g3 (by simp)); have G3 := Lib.hid (grown_two G2.out g3 (by omega)); clear x3 g3)
      | (refine load_box _ (w.heap.size + 1) _ _ rfl rfl rfl X3.out Try.underlying30 rfl (tokInfo _) ?_)
      | (refine store_tok w3 _ _ w.heap.size noTok ⟨7, 1, 0, 0, 0⟩ rfl rfl rfl rfl rfl Y3.out ?_; intro w4 x4 g4; have X4 := Lib.hid x4; have G4 := Lib.hid g4; clear x4 g4)
      | fail)
    (try simp only [Exit.inBlock, Exit.then])
    exact bodyPost_ret (v := .agg (⟨7, 1, 0, 0, 0⟩ : Tok).arr) (ret_tok rfl _ _ w.heap.size _ rfl X4.out) rfl ⟨rfl, H3.out.new G4.out hbw (HO.out _ (Nat.le_refl _)), grown_two G3.out G4.out (Nat.le_refl _)⟩
end Go.Proofs.Ytpllklikjnndcaa
