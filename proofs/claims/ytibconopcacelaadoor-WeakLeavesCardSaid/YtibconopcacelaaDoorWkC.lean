/- Layer 9: the program's rules on a list of its own: marks, numbers, exchange, separators. -/
import Derived.Test.YtibconopcacelaaDoorWkB
namespace Go.Proofs.YtibconopcacelaaDoor
open Go.RowKit

theorem w1_at : ∀ (p : Int) (l : List Int) (k : Nat), k < l.length → w1K ((p :: rW1 p l).getD k 0) (l.getD k 0) = (rW1 p l).getD k 0
  | _, [], k, h => by simp at h
  | p, x :: l, 0, _ => rfl
  | p, x :: l, k + 1, h => by
    have := w1_at (w1K p x) l k (by simpa using h)
    exact this
theorem wS_at (a b : Int) : ∀ (s : Int) (l : List Int) (k : Nat), k < l.length → (if l.getD k 0 = 3 ∧ lastStrong s (l.take k) = a then b else l.getD k 0) = (rWS a b s l).getD k 0
  | _, [], k, h => by simp at h
  | s, x :: l, 0, _ => rfl
  | s, x :: l, k + 1, h => by
    have := wS_at a b (if isStrong x then x else s) l k (by simpa using h)
    exact this
theorem getD_at {l : List Int} {k : Nat} (h : k < l.length) : l.getD k 0 = l[k] := by rw [List.getD_eq_getElem?_getD, List.getElem?_eq_getElem h, Option.getD_some]
theorem strong_next (l : List Int) (s : Int) {k : Nat} (h : k < l.length) : (if isStrong (l.getD k 0) then l.getD k 0 else lastStrong s (l.take k)) = lastStrong s (l.take (k + 1)) := by
  rw [strong_step l s h, getD_at h]
theorem map_at (f : Int → Int) {l : List Int} {k : Nat} (h : k < l.length) : f (l.getD k 0) = (l.map f).getD k 0 := by
  rw [getD_at h, getD_at (by simpa using h), List.getElem_map]
/-- rule 4 at one place -/
def w4K (p k : Int) (nx : Option Int) : Int := if (k = 4 ∧ p = 3 ∧ nx = some 3) ∨ (k = 7 ∧ (p = 3 ∨ p = 6) ∧ nx = some p) then p else k
theorem w4_at : ∀ (p : Int) (l : List Int) (k : Nat), k < l.length → w4K ((p :: rW4 p l).getD k 0) (l.getD k 0) l[k + 1]? = (rW4 p l).getD k 0
  | _, [], k, h => by simp at h
  | p, x :: l, 0, _ => by
    show w4K p x (x :: l)[0 + 1]? = _
    rw [Nat.zero_add, List.getElem?_cons_succ, ← List.head?_eq_getElem?]
    rfl
  | p, x :: l, k + 1, h => by
    have := w4_at (w4K p x l.head?) l k (by simpa using h)
    rw [List.getElem?_cons_succ]
    exact this
theorem sep_at (l : List Int) (k : Nat) (h : k < l.length) : sepK (mixL l (rW4 (-1) l) k) k (l.getD k 0) = (rW4 (-1) l).getD k 0 := by
  have hl := w4_length (-1) l
  have h1 : ∀ m : Int, 0 ≤ m → isAt (mixL l (rW4 (-1) l) k) ((k : Int) - 1) m = decide (((-1) :: rW4 (-1) l).getD k 0 = m) := fun m hm => by
    rw [isAt]
    congr 1
    rw [eq_iff_iff]
    cases k with
    | zero => simp; omega
    | succ j =>
      have e : (((j + 1 : Nat) : Int) - 1).toNat = j := by omega
      have e2 : (mixL l (rW4 (-1) l) (j + 1))[j]? = some ((rW4 (-1) l).getD j 0) := by
        rw [mixL, List.getElem?_append_left (by rw [List.length_take]; omega), List.getElem?_take_of_lt (by omega), getD_at (by omega), List.getElem?_eq_getElem (by omega)]
      rw [e, e2]
      simp
  have h2 : ∀ m : Int, isAt (mixL l (rW4 (-1) l) k) ((k : Int) + 1) m = decide (l[k + 1]? = some m) := fun m => by
    have e : ((k : Int) + 1).toNat = k + 1 := by omega
    have e2 : (mixL l (rW4 (-1) l) k)[k + 1]? = l[k + 1]? := by
      have e3 : ((rW4 (-1) l).take k).length = k := by rw [List.length_take]; omega
      rw [mixL, List.getElem?_append_right (by omega), e3, List.getElem?_drop]
      rw [show k + (k + 1 - k) = k + 1 by omega]
    rw [isAt, e, e2]
    congr 1
    rw [eq_iff_iff]
    exact ⟨fun h => h.2, fun h => ⟨by omega, h⟩⟩
  rw [← w4_at (-1) l k h, sepK, h1 3 (by omega), h1 6 (by omega), h2, h2, w4K]
  obtain ⟨p, hp⟩ : ∃ p, ((-1 : Int) :: rW4 (-1) l).getD k 0 = p := ⟨_, rfl⟩
  obtain ⟨x, hx⟩ : ∃ x, l.getD k 0 = x := ⟨_, rfl⟩
  obtain ⟨n, hn⟩ : ∃ n, l[k + 1]? = n := ⟨_, rfl⟩
  rw [hp, hx, hn]
  simp only [Bool.and_eq_true, decide_eq_true_eq]
  by_cases p3 : p = 3
  · subst p3
    by_cases n3 : n = some 3
    · subst n3
      by_cases x4 : x = 4
      · simp [x4]
      · simp [x4]
    · simp [n3]
  · by_cases p6 : p = 6
    · subst p6
      simp
    · simp [p3, p6]

theorem grown_cell (w : World) (b i : Nat) (v : Value) : w.grownBy (w.setCell ⟨b, i, none⟩ v) (some b) :=
  ⟨rfl, rfl, rfl, by simp [World.setCell], fun k _ hk => Below.heap_setCell _ _ _ _ (fun e => hk (by simp [e]))⟩
theorem below_of_grown {B b : Nat} {w w' : World} (h : w.grownBy w' (some b)) (hB : B ≤ w.heap.size) (hb : B ≤ b) : Below B w w' :=
  (Below.refl B w).grown h hB (fun k hk => by injection hk with hk; omega)
theorem own_fresh {w : World} {B : Nat} {e : TypeId} {v : Value} {xs : List Value} (h : Own w B e v xs) {b : Nat} (hb : w.heap.size ≤ b) : v.ownBlock ≠ some b := fun hv => by
  have := (Own.inside h b hv).2; omega

/-- what a rule of the program does to a list of one's own -/
def Ruled (f : FuncId) (args : List Value) (R : List Int → List Int) : Prop :=
  ∀ (B c : Nat) (A : Option Addr) (l : List Int) (w : World), l.length ≤ 1000000 → B ≤ w.heap.size → Own w B 3 (.slice A l.length c) (ints .i64 l) →
    Calls Tryd.prog f (.slice A l.length c :: args).toArray w fun ed w' => ed = .returned (.tuple #[]) ∧ Own w' B 3 (.slice A l.length c) (ints .i64 (R l)) ∧ Below B w w'

set_option maxHeartbeats 1000000 in
theorem marks_any (s : Int) : Ruled 21 [.int .i64 s] (rW1 s) := by
  intro B c A l w hl hB hO
  have hF : (Value.slice A l.length c).ownBlock ≠ some w.heap.size := own_fresh hO (Nat.le_refl _)
  have hO1 := hO.alloc (.cells #[.int .i64 s] 3)
  have H := each_own 29 [.pointer (some ⟨w.heap.size, 0, none⟩)] (call_ok Tryd.func29 (by kernel_rfl) (by kernel_rfl)) B c A l (rW1 s l) (w1_length _ _)
    (fun k u => Boxed u w.heap.size 3 (.int .i64 ((s :: rW1 s l).getD k 0))) (w.alloc (.cells #[.int .i64 s] 3)) hl hO1 (Boxed.new _ _ _)
    (fun k hk wr hb hbel ho => (marks1_any k (l.getD k 0) _ w.heap.size wr hb).mono fun ed w' ⟨h1, h2, h3⟩ => by
      rw [w1_at s l k hk] at h1 h2
      have := hbel.size
      simp at this
      exact ⟨h1, h2, Own.keepRow ho h3 hF, below_of_grown h3 (by omega) hB⟩)
    (fun k w' g i v hA hb => hb.kept (grown_cell w' g i v) (fun e => hF (by rw [hA]; simpa [Value.ownBlock] using e.symm)))
  have HH := Lib.hid H
  clear H hO hO1 hF
  show Calls _ _ #[.slice A l.length c, .int .i64 s] _ _
  go_enter Tryd.func21, Tryd.ntmps21
  go_wp2_with fail
  refine HH.out.mono ?_
  rintro e w1 ⟨rfl, _, o1, b1⟩
  have O1 := Lib.hid o1
  have B1 := Lib.hid (((Below.refl B w).alloc hB _).trans b1)
  clear o1 b1
  go_wp2
  exact bodyPost_end (results_none rfl _ _ _) rfl ⟨rfl, O1.out, B1.out⟩

set_option maxHeartbeats 1000000 in
theorem numbers_any (s a b : Int) : Ruled 22 [.int .i64 s, .int .i64 a, .int .i64 b] (rWS a b s) := by
  intro B c A l w hl hB hO
  have hF : (Value.slice A l.length c).ownBlock ≠ some w.heap.size := own_fresh hO (Nat.le_refl _)
  obtain ⟨w3, hw3⟩ : ∃ w3, ((w.alloc (.cells #[.int .i64 s] 3)).alloc (.cells #[.int .i64 a] 3)).alloc (.cells #[.int .i64 b] 3) = w3 := ⟨_, rfl⟩
  have hs3 : w3.heap.size = w.heap.size + 3 := by rw [← hw3]; simp
  have hX1 : Boxed w3 w.heap.size 3 (.int .i64 s) := by rw [← hw3]; exact ((Boxed.new _ _ _).alloc _).alloc _
  have hX2 : Boxed w3 (w.heap.size + 1) 3 (.int .i64 a) := by
    have := (Boxed.new (w.alloc (.cells #[.int .i64 s] 3)) 3 (.int .i64 a)).alloc (.cells #[.int .i64 b] 3)
    rw [World.size_alloc] at this
    rw [← hw3]; exact this
  have hX3 : Boxed w3 (w.heap.size + 2) 3 (.int .i64 b) := by
    have := Boxed.new ((w.alloc (.cells #[.int .i64 s] 3)).alloc (.cells #[.int .i64 a] 3)) 3 (.int .i64 b)
    rw [World.size_alloc, World.size_alloc] at this
    rw [← hw3]; exact this
  have hO1 : Own w3 B 3 (.slice A l.length c) (ints .i64 l) := by rw [← hw3]; exact ((hO.alloc _).alloc _).alloc _
  have hB3 : Below B w w3 := by rw [← hw3]; exact (((Below.refl B w).alloc hB _).alloc (by simp; omega) _).alloc (by simp; omega) _
  have hF2 : (Value.slice A l.length c).ownBlock ≠ some (w.heap.size + 1) := own_fresh hO (by omega)
  have hF3 : (Value.slice A l.length c).ownBlock ≠ some (w.heap.size + 2) := own_fresh hO (by omega)
  have H := each_own 31 [.pointer (some ⟨w.heap.size, 0, none⟩), .pointer (some ⟨w.heap.size + 1, 0, none⟩), .pointer (some ⟨w.heap.size + 2, 0, none⟩)] (call_ok Tryd.func31 (by kernel_rfl) (by kernel_rfl)) B c A l (rWS a b s l) (wS_length _ _ _ _)
    (fun k u => Boxed u w.heap.size 3 (.int .i64 (lastStrong s (l.take k))) ∧ Boxed u (w.heap.size + 1) 3 (.int .i64 a) ∧ Boxed u (w.heap.size + 2) 3 (.int .i64 b)) w3 hl hO1 ⟨hX1, hX2, hX3⟩
    (fun k hk wr hb hbel ho => (numbers1_any k (l.getD k 0) _ a b w.heap.size (w.heap.size + 1) (w.heap.size + 2) wr hb.1 hb.2.1 hb.2.2).mono fun ed w' ⟨h1, h2, h3⟩ => by
      rw [wS_at a b s l k hk] at h1
      rw [strong_next l s hk] at h2
      have := hbel.size
      exact ⟨h1, ⟨h2, hb.2.1.kept h3 (by simp), hb.2.2.kept h3 (by simp)⟩, Own.keepRow ho h3 hF, below_of_grown h3 (by omega) hB⟩)
    (fun k w' g i v hA hb => ⟨hb.1.kept (grown_cell w' g i v) (fun e => hF (by rw [hA]; simpa [Value.ownBlock] using e.symm)), hb.2.1.kept (grown_cell w' g i v) (fun e => hF2 (by rw [hA]; simpa [Value.ownBlock] using e.symm)), hb.2.2.kept (grown_cell w' g i v) (fun e => hF3 (by rw [hA]; simpa [Value.ownBlock] using e.symm))⟩)
  have HH := Lib.hid H
  have HW := Lib.hid hw3
  have HB3 := Lib.hid hB3
  clear H hO hO1 hF hF2 hF3 hX1 hX2 hX3 hs3 hB3 hw3
  show Calls _ _ #[.slice A l.length c, .int .i64 s, .int .i64 a, .int .i64 b] _ _
  go_enter Tryd.func22, Tryd.ntmps22
  go_wp2_with fail
  rw [HW.out]
  refine HH.out.mono ?_
  rintro e w1 ⟨rfl, _, o1, b1⟩
  have O1 := Lib.hid o1
  have B1 := Lib.hid (HB3.out.trans b1)
  clear o1 b1
  go_wp2
  exact bodyPost_end (results_none rfl _ _ _) rfl ⟨rfl, O1.out, B1.out⟩

/-- block d holds cells that stay -/
def Stays (w : World) (d : Nat) (cs : Array Value) : Prop := w.heap[d]? = some (.cells cs 3 (0, 0))
theorem Stays.lt {w : World} {d : Nat} {cs : Array Value} (h : Stays w d cs) : d < w.heap.size := (Array.getElem?_eq_some_iff.1 h).1
theorem Stays.kept {w w' : World} {row : Option Nat} {d : Nat} {cs : Array Value} (h : Stays w d cs) (hg : w.grownBy w' row) (hne : some d ≠ row) : Stays w' d cs := (hg.block d h.lt hne).trans h
theorem Stays.lies {w : World} {d : Nat} {cs : Array Value} (h : Stays w d cs) : Lies w w.heap.size (some ⟨d, 0, none⟩) cs.toList := fun _ =>
  ⟨_, rfl, h.lt, World.news_of_block h⟩

set_option maxHeartbeats 1000000 in
theorem exchange_any (t : Int) (of : List Int) (c2 d : Nat) (cs : Array Value) (hcs : cs.toList = ints .i64 of) (hof : of.length ≤ 1000000) (B c : Nat) (A : Option Addr) (l : List Int) (w : World) (hl : l.length ≤ 1000000) (hB : B ≤ w.heap.size) (hO : Own w B 3 (.slice A l.length c) (ints .i64 l))
    (h2 : Stays w d cs) (hap : (Value.slice A l.length c).ownBlock ≠ some d) :
    Calls Tryd.prog 23 #[.slice A l.length c, .int .i64 t, .slice (some ⟨d, 0, none⟩) of.length c2] w fun ed w' => ed = .returned (.tuple #[]) ∧ Own w' B 3 (.slice A l.length c) (ints .i64 (l.map fun k => if k ∈ of then t else k)) ∧ Below B w w' := by
  have hF : (Value.slice A l.length c).ownBlock ≠ some w.heap.size := own_fresh hO (Nat.le_refl _)
  have hF2 : (Value.slice A l.length c).ownBlock ≠ some (w.heap.size + 1) := own_fresh hO (by omega)
  obtain ⟨w3, hw3⟩ : ∃ w3, (w.alloc (.cells #[.int .i64 t] 3)).alloc (.cells #[.slice (some ⟨d, 0, none⟩) of.length c2] 22) = w3 := ⟨_, rfl⟩
  have hX1 : Boxed w3 w.heap.size 3 (.int .i64 t) := by rw [← hw3]; exact (Boxed.new _ _ _).alloc _
  have hX2 : Boxed w3 (w.heap.size + 1) 22 (.slice (some ⟨d, 0, none⟩) of.length c2) := by
    have := Boxed.new (w.alloc (.cells #[.int .i64 t] 3)) 22 (.slice (some ⟨d, 0, none⟩) of.length c2)
    rw [World.size_alloc] at this
    rw [← hw3]; exact this
  have hX3 : Stays w3 d cs := by
    rw [← hw3]; exact (h2.kept (World.grownBy_alloc w _ none) (by simp)).kept (World.grownBy_alloc _ _ none) (by simp)
  have hO1 : Own w3 B 3 (.slice A l.length c) (ints .i64 l) := by rw [← hw3]; exact (hO.alloc _).alloc _
  have hB3 : Below B w w3 := by rw [← hw3]; exact ((Below.refl B w).alloc hB _).alloc (by simp; omega) _
  have H := each_own 32 [.pointer (some ⟨w.heap.size + 1, 0, none⟩), .pointer (some ⟨w.heap.size, 0, none⟩)] (call_ok Tryd.func32 (by kernel_rfl) (by kernel_rfl)) B c A l (l.map fun k => if k ∈ of then t else k) (by simp)
    (fun _ u => Boxed u w.heap.size 3 (.int .i64 t) ∧ Boxed u (w.heap.size + 1) 22 (.slice (some ⟨d, 0, none⟩) of.length c2) ∧ Stays u d cs) w3 hl hO1 ⟨hX1, hX2, hX3⟩
    (fun k hk wr hb hbel ho => (exchange1_any k (l.getD k 0) t (some ⟨d, 0, none⟩) of c2 (w.heap.size + 1) w.heap.size wr hb.2.1 hb.1 (by rw [← hcs]; exact hb.2.2.lies) hof).mono fun ed w' ⟨h1, h2⟩ => by
      subst h2
      rw [map_at (fun k => if k ∈ of then t else k) hk] at h1
      exact ⟨h1, hb, ho, Below.refl _ _⟩)
    (fun k w' g i v hA hb => ⟨hb.1.kept (grown_cell w' g i v) (fun e => hF (by rw [hA]; simpa [Value.ownBlock] using e.symm)), hb.2.1.kept (grown_cell w' g i v) (fun e => hF2 (by rw [hA]; simpa [Value.ownBlock] using e.symm)), hb.2.2.kept (grown_cell w' g i v) (fun e => hap (by rw [hA]; simpa [Value.ownBlock] using e.symm))⟩)
  have HH := Lib.hid H
  have HW := Lib.hid hw3
  have HB3 := Lib.hid hB3
  clear H hO hO1 hF hF2 hX1 hX2 hX3 hB3 hw3 h2 hap hcs
  go_enter Tryd.func23, Tryd.ntmps23
  go_wp2_with fail
  rw [HW.out]
  refine HH.out.mono ?_
  rintro e w1 ⟨rfl, _, o1, b1⟩
  have O1 := Lib.hid o1
  have B1 := Lib.hid (HB3.out.trans b1)
  clear o1 b1
  go_wp2
  exact bodyPost_end (results_none rfl _ _ _) rfl ⟨rfl, O1.out, B1.out⟩

set_option maxHeartbeats 1000000 in
theorem separators_any : Ruled 24 [] (rW4 (-1)) := by
  intro B c A l w hl hB hO
  have hF : (Value.slice A l.length c).ownBlock ≠ some w.heap.size := own_fresh hO (Nat.le_refl _)
  have hO1 := hO.alloc (.cells #[.slice A l.length c] 22)
  have H := each_own 34 [.pointer (some ⟨w.heap.size, 0, none⟩)] (call_ok Tryd.func34 (by kernel_rfl) (by kernel_rfl)) B c A l (rW4 (-1) l) (w4_length _ _)
    (fun k u => Boxed u w.heap.size 22 (.slice A l.length c)) (w.alloc (.cells #[.slice A l.length c] 22)) hl hO1 (Boxed.new _ _ _)
    (fun k hk wr hb hbel ho => by
      have hm := mixL_length (w4_length (-1) l) (Nat.le_of_lt hk)
      obtain ⟨A1, c1, hv, hlies, _⟩ := ho.form
      injection hv with hA _ hc
      subst hA hc
      have h1 := sep1_any k (l.getD k 0) ⟨by omega, by omega⟩ A (mixL l (rW4 (-1) l) k) c w.heap.size wr (by rw [hm]; exact hb) hlies (by omega)
      refine h1.mono fun ed w' ⟨h1, h2⟩ => ?_
      rw [sep_at l k hk] at h1
      have := hbel.size
      simp at this
      exact ⟨h1, hb.kept (grown_of_below h2 none) (by simp), ho.below h2 (Nat.le_refl _), h2.mono (by omega)⟩)
    (fun k w' g i v hA hb => hb.kept (grown_cell w' g i v) (fun e => hF (by rw [hA]; simpa [Value.ownBlock] using e.symm)))
  have HH := Lib.hid H
  clear H hO hO1 hF
  show Calls _ _ #[.slice A l.length c] _ _
  go_enter Tryd.func24, Tryd.ntmps24
  go_wp2_with fail
  refine HH.out.mono ?_
  rintro e w1 ⟨rfl, _, o1, b1⟩
  have O1 := Lib.hid o1
  have B1 := Lib.hid (((Below.refl B w).alloc hB _).trans b1)
  clear o1 b1
  go_wp2
  exact bodyPost_end (results_none rfl _ _ _) rfl ⟨rfl, O1.out, B1.out⟩
end Go.Proofs.YtibconopcacelaaDoor
