/- Shared texts, shaken for one claim. -/
import Derived.WalkMore
import Derived.Test.YtcbaahlahohfmaaGreatDoorZA27
namespace Go.Proofs.YtcbaahlahohfmaaGreatDoor
open Go.RowKit
theorem sep_at (l : List Int) (k : Nat) (h : k < l.length) : sepK (mixL l (rW4 (-1) l) k) k (l.getD k 0) = (rW4 (-1) l).getD k 0 := by
 have hl := w4_length (-1) l
 have h1 : ∀ m : Int, 0 ≤ m → isAt (mixL l (rW4 (-1) l) k) ((k : Int) - 1) m = decide (((-1) :: rW4 (-1) l).getD k 0 = m) := fun m hm => by
  rw [isAt]
  congr 1
  rw [eq_iff_iff]
  cases k with
  | zero => simp; omega
  | succ j =>
   have e : (((j + 1 : Nat) : Int) - 1).toNat = j := by omega
   have e2 : (mixL l (rW4 (-1) l) (j + 1))[j]? = some ((rW4 (-1) l).getD j 0) := by
    rw [mixL, List.getElem?_append_left (by rw [List.length_take]; omega), List.getElem?_take_of_lt (by omega), getD_at (by omega), List.getElem?_eq_getElem (by omega)]
   rw [e, e2]
   simp
 have h2 : ∀ m : Int, isAt (mixL l (rW4 (-1) l) k) ((k : Int) + 1) m = decide (l[k + 1]? = some m) := fun m => by
  have e : ((k : Int) + 1).toNat = k + 1 := by omega
  have e2 : (mixL l (rW4 (-1) l) k)[k + 1]? = l[k + 1]? := by
   have e3 : ((rW4 (-1) l).take k).length = k := by rw [List.length_take]; omega
   rw [mixL, List.getElem?_append_right (by omega), e3, List.getElem?_drop]
   rw [show k + (k + 1 - k) = k + 1 by omega]
  rw [isAt, e, e2]
  congr 1
  rw [eq_iff_iff]
  exact ⟨fun h => h.2, fun h => ⟨by omega, h⟩⟩
 rw [← w4_at (-1) l k h, sepK, h1 3 (by omega), h1 6 (by omega), h2, h2, w4K]
 obtain ⟨p, hp⟩ : ∃ p, ((-1 : Int) :: rW4 (-1) l).getD k 0 = p := ⟨_, rfl⟩
 obtain ⟨x, hx⟩ : ∃ x, l.getD k 0 = x := ⟨_, rfl⟩
 obtain ⟨n, hn⟩ : ∃ n, l[k + 1]? = n := ⟨_, rfl⟩
 rw [hp, hx, hn]
 simp only [Bool.and_eq_true, decide_eq_true_eq]
 by_cases p3 : p = 3
 ·subst p3
  by_cases n3 : n = some 3
  ·subst n3
   by_cases x4 : x = 4
   ·simp [x4]
   ·simp [x4]
  ·simp [n3]
 ·by_cases p6 : p = 6
  ·subst p6
   simp
  ·simp [p3, p6]
theorem grown_cell (w : World) (b i : Nat) (v : Value) : w.grownBy (w.setCell ⟨b, i, none⟩ v) (some b) :=
 ⟨rfl, rfl, rfl, by simp [World.setCell], fun k _ hk => Below.heap_setCell _ _ _ _ (fun e => hk (by simp [e]))⟩
theorem below_of_grown {B b : Nat} {w w' : World} (h : w.grownBy w' (some b)) (hB : B ≤ w.heap.size) (hb : B ≤ b) : Below B w w' :=
 (Below.refl B w).grown h hB (fun k hk => by injection hk with hk; omega)
theorem own_fresh {w : World} {B : Nat} {e : TypeId} {v : Value} {xs : List Value} (h : Own w B e v xs) {b : Nat} (hb : w.heap.size ≤ b) : v.ownBlock ≠ some b := fun hv => by
 have := (Own.inside h b hv).2; omega
set_option maxHeartbeats 1000000 in
theorem marks_any (s : Int) : Ruled 134 [.int .i64 s] (rW1 s) := by
 intro B c A l w hl hB hO
 have hF : (Value.slice A l.length c).ownBlock ≠ some w.heap.size := own_fresh hO (Nat.le_refl _)
 have hO1 := hO.alloc (.cells #[.int .i64 s] 3)
 have H := each_own 161 [.pointer (some ⟨w.heap.size, 0, none⟩)] (call_ok Tryz.func161 (by kernel_rfl) (by kernel_rfl)) B c A l (rW1 s l) (w1_length _ _)
  (fun k u => Boxed u w.heap.size 3 (.int .i64 ((s :: rW1 s l).getD k 0))) (w.alloc (.cells #[.int .i64 s] 3)) hl hO1 (Boxed.new _ _ _)
  (fun k hk wr hb hbel ho => (marks1_any k (l.getD k 0) _ w.heap.size wr hb).mono fun ed w' ⟨h1, h2, h3⟩ => by
   rw [w1_at s l k hk] at h1 h2
   have := hbel.size
   simp at this
   exact ⟨h1, h2, Own.keepRow ho h3 hF, below_of_grown h3 (by omega) hB⟩)
  (fun k w' g i v hA hb => hb.kept (grown_cell w' g i v) (fun e => hF (by rw [hA]; simpa [Value.ownBlock] using e.symm)))
 have HH := Lib.hid H
 clear H hO hO1 hF
 show Calls _ _ #[.slice A l.length c, .int .i64 s] _ _
 go_enter Tryz.func134, Tryz.ntmps134
 go_wp2_with fail
 refine HH.out.mono ?_
 rintro e w1 ⟨rfl, _, o1, b1⟩
 have O1 := Lib.hid o1
 have B1 := Lib.hid (((Below.refl B w).alloc hB _).trans b1)
 clear o1 b1
 go_wp2
 exact bodyPost_end (results_none rfl _ _ _) rfl ⟨rfl, O1.out, B1.out⟩
set_option maxHeartbeats 1000000 in
theorem numbers_any (s a b : Int) : Ruled 135 [.int .i64 s, .int .i64 a, .int .i64 b] (rWS a b s) := by
 intro B c A l w hl hB hO
 have hF : (Value.slice A l.length c).ownBlock ≠ some w.heap.size := own_fresh hO (Nat.le_refl _)
 obtain ⟨w3, hw3⟩ : ∃ w3, ((w.alloc (.cells #[.int .i64 s] 3)).alloc (.cells #[.int .i64 a] 3)).alloc (.cells #[.int .i64 b] 3) = w3 := ⟨_, rfl⟩
 have hs3 : w3.heap.size = w.heap.size + 3 := by rw [← hw3]; simp
 have hX1 : Boxed w3 w.heap.size 3 (.int .i64 s) := by rw [← hw3]; exact ((Boxed.new _ _ _).alloc _).alloc _
 have hX2 : Boxed w3 (w.heap.size + 1) 3 (.int .i64 a) := by
  have := (Boxed.new (w.alloc (.cells #[.int .i64 s] 3)) 3 (.int .i64 a)).alloc (.cells #[.int .i64 b] 3)
  rw [World.size_alloc] at this
  rw [← hw3]; exact this
 have hX3 : Boxed w3 (w.heap.size + 2) 3 (.int .i64 b) := by
  have := Boxed.new ((w.alloc (.cells #[.int .i64 s] 3)).alloc (.cells #[.int .i64 a] 3)) 3 (.int .i64 b)
  rw [World.size_alloc, World.size_alloc] at this
  rw [← hw3]; exact this
 have hO1 : Own w3 B 3 (.slice A l.length c) (ints .i64 l) := by rw [← hw3]; exact ((hO.alloc _).alloc _).alloc _
 have hB3 : Below B w w3 := by rw [← hw3]; exact (((Below.refl B w).alloc hB _).alloc (by simp; omega) _).alloc (by simp; omega) _
 have hF2 : (Value.slice A l.length c).ownBlock ≠ some (w.heap.size + 1) := own_fresh hO (by omega)
 have hF3 : (Value.slice A l.length c).ownBlock ≠ some (w.heap.size + 2) := own_fresh hO (by omega)
 have H := each_own 162 [.pointer (some ⟨w.heap.size, 0, none⟩), .pointer (some ⟨w.heap.size + 1, 0, none⟩), .pointer (some ⟨w.heap.size + 2, 0, none⟩)] (call_ok Tryz.func162 (by kernel_rfl) (by kernel_rfl)) B c A l (rWS a b s l) (wS_length _ _ _ _)
  (fun k u => Boxed u w.heap.size 3 (.int .i64 (lastStrong s (l.take k))) ∧ Boxed u (w.heap.size + 1) 3 (.int .i64 a) ∧ Boxed u (w.heap.size + 2) 3 (.int .i64 b)) w3 hl hO1 ⟨hX1, hX2, hX3⟩
  (fun k hk wr hb hbel ho => (numbers1_any k (l.getD k 0) _ a b w.heap.size (w.heap.size + 1) (w.heap.size + 2) wr hb.1 hb.2.1 hb.2.2).mono fun ed w' ⟨h1, h2, h3⟩ => by
   rw [wS_at a b s l k hk] at h1
   rw [strong_next l s hk] at h2
   have := hbel.size
   exact ⟨h1, ⟨h2, hb.2.1.kept h3 (by simp), hb.2.2.kept h3 (by simp)⟩, Own.keepRow ho h3 hF, below_of_grown h3 (by omega) hB⟩)
  (fun k w' g i v hA hb => ⟨hb.1.kept (grown_cell w' g i v) (fun e => hF (by rw [hA]; simpa [Value.ownBlock] using e.symm)), hb.2.1.kept (grown_cell w' g i v) (fun e => hF2 (by rw [hA]; simpa [Value.ownBlock] using e.symm)), hb.2.2.kept (grown_cell w' g i v) (fun e => hF3 (by rw [hA]; simpa [Value.ownBlock] using e.symm))⟩)
 have HH := Lib.hid H
 have HW := Lib.hid hw3
 have HB3 := Lib.hid hB3
 clear H hO hO1 hF hF2 hF3 hX1 hX2 hX3 hs3 hB3 hw3
 show Calls _ _ #[.slice A l.length c, .int .i64 s, .int .i64 a, .int .i64 b] _ _
 go_enter Tryz.func135, Tryz.ntmps135
 go_wp2_with fail
 rw [HW.out]
 refine HH.out.mono ?_
 rintro e w1 ⟨rfl, _, o1, b1⟩
 have O1 := Lib.hid o1
 have B1 := Lib.hid (HB3.out.trans b1)
 clear o1 b1
 go_wp2
 exact bodyPost_end (results_none rfl _ _ _) rfl ⟨rfl, O1.out, B1.out⟩
def Stays (w : World) (d : Nat) (cs : Array Value) : Prop := w.heap[d]? = some (.cells cs 3 (0, 0))
theorem Stays.lt {w : World} {d : Nat} {cs : Array Value} (h : Stays w d cs) : d < w.heap.size := (Array.getElem?_eq_some_iff.1 h).1
theorem Stays.kept {w w' : World} {row : Option Nat} {d : Nat} {cs : Array Value} (h : Stays w d cs) (hg : w.grownBy w' row) (hne : some d ≠ row) : Stays w' d cs := (hg.block d h.lt hne).trans h
theorem Stays.lies {w : World} {d : Nat} {cs : Array Value} (h : Stays w d cs) : Lies w w.heap.size (some ⟨d, 0, none⟩) cs.toList := fun _ =>
 ⟨_, rfl, h.lt, World.news_of_block h⟩
set_option maxHeartbeats 1000000 in
theorem exchange_any (t : Int) (ofs : List Int) (c2 d : Nat) (cs : Array Value) (hcs : cs.toList = ints .i64 ofs) (hof : ofs.length ≤ 1000000) (B c : Nat) (A : Option Addr) (l : List Int) (w : World) (hl : l.length ≤ 1000000) (hB : B ≤ w.heap.size) (hO : Own w B 3 (.slice A l.length c) (ints .i64 l))
 (h2 : Stays w d cs) (hap : (Value.slice A l.length c).ownBlock ≠ some d) :
 Calls Tryz.prog 136 #[.slice A l.length c, .int .i64 t, .slice (some ⟨d, 0, none⟩) ofs.length c2] w fun ed w' => ed = .returned (.tuple #[]) ∧ Own w' B 3 (.slice A l.length c) (ints .i64 (l.map fun k => if k ∈ ofs then t else k)) ∧ Below B w w' := by
 have hF : (Value.slice A l.length c).ownBlock ≠ some w.heap.size := own_fresh hO (Nat.le_refl _)
 have hF2 : (Value.slice A l.length c).ownBlock ≠ some (w.heap.size + 1) := own_fresh hO (by omega)
 obtain ⟨w3, hw3⟩ : ∃ w3, (w.alloc (.cells #[.int .i64 t] 3)).alloc (.cells #[.slice (some ⟨d, 0, none⟩) ofs.length c2] 22) = w3 := ⟨_, rfl⟩
 have hX1 : Boxed w3 w.heap.size 3 (.int .i64 t) := by rw [← hw3]; exact (Boxed.new _ _ _).alloc _
 have hX2 : Boxed w3 (w.heap.size + 1) 22 (.slice (some ⟨d, 0, none⟩) ofs.length c2) := by
  have := Boxed.new (w.alloc (.cells #[.int .i64 t] 3)) 22 (.slice (some ⟨d, 0, none⟩) ofs.length c2)
  rw [World.size_alloc] at this
  rw [← hw3]; exact this
 have hX3 : Stays w3 d cs := by
  rw [← hw3]; exact (h2.kept (World.grownBy_alloc w _ none) (by simp)).kept (World.grownBy_alloc _ _ none) (by simp)
 have hO1 : Own w3 B 3 (.slice A l.length c) (ints .i64 l) := by rw [← hw3]; exact (hO.alloc _).alloc _
 have hB3 : Below B w w3 := by rw [← hw3]; exact ((Below.refl B w).alloc hB _).alloc (by simp; omega) _
 have H := each_own 163 [.pointer (some ⟨w.heap.size + 1, 0, none⟩), .pointer (some ⟨w.heap.size, 0, none⟩)] (call_ok Tryz.func163 (by kernel_rfl) (by kernel_rfl)) B c A l (l.map fun k => if k ∈ ofs then t else k) (by simp)
  (fun _ u => Boxed u w.heap.size 3 (.int .i64 t) ∧ Boxed u (w.heap.size + 1) 22 (.slice (some ⟨d, 0, none⟩) ofs.length c2) ∧ Stays u d cs) w3 hl hO1 ⟨hX1, hX2, hX3⟩
  (fun k hk wr hb hbel ho => (exchange1_any k (l.getD k 0) t (some ⟨d, 0, none⟩) ofs c2 (w.heap.size + 1) w.heap.size wr hb.2.1 hb.1 (by rw [← hcs]; exact hb.2.2.lies) hof).mono fun ed w' ⟨h1, h2⟩ => by
   subst h2
   rw [map_at (fun k => if k ∈ ofs then t else k) hk] at h1
   exact ⟨h1, hb, ho, Below.refl _ _⟩)
  (fun k w' g i v hA hb => ⟨hb.1.kept (grown_cell w' g i v) (fun e => hF (by rw [hA]; simpa [Value.ownBlock] using e.symm)), hb.2.1.kept (grown_cell w' g i v) (fun e => hF2 (by rw [hA]; simpa [Value.ownBlock] using e.symm)), hb.2.2.kept (grown_cell w' g i v) (fun e => hap (by rw [hA]; simpa [Value.ownBlock] using e.symm))⟩)
 have HH := Lib.hid H
 have HW := Lib.hid hw3
 have HB3 := Lib.hid hB3
 clear H hO hO1 hF hF2 hX1 hX2 hX3 hB3 hw3 h2 hap hcs
 go_enter Tryz.func136, Tryz.ntmps136
 go_wp2_with fail
 rw [HW.out]
 refine HH.out.mono ?_
 rintro e w1 ⟨rfl, _, o1, b1⟩
 have O1 := Lib.hid o1
 have B1 := Lib.hid (HB3.out.trans b1)
 clear o1 b1
 go_wp2
 exact bodyPost_end (results_none rfl _ _ _) rfl ⟨rfl, O1.out, B1.out⟩
set_option maxHeartbeats 1000000 in
theorem separators_any : Ruled 137 [] (rW4 (-1)) := by
 intro B c A l w hl hB hO
 have hF : (Value.slice A l.length c).ownBlock ≠ some w.heap.size := own_fresh hO (Nat.le_refl _)
 have hO1 := hO.alloc (.cells #[.slice A l.length c] 22)
 have H := each_own 164 [.pointer (some ⟨w.heap.size, 0, none⟩)] (call_ok Tryz.func164 (by kernel_rfl) (by kernel_rfl)) B c A l (rW4 (-1) l) (w4_length _ _)
  (fun k u => Boxed u w.heap.size 22 (.slice A l.length c)) (w.alloc (.cells #[.slice A l.length c] 22)) hl hO1 (Boxed.new _ _ _)
  (fun k hk wr hb hbel ho => by
   have hm := mixL_length (w4_length (-1) l) (Nat.le_of_lt hk)
   obtain ⟨A1, c1, hv, hlies, _⟩ := ho.form
   injection hv with hA _ hc
   subst hA hc
   have h1 := sep1_any k (l.getD k 0) ⟨by omega, by omega⟩ A (mixL l (rW4 (-1) l) k) c w.heap.size wr (by rw [hm]; exact hb) hlies (by omega)
   refine h1.mono fun ed w' ⟨h1, h2⟩ => ?_
   rw [sep_at l k hk] at h1
   have := hbel.size
   simp at this
   exact ⟨h1, hb.kept (grown_of_below h2 none) (by simp), ho.below h2 (Nat.le_refl _), h2.mono (by omega)⟩)
  (fun k w' g i v hA hb => hb.kept (grown_cell w' g i v) (fun e => hF (by rw [hA]; simpa [Value.ownBlock] using e.symm)))
 have HH := Lib.hid H
 clear H hO hO1 hF
 show Calls _ _ #[.slice A l.length c] _ _
 go_enter Tryz.func137, Tryz.ntmps137
 go_wp2_with fail
 refine HH.out.mono ?_
 rintro e w1 ⟨rfl, _, o1, b1⟩
 have O1 := Lib.hid o1
 have B1 := Lib.hid (((Below.refl B w).alloc hB _).trans b1)
 clear o1 b1
 go_wp2
 exact bodyPost_end (results_none rfl _ _ _) rfl ⟨rfl, O1.out, B1.out⟩
end Go.Proofs.YtcbaahlahohfmaaGreatDoor
namespace Go.Proofs.YtcbaahlahohfmaaGreatDoor
open Go.RowKit
theorem near_run : ∀ (m : Nat) (rest : List Int), rest.head? ≠ some 5 → nearEN (List.replicate m 5 ++ rest) = decide (rest.head? = some 3)
 | 0, [], _ => rfl
 | 0, x :: r, h => by
  have hx : x ≠ 5 := by simpa using h
  show nearEN (x :: r) = _
  rw [nearEN]
  by_cases h3 : x = 3
  ·simp [h3]
  ·simp [h3, hx]
 | m + 1, rest, h => by
  rw [List.replicate_succ, List.cons_append, nearEN, near_run m rest h]
  simp
def w5Rest : List Int → List Int
 | [] => []
 | x :: r => x :: rW5 (x == 3) r
theorem w5_rest (b : Bool) (rest : List Int) (h : rest.head? ≠ some 5) : rW5 b rest = w5Rest rest := by
 cases rest with
 | nil => rfl
 | cons x r =>
  have hx : x ≠ 5 := by simpa using h
  rw [rW5, if_neg (by simp [hx]), w5Rest]
  have e : (x == 5) = false := by simp [hx]
  rw [e, Bool.false_and, Bool.or_false]
theorem w5_run : ∀ (m : Nat) (b : Bool) (rest : List Int), rest.head? ≠ some 5 → rW5 b (List.replicate m 5 ++ rest) = List.replicate m (if b = true ∨ rest.head? = some 3 then 3 else 5) ++ w5Rest rest
 | 0, b, rest, h => w5_rest b rest h
 | m + 1, b, rest, h => by
  rw [List.replicate_succ, List.cons_append, rW5, near_run m rest h, w5_run m _ rest h, List.replicate_succ, List.cons_append]
  have e : (((5 : Int) == 3 || (5 : Int) == 5 && (b || decide (rest.head? = some 3))) = true ∨ rest.head? = some 3) ↔ (b = true ∨ rest.head? = some 3) := by
   simp
  have e2 : ((5 : Int) = 5 ∧ (b || decide (rest.head? = some 3)) = true) ↔ (b = true ∨ rest.head? = some 3) := by simp
  by_cases hq : b = true ∨ rest.head? = some 3
  ·rw [if_pos (e2.2 hq), if_pos (e.2 hq), if_pos hq]
  ·rw [if_neg (fun x => hq (e2.1 x)), if_neg (fun x => hq (e.1 x)), if_neg hq]
structure RunAt (l : List Int) (f : Nat) (b : Bool) : Prop where
 split : (rW5 false l).drop f = rW5 b (l.drop f)
 ahead : f < l.length → isAt (mixL l (rW5 false l) f) ((f : Int) - 1) 3 = b
theorem run_start (l : List Int) : RunAt l 0 false := ⟨rfl, fun _ => by rw [isAt, decide_eq_false_iff_not]; omega⟩
theorem run_next {l : List Int} {f t : Nat} {b : Bool} (h : RunAt l f b) (hft : f ≤ t) (ht : t ≤ l.length) (h5 : ∀ j, f ≤ j → j < t → l[j]? = some 5) (hne : l[t]? ≠ some 5) :
 mixL l (rW5 false l) f = (rW5 false l).take f ++ List.replicate (t - f) 5 ++ l.drop t ∧
 (rW5 false l).take f ++ List.replicate (t - f) (if b = true ∨ l[t]? = some 3 then 3 else 5) ++ l.drop t = mixL l (rW5 false l) (t + 1) ∧
 RunAt l (t + 1) (decide (l[t]? = some 3)) := by
 have e1 : l.drop f = List.replicate (t - f) 5 ++ l.drop t := by
  apply List.ext_getElem?
  intro i
  rw [List.getElem?_drop]
  by_cases hi : i < t - f
  ·rw [List.getElem?_append_left (by simpa using hi), List.getElem?_replicate, if_pos hi, h5 _ (by omega) (by omega)]
  ·rw [List.getElem?_append_right (by simp; omega), List.length_replicate, List.getElem?_drop, show t + (i - (t - f)) = f + i by omega]
 have hh : (l.drop t).head? = l[t]? := by rw [List.head?_drop]
 have e2 := h.split
 rw [e1, w5_run _ _ _ (by rw [hh]; exact hne), hh] at e2
 have hlen := w5_length false l
 have hr5 : mixL l (rW5 false l) f = (rW5 false l).take f ++ List.replicate (t - f) 5 ++ l.drop t := by rw [mixL, e1, List.append_assoc]
 refine ⟨hr5, ?_⟩
 clear hr5 e1
 obtain ⟨X, hX⟩ : ∃ X, List.replicate (t - f) (if b = true ∨ l[t]? = some 3 then (3 : Int) else 5) = X := ⟨_, rfl⟩
 have hXl : X.length = t - f := by rw [← hX, List.length_replicate]
 rw [hX] at e2 ⊢
 obtain ⟨L, hL⟩ : ∃ L, rW5 false l = L := ⟨_, rfl⟩
 rw [hL] at e2 hlen
 have e3 : L.drop t = w5Rest (l.drop t) := by
  have := congrArg (List.drop (t - f)) e2
  rw [List.drop_drop, show f + (t - f) = t by omega, List.drop_append_of_le_length (by omega), List.drop_of_length_le (show X.length ≤ t - f by omega), List.nil_append] at this
  exact this
 have e6 : L.take t = L.take f ++ X := by
  have := congrArg (List.take (t - f)) e2
  rw [List.take_append_of_le_length (by omega), List.take_of_length_le (show X.length ≤ t - f by omega)] at this
  rw [← this, ← List.take_add, show f + (t - f) = t by omega]
 have e4 : ∀ hlt : t < l.length, L.drop t = l[t] :: rW5 (l[t] == 3) (l.drop (t + 1)) := fun hlt => by rw [e3, List.drop_eq_getElem_cons hlt]; rfl
 have e5 : ∀ hlt : t < l.length, L[t]? = some l[t] := fun hlt => by
  have := congrArg (·[0]?) (e4 hlt)
  simpa using this
 refine ⟨?_, ⟨?_, ?_⟩⟩
 ·rw [hL]
  by_cases hlt : t < l.length
  ·obtain ⟨h6, h7⟩ := List.getElem?_eq_some_iff.1 (e5 hlt)
   rw [mixL, take_snoc _ _ h6, h7, e6, List.drop_eq_getElem_cons hlt]
   simp only [List.append_assoc, List.singleton_append]
  ·rw [mixL, List.drop_of_length_le (show l.length ≤ t by omega), List.drop_of_length_le (show l.length ≤ t + 1 by omega), List.take_of_length_le (show L.length ≤ t + 1 by omega), List.append_nil, List.append_nil, ← e6, List.take_of_length_le (by omega)]
 ·rw [hL]
  by_cases hlt : t < l.length
  ·have := congrArg List.tail (e4 hlt)
   rw [List.tail_drop, List.tail_cons] at this
   rw [this, List.getElem?_eq_getElem hlt]
   congr 1
   by_cases h3 : l[t] = 3 <;> simp [h3]
  ·rw [List.drop_of_length_le (by omega), List.drop_of_length_le (by omega)]; rfl
 ·intro hlt
  rw [hL]
  have e : ((((t + 1 : Nat) : Int)) - 1).toNat = t := by omega
  rw [isAt, e, mixL, List.getElem?_append_left (by rw [List.length_take]; omega), List.getElem?_take_of_lt (by omega), e5 (by omega), List.getElem?_eq_getElem (show t < l.length by omega)]
  congr 1
  rw [eq_iff_iff]
  exact ⟨fun h => h.2, fun h => ⟨by omega, h⟩⟩
theorem isAt_mix {l l' : List Int} (hl : l'.length = l.length) {f t : Nat} (hf : f ≤ l.length) (hft : f ≤ t) (m : Int) : isAt (mixL l l' f) t m = decide (l[t]? = some m) := by
 have e3 : (l'.take f).length = f := by rw [List.length_take]; omega
 rw [isAt, Int.toNat_natCast, mixL, List.getElem?_append_right (by omega), e3, List.getElem?_drop, show f + (t - f) = t by omega]
 congr 1
 rw [eq_iff_iff]
 exact ⟨fun h => h.2, fun h => ⟨by omega, h⟩⟩
set_option maxRecDepth 20000 in
set_option maxHeartbeats 4000000 in
theorem terminators_any : Ruled 138 [] (rW5 false) := by
 intro B c A l w hl hB hO
 have h37 := fun (xs : Array Value) (u : World) => call_ok (N := 167) Tryz.func167 (by kernel_rfl) (by kernel_rfl) xs u
 have HC := Lib.hid h37
 clear h37
 show Calls _ _ #[.slice A l.length c] _ _
 by_cases hz : l.length = 0
 ·obtain rfl := List.eq_nil_of_length_eq_zero hz
  have HO := Lib.hid hO
  clear hO hz
  go_enter Tryz.func138, Tryz.ntmps138
  go_wp2_with fail
  go_step3
  go_wp2
  go_step3
  go_wp2
  go_loopw [3] (fun i wr => i = .int .i64 0 ∧ wr = w) (fun _ _ => 0)
  case atStart => exact ⟨rfl, rfl⟩
  case round =>
   obtain ⟨rfl, rfl⟩ := hrel
   go_wp2
   rw [Exit.noGoto_normal]
   exact bodyPost_end (results_none rfl _ _ _) rfl ⟨rfl, HO.out, Below.refl _ _⟩
 have hi : (ints .i64 l).length = l.length := by simp [ints]
 obtain ⟨g, c', hv, hR⟩ := hO.inRow (by omega)
 injection hv with hA hx hc
 subst hA hc
 clear hx
 have hcl : l.length ≤ c := by
  obtain ⟨_, c1, hv, _, h2, _⟩ := hO.form
  injection hv with _ _ hc
  subst hc; rw [hi] at h2; exact h2
 have hcm : c ≤ maxLen := by
  obtain ⟨_, c1, hv, _, _, h2⟩ := hO.form
  injection hv with _ _ hc
  subst hc; exact h2
 unfold maxLen at hcm
 have HO := Lib.hid hO
 have HB := Lib.hid hB
 clear hO hR hB hi
 go_enter Tryz.func138, Tryz.ntmps138
 go_wp2_with fail
 go_step3
 go_wp2
 go_step3
 go_wp2
 go_loopw [3, 2] (fun fv tv wr => ∃ (f t : Nat) (b : Bool), f ≤ l.length + 1 ∧ fv = .int .i64 f ∧ tv = .int .i64 t ∧ Hid (RunAt l f b) ∧ Hid (Own wr B 3 (.slice (some ⟨g, 0, none⟩) l.length c) (ints .i64 (mixL l (rW5 false l) f))) ∧ Hid (Below B w wr)) (fun fv _ _ => l.length + 1 - (intOf fv).toNat)
 case atStart => exact ⟨0, 0, false, by omega, rfl, rfl, Lib.hid (run_start l), HO, Lib.hid (Below.refl _ _)⟩
 case round =>
  obtain ⟨f, t0, b, hf, rfl, rfl, HRA, HOr, HBr⟩ := hrel
  by_cases hlt : f < l.length
  ·have b0 : (f : Int) < (l.length : Int) := by omega
   have hLI : Lies wr wr.heap.size (some ⟨g, 0, none⟩) (ints .i64 (mixL l (rW5 false l) f)) := by
    obtain ⟨_, _, hv, h2, _⟩ := HOr.out.form
    injection hv with hA _ _
    subst hA; exact h2
   have hml : (mixL l (rW5 false l) f).length = l.length := mixL_length (w5_length _ _) (by omega)
   have HIS : Hid (∀ i k : Int, Calls Tryz.prog 166 #[.slice (some ⟨g, 0, none⟩) l.length c, .int .i64 i, .int .i64 k] wr fun ed w' => ed = .returned (.bool (isAt (mixL l (rW5 false l) f) i k)) ∧ wr = w') := Lib.hid fun i k => by
    have := wis_any (some ⟨g, 0, none⟩) (mixL l (rW5 false l) f) c i k wr hLI (by omega)
    rw [hml] at this
    exact this
   have HML := Lib.hid hml
   clear hLI hml
   go_wp2_with fail
   go_loopw [2] (fun tv wx => ∃ t : Nat, f ≤ t ∧ t ≤ l.length ∧ tv = .int .i64 t ∧ Hid (∀ j, f ≤ j → j < t → l[j]? = some 5) ∧ wx = wr) (fun tv _ => l.length + 1 - (intOf tv).toNat)
   case atStart => exact ⟨f, by omega, by omega, rfl, Lib.hid (fun j h1 h2 => by omega), rfl⟩
   case round =>
    obtain ⟨t, hft, htl, rfl, H5, rfl⟩ := hrel
    rcases h5 : isAt (mixL l (rW5 false l) f) t 5 with _ | _
    ·have HT5 := Lib.hid h5
     have hne : l[t]? ≠ some 5 := by
      rw [isAt_mix (w5_length _ _) (by omega) hft] at h5
      simpa using h5
     have HNX := Lib.hid (run_next HRA.out hft htl H5.out hne)
     have h3 : isAt (mixL l (rW5 false l) f) t 3 = decide (l[t]? = some 3) := isAt_mix (w5_length _ _) (by omega) hft 3
     have hw0 : IntKind.i64.wrap ((t : Int) + 1) = ((t + 1 : Nat) : Int) := by rw [IntWalk.i64_in _ (by omega)]; rfl
     have hw1 : IntKind.i64.wrap ((f : Int) - 1) = (f : Int) - 1 := IntWalk.i64_in _ (by omega)
     have HH3 := Lib.hid h3
     have HAH := Lib.hid (HRA.out.ahead hlt)
     clear h5 hne h3
     have HE : Hid ((b = true ∨ l[t]? = some 3) → Calls Tryz.prog 131 #[.slice (some ⟨g, f, none⟩) (t - f) (c - f), .func (.func 167) #[] #[]] wr fun ed w' =>
      ed = .returned (.tuple #[]) ∧ Own w' B 3 (.slice (some ⟨g, 0, none⟩) l.length c) (ints .i64 (mixL l (rW5 false l) (t + 1))) ∧ Below B wr w') := Lib.hid fun hbb => by
      obtain ⟨n1, n2, -⟩ := HNX.out
      rw [if_pos hbb] at n2
      have hlp : ((rW5 false l).take f).length = f := by rw [List.length_take, w5_length]; omega
      have hrl : (ints .i64 (mixL l (rW5 false l) f)).length = l.length := by rw [ints, List.length_map]; exact HML.out
      have hr : Row wr B 3 g c (ints .i64 ((rW5 false l).take f ++ List.replicate (t - f) 5 ++ l.drop t)) := by
       rw [← n1, Row, hrl]; exact HOr.out
      have h := each_any 167 [] HC.out B g c (c - f) ((rW5 false l).take f) (List.replicate (t - f) 5) (List.replicate (t - f) 3) (l.drop t) (by simp) (fun _ _ => True) wr
       (by rw [← n1, HML.out]; exact hl) hr trivial (fun k hk wx _ _ hrx => (term1_any k _ wx).mono fun ed w' ⟨h1, h2⟩ => by
        subst h2
        rw [List.length_replicate] at hk
        refine ⟨?_, trivial, hrx, Below.refl _ _⟩
        rw [h1, List.getD_eq_getElem?_getD, List.getElem?_replicate, if_pos hk]; rfl)
       (fun _ _ _ _ _ => trivial)
      rw [hlp, List.length_replicate] at h
      refine h.mono fun ed w' ⟨h1, _, h2, h3⟩ => ⟨h1, ?_, h3⟩
      rw [n2, Row, ints, List.length_map, mixL_all (w5_length _ _)] at h2
      exact h2
     have c1 : ¬ c = f := by omega
     have c2 : (f : Int) ≤ (t : Int) := by omega
     have c3 : (t : Int) ≤ (c : Int) := by omega
     have c4 : (0 : Int) ≤ (f : Int) := by omega
     rcases hb1 : b with _ | _
     ·have HB1 := Lib.hid hb1
      rcases hb2 : decide (l[t]? = some 3) with _ | _
      ·have HB2 := Lib.hid hb2
       clear hb1 hb2
       go_wp2_with fail
       refine (HIS.out t 5).mono ?_
       rintro e wq ⟨rfl, rfl⟩
       rw [HT5.out]
       go_wp2_with fail
       refine (HIS.out ((f : Int) - 1) 3).mono ?_
       rintro e wq ⟨rfl, rfl⟩
       rw [HAH.out, HB1.out]
       go_wp2_with fail
       refine (HIS.out t 3).mono ?_
       rintro e wq ⟨rfl, rfl⟩
       rw [HH3.out, HB2.out]
       go_wp2
       go_roundw
       case rel =>
        refine ⟨t + 1, t, _, by omega, by go_num, rfl, Lib.hid HNX.out.2.2, Lib.hid ?_, HBr⟩
        obtain ⟨n1, n2, -⟩ := HNX.out
        have hno : ¬ (b = true ∨ l[t]? = some 3) := by rw [HB1.out]; have := HB2.out; simpa using this
        rw [if_neg hno, ← n1] at n2
        rw [← n2]; exact HOr.out
       case measure => simp [intOf]; omega
      ·have HB2 := Lib.hid hb2
       clear hb1 hb2
       go_wp2_with fail
       refine (HIS.out t 5).mono ?_
       rintro e wq ⟨rfl, rfl⟩
       rw [HT5.out]
       go_wp2_with fail
       refine (HIS.out ((f : Int) - 1) 3).mono ?_
       rintro e wq ⟨rfl, rfl⟩
       rw [HAH.out, HB1.out]
       go_wp2_with fail
       refine (HIS.out t 3).mono ?_
       rintro e wq ⟨rfl, rfl⟩
       rw [HH3.out, HB2.out]
       go_wp2_with fail
       refine (HE.out (.inr (of_decide_eq_true HB2.out))).mono ?_
       rintro e w2 ⟨rfl, o2, b2⟩
       have O2 := Lib.hid o2
       have B2 := Lib.hid (HBr.out.trans b2)
       clear o2 b2
       go_wp2
       go_roundw
       case rel => exact ⟨t + 1, t, _, by omega, by go_num, rfl, Lib.hid HNX.out.2.2, O2, B2⟩
       case measure => simp [intOf]; omega
     ·have HB1 := Lib.hid hb1
      clear hb1
      go_wp2_with fail
      refine (HIS.out t 5).mono ?_
      rintro e wq ⟨rfl, rfl⟩
      rw [HT5.out]
      go_wp2_with fail
      refine (HIS.out ((f : Int) - 1) 3).mono ?_
      rintro e wq ⟨rfl, rfl⟩
      rw [HAH.out, HB1.out]
      go_wp2_with fail
      refine (HE.out (.inl HB1.out)).mono ?_
      rintro e w2 ⟨rfl, o2, b2⟩
      have O2 := Lib.hid o2
      have B2 := Lib.hid (HBr.out.trans b2)
      clear o2 b2
      go_wp2
      go_roundw
      case rel => exact ⟨t + 1, t, _, by omega, by go_num, rfl, Lib.hid HNX.out.2.2, O2, B2⟩
      case measure => simp [intOf]; omega
    ·have HT5 := Lib.hid h5
     have h5' : l[t]? = some 5 := by
      rw [isAt_mix (w5_length _ _) (by omega) hft] at h5
      simpa using h5
     have hlt2 : t < l.length := by
      obtain ⟨h, _⟩ := List.getElem?_eq_some_iff.1 h5'
      exact h
     have H5' := Lib.hid h5'
     have hw0 : IntKind.i64.wrap ((t : Int) + 1) = ((t + 1 : Nat) : Int) := by rw [IntWalk.i64_in _ (by omega)]; rfl
     clear h5 h5'
     go_wp2_with fail
     refine (HIS.out t 5).mono ?_
     rintro e wq ⟨rfl, rfl⟩
     rw [HT5.out]
     go_wp2
     go_roundw
     case rel =>
      refine ⟨t + 1, by omega, by omega, by go_num, Lib.hid fun j h1 h2 => ?_, by first | rfl | trivial⟩
      by_cases hj : j = t
      ·subst hj; exact H5'.out
      ·exact H5.out j h1 (by omega)
     case measure => simp [intOf]; omega
  ·go_wp2
   rw [Exit.noGoto_normal]
   refine bodyPost_end (results_none rfl _ _ _) rfl ⟨rfl, ?_, HBr.out⟩
   have := HOr.out
   rw [mixL, List.take_of_length_le (by rw [w5_length]; omega), List.drop_of_length_le (by omega), List.append_nil] at this
   exact this
end Go.Proofs.YtcbaahlahohfmaaGreatDoor
namespace Go.Proofs.YtcbaahlahohfmaaGreatDoor
open Go.RowKit
theorem ex3 (l : List Int) : (l.map fun k => if k ∈ ([2] : List Int) then (1 : Int) else k) = rW3 l := by
 rw [rW3]
 apply List.map_congr_left
 intro k _
 simp
theorem ex6 (l : List Int) : (l.map fun k => if k ∈ ([4, 5, 7] : List Int) then (13 : Int) else k) = rW6 l := by
 rw [rW6]
 apply List.map_congr_left
 intro k _
 simp
set_option maxRecDepth 20000 in
set_option maxHeartbeats 4000000 in
theorem rule_own (s : Int) (n : Nat) (h1 : 1 ≤ n) (h7 : n ≤ 7) : Ruled 92 [.int .i64 s, .int .i64 (n : Int)] (fun l => rulePlain l s n) := by
 intro B c A l w hl hB hO
 have HO := Lib.hid hO
 have HBB := Lib.hid hB
 clear hB
 show Calls _ _ #[.slice A l.length c, .int .i64 s, .int .i64 (n : Int)] _ _
 have h : n = 1 ∨ n = 2 ∨ n = 3 ∨ n = 4 ∨ n = 5 ∨ n = 6 ∨ n = 7 := by omega
 clear h1 h7
 rcases h with rfl | rfl | rfl | rfl | rfl | rfl | rfl
 ·clear hO
  go_enter Tryz.func92, Tryz.ntmps92
  go_wp2_with fail
  refine (marks_any s B c A l w hl HBB.out HO.out).mono ?_
  rintro e w1 ⟨rfl, o1, b1⟩
  have O1 := Lib.hid o1
  have B1 := Lib.hid b1
  clear o1 b1
  go_wp2
  exact bodyPost_end (results_none rfl _ _ _) rfl ⟨rfl, O1.out, B1.out⟩
 ·clear hO
  go_enter Tryz.func92, Tryz.ntmps92
  go_wp2_with fail
  refine (numbers_any s 2 6 B c A l w hl HBB.out HO.out).mono ?_
  rintro e w1 ⟨rfl, o1, b1⟩
  have O1 := Lib.hid o1
  have B1 := Lib.hid b1
  clear o1 b1
  go_wp2
  exact bodyPost_end (results_none rfl _ _ _) rfl ⟨rfl, O1.out, B1.out⟩
 ·have hap := own_fresh hO (Nat.le_refl _)
  have H := exchange_any 1 [2] 1 w.heap.size #[.int .i64 2] rfl (by decide) B c A l (w.alloc (.cells #[.int .i64 2] 3)) hl (by have := HBB.out; simp; omega) (hO.alloc _) (World.alloc_heap_new w _) hap
  rw [ex3] at H
  have HX := Lib.hid H
  clear hO H hap
  go_enter Tryz.func92, Tryz.ntmps92
  go_wp2_with fail
  refine HX.out.mono ?_
  rintro e w1 ⟨rfl, o1, b1⟩
  have O1 := Lib.hid o1
  have B1 := Lib.hid (((Below.refl B w).alloc HBB.out _).trans b1)
  clear o1 b1
  go_wp2
  exact bodyPost_end (results_none rfl _ _ _) rfl ⟨rfl, O1.out, B1.out⟩
 ·clear hO
  go_enter Tryz.func92, Tryz.ntmps92
  go_wp2_with fail
  refine (separators_any B c A l w hl HBB.out HO.out).mono ?_
  rintro e w1 ⟨rfl, o1, b1⟩
  have O1 := Lib.hid o1
  have B1 := Lib.hid b1
  clear o1 b1
  go_wp2
  exact bodyPost_end (results_none rfl _ _ _) rfl ⟨rfl, O1.out, B1.out⟩
 ·clear hO
  go_enter Tryz.func92, Tryz.ntmps92
  go_wp2_with fail
  refine (terminators_any B c A l w hl HBB.out HO.out).mono ?_
  rintro e w1 ⟨rfl, o1, b1⟩
  have O1 := Lib.hid o1
  have B1 := Lib.hid b1
  clear o1 b1
  go_wp2
  exact bodyPost_end (results_none rfl _ _ _) rfl ⟨rfl, O1.out, B1.out⟩
 ·have hap := own_fresh hO (Nat.le_refl _)
  have H := exchange_any 13 [4, 5, 7] 3 w.heap.size #[.int .i64 4, .int .i64 5, .int .i64 7] rfl (by decide) B c A l (w.alloc (.cells #[.int .i64 4, .int .i64 5, .int .i64 7] 3)) hl (by have := HBB.out; simp; omega) (hO.alloc _) (World.alloc_heap_new w _) hap
  rw [ex6] at H
  have HX := Lib.hid H
  clear hO H hap
  go_enter Tryz.func92, Tryz.ntmps92
  go_wp2_with fail
  refine HX.out.mono ?_
  rintro e w1 ⟨rfl, o1, b1⟩
  have O1 := Lib.hid o1
  have B1 := Lib.hid (((Below.refl B w).alloc HBB.out _).trans b1)
  clear o1 b1
  go_wp2
  exact bodyPost_end (results_none rfl _ _ _) rfl ⟨rfl, O1.out, B1.out⟩
 ·clear hO
  go_enter Tryz.func92, Tryz.ntmps92
  go_wp2_with fail
  refine (numbers_any s 0 0 B c A l w hl HBB.out HO.out).mono ?_
  rintro e w1 ⟨rfl, o1, b1⟩
  have O1 := Lib.hid o1
  have B1 := Lib.hid b1
  clear o1 b1
  go_wp2
  exact bodyPost_end (results_none rfl _ _ _) rfl ⟨rfl, O1.out, B1.out⟩
set_option maxHeartbeats 1000000 in
theorem wknown_any (A : Option Addr) (l : List Int) (c : Nat) (w : World) (hT : ClsTabs w) (h : Lies w w.heap.size A (ints .i64 l)) (hl : l.length ≤ 1000000) :
 Calls Tryz.prog 91 #[.slice A l.length c] w fun ed w' => ∃ A2 c2, ed = .returned (.slice A2 l.length c2) ∧ Own w' w.heap.size 3 (.slice A2 l.length c2) (ints .i64 (plainL l)) ∧ Below w.heap.size w w' := by
 have H := Lib.hid h
 have HT := Lib.hid hT
 have HC := Lib.hid fun (xs : Array Value) (u : World) => call_ok (N := 132) Tryz.func132 (by kernel_rfl) (by kernel_rfl) xs u
 clear h hT
 go_enter Tryz.func91, Tryz.ntmps91
 go_wp2_with fail
 refine (clone_any A l c w H.out hl).mono ?_
 rintro e w1 ⟨v1, rfl, o1, b1⟩
 obtain ⟨A1, c1, rfl, -, -, -⟩ := o1.form
 have hx : (ints .i64 l).length = l.length := by simp [ints]
 rw [hx] at o1 ⊢
 have HE := each_own 132 [] HC.out w.heap.size c1 A1 l (plainL l) (by simp [plainL]) (fun _ _ => True) w1 hl o1 trivial
  (fun k hk wr _ hbel ho => (known1_any k (l.getD k 0) wr (HT.out.below (b1.trans hbel) HT.out.big)).mono fun ed w' ⟨h1, h2⟩ => by
   subst h2
   rw [map_at plainK hk] at h1
   exact ⟨h1, trivial, ho, Below.refl _ _⟩)
  (fun _ _ _ _ _ _ _ => trivial)
 have HX := Lib.hid HE
 have B1 := Lib.hid b1
 clear HE o1 b1 hx
 go_wp2_with fail
 refine HX.out.mono ?_
 rintro e w2 ⟨rfl, -, o2, b2⟩
 have O2 := Lib.hid o2
 have B2 := Lib.hid (B1.out.trans b2)
 clear o2 b2
 go_wp2
 go_ret
 exact ⟨A1, c1, rfl, O2.out, B2.out⟩
def ruleChain (l : List Int) (sos : Int) : Nat → List Int
 | 0 => plainL l
 | n + 1 => rulePlain (ruleChain l sos n) (sideK sos) (n + 1)
theorem ruleChain_length (l : List Int) (sos : Int) : ∀ n, (ruleChain l sos n).length = l.length
 | 0 => by simp [ruleChain, plainL]
 | n + 1 => by rw [ruleChain, rulePlain_length, ruleChain_length]
theorem ruleChain_all (l : List Int) (sos : Int) : ruleChain l sos 7 = ofI l sos := (ofI_eq l sos).1.symm
set_option maxHeartbeats 1000000 in
theorem wof_any (A : Option Addr) (l : List Int) (c : Nat) (sos : Int) (w : World) (hT : ClsTabs w) (h : Lies w w.heap.size A (ints .i64 l)) (hl : l.length ≤ 1000) :
 Calls Tryz.prog 54 #[.slice A l.length c, .int .i64 sos] w fun ed w' => Rowed w w.heap.size 3 (ints .i64 (ofI l sos)) ed w' := by
 have H := Lib.hid h
 have HT := Lib.hid hT
 clear h hT
 go_enter Tryz.func54, Tryz.ntmps54
 go_wp2_with fail
 refine (wknown_any A l c w HT.out H.out (by omega)).mono ?_
 rintro e w1 ⟨A1, c1, rfl, o1, b1⟩
 have O1 := Lib.hid o1
 have B1 := Lib.hid b1
 clear o1 b1
 go_wp2_with fail
 go_loopw [6] (fun nv wr => ∃ n : Nat, n ≤ 7 ∧ nv = .int .i64 ((n + 1 : Nat) : Int) ∧ Hid (Own wr w.heap.size 3 (.slice A1 l.length c1) (ints .i64 (ruleChain l sos n))) ∧ Hid (Below w.heap.size w wr)) (fun nv _ => 8 - (intOf nv).toNat)
 case atStart => exact ⟨0, by omega, rfl, O1, B1⟩
 case round =>
  obtain ⟨n, hn, rfl, HO, HB⟩ := hrel
  by_cases hlt : n < 7
  ·have hR := rule_own (sideK sos) (n + 1) (by omega) (by omega) w.heap.size c1 A1 (ruleChain l sos n) wr (by rw [ruleChain_length]; omega) HB.out.size (by rw [ruleChain_length]; exact HO.out)
   rw [ruleChain_length] at hR
   change Calls _ _ _ _ (fun ed w' => _ ∧ Own w' _ _ _ (ints .i64 (ruleChain l sos (n + 1))) ∧ _) at hR
   have HX := Lib.hid hR
   clear hR
   have b1 : decide ((((n + 1 : Nat) : Int)) ≤ 7) = true := by simp; omega
   have b0 : (((n + 1 : Nat) : Int)) ≤ 7 := by omega
   have b2 : IntKind.i64.wrap (((n + 1 : Nat) : Int) + 1) = ((n + 1 + 1 : Nat) : Int) := by rw [IntWalk.i64_in _ (by omega)]; rfl
   generalize hz : ((n + 1 : Nat) : Int) = z at *
   have HZ := Lib.hid hz
   clear hz
   go_wp2_with fail
   refine (wside_any sos wr).mono ?_
   rintro e wq ⟨rfl, rfl⟩
   go_wp2_with fail
   refine HX.out.mono ?_
   rintro e w2 ⟨rfl, o2, b2'⟩
   have O2 := Lib.hid o2
   have B2 := Lib.hid (HB.out.trans b2')
   clear o2 b2'
   go_wp2
   go_roundw
   case rel => exact ⟨n + 1, by omega, rfl, O2, B2⟩
   case measure => rw [← HZ.out]; simp [intOf]; omega
  ·obtain rfl : n = 7 := by omega
   go_wp2
   go_ret
   exact ⟨_, rfl, by have := HO.out; rw [ruleChain_all] at this; exact this, HB.out⟩
end Go.Proofs.YtcbaahlahohfmaaGreatDoor
