/- Layer 9: what the program's closures say of a place. -/
import Derived.Test.YtibconopcacelaaDoorWkA
namespace Go.Proofs.YtibconopcacelaaDoor
open Go.RowKit

theorem call_ok {N : Nat} {fn : Func} (h : Tryd.prog.funcs[N]? = some fn) (h1 : (fn.name == "runtime.NumGoroutine") = false) (h2 : fn.body.isNone = false) (xs : Array Value) (u : World) :
    Sem.run Tryd.prog (callFunc N xs) u = .ok (.enter N xs) u := by
  have h3 : fn.name ≠ "runtime.NumGoroutine" := by simpa using h1
  have h4 : fn.body ≠ none := by intro e; rw [e] at h2; cases h2
  simp [callFunc, h, h3, h4, go_sem]

theorem known1_any (i k : Int) (w : World) (hT : ClsTabs w) : Calls Tryd.prog 20 #[.int .i64 i, .int .i64 k] w fun ed w' => ed = .returned (.int .i64 (plainK k)) ∧ w = w' := by
  go_enter Tryd.func20, Tryd.ntmps20
  go_wp2_with fail
  refine (wcounted_any k w hT).mono ?_
  rintro e wq ⟨rfl, rfl⟩
  go_wp2
  go_ret
  exact ⟨rfl, rfl⟩
theorem term1_any (i k : Int) (w : World) : Calls Tryd.prog 37 #[.int .i64 i, .int .i64 k] w fun ed w' => ed = .returned (.int .i64 3) ∧ w = w' := by
  go_enter Tryd.func37, Tryd.ntmps37
  go_wp2
  go_ret
  exact ⟨rfl, rfl⟩

/-- rule 1 at one place, behind what p has become -/
def w1K (p k : Int) : Int := if k = 8 then (if isOpens p ∨ p = 22 then 13 else p) else k
theorem grown_of_below {w w' : World} (h : Below w.heap.size w w') (row : Option Nat) : w.grownBy w' row := ⟨h.os, h.tape, h.output, h.size, fun k hk _ => h.block k hk⟩

set_option maxHeartbeats 1000000 in
theorem marks1_any (i k p : Int) (b : Nat) (w : World) (hb : Boxed w b 3 (.int .i64 p)) :
    Calls Tryd.prog 29 #[.int .i64 i, .int .i64 k, .pointer (some ⟨b, 0, none⟩)] w fun ed w' => ed = .returned (.int .i64 (w1K p k)) ∧ Boxed w' b 3 (.int .i64 (w1K p k)) ∧ w.grownBy w' (some b) := by
  have hc := hb.cell
  have hf := hb.frozen
  have HB := Lib.hid hb
  clear hb
  rcases hk : (k != 8) with _ | _
  · have hz : w1K p k = if isOpens p ∨ p = 22 then 13 else p := by rw [w1K, if_pos (by simpa using hk)]
    rcases ho : isOpens p with _ | _
    · have HO := Lib.hid ho
      rcases h2 : (p == 22) with _ | _
      · have e : w1K p k = p := by
          rw [hz, ho, if_neg]
          simp at h2 ⊢; exact h2
        rw [e]
        clear e hz ho
        go_enter Tryd.func29, Tryd.ntmps29
        go_wp2_with fail
        refine (opens_any p w).mono ?_
        rintro e w1 ⟨rfl, b1⟩
        rw [HO.out]
        have X1 := Lib.hid (HB.out.kept (grown_of_below b1 none) (by simp))
        have hc1 := X1.out.cell
        have B1 := Lib.hid b1
        clear b1
        go_wp2
        go_ret
        exact ⟨rfl, X1.out, grown_of_below B1.out _⟩
      · have e : w1K p k = 13 := by
          rw [hz, ho, if_pos]
          simp at h2 ⊢; exact h2
        rw [e]
        clear e hz ho
        go_enter Tryd.func29, Tryd.ntmps29
        go_wp2_with fail
        refine (opens_any p w).mono ?_
        rintro e w1 ⟨rfl, b1⟩
        rw [HO.out]
        have X1 := Lib.hid (HB.out.kept (grown_of_below b1 none) (by simp))
        have hc1 := X1.out.cell
        have hf1 := X1.out.frozen
        have B1 := Lib.hid b1
        clear b1
        go_wp2
        go_ret
        exact ⟨rfl, X1.out.set _, (grown_of_below B1.out _).trans (grownBy_setCell' _ _ _)⟩
    · have HO := Lib.hid ho
      have e : w1K p k = 13 := by rw [hz, ho, if_pos (by simp)]
      rw [e]
      clear e hz ho
      go_enter Tryd.func29, Tryd.ntmps29
      go_wp2_with fail
      refine (opens_any p w).mono ?_
      rintro e w1 ⟨rfl, b1⟩
      rw [HO.out]
      have X1 := Lib.hid (HB.out.kept (grown_of_below b1 none) (by simp))
      have hc1 := X1.out.cell
      have hf1 := X1.out.frozen
      have B1 := Lib.hid b1
      clear b1
      go_wp2
      go_ret
      exact ⟨rfl, X1.out.set _, (grown_of_below B1.out _).trans (grownBy_setCell' _ _ _)⟩
  · have hz : w1K p k = k := by rw [w1K, if_neg (by simpa using hk)]
    rw [hz]
    clear hz
    go_enter Tryd.func29, Tryd.ntmps29
    go_wp2
    go_ret
    exact ⟨rfl, HB.out.set _, grownBy_setCell' _ _ _⟩

set_option maxHeartbeats 1000000 in
theorem numbers1_any (i k s a t : Int) (b b2 b3 : Nat) (w : World) (hb : Boxed w b 3 (.int .i64 s)) (hb2 : Boxed w b2 3 (.int .i64 a)) (hb3 : Boxed w b3 3 (.int .i64 t)) :
    Calls Tryd.prog 31 #[.int .i64 i, .int .i64 k, .pointer (some ⟨b, 0, none⟩), .pointer (some ⟨b2, 0, none⟩), .pointer (some ⟨b3, 0, none⟩)] w
      fun ed w' => ed = .returned (.int .i64 (if k = 3 ∧ s = a then t else k)) ∧ Boxed w' b 3 (.int .i64 (if isStrong k then k else s)) ∧ w.grownBy w' (some b) := by
  have HB := Lib.hid hb
  have HB2 := Lib.hid hb2
  have HB3 := Lib.hid hb3
  clear hb hb2 hb3
  rcases hs : isStrong k with _ | _
  · have HS := Lib.hid hs
    obtain ⟨r, hr⟩ : ∃ r, (if k = 3 ∧ s = a then t else k) = r := ⟨_, rfl⟩
    rw [hr, if_neg (by simp)]
    have HR := Lib.hid hr
    clear hs hr
    go_enter Tryd.func31, Tryd.ntmps31
    go_wp2_with fail
    refine (strong_any k w).mono ?_
    rintro e w1 ⟨rfl, b1⟩
    rw [HS.out]
    have X1 := Lib.hid (HB.out.kept (grown_of_below b1 none) (by simp))
    have hc1 := X1.out.cell
    have hc2 := (HB2.out.kept (grown_of_below b1 none) (by simp)).cell
    have hc3 := (HB3.out.kept (grown_of_below b1 none) (by simp)).cell
    have B1 := Lib.hid b1
    clear b1
    rcases h3 : (k == 3) with _ | _
    · have e : r = k := by rw [← HR.out, if_neg]; intro h; simp [h.1] at h3
      subst e
      go_wp2
      go_ret
      exact ⟨rfl, X1.out, grown_of_below B1.out _⟩
    · rcases h4 : (s == a) with _ | _
      · have e : r = k := by rw [← HR.out, if_neg]; intro h; simp [h.2] at h4
        subst e
        go_wp2
        go_ret
        exact ⟨rfl, X1.out, grown_of_below B1.out _⟩
      · have e : r = t := by rw [← HR.out, if_pos]; simpa using And.intro h3 h4
        subst e
        go_wp2
        go_ret
        exact ⟨rfl, X1.out, grown_of_below B1.out _⟩
  · have HS := Lib.hid hs
    have e : (if k = 3 ∧ s = a then t else k) = k := by
      rw [if_neg]
      rintro ⟨rfl, _⟩
      simp [isStrong] at hs
    rw [e, if_pos rfl]
    clear hs e
    go_enter Tryd.func31, Tryd.ntmps31
    go_wp2_with fail
    refine (strong_any k w).mono ?_
    rintro e w1 ⟨rfl, b1⟩
    rw [HS.out]
    have X1 := Lib.hid (HB.out.kept (grown_of_below b1 none) (by simp))
    have hc1 := X1.out.cell
    have hf1 := X1.out.frozen
    have B1 := Lib.hid b1
    clear b1
    go_wp2
    go_ret
    exact ⟨rfl, X1.out.set _, (grown_of_below B1.out _).trans (grownBy_setCell' _ _ _)⟩

set_option maxHeartbeats 400000 in
theorem contains_any (A : Option Addr) (l : List Int) (c : Nat) (v : Int) (w : World) (h : Lies w w.heap.size A (ints .i64 l)) (hl : l.length ≤ 1000000) :
    Calls Tryd.prog 33 #[.slice A l.length c, .int .i64 v] w fun e w' => e = .returned (.bool (decide (v ∈ l))) ∧ w = w' := by
  have H := Lib.hid h
  clear h
  go_enter Tryd.func33, Tryd.ntmps33
  go_wp2_with fail
  refine (index_any _ _ _ _ _ _ H.out (by omega)).mono ?_
  rintro e w' ⟨n, rfl, hn, rfl⟩
  have HN := Lib.hid hn
  clear hn
  go_wp2
  go_ret
  exact ⟨ret_bool (by simp [HN.out]), rfl⟩

set_option maxHeartbeats 1000000 in
theorem exchange1_any (i k t : Int) (A : Option Addr) (l : List Int) (c : Nat) (b b2 : Nat) (w : World) (hb : Boxed w b 22 (.slice A l.length c)) (hb2 : Boxed w b2 3 (.int .i64 t)) (h : Lies w w.heap.size A (ints .i64 l)) (hl : l.length ≤ 1000000) :
    Calls Tryd.prog 32 #[.int .i64 i, .int .i64 k, .pointer (some ⟨b, 0, none⟩), .pointer (some ⟨b2, 0, none⟩)] w
      fun ed w' => ed = .returned (.int .i64 (if k ∈ l then t else k)) ∧ w = w' := by
  have hc := hb.cell
  have hc2 := hb2.cell
  have H := Lib.hid h
  clear hb hb2 h
  rcases hd : decide (k ∈ l) with _ | _
  · have HD := Lib.hid hd
    rw [if_neg (by simpa using hd)]
    clear hd
    go_enter Tryd.func32, Tryd.ntmps32
    go_wp2_with fail
    refine (contains_any A l c k w H.out hl).mono ?_
    rintro e wq ⟨rfl, rfl⟩
    rw [HD.out]
    go_wp2
    go_ret
    exact ⟨rfl, rfl⟩
  · have HD := Lib.hid hd
    rw [if_pos (by simpa using hd)]
    clear hd
    go_enter Tryd.func32, Tryd.ntmps32
    go_wp2_with fail
    refine (contains_any A l c k w H.out hl).mono ?_
    rintro e wq ⟨rfl, rfl⟩
    rw [HD.out]
    go_wp2
    go_ret
    exact ⟨rfl, rfl⟩

set_option maxHeartbeats 1000000 in
/-- separators' own closure: does a number stand at both sides? -/
theorem within_any (i m : Int) (hi : 0 ≤ i ∧ i ≤ 1000000) (A : Option Addr) (l : List Int) (c : Nat) (b b2 : Nat) (w : World) (hb : Boxed w b 22 (.slice A l.length c)) (hb2 : Boxed w b2 3 (.int .i64 i)) (h : Lies w w.heap.size A (ints .i64 l)) (hl : l.length ≤ 1000000) :
    Calls Tryd.prog 35 #[.int .i64 m, .pointer (some ⟨b, 0, none⟩), .pointer (some ⟨b2, 0, none⟩)] w
      fun ed w' => ed = .returned (.bool (isAt l (i - 1) m && isAt l (i + 1) m)) ∧ w = w' := by
  have hc := hb.cell
  have hc2 := hb2.cell
  have H := Lib.hid h
  have w1 : IntKind.i64.wrap (i - 1) = i - 1 := IntWalk.i64_in _ (by omega)
  have w2 : IntKind.i64.wrap (i + 1) = i + 1 := IntWalk.i64_in _ (by omega)
  clear hb hb2 h
  rcases hd : isAt l (i - 1) m with _ | _
  · have HD := Lib.hid hd
    rw [Bool.false_and]
    clear hd
    go_enter Tryd.func35, Tryd.ntmps35
    go_wp2_with fail
    refine (wis_any A l c (i - 1) m w H.out hl).mono ?_
    rintro e wq ⟨rfl, rfl⟩
    rw [HD.out]
    go_wp2
    go_ret
    exact ⟨rfl, rfl⟩
  · have HD := Lib.hid hd
    rw [Bool.true_and]
    clear hd
    go_enter Tryd.func35, Tryd.ntmps35
    go_wp2_with fail
    refine (wis_any A l c (i - 1) m w H.out hl).mono ?_
    rintro e wq ⟨rfl, rfl⟩
    rw [HD.out]
    go_wp2_with fail
    refine (wis_any A l c (i + 1) m w H.out hl).mono ?_
    rintro e wq ⟨rfl, rfl⟩
    go_wp2
    go_ret
    exact ⟨rfl, rfl⟩

/-- rule 4 at one place of a list -/
def sepK (l : List Int) (i k : Int) : Int :=
  if (k = 4 ∨ k = 7) ∧ (isAt l (i - 1) 3 && isAt l (i + 1) 3) = true then 3 else if k = 7 ∧ (isAt l (i - 1) 6 && isAt l (i + 1) 6) = true then 6 else k
set_option maxHeartbeats 1000000 in
theorem sep1_any (i k : Int) (hi : 0 ≤ i ∧ i ≤ 1000000) (A : Option Addr) (l : List Int) (c : Nat) (b : Nat) (w : World) (hb : Boxed w b 22 (.slice A l.length c)) (h : Lies w w.heap.size A (ints .i64 l)) (hl : l.length ≤ 1000000) :
    Calls Tryd.prog 34 #[.int .i64 i, .int .i64 k, .pointer (some ⟨b, 0, none⟩)] w
      fun ed w' => ed = .returned (.int .i64 (sepK l i k)) ∧ Below w.heap.size w w' := by
  have HB := Lib.hid (hb.alloc (.cells #[.int .i64 i] 3))
  have HI := Lib.hid (Boxed.new w 3 (.int .i64 i))
  have H := Lib.hid (h.up (below_alloc w (.cells #[.int .i64 i] 3)))
  clear hb h
  rcases h3 : isAt l (i - 1) 3 && isAt l (i + 1) 3 with _ | _
  · have H3 := Lib.hid h3
    rcases h7 : (k == 7) with _ | _
    · have e : sepK l i k = k := by
        rw [sepK, if_neg (by rw [h3]; simp), if_neg]
        rintro ⟨rfl, _⟩; simp at h7
      rw [e]
      clear e h3
      rcases h4 : (k == 4) with _ | _
      · go_enter Tryd.func34, Tryd.ntmps34
        go_wp2
        go_ret
        exact ⟨rfl, below_alloc _ _⟩
      · go_enter Tryd.func34, Tryd.ntmps34
        go_wp2_with fail
        refine (within_any i 3 hi A l c b w.heap.size _ HB.out HI.out H.out hl).mono ?_
        rintro e wq ⟨rfl, rfl⟩
        rw [H3.out]
        go_wp2
        go_ret
        exact ⟨rfl, below_alloc _ _⟩
    · obtain rfl : k = 7 := by simpa using h7
      clear h7
      rcases h6 : isAt l (i - 1) 6 && isAt l (i + 1) 6 with _ | _
      · have H6 := Lib.hid h6
        have e : sepK l i 7 = 7 := by rw [sepK, if_neg (by rw [h3]; simp), if_neg (by rw [h6]; simp)]
        rw [e]
        clear e h3 h6
        go_enter Tryd.func34, Tryd.ntmps34
        go_wp2_with fail
        refine (within_any i 3 hi A l c b w.heap.size _ HB.out HI.out H.out hl).mono ?_
        rintro e wq ⟨rfl, rfl⟩
        rw [H3.out]
        go_wp2_with fail
        refine (within_any i 6 hi A l c b w.heap.size _ HB.out HI.out H.out hl).mono ?_
        rintro e wq ⟨rfl, rfl⟩
        rw [H6.out]
        go_wp2
        go_ret
        exact ⟨rfl, below_alloc _ _⟩
      · have H6 := Lib.hid h6
        have e : sepK l i 7 = 6 := by rw [sepK, if_neg (by rw [h3]; simp), if_pos ⟨rfl, h6⟩]
        rw [e]
        clear e h3 h6
        go_enter Tryd.func34, Tryd.ntmps34
        go_wp2_with fail
        refine (within_any i 3 hi A l c b w.heap.size _ HB.out HI.out H.out hl).mono ?_
        rintro e wq ⟨rfl, rfl⟩
        rw [H3.out]
        go_wp2_with fail
        refine (within_any i 6 hi A l c b w.heap.size _ HB.out HI.out H.out hl).mono ?_
        rintro e wq ⟨rfl, rfl⟩
        rw [H6.out]
        go_wp2
        go_ret
        exact ⟨rfl, below_alloc _ _⟩
  · have H3 := Lib.hid h3
    rcases h7 : (k == 7) with _ | _
    · rcases h4 : (k == 4) with _ | _
      · have e : sepK l i k = k := by
          simp only [beq_eq_false_iff_ne] at h4 h7
          rw [sepK, if_neg (by rintro ⟨h | h, _⟩ <;> contradiction), if_neg (by rintro ⟨h, _⟩; contradiction)]
        rw [e]
        clear e h3
        go_enter Tryd.func34, Tryd.ntmps34
        go_wp2
        go_ret
        exact ⟨rfl, below_alloc _ _⟩
      · have e : sepK l i k = 3 := by rw [sepK, if_pos ⟨.inl (by simpa using h4), h3⟩]
        rw [e]
        clear e h3
        go_enter Tryd.func34, Tryd.ntmps34
        go_wp2_with fail
        refine (within_any i 3 hi A l c b w.heap.size _ HB.out HI.out H.out hl).mono ?_
        rintro e wq ⟨rfl, rfl⟩
        rw [H3.out]
        go_wp2
        go_ret
        exact ⟨rfl, below_alloc _ _⟩
    · obtain rfl : k = 7 := by simpa using h7
      clear h7
      have e : sepK l i 7 = 3 := by rw [sepK, if_pos ⟨.inr rfl, h3⟩]
      rw [e]
      clear e h3
      go_enter Tryd.func34, Tryd.ntmps34
      go_wp2_with fail
      refine (within_any i 3 hi A l c b w.heap.size _ HB.out HI.out H.out hl).mono ?_
      rintro e wq ⟨rfl, rfl⟩
      rw [H3.out]
      go_wp2
      go_ret
      exact ⟨rfl, below_alloc _ _⟩
end Go.Proofs.YtibconopcacelaaDoor
