/- Rows of one's own: cleared from a place on; slices.Clone and slices.Equal over []int; what is kept of a list while it is gone through in place. -/
import Derived.Test.YtadfleopbpomfaaCells
import Derived.Test.YtadfleopbpomfaaSlc
import Derived.Test.YtadfleopbpomfaaInts
import Derived.Lib.SliceRun
import Derived.Laws.IdiomCopy
namespace Go.Proofs.Ytadfleopbpomfaa
open Go.RowKit

theorem set_take_drop (xs vs : List Value) (j : Nat) (v : Value) (h : j + (v :: vs).length ≤ xs.length) :
    (xs.set j v).take (j + 1) ++ vs ++ (xs.set j v).drop (j + 1 + vs.length) = xs.take j ++ (v :: vs) ++ xs.drop (j + (v :: vs).length) := by
  simp only [List.length_cons] at h ⊢
  have h1 : (xs.set j v).take (j + 1) = xs.take j ++ [v] := by
    rw [List.take_succ_eq_append_getElem (by rw [List.length_set]; omega), List.take_set_of_le (Nat.le_refl _), List.getElem_set_self]
  have h2 : (xs.set j v).drop (j + 1 + vs.length) = xs.drop (j + (vs.length + 1)) := by
    rw [List.drop_set_of_lt (by omega), show j + 1 + vs.length = j + (vs.length + 1) by omega]
  rw [h1, h2]; simp
theorem Row.setCells {B : Nat} {e : TypeId} {g c : Nat} {w0 : World} : ∀ (vs : List Value) (j : Nat) (w : World) (xs : List Value), Row w B e g c xs → Below B w0 w → j + vs.length ≤ xs.length →
    Row (w.setCells g j vs) B e g c (xs.take j ++ vs ++ xs.drop (j + vs.length)) ∧ Below B w0 (w.setCells g j vs)
  | [], j, w, xs, h, hb, _ => by simpa [World.setCells] using And.intro h hb
  | v :: vs, j, w, xs, h, hb, hl => by
    have hl2 : j + vs.length + 1 ≤ xs.length := by simp only [List.length_cons] at hl; omega
    obtain ⟨h1, h2⟩ := Row.setCells vs (j + 1) _ _ (h.set j v) (Row.setB hb h j v) (by rw [List.length_set]; omega)
    rw [set_take_drop xs vs j v hl] at h1
    exact ⟨h1, h2⟩

/-- a list that is gone through in place: what is kept of the first j stands at its beginning, from j on it is as it was -/
structure Kpt (p : Int → Bool) (l : List Int) (j : Nat) (cur : List Int) : Prop where
  len : cur.length = l.length
  done : cur.take (l.take j |>.filter p).length = (l.take j).filter p
  rest : cur.drop j = l.drop j
theorem kpt_le (p : Int → Bool) (l : List Int) (j : Nat) : ((l.take j).filter p).length ≤ j := by
  have := List.length_filter_le p (l.take j)
  simp at this; omega
theorem filter_take_succ (p : Int → Bool) (l : List Int) (k : Nat) (h : k < l.length) : (l.take (k + 1)).filter p = if p l[k] then (l.take k).filter p ++ [l[k]] else (l.take k).filter p := by
  rw [take_snoc l k h, List.filter_append]
  cases ho : p l[k] <;> simp [ho]
theorem Kpt.get {p : Int → Bool} {l cur : List Int} {j : Nat} (h : Kpt p l j cur) (hj : j < l.length) : cur[j]? = some l[j] := by
  have := congrArg (·[0]?) h.rest
  simp only [List.getElem?_drop, Nat.add_zero] at this
  rw [this, List.getElem?_eq_getElem hj]
theorem Kpt.skip {p : Int → Bool} {l cur : List Int} {j : Nat} (h : Kpt p l j cur) (hj : j < l.length) (hp : p l[j] = false) : Kpt p l (j + 1) cur ∧ ((l.take (j + 1)).filter p).length = ((l.take j).filter p).length := by
  have hf := filter_take_succ p l j hj
  rw [hp, if_neg (by simp)] at hf
  refine ⟨⟨h.len, by rw [hf]; exact h.done, ?_⟩, by rw [hf]⟩
  rw [← List.drop_drop, ← List.drop_drop, h.rest]
theorem Kpt.keep {p : Int → Bool} {l cur : List Int} {j i : Nat} (h : Kpt p l j cur) (hj : j < l.length) (hp : p l[j] = true) (hi : ((l.take j).filter p).length = i) : Kpt p l (j + 1) (cur.set i l[j]) ∧ ((l.take (j + 1)).filter p).length = i + 1 := by
  have hf := filter_take_succ p l j hj
  have hle := kpt_le p l j
  rw [hp, if_pos rfl] at hf
  have hlen : ((l.take (j + 1)).filter p).length = i + 1 := by rw [hf]; simp [hi]
  have hd := h.done
  rw [hi] at hd
  have hcl := h.len
  refine ⟨⟨by rw [List.length_set, h.len], ?_, ?_⟩, hlen⟩
  · rw [hlen, List.take_succ_eq_append_getElem (by rw [List.length_set]; omega), List.take_set_of_le (Nat.le_refl _), List.getElem_set_self, hd, hf]
  · rw [List.drop_set_of_lt (by omega), ← List.drop_drop, ← List.drop_drop, h.rest]
theorem Kpt.start {p : Int → Bool} {l : List Int} {k : Nat} (hk : k < l.length) (hn : p l[k] = false) (ha : (l.take k).filter p = l.take k) : Kpt p l (k + 1) l ∧ ((l.take (k + 1)).filter p).length = k := by
  have hf := filter_take_succ p l k hk
  rw [hn, if_neg (by simp), ha] at hf
  have hlen : ((l.take (k + 1)).filter p).length = k := by rw [hf]; simp; omega
  exact ⟨⟨rfl, by rw [hlen, hf], rfl⟩, hlen⟩

theorem cap_ne (n c k : Nat) (h : k < n) (hc : n ≤ c) : ¬ c = k := by omega

set_option maxHeartbeats 1000000 in
/-- slices.Clone -/
theorem clone_any (A : Option Addr) (l : List Int) (c : Nat) (w : World) (h : Lies w w.heap.size A (ints .i64 l)) (hl : l.length ≤ 1000000) :
    Calls Try.prog 27 #[.slice A l.length c] w fun ed w' => Rowed w w.heap.size 3 (ints .i64 l) ed w' := by
  have H := Lib.hid h
  clear h
  rcases A with _ | p
  · have : l = [] := by
      rcases l with _ | ⟨x, l⟩
      · rfl
      · obtain ⟨p, hp, _⟩ := H.out (by simp); cases hp
    subst this
    have he : ∀ W, (binOp .eql 22 (.slice none 0 c) (.slice none 0 0)).run Try.prog W = .ok (.bool true) W := fun W => Lib.run_eql_slice_nil W _ _ _ _ _ _ _ Try.underlying22
    go_enter Try.func27, Try.ntmps27
    go_wp2
    go_ret
    exact ⟨_, rfl, Own.empty _ _ _, Below.refl _ _⟩
  · have he : ∀ W, (binOp .eql 22 (.slice (some p) l.length c) (.slice none 0 0)).run Try.prog W = .ok (.bool false) W := fun W => Lib.run_eql_slice_nil W _ _ _ _ _ _ _ Try.underlying22
    go_enter Try.func27, Try.ntmps27
    go_wp2_with (first
      | (at_builtin; refine app_src intsT w (w.alloc (.cells #[] 3)) w.heap.size w.heap.size _ _ _ [] (ints .i64 l) (some p) l.length c rfl rfl rfl rfl (by simp) (Own.ofLit #[] (Nat.le_refl _) (by decide)) (H.out.alloc (Nat.le_refl _) _) (ints_one _ _) (below_alloc _ _) (by simp) (by unfold maxLen; simp; omega) (by simp; omega) ?_; intro v2 w2 o2 b2 _ _; have O2 := Lib.hid o2; have B2 := Lib.hid b2; clear o2 b2)
      | fail)
    go_ret
    exact ⟨_, rfl, by simpa using O2.out, B2.out⟩

end Go.Proofs.Ytadfleopbpomfaa
