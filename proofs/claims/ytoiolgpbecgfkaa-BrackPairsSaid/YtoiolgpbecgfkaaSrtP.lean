/- slices.SortFunc over pairs by their first places: the library's own contract at this program, in the words of XWide. -/
import Derived.Test.YtoiolgpbecgfkaaSrt
import Derived.Test.YtoiolgpbecgfkaaPC
import Derived.Shelf.SlSortCmp.NoneTotal
namespace Go.Proofs.Ytoiolgpbecgfkaa
open Go.RowKit Go.Shelf Go.Sort

/-- a pair's cells -/
def encP (x : Int × Int) : List Value := [.int .i64 x.1, .int .i64 x.2]
theorem lt_fst (x y : Int × Int) : ltOf (fun x y : Int × Int => Lib.compareInt x.1 y.1) x y = decide (x.1 < y.1) := by
  unfold ltOf Lib.compareInt
  by_cases h1 : x.1 < y.1
  · simp [h1]
  · by_cases h2 : y.1 < x.1 <;> simp [h1, h2]
theorem swo_fst : SWO (ltOf fun x y : Int × Int => Lib.compareInt x.1 y.1) where
  irrefl x := by rw [lt_fst]; simp
  trans x y z h1 h2 := by rw [lt_fst] at *; simp at *; omega
  ntrans x y z h1 h2 := by rw [lt_fst] at *; simp at *; omega

theorem nan_any (x : Int) (w : World) : Calls Try.prog 40 #[.int .i64 x] w fun e w' => e = .returned (.bool false) ∧ w = w' := by
  have hn : (x != x) = false := by simp
  go_enter Try.func40, Try.ntmps40
  go_wp2
  go_ret
  exact ⟨by first | rfl | simp, rfl⟩
theorem cmp_any (x y : Int) (w : World) : Calls Try.prog 25 #[.int .i64 x, .int .i64 y] w fun e w' => e = .returned (.int .i64 (Lib.compareInt x y)) ∧ w = w' := by
  obtain ⟨z, hz⟩ : ∃ z, Lib.compareInt x y = z := ⟨_, rfl⟩
  have HZ := Lib.hid hz
  rw [hz]
  clear hz
  rcases h1 : decide (x < y) with _ | _
  · rcases h2 : decide (y < x) with _ | _
    · have HF : Hid (z = 0) := Lib.hid (by rw [← HZ.out, Lib.compareInt, if_neg (by simpa using h1), if_neg (by simpa using h2)])
      go_enter Try.func25, Try.ntmps25
      go_wp2_with fail
      refine (nan_any x w).mono ?_
      rintro e wq ⟨rfl, rfl⟩
      go_wp2_with fail
      refine (nan_any y w).mono ?_
      rintro e wq ⟨rfl, rfl⟩
      go_wp2
      go_ret
      exact ⟨ret_int HF.out.symm, rfl⟩
    · have HF : Hid (z = 1) := Lib.hid (by rw [← HZ.out, Lib.compareInt, if_neg (by simpa using h1), if_pos (by simpa using h2)])
      go_enter Try.func25, Try.ntmps25
      go_wp2_with fail
      refine (nan_any x w).mono ?_
      rintro e wq ⟨rfl, rfl⟩
      go_wp2_with fail
      refine (nan_any y w).mono ?_
      rintro e wq ⟨rfl, rfl⟩
      go_wp2
      go_ret
      exact ⟨ret_int HF.out.symm, rfl⟩
  · have HF : Hid (z = -1) := Lib.hid (by rw [← HZ.out, Lib.compareInt, if_pos (by simpa using h1)])
    go_enter Try.func25, Try.ntmps25
    go_wp2_with fail
    refine (nan_any x w).mono ?_
    rintro e wq ⟨rfl, rfl⟩
    go_wp2_with fail
    refine (nan_any y w).mono ?_
    rintro e wq ⟨rfl, rfl⟩
    go_wp2
    go_ret
    exact ⟨ret_int HF.out.symm, rfl⟩
/-- the closure: two pairs are boxed -/
theorem pairs1_any (x y : Int × Int) (w : World) : Calls Try.prog 24 #[.agg #[.int .i64 x.1, .int .i64 x.2], .agg #[.int .i64 y.1, .int .i64 y.2]] w fun e w' =>
    e = .returned (.int .i64 (Lib.compareInt x.1 y.1)) ∧ ∃ q os', w' = grow (w.drewN q) os' := by
  have hcon := fun u => cmp_any x.1 y.1 u
  generalize Lib.compareInt x.1 y.1 = r at hcon ⊢
  go_enter Try.func24, Try.ntmps24
  go_wp2_with (go_at_call 25; refine (hcon _).mono ?_; rintro e w' ⟨rfl, rfl⟩)
  go_ret
  exact ⟨rfl, 0, _, by rw [alloc_eq_grow, alloc_eq_grow, grow_grow]; rfl⟩

theorem flat_pairs (L : List (Int × Int)) : flatK encP 2 L.toArray = (prC L).toArray := by
  have hl := prC_length L
  refine ext_get! (by simp [hl]) fun t ht => ?_
  have ht' : t < L.length * 2 := by simpa using ht
  have hj : t / 2 < L.length := by omega
  obtain ⟨h1, h2⟩ := prC_get L (t / 2) hj
  have e1 : ∀ u, (prC L)[t]? = some u → (prC L).toArray[t]! = u := fun u hu => by
    obtain ⟨hlt, rfl⟩ := List.getElem?_eq_some_iff.1 hu
    rw [getElem!_pos _ t (by simpa using hlt)]; simp
  have e2 : L.toArray[t / 2]! = L[t / 2] := by rw [getElem!_pos _ _ (by simpa using hj)]; simp
  rw [get_flatK _ _ _ _ (by simpa using ht'), e2]
  rcases Nat.mod_two_eq_zero_or_one t with hm | hm
  · rw [show t / 2 * 2 = t by omega] at h1
    rw [e1 _ h1, hm]; rfl
  · rw [show t / 2 * 2 + 1 = t by omega] at h2
    rw [e1 _ h2, hm]; rfl
theorem grown_sorted {w : World} {g n : Nat} {os : Array Obj} (F : Array Value) : w.grownBy (grow (putRow id (Sort.ahead w n) g 0 F) os) (some g) := by
  refine ⟨rfl, rfl, rfl, by simp, fun k hk hne => ?_⟩
  rw [heap_grow_old _ _ (by simpa using hk)]
  have : g ≠ k := fun e => hne (by rw [e])
  simp [putRow, mapBlock, Sort.ahead, Array.getElem?_modify, this]

set_option maxHeartbeats 2000000 in
/-- pairs of one's own, sorted by their first places -/
theorem sortPr_any (B : Nat) (v : Value) (L : List (Int × Int)) (w : World) (h : OwnN w B 37 2 v L.length (prC L)) (hl : L.length ≤ 1000000) (hB : B ≤ w.heap.size) :
    Calls Try.prog 23 #[v, .func (.func 24) #[] #[]] w fun ed w' => ed = .returned (.tuple #[]) ∧
      ∃ L' : List (Int × Int), L'.Perm L ∧ L'.Pairwise (fun p q => p.1 ≤ q.1) ∧ (∃ A c, v = .slice A L.length c ∧ Lies w' w'.heap.size A (prC L')) ∧ Below B w w' := by
  rcases h.2 with ⟨rfl, hn⟩ | ⟨g, cap, cur, rfl, hbg, hh, hc, hm, hs, ht⟩
  · have hL : L = [] := List.eq_nil_of_length_eq_zero hn
    subst hL
    refine (AnyF.slices_SortFunc_none sortPr none 0 _ w).mono ?_
    rintro ed w' ⟨rfl, rfl⟩
    exact ⟨rfl, [], List.Perm.refl _, List.Pairwise.nil, ⟨none, 0, rfl, Lies.empty⟩, Below.refl _ _⟩
  · have hg : g < w.heap.size := (Array.getElem?_eq_some_iff.1 hh).1
    have hH : HoldsK encP 2 w g 0 L.toArray := by
      unfold HoldsK
      rw [flat_pairs]
      intro j hj
      have hj' : j < L.length * 2 := by simpa [prC_length] using hj
      have h1 := World.ownsRow.cellAt h j hj'
      refine ⟨?_, by rw [Nat.zero_add]; exact World.ownsRow.frozenAt h j⟩
      rw [Nat.zero_add, h1, getElem!_pos _ j hj]
      simp [List.getElem?_eq_getElem (show j < (prC L).length by rw [prC_length]; exact hj')]
    have eg : ∀ args u, (callFunc 24 args).run Try.prog u = .ok (.enter 24 args) u := enters_of Try.func24 (by kernel_rfl) rfl
    have hcon := AnyQ.slices_SortFunc sortPr 2 Try.isAgg37 Try.sizeOf37 encP (fun _ => rfl) (fun x u hu => by simp [encP] at hu; rcases hu with rfl | rfl <;> rfl) (fun x y => Lib.compareInt x.1 y.1) swo_fst 24 #[] g 0 cap L.toArray w eg
      (fun _ _ _ _ x y => pairs1_any x y _) hH hg (by simp; omega)
    refine hcon.mono ?_
    rintro ed w' ⟨rfl, d', n, os, hp, hsd, rfl⟩
    have hsz : d'.size = L.length := by simpa using hp.1
    have hK : HoldsK encP 2 (sortWorldK encP 2 w g 0 n d' os) g 0 d' := holdsK_sortWorldK_c encP 2 w g 0 L.toArray d' n os hH hg (by simpa using hsz)
    have hgr : w.grownBy (sortWorldK encP 2 w g 0 n d' os) (some g) := grown_sorted _
    refine ⟨rfl, d'.toList, ?_, ?_, ⟨_, _, rfl, fun hne => ⟨_, rfl, Nat.lt_of_lt_of_le hg hgr.size, fun i u hu => ?_⟩⟩, ?_⟩
    · have := hp.2.2
      rw [List.size_toArray] at this
      rw [show d'.extract 0 L.length = d' by rw [← hsz]; simp, show L.toArray.extract 0 L.length = L.toArray by simp] at this
      simpa using this
    · refine List.pairwise_iff_getElem.2 fun i j hi hj hij => ?_
      simp at hi hj
      have := hsd i j (Nat.zero_le _) hij (by simpa [← hsz] using hj)
      rw [lt_fst, getElem!_pos d' j hj, getElem!_pos d' i hi] at this
      simp at this ⊢
      exact this
    · have hd : flatK encP 2 d' = (prC d'.toList).toArray := by rw [← flat_pairs]
      unfold HoldsK at hK
      rw [hd] at hK
      obtain ⟨hlt, rfl⟩ := List.getElem?_eq_some_iff.1 hu
      have := (hK i (by simpa using hlt)).1
      rw [getElem!_pos _ i (by simpa using hlt)] at this
      simpa [add_plain] using this
    · exact ⟨hgr.os, hgr.tape, hgr.output, hgr.size, fun k hk => hgr.block k (by omega) (fun e => by injection e with e; omega)⟩
end Go.Proofs.Ytoiolgpbecgfkaa
