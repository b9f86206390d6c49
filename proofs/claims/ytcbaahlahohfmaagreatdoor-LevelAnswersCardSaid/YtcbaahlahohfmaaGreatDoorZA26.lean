/- Shared texts, shaken for one claim. -/
import Derived.Shelf.SlSortCmp.NoneTotal
import Derived.ScopeJumps
import Derived.WalkMore
import Derived.Test.YtcbaahlahohfmaaGreatDoorZA7
import Derived.Test.YtcbaahlahohfmaaGreatDoorZA18
import Derived.Test.YtcbaahlahohfmaaGreatDoorZA25
namespace Go.Proofs.YtcbaahlahohfmaaGreatDoor
open Go.RowKit Go.Shelf Go.Sort
def sortPr_ren : Go.Shelf.Ren := ⟨fun | 6 => 141 | 15 => 172 | 14 => 171 | 28 => 188 | 29 => 189 | 20 => 180 | 21 => 181 | 22 => 182 | 23 => 183 | 24 => 184 | 25 => 185 | 26 => 186 | 27 => 187 | 46 => 190 | 47 => 191 | 48 => 192 | 49 => 193 | 50 => 194 | 57 => 195 | n => n, fun | 22 => 77 | 24 => 79 | 25 => 115 | 3 => 3 | 39 => 126 | 0 => 0 | 53 => 137 | 55 => 139 | 4 => 4 | 46 => 131 | 45 => 130 | 50 => 66 | 5 => 5 | 9 => 9 | 66 => 140 | 70 => 144 | 76 => 146 | 77 => 59 | n => n, fun | n => n⟩
theorem sortPr : Go.Proofs.SlLaysF0.n6 Tryz.prog sortPr_ren := {
 mixed := by kernel_rfl
 f6 := ⟨Tryz.f141.name, by decide, Tryz.func141.trans (congrArg some (by kernel_rfl))⟩
 f14 := ⟨Tryz.f171.name, by decide, Tryz.func171.trans (congrArg some (by kernel_rfl))⟩
 f15 := Tryz.func172.trans (congrArg some (by kernel_rfl))
 f20 := ⟨Tryz.f180.name, by decide, Tryz.func180.trans (congrArg some (by kernel_rfl))⟩
 f21 := ⟨Tryz.f181.name, by decide, Tryz.func181.trans (congrArg some (by kernel_rfl))⟩
 f22 := ⟨Tryz.f182.name, by decide, Tryz.func182.trans (congrArg some (by kernel_rfl))⟩
 f23 := ⟨Tryz.f183.name, by decide, Tryz.func183.trans (congrArg some (by kernel_rfl))⟩
 f24 := ⟨Tryz.f184.name, by decide, Tryz.func184.trans (congrArg some (by kernel_rfl))⟩
 f25 := ⟨Tryz.f185.name, by decide, Tryz.func185.trans (congrArg some (by kernel_rfl))⟩
 f26 := ⟨Tryz.f186.name, by decide, Tryz.func186.trans (congrArg some (by kernel_rfl))⟩
 f27 := ⟨Tryz.f187.name, by decide, Tryz.func187.trans (congrArg some (by kernel_rfl))⟩
 f28 := Tryz.func188.trans (congrArg some (by kernel_rfl))
 f29 := Tryz.func189.trans (congrArg some (by kernel_rfl))
 f46 := ⟨Tryz.f190.name, by decide, Tryz.func190.trans (congrArg some (by kernel_rfl))⟩
 f47 := Tryz.func191.trans (congrArg some (by kernel_rfl))
 f48 := Tryz.func192.trans (congrArg some (by kernel_rfl))
 f49 := ⟨Tryz.f193.name, by decide, Tryz.func193.trans (congrArg some (by kernel_rfl))⟩
 f50 := ⟨Tryz.f194.name, by decide, Tryz.func194.trans (congrArg some (by kernel_rfl))⟩
 f57 := ⟨Tryz.f195.name, by decide, Tryz.func195.trans (congrArg some (by kernel_rfl))⟩
 t0 := Tryz.underlying0
 a0 := Tryz.isAgg0
 z0 := Tryz.sizeOf0
 v0 := Tryz.zeroValue0
 t3 := Tryz.underlying3
 a3 := Tryz.isAgg3
 z3 := Tryz.sizeOf3
 v3 := Tryz.zeroValue3
 t4 := Tryz.underlying4
 a4 := Tryz.isAgg4
 z4 := Tryz.sizeOf4
 v4 := Tryz.zeroValue4
 t5 := Tryz.underlying5
 a5 := Tryz.isAgg5
 z5 := Tryz.sizeOf5
 v5 := Tryz.zeroValue5
 t9 := Tryz.underlying9
 a9 := Tryz.isAgg9
 z9 := Tryz.sizeOf9
 v9 := Tryz.zeroValue9
 t22 := Tryz.underlying77
 a22 := Tryz.isAgg77
 z22 := Tryz.sizeOf77
 v22 := Tryz.zeroValue77
 t25 := Tryz.underlying115
 a25 := Tryz.isAgg115
 z25 := Tryz.sizeOf115
 v25 := Tryz.zeroValue115
 t39 := Tryz.underlying126
 a39 := Tryz.isAgg126
 z39 := Tryz.sizeOf126
 v39 := Tryz.zeroValue126
 t45 := Tryz.underlying130
 a45 := Tryz.isAgg130
 z45 := Tryz.sizeOf130
 v45 := Tryz.zeroValue130
 t46 := Tryz.underlying131
 a46 := Tryz.isAgg131
 z46 := Tryz.sizeOf131
 v46 := Tryz.zeroValue131
 t50 := Tryz.underlying66
 a50 := Tryz.isAgg66
 z50 := Tryz.sizeOf66
 v50 := Tryz.zeroValue66
 t53 := Tryz.underlying137
 a53 := Tryz.isAgg137
 z53 := Tryz.sizeOf137
 v53 := Tryz.zeroValue137
 t55 := Tryz.underlying139
 a55 := Tryz.isAgg139
 z55 := Tryz.sizeOf139
 v55 := Tryz.zeroValue139
 t66 := Tryz.underlying140
 a66 := Tryz.isAgg140
 z66 := Tryz.sizeOf140
 v66 := Tryz.zeroValue140
 t70 := Tryz.underlying144
 a70 := Tryz.isAgg144
 z70 := Tryz.sizeOf144
 v70 := Tryz.zeroValue144
 t76 := Tryz.underlying146
 a76 := Tryz.isAgg146
 z76 := Tryz.sizeOf146
 v76 := Tryz.zeroValue146
 t77 := Tryz.underlying59
 a77 := Tryz.isAgg59
 z77 := Tryz.sizeOf59
 v77 := Tryz.zeroValue59 }
end Go.Proofs.YtcbaahlahohfmaaGreatDoor
namespace Go.Proofs.YtcbaahlahohfmaaGreatDoor
open Go.RowKit Go.Shelf Go.Sort
def encP (x : Int × Int) : List Value := [.int .i64 x.1, .int .i64 x.2]
theorem lt_fst (x y : Int × Int) : ltOf (fun x y : Int × Int => Lib.compareInt x.1 y.1) x y = decide (x.1 < y.1) := by
 unfold ltOf Lib.compareInt
 by_cases h1 : x.1 < y.1
 ·simp [h1]
 ·by_cases h2 : y.1 < x.1 <;> simp [h1, h2]
theorem swo_fst : SWO (ltOf fun x y : Int × Int => Lib.compareInt x.1 y.1) where
 irrefl x := by rw [lt_fst]; simp
 trans x y z h1 h2 := by rw [lt_fst] at *; simp at *; omega
 ntrans x y z h1 h2 := by rw [lt_fst] at *; simp at *; omega
theorem nan_any (x : Int) (w : World) : Calls Tryz.prog 173 #[.int .i64 x] w fun e w' => e = .returned (.bool false) ∧ w = w' := by
 have hn : (x != x) = false := by simp
 go_enter Tryz.func173, Tryz.ntmps173
 go_wp2
 go_ret
 exact ⟨by first | rfl | simp, rfl⟩
theorem cmp_any (x y : Int) (w : World) : Calls Tryz.prog 143 #[.int .i64 x, .int .i64 y] w fun e w' => e = .returned (.int .i64 (Lib.compareInt x y)) ∧ w = w' := by
 obtain ⟨z, hz⟩ : ∃ z, Lib.compareInt x y = z := ⟨_, rfl⟩
 have HZ := Lib.hid hz
 rw [hz]
 clear hz
 rcases h1 : decide (x < y) with _ | _
 ·rcases h2 : decide (y < x) with _ | _
  ·have HF : Hid (z = 0) := Lib.hid (by rw [← HZ.out, Lib.compareInt, if_neg (by simpa using h1), if_neg (by simpa using h2)])
   go_enter Tryz.func143, Tryz.ntmps143
   go_wp2_with fail
   refine (nan_any x w).mono ?_
   rintro e wq ⟨rfl, rfl⟩
   go_wp2_with fail
   refine (nan_any y w).mono ?_
   rintro e wq ⟨rfl, rfl⟩
   go_wp2
   go_ret
   exact ⟨ret_int HF.out.symm, rfl⟩
  ·have HF : Hid (z = 1) := Lib.hid (by rw [← HZ.out, Lib.compareInt, if_neg (by simpa using h1), if_pos (by simpa using h2)])
   go_enter Tryz.func143, Tryz.ntmps143
   go_wp2_with fail
   refine (nan_any x w).mono ?_
   rintro e wq ⟨rfl, rfl⟩
   go_wp2_with fail
   refine (nan_any y w).mono ?_
   rintro e wq ⟨rfl, rfl⟩
   go_wp2
   go_ret
   exact ⟨ret_int HF.out.symm, rfl⟩
 ·have HF : Hid (z = -1) := Lib.hid (by rw [← HZ.out, Lib.compareInt, if_pos (by simpa using h1)])
  go_enter Tryz.func143, Tryz.ntmps143
  go_wp2_with fail
  refine (nan_any x w).mono ?_
  rintro e wq ⟨rfl, rfl⟩
  go_wp2_with fail
  refine (nan_any y w).mono ?_
  rintro e wq ⟨rfl, rfl⟩
  go_wp2
  go_ret
  exact ⟨ret_int HF.out.symm, rfl⟩
theorem pairs1_any (x y : Int × Int) (w : World) : Calls Tryz.prog 142 #[.agg #[.int .i64 x.1, .int .i64 x.2], .agg #[.int .i64 y.1, .int .i64 y.2]] w fun e w' =>
 e = .returned (.int .i64 (Lib.compareInt x.1 y.1)) ∧ ∃ q os', w' = grow (w.drewN q) os' := by
 have hcon := fun u => cmp_any x.1 y.1 u
 generalize Lib.compareInt x.1 y.1 = r at hcon ⊢
 go_enter Tryz.func142, Tryz.ntmps142
 go_wp2_with (go_at_call 143; refine (hcon _).mono ?_; rintro e w' ⟨rfl, rfl⟩)
 go_ret
 exact ⟨rfl, 0, _, by rw [alloc_eq_grow, alloc_eq_grow, grow_grow]; rfl⟩
theorem flat_pairs (L : List (Int × Int)) : flatK encP 2 L.toArray = (prC L).toArray := by
 have hl := prC_length L
 refine ext_get! (by simp [hl]) fun t ht => ?_
 have ht' : t < L.length * 2 := by simpa using ht
 have hj : t / 2 < L.length := by omega
 obtain ⟨h1, h2⟩ := prC_get L (t / 2) hj
 have e1 : ∀ u, (prC L)[t]? = some u → (prC L).toArray[t]! = u := fun u hu => by
  obtain ⟨hlt, rfl⟩ := List.getElem?_eq_some_iff.1 hu
  rw [getElem!_pos _ t (by simpa using hlt)]; simp
 have e2 : L.toArray[t / 2]! = L[t / 2] := by rw [getElem!_pos _ _ (by simpa using hj)]; simp
 rw [get_flatK _ _ _ _ (by simpa using ht'), e2]
 rcases Nat.mod_two_eq_zero_or_one t with hm | hm
 ·rw [show t / 2 * 2 = t by omega] at h1
  rw [e1 _ h1, hm]; rfl
 ·rw [show t / 2 * 2 + 1 = t by omega] at h2
  rw [e1 _ h2, hm]; rfl
theorem grown_sorted {w : World} {g n : Nat} {os : Array Obj} (F : Array Value) : w.grownBy (grow (putRow id (Sort.ahead w n) g 0 F) os) (some g) := by
 refine ⟨rfl, rfl, rfl, by simp, fun k hk hne => ?_⟩
 rw [heap_grow_old _ _ (by simpa using hk)]
 have : g ≠ k := fun e => hne (by rw [e])
 simp [putRow, mapBlock, Sort.ahead, Array.getElem?_modify, this]
set_option maxHeartbeats 2000000 in
theorem sortPr_any (B : Nat) (v : Value) (L : List (Int × Int)) (w : World) (h : OwnN w B 79 2 v L.length (prC L)) (hl : L.length ≤ 1000000) (hB : B ≤ w.heap.size) :
 Calls Tryz.prog 141 #[v, .func (.func 142) #[] #[]] w fun ed w' => ed = .returned (.tuple #[]) ∧
  ∃ L' : List (Int × Int), L'.Perm L ∧ L'.Pairwise (fun p q => p.1 ≤ q.1) ∧ (∃ A c, v = .slice A L.length c ∧ Lies w' w'.heap.size A (prC L')) ∧ Below B w w' := by
 rcases h.2 with ⟨rfl, hn⟩ | ⟨g, cap, cur, rfl, hbg, hh, hc, hm, hs, ht⟩
 ·have hL : L = [] := List.eq_nil_of_length_eq_zero hn
  subst hL
  refine (AnyF.slices_SortFunc_none sortPr none 0 _ w).mono ?_
  rintro ed w' ⟨rfl, rfl⟩
  exact ⟨rfl, [], List.Perm.refl _, List.Pairwise.nil, ⟨none, 0, rfl, Lies.empty⟩, Below.refl _ _⟩
 ·have hg : g < w.heap.size := (Array.getElem?_eq_some_iff.1 hh).1
  have hH : HoldsK encP 2 w g 0 L.toArray := by
   unfold HoldsK
   rw [flat_pairs]
   intro j hj
   have hj' : j < L.length * 2 := by simpa [prC_length] using hj
   have h1 := World.ownsRow.cellAt h j hj'
   refine ⟨?_, by rw [Nat.zero_add]; exact World.ownsRow.frozenAt h j⟩
   rw [Nat.zero_add, h1, getElem!_pos _ j hj]
   simp [List.getElem?_eq_getElem (show j < (prC L).length by rw [prC_length]; exact hj')]
  have eg : ∀ args u, (callFunc 142 args).run Tryz.prog u = .ok (.enter 142 args) u := enters_of Tryz.func142 (by kernel_rfl) rfl
  have hcon := AnyQ.slices_SortFunc sortPr 2 Tryz.isAgg79 Tryz.sizeOf79 encP (fun _ => rfl) (fun x u hu => by simp [encP] at hu; rcases hu with rfl | rfl <;> rfl) (fun x y => Lib.compareInt x.1 y.1) swo_fst 142 #[] g 0 cap L.toArray w eg
   (fun _ _ _ _ x y => pairs1_any x y _) hH hg (by simp; omega)
  refine hcon.mono ?_
  rintro ed w' ⟨rfl, d', n, os, hp, hsd, rfl⟩
  have hsz : d'.size = L.length := by simpa using hp.1
  have hK : HoldsK encP 2 (sortWorldK encP 2 w g 0 n d' os) g 0 d' := holdsK_sortWorldK_c encP 2 w g 0 L.toArray d' n os hH hg (by simpa using hsz)
  have hgr : w.grownBy (sortWorldK encP 2 w g 0 n d' os) (some g) := grown_sorted _
  refine ⟨rfl, d'.toList, ?_, ?_, ⟨_, _, rfl, fun hne => ⟨_, rfl, Nat.lt_of_lt_of_le hg hgr.size, fun i u hu => ?_⟩⟩, ?_⟩
  ·have := hp.2.2
   rw [List.size_toArray] at this
   rw [show d'.extract 0 L.length = d' by rw [← hsz]; simp, show L.toArray.extract 0 L.length = L.toArray by simp] at this
   simpa using this
  ·refine List.pairwise_iff_getElem.2 fun i j hi hj hij => ?_
   simp at hi hj
   have := hsd i j (Nat.zero_le _) hij (by simpa [← hsz] using hj)
   rw [lt_fst, getElem!_pos d' j hj, getElem!_pos d' i hi] at this
   simp at this ⊢
   exact this
  ·have hd : flatK encP 2 d' = (prC d'.toList).toArray := by rw [← flat_pairs]
   unfold HoldsK at hK
   rw [hd] at hK
   obtain ⟨hlt, rfl⟩ := List.getElem?_eq_some_iff.1 hu
   have := (hK i (by simpa using hlt)).1
   rw [getElem!_pos _ i (by simpa using hlt)] at this
   simpa [add_plain] using this
  ·exact ⟨hgr.os, hgr.tape, hgr.output, hgr.size, fun k hk => hgr.block k (by omega) (fun e => by injection e with e; omega)⟩
end Go.Proofs.YtcbaahlahohfmaaGreatDoor
namespace Go.Proofs.YtcbaahlahohfmaaGreatDoor
open Go.RowKit
theorem wp_scope_enter {P : Program} {a : Act} {w : World} {Q : Exit → Act → World → Prop} {c r : Code} (l : Nat) (J : Act → World → Prop) (μ : Act → World → Nat) (hf : findLabel c l = some (Code.skip.seq r))
 (pass : ∀ a w, J a w → r.wp P (Exit.jump l (fun a' w' => J a' w' ∧ μ a' w' < μ a w) Q) a w)
 (first : (∀ a w, J a w → r.wp P (Exit.jump l J Q) a w) → c.wp P (Exit.jump l J Q) a w) : (Code.scope c).wp P Q a w := by
 refine wp_scope_jumps l J μ hf (first fun a w h => wp_mono (pass a w h) fun e a' w' hq => ?_) fun a w h => wp_seq (wp_skip (pass a w h))
 cases e with
 | goto l' => exact ⟨hq.1, hq.2.1⟩
 | _ => exact hq
def bk (c k : Int) : Int × Bool × Bool := if k = 13 then oth c else (0, false, false)
theorem bk_any (c k : Int) (w : World) : Calls Tryz.prog 139 #[.int .i64 c, .int .i64 k] w fun e w' =>
 e = .returned (.tuple #[.int .i64 (bk c k).1, .bool (bk c k).2.1, .bool (bk c k).2.2]) ∧ Below w.heap.size w w' := by
 have h := bracket_any c k w
 unfold bk
 by_cases hk : k = 13
 ·simp only [hk, if_true, decide_true, Bool.true_and] at h ⊢
  exact h
 ·simp only [hk, if_false, decide_false, Bool.false_and] at h ⊢
  exact h
theorem othL_opens : ∀ (l : List (Int × Int)) (c : Int), (othL l c).2.1 = true → (othL l c).2.2 = true
 | [], _, h => by cases h
 | (a, b) :: r, c, h => by
  unfold othL at h ⊢
  split
  ·rfl
  ·split
   ·rfl
   ·rename_i h1 h2
    rw [if_neg h1, if_neg h2] at h
    exact othL_opens r c h
theorem bk_opens {c k : Int} (h : (bk c k).2.1 = true) : k = 13 ∧ (oth c).2.2 = true ∧ (oth c).2.1 = true ∧ bk c k = oth c := by
 unfold bk at h ⊢
 by_cases hk : k = 13
 ·rw [if_pos hk] at h
  exact ⟨hk, othL_opens _ _ h, h, if_pos hk⟩
 ·rw [if_neg hk] at h; cases h
theorem bk_ok {c k : Int} (h : (bk c k).2.2 = true) : k = 13 ∧ (oth c).2.2 = true ∧ bk c k = oth c := by
 unfold bk at h ⊢
 by_cases hk : k = 13
 ·rw [if_pos hk] at h
  exact ⟨hk, h, if_pos hk⟩
 ·rw [if_neg hk] at h; cases h
theorem bk_none {c k : Int} (h : (bk c k).2.2 = false) : (oth c).2.2 = false ∨ k ≠ 13 := by
 unfold bk at h
 by_cases hk : k = 13
 ·rw [if_pos hk] at h; exact .inl h
 ·exact .inr hk
def AtP (chars classes : List Int) (k : Nat) (W : List Nat) : Prop := ((rawN chars classes k).ended = false ∧ W = (rawN chars classes k).waits) ∨ ((rawN chars classes k).ended = true ∧ W.length = 64)
theorem rawN_succ (chars classes : List Int) (k : Nat) : rawN chars classes (k + 1) = rawS chars classes (rawN chars classes k) k := rfl
theorem rawS_stay {chars classes : List Int} {st : PS} {k : Nat} (he : st.ended = false) (h : (bk (cAt chars k) (cAt classes k)).2.2 = false) : rawS chars classes st k = st := by
 unfold rawS
 rw [he, if_neg (by simp), if_pos (bk_none h)]
theorem rawS_push {chars classes : List Int} {st : PS} {k : Nat} (he : st.ended = false) (h : (bk (cAt chars k) (cAt classes k)).2.1 = true) : rawS chars classes st k = if st.waits.length = 63 then { st with ended := true } else { st with waits := k :: st.waits } := by
 obtain ⟨h1, h2, h3, _⟩ := bk_opens h
 unfold rawS
 rw [he, if_neg (by simp), if_neg (by rw [h1, h2]; simp), if_pos h3]
theorem rawS_find {chars classes : List Int} {st : PS} {k : Nat} (he : st.ended = false) (h : (bk (cAt chars k) (cAt classes k)).2.2 = true) (h' : (bk (cAt chars k) (cAt classes k)).2.1 = false) :
 rawS chars classes st k = match findW chars (bk (cAt chars k) (cAt classes k)).1 st.waits with
 | none => st
 | some (w, ws) => { st with out := st.out ++ [((w : Int), (k : Int))], waits := ws } := by
 obtain ⟨h1, h2, h3⟩ := bk_ok h
 rw [h3] at h' ⊢
 unfold rawS
 rw [he, if_neg (by simp), if_neg (by rw [h1, h2]; simp), if_neg (by rw [h']; simp)]
 rfl
theorem findW_get (chars : List Int) (o : Int) : ∀ (W : List Nat) (v : Nat) (ws : List Nat), findW chars o W = some (v, ws) → ws.length < W.length ∧ (waitL W)[ws.length]? = some (v : Int) ∧ (waitL W).take ws.length = waitL ws
 | [], v, ws, h => by cases h
 | x :: W, v, ws, h => by
  unfold findW at h
  split at h
  ·injection h with h
   injection h with h1 h2
   subst h1 h2
   refine ⟨by simp, ?_, ?_⟩
   ·rw [waitL_cons, List.getElem?_append_right (by rw [waitL_length]; exact Nat.le_refl _), waitL_length, Nat.sub_self]; rfl
   ·rw [waitL_cons, List.take_append_of_le_length (by rw [waitL_length]; exact Nat.le_refl _), List.take_of_length_le (by rw [waitL_length]; exact Nat.le_refl _)]
  ·obtain ⟨h1, h2, h3⟩ := findW_get chars o W v ws h
   refine ⟨by simp; omega, ?_, ?_⟩
   ·rw [waitL_cons, List.getElem?_append_left (by rw [waitL_length]; exact h1), h2]
   ·rw [waitL_cons, List.take_append_of_le_length (by rw [waitL_length]; omega), h3]
theorem raw_below (chars classes : List Int) (k : Nat) : ∀ x ∈ (rawN chars classes k).waits, x < k := by
 rw [(raw_like chars classes k).1]
 exact fun x hx => ((pinv chars classes k).wait x hx).1
theorem raw_end {chars classes : List Int} (he : chars.length = classes.length) {k : Nat} (hk : k ≤ chars.length) (h : k = chars.length ∨ (rawN chars classes k).ended = true) {L : List (Int × Int)} (hp : L.Perm (rawN chars classes k).out) (hs : L.Pairwise (fun p q => p.1 ≤ q.1)) : L = pairsI chars classes := by
 have e : rawN chars classes chars.length = rawN chars classes k := by
  rcases h with h | h
  ·rw [h]
  ·have := raw_ended chars classes (chars.length - k) k h
   rwa [show k + (chars.length - k) = chars.length by omega] at this
 rw [pairsI, if_pos he, ← sorted_is chars classes chars.length L (by rw [e]; exact hp) hs]
def RowedNew (w : World) (P : List (Int × Int)) (ed : Ending) (w' : World) : Prop := ∃ A c, ed = .returned (.slice A P.length c) ∧ Lies w' w'.heap.size A (prC P) ∧ Below w.heap.size w w' ∧ ∀ p, A = some p → w.heap.size ≤ p.block
set_option maxRecDepth 1000000 in
set_option maxHeartbeats 8000000 in
theorem bpairs_new (A : Option Addr) (chars : List Int) (c : Nat) (A' : Option Addr) (classes : List Int) (c' : Nat) (w : World) (h : Lies w w.heap.size A (ints .i64 chars)) (h' : Lies w w.heap.size A' (ints .i64 classes)) (hl : chars.length ≤ 1000) :
 Calls Tryz.prog 95 #[.slice A chars.length c, .slice A' classes.length c'] w (RowedNew w (pairsI chars classes)) := by
 have H := Lib.hid h
 have H' := Lib.hid h'
 clear h h'
 by_cases he : chars.length = classes.length
 ·have hd : ((chars.length : Int) != (classes.length : Int)) = false := by simp [he]
  have HE := Lib.hid he
  clear he
  go_enter Tryz.func95, Tryz.ntmps95
  go_wp2_with fail
  refine wp_scope_enter 0 (fun a' w' => ∃ (k : Nat) (W : List Nat) (ov qv u8 u9 u10 u11 u12 u13 u14 u15 u16 u17 u18 u19 u20 u21 u22 u23 u24 u25 u26 u27 u28 u29 u30 u31 u32 u33 u34 u35 u36 u37 u38 u39 u40 u41 u42 u43 u44 u45 u46 u47 u48 u49 u50 u51 u52 u53 u54 u55 u56 u57 u58 u59 u60 u61 u62 u63 u64 u65 u66 u67 u68 u69 : Value), a' = { tmps := #[.slice A chars.length c, .slice A' classes.length c', undef, undef, .slice none 0 0, ov, qv, .int .i64 (k : Int), u8, u9, u10, u11, u12, u13, u14, u15, u16, u17, u18, u19, u20, u21, u22, u23, u24, u25, u26, u27, u28, u29, u30, u31, u32, u33, u34, u35, u36, u37, u38, u39, u40, u41, u42, u43, u44, u45, u46, u47, u48, u49, u50, u51, u52, u53, u54, u55, u56, u57, u58, u59, u60, u61, u62, u63, u64, u65, u66, u67, u68, u69], defers := [] } ∧ k ≤ chars.length ∧ AtP chars classes k W ∧ Hid (OwnN w' w.heap.size 79 2 ov (rawN chars classes k).out.length (prC (rawN chars classes k).out)) ∧ Hid (Own w' w.heap.size 3 qv (ints .i64 (waitL W))) ∧ Hid (Below w.heap.size w w')) (fun a' _ => chars.length - (intOf (a'.tmps.getD 7 undef)).toNat) rfl ?_ ?_
  ·rintro a wr ⟨k, W, ov, qv, u8, u9, u10, u11, u12, u13, u14, u15, u16, u17, u18, u19, u20, u21, u22, u23, u24, u25, u26, u27, u28, u29, u30, u31, u32, u33, u34, u35, u36, u37, u38, u39, u40, u41, u42, u43, u44, u45, u46, u47, u48, u49, u50, u51, u52, u53, u54, u55, u56, u57, u58, u59, u60, u61, u62, u63, u64, u65, u66, u67, u68, u69, rfl, hk, hst, HO, HQ, HB⟩
   obtain ⟨AQ, cq, rfl, hqlies, hqc, _⟩ := HQ.out.form
   obtain ⟨m, hm⟩ : ∃ m, W.length = m := ⟨_, rfl⟩
   have HM := Lib.hid hm
   have LQ := Lib.hid hqlies
   have UQ : Hid (Own wr w.heap.size 3 (.slice AQ m cq) (ints .i64 (waitL W))) := Lib.hid (by have := HQ.out; simp only [ints, List.length_map, waitL_length, hm] at this; exact this)
   simp only [ints, List.length_map, waitL_length, hm] at hqc ⊢
   have HST := Lib.hid hst
   have hm64 : m ≤ 64 := by
    rcases hst with ⟨_, h2⟩ | ⟨_, h2⟩
    ·have := raw_waits chars classes k; rw [h2] at hm; omega
    ·omega
   clear hm hqlies hst HQ
   by_cases hlt : k < chars.length
   ·have d1 : decide ((k : Int) < (chars.length : Int)) = true := by simpa using hlt
    by_cases hm63 : m ≤ 63
    ·have d2 : decide ((m : Int) ≤ 63) = true := by simp; omega
     obtain ⟨hen, hW⟩ : (rawN chars classes k).ended = false ∧ W = (rawN chars classes k).waits := by
      rcases HST.out with h | ⟨_, h⟩
      ·exact h
      ·have := HM.out; omega
     obtain ⟨st, hst⟩ : ∃ st, rawN chars classes k = st := ⟨_, rfl⟩
     have hWk := raw_below chars classes k
     have hle := raw_le chars classes k
     have HNX : Hid (rawN chars classes (k + 1) = rawS chars classes st k) := Lib.hid (by rw [rawN_succ, hst])
     rw [hst] at hen hW HO hWk hle
     subst hW
     have HEN := Lib.hid hen
     have HWK := Lib.hid hWk
     have hon : st.out.length ≤ 1000 := by have := hle.1; omega
     obtain ⟨p, hp, _, hc⟩ := (H.out.below HB.out).int hlt
     have hlt' : k < classes.length := by have := HE.out; omega
     obtain ⟨p', hp', _, hcl⟩ := (H'.out.below HB.out).int hlt'
     subst hp hp'
     obtain ⟨x, hx⟩ : ∃ x, chars[k] = x := ⟨_, rfl⟩
     obtain ⟨y, hy⟩ : ∃ x, classes[k] = x := ⟨_, rfl⟩
     rw [hx] at hc
     rw [hy] at hcl
     have HX : Hid (cAt chars k = x) := Lib.hid (by simp [cAt, hlt, hx])
     have HY : Hid (cAt classes k = y) := Lib.hid (by simp [cAt, hlt', hy])
     have k0 : (0 : Int) ≤ (k : Int) := by omega
     have k1 : (k : Int) < (chars.length : Int) := by omega
     have k2 : (k : Int) < (classes.length : Int) := by omega
     obtain ⟨AO, co, rfl, hol, hoc, _⟩ := HO.out.form
     obtain ⟨⟨o, op, ok⟩, hbk⟩ : ∃ z, bk x y = z := ⟨_, rfl⟩
     have HBK := Lib.hid hbk
     have hcc : wr.cell? (p.add k) = some (.int .i64 x) ∧ wr.cell? (p'.add k) = some (.int .i64 y) := ⟨hc, hcl⟩
     clear hx hy hen hWk hle hst hol hbk hc hcl HST
     go_wp2_with fail
     refine wp_region_held_drew (S := fun w' => w'.cell? (p.add k) = some (.int .i64 x) ∧ w'.cell? (p'.add k) = some (.int .i64 y)) (by kernel_rfl) (hcc) (fun hHeld => ?_)
     refine' hY 0 ?_
     try simp only [Act.put,ZA,ZB,ZD,ZE,ZF]
     refine' hY 1 ?_
     try simp only [Act.put,ZA,ZB,ZC,ZD,ZE,ZF]
     refine' hY 2 ?_
     try simp only [Act.put,ZA,ZB,ZC,ZD,ZE,ZF]
     refine' hY 3 ?_
     try simp only [Act.put,ZA,ZB,ZC,ZD,ZE,ZF]
     refine' hY 4 ?_
     try simp only [Act.put,ZA,ZB,ZC,ZD,ZE,ZF]
     refine' hY 5 ?_
     try simp only [Act.put,ZA,ZB,ZC,ZD,ZE,ZF]
     refine' hY 6 ?_
     try simp only [Act.put,ZA,ZB,ZC,ZD,ZE,ZF]
     refine' hY 7 ?_
     try simp only [Act.put,ZA,ZB,ZC,ZD,ZE,ZF]
     refine hA 8 fun K hK => ?_
     go_simp
     refine (bk_any x y _).mono ?_
     rintro e w1 ⟨rfl, b_⟩
     rw [HBK.out]
     have B1 : Hid (Below wr.heap.size wr w1) := Lib.hid (undrew (by exact b_))
     clear b_
     have BW1 := Lib.hid (HB.out.trans (B1.out.mono HB.out.size))
     have UQ1 := Lib.hid (UQ.out.below B1.out (Nat.le_refl _))
     have HO1 := Lib.hid (HO.out.below B1.out (Nat.le_refl _))
     have hcc1 := And.intro ((B1.out.cell (World.block_lt_of_cell? wr _ hcc.1)).trans hcc.1) ((B1.out.cell (World.block_lt_of_cell? wr _ hcc.2)).trans hcc.2)
     go_wp2_with fail
     refine hK.out _ _ (by exact hcc1) (fun hHeld => ?_)
     clear hK K
     try simp only [Act.put,ZA,ZB,ZC,ZD,ZE,ZF]
     refine' hY 9 ?_
     try simp only [Act.put,ZA,ZB,ZC,ZD,ZE,ZF]
     refine' hY 10 ?_
     try simp only [Act.put,ZA,ZB,ZC,ZD,ZE,ZF]
     refine' hY 11 ?_
     try simp only [Act.put,ZA,ZB,ZC,ZD,ZE,ZF]
     refine' hY 12 ?_
     try simp only [Act.put,ZA,ZB,ZC,ZD,ZE,ZF]
     refine' hY 13 ?_
     try simp only [Act.put,ZA,ZB,ZC,ZD,ZE,ZF]
     refine' hY 14 ?_
     try simp only [Act.put,ZA,ZB,ZC,ZD,ZE,ZF]
     refine' hY 15 ?_
     try simp only [Act.put,ZA,ZB,ZC,ZD,ZE,ZF]
     refine wpAnyH_done (by kernel_rfl) ?_ _
     clear hcc hcc1
     rcases op with _ | _
     ·rcases ok with _ | _
      ·have HS : Hid (rawN chars classes (k + 1) = st) := Lib.hid (by rw [HNX.out]; exact rawS_stay HEN.out (by rw [HX.out, HY.out, HBK.out]))
       go_wp2_with fail
       go_step3
       refine ⟨rfl, ⟨k + 1, st.waits, _, _, _, _, _, _, _, _, _, _, _, _, _, _, _, _, _, _, _, _, _, _, _, _, _, _, _, _, _, _, _, _, _, _, _, _, _, _, _, _, _, _, _, _, _, _, _, _, _, _, _, _, _, _, _, _, _, _, _, _, _, _, _, _, by go_num, by omega, .inl ⟨by rw [HS.out]; exact HEN.out, by rw [HS.out]⟩, by rw [HS.out]; exact HO1, UQ1, BW1⟩, ?_⟩
       simp [intOf]; omega
      ·have hWl : st.waits.length ≤ 1000 := by rw [HM.out]; omega
       have hWc : ∀ x ∈ st.waits, x < chars.length := fun x hx => by have := HWK.out x hx; omega
       have hcon := lastSame_any (some p) chars c AQ st.waits cq o w1 ((H.out.up BW1.out)) (by have := (LQ.out.below B1.out); exact this.wider B1.out.size) hWc hWl (by omega)
       rw [HM.out] at hcon
       have HF := Lib.hid (rawS_find (st := st) (k := k) HEN.out (chars := chars) (classes := classes) (by rw [HX.out, HY.out, HBK.out]) (by rw [HX.out, HY.out, HBK.out]))
       rw [HX.out, HY.out, HBK.out] at HF
       clear hWl hWc
       rcases hfw : findW chars o st.waits with _ | ⟨v, ws⟩
       ·have HS : Hid (rawN chars classes (k + 1) = st) := Lib.hid (by rw [HNX.out, HF.out]; simp only [hfw])
        have HLN : Hid (lastN chars o st.waits = -1) := Lib.hid (by rw [lastN, hfw])
        clear hfw
        go_wp2_with fail
        refine hcon.mono ?_
        rintro e w2 ⟨rfl, b2⟩
        rw [HLN.out]
        have UQ2 := Lib.hid (UQ1.out.below b2 (Nat.le_refl _))
        have HO2 := Lib.hid (HO1.out.below b2 (Nat.le_refl _))
        have BW2 := Lib.hid (BW1.out.trans (b2.mono BW1.out.size))
        clear b2 hcon
        go_wp2_with fail
        go_step3
        refine ⟨rfl, ⟨k + 1, st.waits, _, _, _, _, _, _, _, _, _, _, _, _, _, _, _, _, _, _, _, _, _, _, _, _, _, _, _, _, _, _, _, _, _, _, _, _, _, _, _, _, _, _, _, _, _, _, _, _, _, _, _, _, _, _, _, _, _, _, _, _, _, _, _, _, by go_num, by omega, .inl ⟨by rw [HS.out]; exact HEN.out, by rw [HS.out]⟩, by rw [HS.out]; exact HO2, UQ2, BW2⟩, ?_⟩
        simp [intOf]; omega
       ·have HS : Hid (rawN chars classes (k + 1) = { st with out := st.out ++ [((v : Int), (k : Int))], waits := ws }) := Lib.hid (by rw [HNX.out, HF.out]; simp only [hfw])
        obtain ⟨j, hj⟩ : ∃ j, ws.length = j := ⟨_, rfl⟩
        have HLN : Hid (lastN chars o st.waits = (j : Int)) := Lib.hid (by rw [lastN, hfw]; exact congrArg _ hj)
        obtain ⟨g1, g2, g3⟩ := findW_get chars o st.waits v ws hfw
        rw [hj] at g1 g2 g3
        have hjm : j < m := by rw [← HM.out]; exact g1
        have hjw : j < (waitL st.waits).length := by rw [waitL_length]; exact g1
        have G2 : Hid ((waitL st.waits)[j] = (v : Int)) := Lib.hid (by rw [List.getElem?_eq_getElem hjw] at g2; injection g2)
        have G3 := Lib.hid g3
        have j0 : (0 : Int) ≤ (j : Int) := by omega
        have j1 : (j : Int) < (m : Int) := by omega
        have j2 : decide ((0 : Int) ≤ (j : Int)) = true := by simp
        clear hfw g1 g2 g3
        go_wp2_with fail
        refine hcon.mono ?_
        rintro e w2 ⟨rfl, b2⟩
        rw [HLN.out]
        have UQ2 := Lib.hid (UQ1.out.below b2 (Nat.le_refl _))
        have HO2 := Lib.hid (HO1.out.below b2 (Nat.le_refl _))
        have BW2 := Lib.hid (BW1.out.trans (b2.mono BW1.out.size))
        obtain ⟨pq, hpq, _, hcq⟩ := ((LQ.out.below B1.out).below (b2.mono B1.out.size)).int hjw
        subst hpq
        rw [G2.out] at hcq
        clear b2 hcon
        go_wp2_with (first
         | (at_builtin; refine appN_at prT w (w2.alloc (.cells #[.int .i64 (v : Int), .int .i64 (k : Int)] 79)) w.heap.size _ _ _ (.slice AO st.out.length co) st.out.length 1 (prC st.out) [.int .i64 (v : Int), .int .i64 (k : Int)] _ _ rfl rfl rfl rfl (HO2.out.alloc _) (Lies.lit (w := w2) (e := 79) #[.int .i64 (v : Int), .int .i64 (k : Int)]) rfl (by simp [Value.oneCell']) (BW2.out.alloc BW2.out.size _) (BW2.out.alloc BW2.out.size _).size (by unfold maxLen; omega) (by omega) ?_; intro v3 w3 o3 b3 g3 _; have O3 := Lib.hid o3; have B3 := Lib.hid b3; have UQ3 := Lib.hid ((UQ2.out.alloc (.cells #[.int .i64 (v : Int), .int .i64 (k : Int)] 79)).keep g3 (OwnN.unlike (show OwnN _ w.heap.size 3 1 (.slice (some pq) m cq) _ _ from UQ2.out) HO2.out (by decide))); clear o3 b3 g3)
         | (refine short_own intsT w3 w.heap.size _ _ .i64 (j : Int) (.slice (some pq) m cq) (ints .i64 (waitL st.waits)) rfl rfl rfl rfl j0 UQ3.out (by simp [waitL_length, HM.out]; omega) ?_; intro v5 o5 _; have O5 := Lib.hid o5; clear o5)
         | fail)
        go_step3
        refine ⟨rfl, ⟨k + 1, ws, _, _, _, _, _, _, _, _, _, _, _, _, _, _, _, _, _, _, _, _, _, _, _, _, _, _, _, _, _, _, _, _, _, _, _, _, _, _, _, _, _, _, _, _, _, _, _, _, _, _, _, _, _, _, _, _, _, _, _, _, _, _, _, _, by go_num, by omega, .inl ⟨by rw [HS.out]; exact HEN.out, by rw [HS.out]⟩, by rw [HS.out]; exact Lib.hid (by have := O3.out; simpa [prC] using this), Lib.hid (by have := O5.out; rw [Int.toNat_natCast, ← List.map_take, G3.out] at this; exact this), B3⟩, ?_⟩
        simp [intOf]; omega
     ·have HPU := Lib.hid (rawS_push (st := st) (k := k) HEN.out (chars := chars) (classes := classes) (by rw [HX.out, HY.out, HBK.out]))
      go_wp2_with (first
       | (at_builtin; refine app_lit intsT w w1 w.heap.size _ _ #[.int .i64 (k : Int)] 1 (.slice AQ m cq) (ints .i64 (waitL st.waits)) rfl rfl rfl rfl UQ1.out (by simp [Value.oneCell']) BW1.out BW1.out.size (by unfold maxLen; simp [waitL_length, HM.out]; omega) (by simp [waitL_length, HM.out]; omega) ?_; intro v2 w2 o2 b2 g2 _; have O2 := Lib.hid (show Own w2 w.heap.size 3 v2 (ints .i64 (waitL (k :: st.waits))) by rw [waitL_cons]; simpa [ints] using o2); have B2 := Lib.hid b2; have HO2 := Lib.hid (HO1.out.keep g2 (OwnN.unlike HO1.out (show OwnN w1 w.heap.size 3 1 (.slice AQ m cq) _ _ from UQ1.out) (by decide))); clear o2 b2 g2)
       | fail)
      go_step3
      refine ⟨rfl, ⟨k + 1, k :: st.waits, _, _, _, _, _, _, _, _, _, _, _, _, _, _, _, _, _, _, _, _, _, _, _, _, _, _, _, _, _, _, _, _, _, _, _, _, _, _, _, _, _, _, _, _, _, _, _, _, _, _, _, _, _, _, _, _, _, _, _, _, _, _, _, _, by go_num, by omega, ?_, Lib.hid ?_, O2, B2⟩, ?_⟩
      ·by_cases h63 : st.waits.length = 63
       ·exact .inr ⟨by rw [HNX.out, HPU.out, if_pos h63], by rw [List.length_cons, h63]⟩
       ·exact .inl ⟨by rw [HNX.out, HPU.out, if_neg h63]; exact HEN.out, by rw [HNX.out, HPU.out, if_neg h63]⟩
      ·have e : (rawN chars classes (k + 1)).out = st.out := by rw [HNX.out, HPU.out]; split <;> rfl
       rw [e]; exact HO2.out
      ·simp [intOf]; omega
    ·have d2 : decide ((m : Int) ≤ 63) = false := by simp; omega
     have HEND : Hid (k = chars.length ∨ (rawN chars classes k).ended = true) := Lib.hid (by
      rcases HST.out with ⟨_, h⟩ | ⟨h, _⟩
      ·have := raw_waits chars classes k; have := HM.out; rw [h] at this; omega
      ·exact .inr h)
     have HSO := Lib.hid (sortPr_any w.heap.size ov (rawN chars classes k).out wr HO.out (by have := raw_le chars classes k; omega) HB.out.size)
     have HIN := Lib.hid HO.out.inside
     obtain ⟨AO, co, rfl, hol, hoc, _⟩ := HO.out.form
     clear hol HST
     go_wp2_with fail
     refine HSO.out.mono ?_
     rintro e w2 ⟨rfl, L, hp, hs, ⟨A2, c2, hv, hL⟩, b2⟩
     have HLE := Lib.hid (raw_end HE.out hk HEND.out hp hs)
     have hlen := hp.length_eq
     injection hv with hvA hvn hvc
     subst hvA hvc
     have HLL := Lib.hid hL
     have BW2 := Lib.hid (HB.out.trans b2)
     have HLN := Lib.hid hlen
     clear b2 hL hp hs hlen hvn
     go_wp2_with fail
     go_ret
     refine ⟨AO, co, ?_, by rw [← HLE.out]; exact HLL.out, BW2.out, fun p hp => (HIN.out p.block (by rw [hp]; rfl)).1⟩
     rw [← HLE.out, HLN.out]
     rfl
   ·have d1 : decide ((k : Int) < (chars.length : Int)) = false := by simp; omega
    have HEND : Hid (k = chars.length ∨ (rawN chars classes k).ended = true) := Lib.hid (.inl (by omega))
    have HSO := Lib.hid (sortPr_any w.heap.size ov (rawN chars classes k).out wr HO.out (by have := raw_le chars classes k; omega) HB.out.size)
    have HIN := Lib.hid HO.out.inside
    obtain ⟨AO, co, rfl, hol, hoc, _⟩ := HO.out.form
    clear hol HST
    go_wp2_with fail
    refine HSO.out.mono ?_
    rintro e w2 ⟨rfl, L, hp, hs, ⟨A2, c2, hv, hL⟩, b2⟩
    have HLE := Lib.hid (raw_end HE.out hk HEND.out hp hs)
    have hlen := hp.length_eq
    injection hv with hvA hvn hvc
    subst hvA hvc
    have HLL := Lib.hid hL
    have BW2 := Lib.hid (HB.out.trans b2)
    have HLN := Lib.hid hlen
    clear b2 hL hp hs hlen hvn
    go_wp2_with fail
    go_ret
    refine ⟨AO, co, ?_, by rw [← HLE.out]; exact HLL.out, BW2.out, fun p hp => (HIN.out p.block (by rw [hp]; rfl)).1⟩
    rw [← HLE.out, HLN.out]
    rfl
  ·intro hpass
   go_wp2
   go_step3
   go_simp
   rename_i K hK
   refine hK _ _ ?_
   exact hpass _ _ ⟨0, [], _, _, _, _, _, _, _, _, _, _, _, _, _, _, _, _, _, _, _, _, _, _, _, _, _, _, _, _, _, _, _, _, _, _, _, _, _, _, _, _, _, _, _, _, _, _, _, _, _, _, _, _, _, _, _, _, _, _, _, _, _, _, _, _, rfl, by omega, .inl ⟨rfl, rfl⟩, Lib.hid (OwnN.empty _ _ _ _), Lib.hid (Own.empty _ _ _), Lib.hid (Below.refl _ _)⟩
 ·have hP : pairsI chars classes = [] := by rw [pairsI, if_neg he]
  have hne : ((chars.length : Int) != (classes.length : Int)) = true := by simp; omega
  rw [hP]
  clear hP he
  go_enter Tryz.func95, Tryz.ntmps95
  go_wp2_with fail
  go_step3
  go_wp2_with fail
  rw [Exit.noGoto_ret]
  go_ret
  exact ⟨none, 0, rfl, Lies.empty, Below.refl _ _, fun p hp => by cases hp⟩
end Go.Proofs.YtcbaahlahohfmaaGreatDoor
