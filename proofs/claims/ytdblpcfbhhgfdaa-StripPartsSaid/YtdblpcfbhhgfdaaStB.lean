/- Layer 7: the program's own: is one left out, or kept? slices.IndexFunc and slices.DeleteFunc by either; Kept, Chars, Only, Rank, Same. -/
import Derived.Test.YtdblpcfbhhgfdaaStM
import Derived.Test.YtdblpcfbhhgfdaaDel
import Derived.Test.YtdblpcfbhhgfdaaLaw
namespace Go.Proofs.Ytdblpcfbhhgfdaa
open Go.RowKit

theorem sleft_any (c : Int) (w : World) : Calls Try.prog 22 #[.int .i64 c] w fun e w' => e = .returned (.bool (outC c)) ∧ Below w.heap.size w w' := by
  go_enter Try.func22, Try.ntmps22
  go_wp2_with fail
  refine (of_any c w).mono ?_
  rintro e wq ⟨rfl, rfl⟩
  go_wp2_with fail
  refine (out_any _ w).mono ?_
  rintro e w1 ⟨rfl, b1⟩
  have B1 := Lib.hid b1
  have D1 := Lib.hid b1
  clear b1
  go_wp2
  go_ret
  exact ⟨rfl, B1.out⟩
theorem sstays_any (c : Int) (w : World) : Calls Try.prog 18 #[.int .i64 c] w fun e w' => e = .returned (.bool (!outC c)) ∧ Below w.heap.size w w' := by
  go_enter Try.func18, Try.ntmps18
  go_wp2_with fail
  refine (sleft_any c w).mono ?_
  rintro e w1 ⟨rfl, b1⟩
  have B1 := Lib.hid b1
  have D1 := Lib.hid b1
  clear b1
  go_wp2
  go_ret
  exact ⟨rfl, B1.out⟩

set_option maxHeartbeats 1000000 in
/-- slices.IndexFunc by left -/
theorem index_left (A : Option Addr) (l : List Int) (c : Nat) (w : World) (h : Lies w w.heap.size A (ints .i64 l)) (hl : l.length ≤ 1000000) :
    Calls Try.prog 26 #[.slice A l.length c, .func (.func 22) #[] #[]] w fun e w' => ∃ n : Int, e = .returned (.int .i64 n) ∧ Below w.heap.size w w' ∧
      ((n = -1 ∧ ∀ x ∈ l, outC x = false) ∨ ∃ (k : Nat) (hk : k < l.length), n = k ∧ outC l[k] = true ∧ ∀ x ∈ l.take k, outC x = false) := by
  have H := Lib.hid h
  clear h
  go_enter Try.func26, Try.ntmps26
  go_wp2
  go_loopw [8] (fun i wr => ∃ k : Nat, k ≤ l.length ∧ i = .int .i64 k ∧ Hid (∀ x ∈ l.take k, outC x = false) ∧ Below w.heap.size w wr) (fun i _ => l.length - (intOf i).toNat)
  case atStart => exact ⟨0, by omega, rfl, Lib.hid (by simp), Below.refl _ _⟩
  case round =>
    obtain ⟨k, hk, rfl, HN, hb⟩ := hrel
    have HB := Lib.hid hb
    clear hb
    by_cases hlt : k < l.length
    · obtain ⟨p, rfl, _, hc⟩ := (H.out.below HB.out).int hlt
      have b0 : (0 : Int) ≤ (k : Int) := by omega
      have b1 : (k : Int) < (l.length : Int) := by omega
      obtain ⟨x, hx⟩ : ∃ x, l[k] = x := ⟨_, rfl⟩
      rw [hx] at hc
      have HX := Lib.hid hx
      clear hx
      rcases hp : outC x with _ | _
      · have HP := Lib.hid hp
        clear hp
        go_wp2_with fail
        refine (sleft_any x wr).mono ?_
        rintro e w1 ⟨rfl, b1⟩
        rw [HP.out]
        have B1 := Lib.hid (HB.out.trans (b1.mono HB.out.size))
        have D1 := Lib.hid b1
        clear b1
        go_wp2_with fail
        go_roundw
        case rel =>
          refine ⟨k + 1, by omega, by go_num, Lib.hid ?_, B1.out⟩
          intro y hy
          rw [take_snoc l k hlt, List.mem_append] at hy
          rcases hy with hy | hy
          · exact HN.out y hy
          · rw [HX.out] at hy
            rw [List.mem_singleton.1 hy]; exact HP.out
        case measure => simp [intOf]; omega
      · have HP := Lib.hid hp
        clear hp
        go_wp2_with fail
        refine (sleft_any x wr).mono ?_
        rintro e w1 ⟨rfl, b1⟩
        rw [HP.out]
        have B1 := Lib.hid (HB.out.trans (b1.mono HB.out.size))
        have D1 := Lib.hid b1
        clear b1
        go_wp2_with fail
        go_ret
        exact ⟨_, rfl, B1.out, .inr ⟨k, hlt, rfl, by rw [HX.out]; exact HP.out, HN.out⟩⟩
    · go_wp2
      go_ret
      refine ⟨_, rfl, HB.out, .inl ⟨rfl, ?_⟩⟩
      have := HN.out
      rw [List.take_of_length_le (by omega)] at this
      exact this

set_option maxHeartbeats 2000000 in
/-- slices.DeleteFunc by left, of a row of one's own -/
theorem delete_left (v : Value) (l : List Int) (B : Nat) (w : World) (h : Own w B 3 v (ints .i64 l)) (hB : B ≤ w.heap.size) (hl : l.length ≤ 1000000) :
    Calls Try.prog 20 #[v, .func (.func 22) #[] #[]] w (Rowed w B 3 (ints .i64 (l.filter fun x => !outC x))) := by
  obtain ⟨A, c, rfl, hL, hlc, hcm⟩ := h.form
  simp only [ints, List.length_map] at hlc ⊢
  have H := Lib.hid h
  have L := Lib.hid hL
  simp only [ints, List.length_map] at H
  unfold maxLen at hcm
  clear h hL
  go_enter Try.func20, Try.ntmps20
  go_wp2_with fail
  refine (index_left A l c w L.out hl).mono ?_
  rintro e w1 ⟨n, rfl, b1, hn⟩
  have B1 := Lib.hid (b1.mono hB)
  have H1 := Lib.hid (H.out.below b1 (Nat.le_refl _))
  clear b1
  rcases hn with ⟨rfl, hn⟩ | ⟨k, hk, rfl, hp, ha⟩
  · have HF : Hid (l.filter (fun x => !outC x) = l) := Lib.hid (List.filter_eq_self.2 fun x hx => by simp [hn x hx])
    clear hn
    go_wp2
    go_ret
    exact ⟨_, rfl, by rw [HF.out]; exact H1.out, B1.out⟩
  · obtain ⟨g, c', hv, hrow⟩ := H1.out.inRow (by simp; omega)
    simp only [List.length_map] at hv
    injection hv with hA _ hc'
    subst hA hc'
    have KS := Kpt.start (p := fun x => !outC x) hk (by simp [hp]) (List.filter_eq_self.2 fun x hx => by simp [ha x hx])
    have K := Lib.hid KS
    have R := Lib.hid hrow
    have hk1 : ((k : Int) == -1) = false := by simp
    clear hp ha hrow KS
    go_wp2
    go_loopw [5, 6] (fun iv jv wr => ∃ (i j : Nat) (cur : List Int), iv = .int .i64 i ∧ jv = .int .i64 j ∧ i < j ∧ j ≤ l.length ∧ Row wr B 3 g c (ints .i64 cur) ∧ Below B w wr ∧ Hid (Kpt (fun x => !outC x) l j cur ∧ ((l.take j).filter fun x => !outC x).length = i)) (fun _ jv _ => l.length - (intOf jv).toNat)
    case atStart => exact ⟨k, k + 1, l, rfl, by go_num, by omega, by omega, R.out, B1.out, K⟩
    case round =>
      obtain ⟨i, j, cur, rfl, rfl, hij, hj, hr, hb, K⟩ := hrel
      have HR := Lib.hid hr
      have HB := Lib.hid hb
      clear hr hb
      by_cases hlt : j < l.length
      · obtain ⟨x, hx⟩ : ∃ x, l[j] = x := ⟨_, rfl⟩
        have hjc : j < (ints .i64 cur).length := by have := K.out.1.len; simp; omega
        have hcell : wr.cell? ⟨g, j, none⟩ = some (.int .i64 x) := by
          have h2 := K.out.1.get hlt
          have h3 : j < cur.length := by simpa using hjc
          rw [List.getElem?_eq_getElem h3, hx] at h2
          rw [HR.out.cell hjc]
          simpa using h2
        have HX := Lib.hid hx
        have hsz := HR.out.inside
        have b0 : (0 : Int) ≤ (j : Int) := by omega
        have b1 : (j : Int) < (l.length : Int) := by omega
        have b2 : (0 : Int) ≤ (i : Int) := by omega
        have b3 : (i : Int) < (l.length : Int) := by omega
        clear hx hjc
        rcases hp : outC x with _ | _
        · have HP := Lib.hid hp
          clear hp
          go_wp2_with fail
          refine (sleft_any x wr).mono ?_
          rintro e w2 ⟨rfl, d2⟩
          rw [HP.out]
          have R2 := Lib.hid (HR.out.below d2 (Nat.le_refl _))
          have B2 := Lib.hid (HB.out.trans (d2.mono (by omega)))
          clear d2
          have hic : i < (ints .i64 cur).length := by have := K.out.1.len; simp; omega
          have hfree := R2.out.free i
          obtain ⟨u0, hcell0⟩ : ∃ u, w2.cell? ⟨g, i, none⟩ = some u := ⟨_, R2.out.cell hic⟩
          clear hic hcell
          go_wp2_with (first
            | (refine store_row intsT _ B _ _ g i c .i64 x (ints .i64 cur) w rfl rfl rfl rfl rfl R2.out (by have := K.out.1.len; simp; omega) B2.out ?_; intro w3 r3 b3 _; rw [ints_set] at r3; have R3 := Lib.hid r3; have B3 := Lib.hid b3; clear r3 b3)
            | fail)
          go_roundw
          case rel =>
            have KK := K.out.1.keep hlt (by rw [HX.out]; show (!outC x) = true; rw [HP.out]; rfl) K.out.2
            rw [HX.out] at KK
            exact ⟨i + 1, j + 1, cur.set i x, by go_num, by go_num, by omega, by omega, R3.out, B3.out, Lib.hid KK⟩
          case measure => simp [intOf]; omega
        · have HP := Lib.hid hp
          clear hp
          go_wp2_with fail
          refine (sleft_any x wr).mono ?_
          rintro e w2 ⟨rfl, d2⟩
          rw [HP.out]
          have R2 := Lib.hid (HR.out.below d2 (Nat.le_refl _))
          have B2 := Lib.hid (HB.out.trans (d2.mono (by omega)))
          clear d2 hcell
          go_wp2_with fail
          go_roundw
          case rel =>
            have KK := K.out.1.skip hlt (by rw [HX.out]; show (!outC x) = false; rw [HP.out]; rfl)
            exact ⟨i, j + 1, cur, by first | rfl | trivial, by go_num, by omega, by omega, R2.out, B2.out, Lib.hid ⟨KK.1, by rw [KK.2]; exact K.out.2⟩⟩
          case measure => simp [intOf]; omega
      · obtain rfl : j = l.length := by omega
        have hcl0 : cur.length = l.length := K.out.1.len
        have hcl : ∀ ty, (Builtin.clear_ #[22] ty #[.slice (some ⟨g, i, none⟩) (l.length - i) (c - i)]).run Try.prog wr = .ok (.tuple #[]) (wr.setCells g i (List.replicate (l.length - i) (.int .i64 0))) :=
          fun ty => Lib.run_clear_slice wr _ _ ty (.int .i64 0) Try.underlying22 (fun _ => by rfl) rfl rfl g i _ _ (by omega) (fun t ht => by rw [HR.out.cell (show i + t < (ints .i64 cur).length by simp; omega)]; rfl) (fun t ht => HR.out.free _)
        obtain ⟨hr2, hb2⟩ := Row.setCells (List.replicate (l.length - i) (.int .i64 0)) i wr _ HR.out HB.out (by simp; omega)
        have R2 := Lib.hid hr2
        have B2 := Lib.hid hb2
        have hci := cap_ne l.length c i hij hlc
        have hni : (0 : Int) ≤ (i : Int) := by omega
        have hil : (i : Int) ≤ (l.length : Int) := by omega
        clear hr2 hb2
        go_wp2
        go_ret
        obtain ⟨_, _, hv, _, hs⟩ := Own.short R2.out (j := i) (by simp; omega)
        injection hv with hA hB1 hC
        subst hA hC
        refine ⟨_, rfl, ?_, B2.out⟩
        have hd := K.out.1.done
        rw [K.out.2] at hd
        rw [List.take_length] at hd
        rw [List.append_assoc, List.take_append_of_le_length (by simp; omega), List.take_take, Nat.min_self, ← List.map_take, hd] at hs
        exact hs

set_option maxHeartbeats 1000000 in
/-- slices.IndexFunc by stays -/
theorem index_stays (A : Option Addr) (l : List Int) (c : Nat) (w : World) (h : Lies w w.heap.size A (ints .i64 l)) (hl : l.length ≤ 1000000) :
    Calls Try.prog 26 #[.slice A l.length c, .func (.func 18) #[] #[]] w fun e w' => ∃ n : Int, e = .returned (.int .i64 n) ∧ Below w.heap.size w w' ∧
      ((n = -1 ∧ ∀ x ∈ l, (!outC x) = false) ∨ ∃ (k : Nat) (hk : k < l.length), n = k ∧ (!outC l[k]) = true ∧ ∀ x ∈ l.take k, (!outC x) = false) := by
  have H := Lib.hid h
  clear h
  go_enter Try.func26, Try.ntmps26
  go_wp2
  go_loopw [8] (fun i wr => ∃ k : Nat, k ≤ l.length ∧ i = .int .i64 k ∧ Hid (∀ x ∈ l.take k, (!outC x) = false) ∧ Below w.heap.size w wr) (fun i _ => l.length - (intOf i).toNat)
  case atStart => exact ⟨0, by omega, rfl, Lib.hid (by simp), Below.refl _ _⟩
  case round =>
    obtain ⟨k, hk, rfl, HN, hb⟩ := hrel
    have HB := Lib.hid hb
    clear hb
    by_cases hlt : k < l.length
    · obtain ⟨p, rfl, _, hc⟩ := (H.out.below HB.out).int hlt
      have b0 : (0 : Int) ≤ (k : Int) := by omega
      have b1 : (k : Int) < (l.length : Int) := by omega
      obtain ⟨x, hx⟩ : ∃ x, l[k] = x := ⟨_, rfl⟩
      rw [hx] at hc
      have HX := Lib.hid hx
      clear hx
      rcases hp : (!outC x) with _ | _
      · have HP := Lib.hid hp
        clear hp
        go_wp2_with fail
        refine (sstays_any x wr).mono ?_
        rintro e w1 ⟨rfl, b1⟩
        rw [HP.out]
        have B1 := Lib.hid (HB.out.trans (b1.mono HB.out.size))
        have D1 := Lib.hid b1
        clear b1
        go_wp2_with fail
        go_roundw
        case rel =>
          refine ⟨k + 1, by omega, by go_num, Lib.hid ?_, B1.out⟩
          intro y hy
          rw [take_snoc l k hlt, List.mem_append] at hy
          rcases hy with hy | hy
          · exact HN.out y hy
          · rw [HX.out] at hy
            rw [List.mem_singleton.1 hy]; exact HP.out
        case measure => simp [intOf]; omega
      · have HP := Lib.hid hp
        clear hp
        go_wp2_with fail
        refine (sstays_any x wr).mono ?_
        rintro e w1 ⟨rfl, b1⟩
        rw [HP.out]
        have B1 := Lib.hid (HB.out.trans (b1.mono HB.out.size))
        have D1 := Lib.hid b1
        clear b1
        go_wp2_with fail
        go_ret
        exact ⟨_, rfl, B1.out, .inr ⟨k, hlt, rfl, by rw [HX.out]; exact HP.out, HN.out⟩⟩
    · go_wp2
      go_ret
      refine ⟨_, rfl, HB.out, .inl ⟨rfl, ?_⟩⟩
      have := HN.out
      rw [List.take_of_length_le (by omega)] at this
      exact this

set_option maxHeartbeats 2000000 in
/-- slices.DeleteFunc by stays, of a row of one's own -/
theorem delete_stays (v : Value) (l : List Int) (B : Nat) (w : World) (h : Own w B 3 v (ints .i64 l)) (hB : B ≤ w.heap.size) (hl : l.length ≤ 1000000) :
    Calls Try.prog 20 #[v, .func (.func 18) #[] #[]] w (Rowed w B 3 (ints .i64 (l.filter fun x => !(!outC x)))) := by
  obtain ⟨A, c, rfl, hL, hlc, hcm⟩ := h.form
  simp only [ints, List.length_map] at hlc ⊢
  have H := Lib.hid h
  have L := Lib.hid hL
  simp only [ints, List.length_map] at H
  unfold maxLen at hcm
  clear h hL
  go_enter Try.func20, Try.ntmps20
  go_wp2_with fail
  refine (index_stays A l c w L.out hl).mono ?_
  rintro e w1 ⟨n, rfl, b1, hn⟩
  have B1 := Lib.hid (b1.mono hB)
  have H1 := Lib.hid (H.out.below b1 (Nat.le_refl _))
  clear b1
  rcases hn with ⟨rfl, hn⟩ | ⟨k, hk, rfl, hp, ha⟩
  · have HF : Hid (l.filter (fun x => !(!outC x)) = l) := Lib.hid (List.filter_eq_self.2 fun x hx => by simp [hn x hx])
    clear hn
    go_wp2
    go_ret
    exact ⟨_, rfl, by rw [HF.out]; exact H1.out, B1.out⟩
  · obtain ⟨g, c', hv, hrow⟩ := H1.out.inRow (by simp; omega)
    simp only [List.length_map] at hv
    injection hv with hA _ hc'
    subst hA hc'
    have KS := Kpt.start (p := fun x => !(!outC x)) hk (by simp [hp]) (List.filter_eq_self.2 fun x hx => by simp [ha x hx])
    have K := Lib.hid KS
    have R := Lib.hid hrow
    have hk1 : ((k : Int) == -1) = false := by simp
    clear hp ha hrow KS
    go_wp2
    go_loopw [5, 6] (fun iv jv wr => ∃ (i j : Nat) (cur : List Int), iv = .int .i64 i ∧ jv = .int .i64 j ∧ i < j ∧ j ≤ l.length ∧ Row wr B 3 g c (ints .i64 cur) ∧ Below B w wr ∧ Hid (Kpt (fun x => !(!outC x)) l j cur ∧ ((l.take j).filter fun x => !(!outC x)).length = i)) (fun _ jv _ => l.length - (intOf jv).toNat)
    case atStart => exact ⟨k, k + 1, l, rfl, by go_num, by omega, by omega, R.out, B1.out, K⟩
    case round =>
      obtain ⟨i, j, cur, rfl, rfl, hij, hj, hr, hb, K⟩ := hrel
      have HR := Lib.hid hr
      have HB := Lib.hid hb
      clear hr hb
      by_cases hlt : j < l.length
      · obtain ⟨x, hx⟩ : ∃ x, l[j] = x := ⟨_, rfl⟩
        have hjc : j < (ints .i64 cur).length := by have := K.out.1.len; simp; omega
        have hcell : wr.cell? ⟨g, j, none⟩ = some (.int .i64 x) := by
          have h2 := K.out.1.get hlt
          have h3 : j < cur.length := by simpa using hjc
          rw [List.getElem?_eq_getElem h3, hx] at h2
          rw [HR.out.cell hjc]
          simpa using h2
        have HX := Lib.hid hx
        have hsz := HR.out.inside
        have b0 : (0 : Int) ≤ (j : Int) := by omega
        have b1 : (j : Int) < (l.length : Int) := by omega
        have b2 : (0 : Int) ≤ (i : Int) := by omega
        have b3 : (i : Int) < (l.length : Int) := by omega
        clear hx hjc
        rcases hp : (!outC x) with _ | _
        · have HP := Lib.hid hp
          clear hp
          go_wp2_with fail
          refine (sstays_any x wr).mono ?_
          rintro e w2 ⟨rfl, d2⟩
          rw [HP.out]
          have R2 := Lib.hid (HR.out.below d2 (Nat.le_refl _))
          have B2 := Lib.hid (HB.out.trans (d2.mono (by omega)))
          clear d2
          have hic : i < (ints .i64 cur).length := by have := K.out.1.len; simp; omega
          have hfree := R2.out.free i
          obtain ⟨u0, hcell0⟩ : ∃ u, w2.cell? ⟨g, i, none⟩ = some u := ⟨_, R2.out.cell hic⟩
          clear hic hcell
          go_wp2_with (first
            | (refine store_row intsT _ B _ _ g i c .i64 x (ints .i64 cur) w rfl rfl rfl rfl rfl R2.out (by have := K.out.1.len; simp; omega) B2.out ?_; intro w3 r3 b3 _; rw [ints_set] at r3; have R3 := Lib.hid r3; have B3 := Lib.hid b3; clear r3 b3)
            | fail)
          go_roundw
          case rel =>
            have KK := K.out.1.keep hlt (by rw [HX.out]; show (!(!outC x)) = true; rw [HP.out]; rfl) K.out.2
            rw [HX.out] at KK
            exact ⟨i + 1, j + 1, cur.set i x, by go_num, by go_num, by omega, by omega, R3.out, B3.out, Lib.hid KK⟩
          case measure => simp [intOf]; omega
        · have HP := Lib.hid hp
          clear hp
          go_wp2_with fail
          refine (sstays_any x wr).mono ?_
          rintro e w2 ⟨rfl, d2⟩
          rw [HP.out]
          have R2 := Lib.hid (HR.out.below d2 (Nat.le_refl _))
          have B2 := Lib.hid (HB.out.trans (d2.mono (by omega)))
          clear d2 hcell
          go_wp2_with fail
          go_roundw
          case rel =>
            have KK := K.out.1.skip hlt (by rw [HX.out]; show (!(!outC x)) = false; rw [HP.out]; rfl)
            exact ⟨i, j + 1, cur, by first | rfl | trivial, by go_num, by omega, by omega, R2.out, B2.out, Lib.hid ⟨KK.1, by rw [KK.2]; exact K.out.2⟩⟩
          case measure => simp [intOf]; omega
      · obtain rfl : j = l.length := by omega
        have hcl0 : cur.length = l.length := K.out.1.len
        have hcl : ∀ ty, (Builtin.clear_ #[22] ty #[.slice (some ⟨g, i, none⟩) (l.length - i) (c - i)]).run Try.prog wr = .ok (.tuple #[]) (wr.setCells g i (List.replicate (l.length - i) (.int .i64 0))) :=
          fun ty => Lib.run_clear_slice wr _ _ ty (.int .i64 0) Try.underlying22 (fun _ => by rfl) rfl rfl g i _ _ (by omega) (fun t ht => by rw [HR.out.cell (show i + t < (ints .i64 cur).length by simp; omega)]; rfl) (fun t ht => HR.out.free _)
        obtain ⟨hr2, hb2⟩ := Row.setCells (List.replicate (l.length - i) (.int .i64 0)) i wr _ HR.out HB.out (by simp; omega)
        have R2 := Lib.hid hr2
        have B2 := Lib.hid hb2
        have hci := cap_ne l.length c i hij hlc
        have hni : (0 : Int) ≤ (i : Int) := by omega
        have hil : (i : Int) ≤ (l.length : Int) := by omega
        clear hr2 hb2
        go_wp2
        go_ret
        obtain ⟨_, _, hv, _, hs⟩ := Own.short R2.out (j := i) (by simp; omega)
        injection hv with hA hB1 hC
        subst hA hC
        refine ⟨_, rfl, ?_, B2.out⟩
        have hd := K.out.1.done
        rw [K.out.2] at hd
        rw [List.take_length] at hd
        rw [List.append_assoc, List.take_append_of_le_length (by simp; omega), List.take_take, Nat.min_self, ← List.map_take, hd] at hs
        exact hs

set_option maxHeartbeats 2000000 in
theorem skept_any (A : Option Addr) (l : List Int) (c : Nat) (w : World) (h : Lies w w.heap.size A (ints .i64 l)) (hl : l.length ≤ 1000000) :
    Calls Try.prog 8 #[.slice A l.length c] w fun ed w' => Rowed w w.heap.size 3 (ints .i64 (keptI l)) ed w' := by
  have H := Lib.hid h
  clear h
  go_enter Try.func8, Try.ntmps8
  go_wp2
  go_loopw [8, 3] (fun iv ov wr => ∃ k : Nat, k ≤ l.length ∧ iv = .int .i64 k ∧ Own wr w.heap.size 3 ov (ints .i64 (keptN l k)) ∧ Below w.heap.size w wr) (fun iv _ _ => l.length - (intOf iv).toNat)
  case atStart => exact ⟨0, by omega, rfl, Own.empty _ _ _, Below.refl _ _⟩
  case round =>
    obtain ⟨k, hk, rfl, ho, hb⟩ := hrel
    have HO := Lib.hid ho
    have HB := Lib.hid hb
    clear ho hb
    by_cases hlt : k < l.length
    · obtain ⟨p, rfl, _, hcl⟩ := (H.out.below HB.out).int hlt
      obtain ⟨x, hx⟩ : ∃ x, l[k] = x := ⟨_, rfl⟩
      have HS := Lib.hid (keptN_succ l k hlt)
      rw [hx] at hcl HS
      have hle := keptN_le l k
      have b0 : (0 : Int) ≤ (k : Int) := by omega
      have b1 : (k : Int) < (l.length : Int) := by omega
      clear hx
      go_wp2_with fail
      refine (sstays_any x wr).mono ?_
      rintro e w1 ⟨rfl, d1⟩
      have O1 := Lib.hid (HO.out.below d1 (Nat.le_refl _))
      have B1 := Lib.hid (HB.out.trans (d1.mono HB.out.size))
      clear d1
      rcases hoc : outC x with _ | _
      · have HOC := Lib.hid hoc
        clear hoc
        go_wp2_with (first
          | (at_builtin; refine app_lit intsT w w1 w.heap.size _ _ #[.int .i64 (k : Int)] 1 _ _ rfl rfl rfl rfl O1.out (by simp [Value.oneCell']) B1.out B1.out.size (by unfold maxLen; simp; omega) (by simp; omega) ?_; intro v2 w2 o2 b2 _ _; have O2 := Lib.hid o2; have B2 := Lib.hid b2; clear o2 b2)
          | fail)
        go_roundw
        case rel => exact ⟨k + 1, by omega, by go_num, by rw [HS.out, HOC.out, if_neg (by simp)]; simpa [ints] using O2.out, B2.out⟩
        case measure => simp [intOf]; omega
      · have HOC := Lib.hid hoc
        clear hoc
        go_wp2_with fail
        go_roundw
        case rel => exact ⟨k + 1, by omega, by go_num, by rw [HS.out, HOC.out, if_pos rfl]; exact O1.out, B1.out⟩
        case measure => simp [intOf]; omega
    · obtain rfl : k = l.length := by omega
      go_wp2
      go_ret
      exact ⟨_, rfl, HO.out, HB.out⟩

theorem schars_any (A : Option Addr) (l : List Int) (c : Nat) (w : World) (h : Lies w w.heap.size A (ints .i64 l)) (hl : l.length ≤ 1000000) :
    Calls Try.prog 10 #[.slice A l.length c] w fun ed w' => Rowed w w.heap.size 3 (ints .i64 (charsI l)) ed w' := by
  go_enter Try.func10, Try.ntmps10
  go_wp2_with fail
  refine (clone_any A l c w h hl).mono ?_
  rintro e w1 ⟨v, rfl, o, b⟩
  go_wp2_with fail
  refine (delete_left v l w.heap.size w1 o b.size hl).mono ?_
  rintro e w2 ⟨v2, rfl, o2, b2⟩
  go_wp2
  go_ret
  exact ⟨_, rfl, o2, b.trans b2⟩
theorem sonly_any (A : Option Addr) (l : List Int) (c : Nat) (w : World) (h : Lies w w.heap.size A (ints .i64 l)) (hl : l.length ≤ 1000000) :
    Calls Try.prog 12 #[.slice A l.length c] w fun ed w' => Rowed w w.heap.size 3 (ints .i64 (onlyI l)) ed w' := by
  go_enter Try.func12, Try.ntmps12
  go_wp2_with fail
  refine (clone_any A l c w h hl).mono ?_
  rintro e w1 ⟨v, rfl, o, b⟩
  go_wp2_with fail
  refine (delete_stays v l w.heap.size w1 o b.size hl).mono ?_
  rintro e w2 ⟨v2, rfl, o2, b2⟩
  go_wp2
  go_ret
  refine ⟨_, rfl, ?_, b.trans b2⟩
  unfold onlyI
  simpa using o2
theorem ssame_any (A : Option Addr) (a : List Int) (c : Nat) (A' : Option Addr) (b : List Int) (c' : Nat) (w : World) (h : Lies w w.heap.size A (ints .i64 a)) (h' : Lies w w.heap.size A' (ints .i64 b)) (ha : a.length ≤ 1000000) (hb : b.length ≤ 1000000) :
    Calls Try.prog 16 #[.slice A a.length c, .slice A' b.length c'] w fun e w' => e = .returned (.bool (decide (charsI a = charsI b))) ∧ Below w.heap.size w w' := by
  have H := Lib.hid h
  have H' := Lib.hid h'
  obtain ⟨ca, hca⟩ : ∃ x, charsI a = x := ⟨_, rfl⟩
  obtain ⟨cb, hcb⟩ : ∃ x, charsI b = x := ⟨_, rfl⟩
  have hla : ca.length ≤ 1000000 := by have := chars_le a a.length; rw [List.take_length, hca] at this; omega
  have HA := Lib.hid hca
  have HB := Lib.hid hcb
  rw [hca, hcb]
  clear h h' hca hcb
  go_enter Try.func16, Try.ntmps16
  go_wp2_with fail
  refine (schars_any A a c w H.out ha).mono ?_
  rintro e w1 ⟨v1, rfl, o1, b1⟩
  rw [HA.out] at o1
  obtain ⟨A1, c1, rfl, l1, _, _⟩ := o1.form
  have B1 := Lib.hid b1
  have L1 := Lib.hid l1
  have D1 := Lib.hid b1
  simp only [ints, List.length_map]
  clear o1 b1 l1
  have HB1 := Lib.hid (H'.out.up B1.out)
  go_wp2_with fail
  refine (schars_any A' b c' w1 HB1.out hb).mono ?_
  rintro e w2 ⟨v2, rfl, o2, b2⟩
  rw [HB.out] at o2
  obtain ⟨A2, c2, rfl, l2, _, _⟩ := o2.form
  have B2 := Lib.hid (below_then B1.out b2)
  have L2 := Lib.hid l2
  have D2 := Lib.hid b2
  simp only [ints, List.length_map]
  clear o2 b2 l2
  have L1b := Lib.hid (L1.out.up D2.out)
  go_wp2_with fail
  refine (equal_any A1 A2 ca cb c1 c2 w2 L1b.out L2.out hla).mono ?_
  rintro e w3 ⟨rfl, b3⟩
  have B3 := Lib.hid (below_then B2.out b3)
  have D3 := Lib.hid b3
  clear b3
  go_wp2_with fail
  go_ret
  exact ⟨rfl, B3.out⟩

set_option maxHeartbeats 2000000 in
theorem srank_neg (A : Option Addr) (l : List Int) (c : Nat) (i : Int) (hi : i < 0) (w : World) (_ : l.length ≤ c) (h : Lies w w.heap.size A (ints .i64 l)) (hl : l.length ≤ 1000000) :
    Calls Try.prog 14 #[.slice A l.length c, .int .i64 i] w fun ed w' => ed = .returned (.int .i64 (rankI l i : Int)) ∧ Below w.heap.size w w' := by
  have H := Lib.hid h
  clear h
  have HZ : Hid (rankI l i = (charsI (l.take 0)).length) := Lib.hid (by rw [rankI, show i.toNat = 0 by omega])
  have hd : decide (i < 0) = true := by simpa using hi
  go_enter Try.func14, Try.ntmps14
  go_wp2_with fail
  go_loopw [16, 5] (fun iv nv wr => ∃ k : Nat, k ≤ (0 : Nat) ∧ iv = .int .i64 k ∧ nv = .int .i64 ((charsI (l.take k)).length : Int) ∧ Below w.heap.size w wr) (fun iv _ _ => (0 : Nat) - (intOf iv).toNat)
  case atStart => exact ⟨0, by omega, rfl, rfl, Below.refl _ _⟩
  case round =>
    obtain ⟨j, hj, rfl, rfl, hb⟩ := hrel
    have HB := Lib.hid hb
    have hle := chars_le l j
    obtain ⟨n, hn⟩ : ∃ n, (charsI (l.take j)).length = n := ⟨_, rfl⟩
    have HN := Lib.hid hn
    rw [hn] at hle ⊢
    clear hb hn
    by_cases hlt : j < 0
    · have hlt2 : j < l.length := by omega
      obtain ⟨p, rfl, _, hcl⟩ := (H.out.below HB.out).int hlt2
      obtain ⟨x, hx⟩ : ∃ x, l[j] = x := ⟨_, rfl⟩
      have HS := Lib.hid (chars_succ l j hlt2)
      rw [hx] at hcl HS
      have b0 : (0 : Int) ≤ (j : Int) := by omega
      have b1 : (j : Int) < 0 := by omega
      clear hx hlt2
      go_wp2_with fail
      refine (sstays_any x wr).mono ?_
      rintro e w1 ⟨rfl, d1⟩
      have B1 := Lib.hid (HB.out.trans (d1.mono HB.out.size))
      clear d1 hcl
      rcases hoc : outC x with _ | _
      · have HR : Hid ((charsI (l.take (j + 1))).length = n + 1) := Lib.hid (by rw [HS.out, hoc, if_neg (by simp), List.length_append, HN.out]; rfl)
        clear hoc
        go_wp2_with fail
        go_roundw
        case rel => exact ⟨j + 1, by omega, by go_num, by rw [HR.out]; go_num, B1.out⟩
        case measure => simp [intOf]; omega
      · have HR : Hid ((charsI (l.take (j + 1))).length = n) := Lib.hid (by rw [HS.out, hoc, if_pos rfl, HN.out])
        clear hoc
        go_wp2_with fail
        go_roundw
        case rel => exact ⟨j + 1, by omega, by go_num, by rw [HR.out], B1.out⟩
        case measure => simp [intOf]; omega
    · obtain rfl : j = (0 : Nat) := by omega
      go_wp2
      go_ret
      exact ⟨ret_int (by rw [HZ.out, HN.out]), HB.out⟩

set_option maxHeartbeats 2000000 in
theorem srank_past (A : Option Addr) (l : List Int) (c : Nat) (i : Int) (hi : (l.length : Int) < i) (w : World) (hlc : l.length ≤ c) (h : Lies w w.heap.size A (ints .i64 l)) (hl : l.length ≤ 1000000) :
    Calls Try.prog 14 #[.slice A l.length c, .int .i64 i] w fun ed w' => ed = .returned (.int .i64 (rankI l i : Int)) ∧ Below w.heap.size w w' := by
  have H := Lib.hid h
  clear h
  have HZ : Hid (rankI l i = (charsI (l.take l.length)).length) := Lib.hid (by rw [rankI, List.take_of_length_le (by omega), List.take_length])
  have hd : decide ((l.length : Int) < i) = true := by simpa using hi
  have hd2 : decide (i < 0) = false := by simp; omega
  go_enter Try.func14, Try.ntmps14
  go_wp2_with fail
  go_loopw [16, 5] (fun iv nv wr => ∃ k : Nat, k ≤ l.length ∧ iv = .int .i64 k ∧ nv = .int .i64 ((charsI (l.take k)).length : Int) ∧ Below w.heap.size w wr) (fun iv _ _ => l.length - (intOf iv).toNat)
  case atStart => exact ⟨0, by omega, rfl, rfl, Below.refl _ _⟩
  case round =>
    obtain ⟨j, hj, rfl, rfl, hb⟩ := hrel
    have HB := Lib.hid hb
    have hle := chars_le l j
    obtain ⟨n, hn⟩ : ∃ n, (charsI (l.take j)).length = n := ⟨_, rfl⟩
    have HN := Lib.hid hn
    rw [hn] at hle ⊢
    clear hb hn
    by_cases hlt : j < l.length
    · have hlt2 : j < l.length := by omega
      obtain ⟨p, rfl, _, hcl⟩ := (H.out.below HB.out).int hlt2
      obtain ⟨x, hx⟩ : ∃ x, l[j] = x := ⟨_, rfl⟩
      have HS := Lib.hid (chars_succ l j hlt2)
      rw [hx] at hcl HS
      have b0 : (0 : Int) ≤ (j : Int) := by omega
      have b1 : (j : Int) < (l.length : Int) := by omega
      clear hx hlt2
      go_wp2_with fail
      refine (sstays_any x wr).mono ?_
      rintro e w1 ⟨rfl, d1⟩
      have B1 := Lib.hid (HB.out.trans (d1.mono HB.out.size))
      clear d1 hcl
      rcases hoc : outC x with _ | _
      · have HR : Hid ((charsI (l.take (j + 1))).length = n + 1) := Lib.hid (by rw [HS.out, hoc, if_neg (by simp), List.length_append, HN.out]; rfl)
        clear hoc
        go_wp2_with fail
        go_roundw
        case rel => exact ⟨j + 1, by omega, by go_num, by rw [HR.out]; go_num, B1.out⟩
        case measure => simp [intOf]; omega
      · have HR : Hid ((charsI (l.take (j + 1))).length = n) := Lib.hid (by rw [HS.out, hoc, if_pos rfl, HN.out])
        clear hoc
        go_wp2_with fail
        go_roundw
        case rel => exact ⟨j + 1, by omega, by go_num, by rw [HR.out], B1.out⟩
        case measure => simp [intOf]; omega
    · obtain rfl : j = l.length := by omega
      go_wp2
      go_ret
      exact ⟨ret_int (by rw [HZ.out, HN.out]), HB.out⟩

set_option maxHeartbeats 2000000 in
theorem srank_in (A : Option Addr) (l : List Int) (c : Nat) (q : Nat) (hi : q ≤ l.length) (w : World) (hlc : l.length ≤ c) (h : Lies w w.heap.size A (ints .i64 l)) (hl : l.length ≤ 1000000) :
    Calls Try.prog 14 #[.slice A l.length c, .int .i64 (q : Int)] w fun ed w' => ed = .returned (.int .i64 (rankI l (q : Int) : Int)) ∧ Below w.heap.size w w' := by
  have H := Lib.hid h
  clear h
  have HZ := Lib.hid (rank_take l q)
  have hd : decide (l.length < q) = false := by simp; omega
  have hd2 : decide ((l.length : Int) < (q : Int)) = false := by simp; omega
  go_enter Try.func14, Try.ntmps14
  go_wp2_with fail
  go_loopw [16, 5] (fun iv nv wr => ∃ k : Nat, k ≤ q ∧ iv = .int .i64 k ∧ nv = .int .i64 ((charsI (l.take k)).length : Int) ∧ Below w.heap.size w wr) (fun iv _ _ => q - (intOf iv).toNat)
  case atStart => exact ⟨0, by omega, rfl, rfl, Below.refl _ _⟩
  case round =>
    obtain ⟨j, hj, rfl, rfl, hb⟩ := hrel
    have HB := Lib.hid hb
    have hle := chars_le l j
    obtain ⟨n, hn⟩ : ∃ n, (charsI (l.take j)).length = n := ⟨_, rfl⟩
    have HN := Lib.hid hn
    rw [hn] at hle ⊢
    clear hb hn
    by_cases hlt : j < q
    · have hlt2 : j < l.length := by omega
      obtain ⟨p, rfl, _, hcl⟩ := (H.out.below HB.out).int hlt2
      obtain ⟨x, hx⟩ : ∃ x, l[j] = x := ⟨_, rfl⟩
      have HS := Lib.hid (chars_succ l j hlt2)
      rw [hx] at hcl HS
      have b0 : (0 : Int) ≤ (j : Int) := by omega
      have b1 : (j : Int) < (q : Int) := by omega
      clear hx hlt2
      go_wp2_with fail
      refine (sstays_any x wr).mono ?_
      rintro e w1 ⟨rfl, d1⟩
      have B1 := Lib.hid (HB.out.trans (d1.mono HB.out.size))
      clear d1 hcl
      rcases hoc : outC x with _ | _
      · have HR : Hid ((charsI (l.take (j + 1))).length = n + 1) := Lib.hid (by rw [HS.out, hoc, if_neg (by simp), List.length_append, HN.out]; rfl)
        clear hoc
        go_wp2_with fail
        go_roundw
        case rel => exact ⟨j + 1, by omega, by go_num, by rw [HR.out]; go_num, B1.out⟩
        case measure => simp [intOf]; omega
      · have HR : Hid ((charsI (l.take (j + 1))).length = n) := Lib.hid (by rw [HS.out, hoc, if_pos rfl, HN.out])
        clear hoc
        go_wp2_with fail
        go_roundw
        case rel => exact ⟨j + 1, by omega, by go_num, by rw [HR.out], B1.out⟩
        case measure => simp [intOf]; omega
    · obtain rfl : j = q := by omega
      go_wp2
      go_ret
      exact ⟨ret_int (by rw [HZ.out, HN.out]), HB.out⟩
theorem srank_any (A : Option Addr) (l : List Int) (c : Nat) (i : Int) (w : World) (hlc : l.length ≤ c) (h : Lies w w.heap.size A (ints .i64 l)) (hl : l.length ≤ 1000000) :
    Calls Try.prog 14 #[.slice A l.length c, .int .i64 i] w fun ed w' => ed = .returned (.int .i64 (rankI l i : Int)) ∧ Below w.heap.size w w' := by
  by_cases h0 : i < 0
  · exact srank_neg A l c i h0 w hlc h hl
  · by_cases h1 : (l.length : Int) < i
    · exact srank_past A l c i h1 w hlc h hl
    · obtain ⟨k, rfl⟩ : ∃ k : Nat, i = k := ⟨i.toNat, by omega⟩
      exact srank_in A l c k (by omega) w hlc h hl
end Go.Proofs.Ytdblpcfbhhgfdaa
