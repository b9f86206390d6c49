/- Lists, folded: All, Same, and the document's own. -/
import Derived.Test.YtjlnchocpngnoaaDoorFoA
import Derived.Test.YtjlnchocpngnoaaDoorFill
import Derived.Test.YtjlnchocpngnoaaDoorInts
namespace Go.Proofs.YtjlnchocpngnoaaDoor
open Go.RowKit Reckon

set_option maxHeartbeats 1000000 in
theorem all_any (A : Option Addr) (l : List Int) (c : Nat) (w : World) (hT : FoTabs w) (h : Lies w w.heap.size A (ints .i64 l)) (hl : l.length ≤ 1000000) :
    Calls Tryd.prog 10 #[.slice A l.length c] w (Rowed w w.heap.size 3 (ints .i64 (l.map fo))) := by
  have H := Lib.hid h
  have HT := Lib.hid hT
  have hbig := hT.big
  clear h hT
  go_enter Tryd.func10, Tryd.ntmps10
  go_wp2_with (first
    | (refine make_row intsT w w w.heap.size _ _ .i64 .i64 l.length rfl rfl rfl rfl rfl (Below.refl _ _) (Nat.le_refl _) (by omega) (by unfold maxLen; omega) ?_; intro w2 r2 b2 g2)
    | fail)
  have R2 := Lib.hid r2
  have B2 := Lib.hid b2
  clear r2 b2 g2
  go_wp2
  go_loopw [11] (fun i wr => ∃ (k : Nat), k ≤ l.length ∧ i = .int .i64 k ∧ Row wr w.heap.size 3 w.heap.size l.length (ints .i64 ((l.take k).map fo) ++ List.replicate (l.length - k) (Value.int .i64 0)) ∧ Below w.heap.size w wr) (fun i _ => l.length - (intOf i).toNat)
  case atStart => exact ⟨0, by omega, rfl, R2.out, B2.out⟩
  case round =>
    obtain ⟨k, hk, rfl, hr, hb⟩ := hrel
    have HR := Lib.hid hr
    have HB := Lib.hid hb
    have hsz := hb.size
    clear hr hb
    by_cases hlt : k < l.length
    · obtain ⟨p, rfl, hpb, hc⟩ := (H.out.below HB.out).int hlt
      have b0 : (0 : Int) ≤ (k : Int) := by omega
      have b1 : (k : Int) < (l.length : Int) := by omega
      have HLEN : Hid ((ints .i64 ((l.take k).map fo)).length = k) := Lib.hid (by simp; omega)
      obtain ⟨x, hx⟩ : ∃ x, l[k] = x := ⟨_, rfl⟩
      rw [hx] at hc
      have HX := Lib.hid hx
      clear hx
      go_wp2_with fail
      refine (of_any x wr (HT.out.below HB.out hbig)).mono ?_
      rintro e w4 ⟨rfl, b4⟩
      have R4 := Lib.hid (HR.out.below b4 (Nat.le_refl _))
      have B4 := Lib.hid (HB.out.trans (b4.mono hsz))
      clear b4 HR
      have hkr : k < (ints .i64 ((l.take k).map fo) ++ List.replicate (l.length - k) (Value.int .i64 0)).length := by
        rw [List.length_append, HLEN.out, List.length_replicate]; omega
      obtain ⟨u0, hcell⟩ : ∃ u, w4.cell? ⟨w.heap.size, k, none⟩ = some u := ⟨_, R4.out.cell hkr⟩
      have hfree := R4.out.free k
      have R5 := fun u => Lib.hid (R4.out.set k u)
      have B5 := fun u => Lib.hid (Row.setB B4.out R4.out k u)
      clear hkr
      go_wp2
      go_roundw
      case rel =>
        refine ⟨k + 1, by omega, by go_num, ?_, (B5 _).out⟩
        have : ints .i64 ((l.take (k + 1)).map fo) = ints .i64 ((l.take k).map fo) ++ [.int .i64 (fo x)] := by
          rw [List.take_succ_eq_append_getElem hlt, HX.out]
          simp only [ints, List.map_append, List.map_cons, List.map_nil]
        rw [this, ← fill_list HLEN.out hlt]
        exact (R5 _).out
      case measure => simp [intOf]; omega
    · go_wp2
      go_ret
      refine rowed_ret (HR.out.own ?_) HB.out ?_
      · simp; omega
      · rw [List.take_of_length_le (by omega), show l.length - k = 0 by omega]; simp

set_option maxHeartbeats 1000000 in
theorem rall_any (A : Option Addr) (l : List Int) (c : Nat) (w : World) (h : Lies w w.heap.size A (ints .i64 l)) (hl : l.length ≤ 1000000) :
    Calls Tryd.prog 11 #[.slice A l.length c] w (Rowed w w.heap.size 3 (ints .i64 (l.map fo))) := by
  have H := Lib.hid h
  clear h
  go_enter Tryd.func11, Tryd.ntmps11
  go_wp2
  go_loopw [4, 3] (fun i v wr => ∃ (k : Nat), k ≤ l.length ∧ i = .int .i64 k ∧ Own wr w.heap.size 3 v (ints .i64 ((l.take k).map fo)) ∧ Below w.heap.size w wr) (fun i _ _ => l.length - (intOf i).toNat)
  case atStart => exact ⟨0, by omega, rfl, Own.empty _ _ _, Below.refl _ _⟩
  case round =>
    obtain ⟨k, hk, rfl, ho, hb⟩ := hrel
    have HO := Lib.hid ho
    have HB := Lib.hid hb
    have hsz := hb.size
    clear ho hb
    by_cases hlt : k < l.length
    · obtain ⟨p, rfl, hpb, hc⟩ := (H.out.below HB.out).int hlt
      have b0 : (0 : Int) ≤ (k : Int) := by omega
      have b1 : (k : Int) < (l.length : Int) := by omega
      go_wp2_with (first
        | (go_at_call 8; refine (rof_any _ _).mono ?_; rintro e w' ⟨rfl, rfl⟩)
        | (at_builtin; refine app_lit intsT w _ w.heap.size _ _ _ _ _ _ rfl rfl rfl rfl HO.out (by simp [Value.oneCell']) HB.out hsz (by unfold maxLen; simp [ints]; omega) (by simp [ints]; omega) ?_; intro v' w' hown' hb' _ _))
      go_roundw
      case rel =>
        refine ⟨k + 1, by omega, by go_num, ?_, hb'⟩
        rw [List.take_succ_eq_append_getElem hlt]
        simpa only [ints, List.map_append, List.map_cons, List.map_nil] using hown'
      case measure => simp [intOf]; omega
    · go_wp2
      go_ret
      exact rowed_ret HO.out HB.out (by rw [List.take_of_length_le (by omega)])

theorem pairs_any (x y : Int) (w : World) (hT : FoTabs w) : Calls Tryd.prog 17 #[.int .i64 x, .int .i64 y] w fun e w' => e = .returned (.bool (fo x == fo y)) ∧ Below w.heap.size w w' := by
  have HT := Lib.hid hT
  have hbig := hT.big
  clear hT
  go_enter Tryd.func17, Tryd.ntmps17
  go_wp2_with fail
  refine (of_any x w HT.out).mono ?_
  rintro e w1 ⟨rfl, b1⟩
  have B1 := Lib.hid b1
  have D1 := Lib.hid b1
  clear b1
  go_wp2_with fail
  refine (of_any y w1 (HT.out.below B1.out hbig)).mono ?_
  rintro e w2 ⟨rfl, b2⟩
  have B2 := Lib.hid (below_then B1.out b2)
  have D2 := Lib.hid b2
  clear b2
  go_wp2
  go_ret
  exact ⟨rfl, B2.out⟩

/-- are they, folded, the same? -/
def sameF (a b : List Int) : Bool := decide (a.map fo = b.map fo)
set_option maxHeartbeats 1000000 in
theorem equal_any (A B : Option Addr) (a b : List Int) (ca cb : Nat) (w : World) (hT : FoTabs w) (ha : Lies w w.heap.size A (ints .i64 a)) (hb : Lies w w.heap.size B (ints .i64 b)) (hl : a.length ≤ 1000000) (hl' : b.length ≤ 1000000) :
    Calls Tryd.prog 16 #[.slice A a.length ca, .slice B b.length cb, .func (.func 17) #[] #[]] w fun e w' => e = .returned (.bool (sameF a b)) ∧ Below w.heap.size w w' := by
  have HA := Lib.hid ha
  have HB := Lib.hid hb
  have HT := Lib.hid hT
  have hbig := hT.big
  clear ha hb hT
  by_cases hn : a.length = b.length
  · have hd : ((a.length : Int) != (b.length : Int)) = false := by simp [hn]
    have HN := Lib.hid hn
    clear hn
    go_enter Tryd.func16, Tryd.ntmps16
    go_wp2
    go_loopw [17] (fun i wr => ∃ (k : Nat), k ≤ a.length ∧ i = .int .i64 k ∧ Hid ((a.take k).map fo = (b.take k).map fo) ∧ Below w.heap.size w wr) (fun i _ => a.length - (intOf i).toNat)
    case atStart => exact ⟨0, by omega, rfl, rfl, Below.refl _ _⟩
    case round =>
      obtain ⟨k, hk, rfl, HE, hb⟩ := hrel
      have HW := Lib.hid hb
      have hsz := hb.size
      clear hb
      by_cases hlt : k < a.length
      · obtain ⟨p, rfl, _, hc⟩ := (HA.out.below HW.out).int hlt
        have hlt' : k < b.length := by have := HN.out; omega
        obtain ⟨q, rfl, _, hc'⟩ := (HB.out.below HW.out).int hlt'
        have b0 : (0 : Int) ≤ (k : Int) := by omega
        have b1 : (k : Int) < (a.length : Int) := by omega
        have b2 : (k : Int) < (b.length : Int) := by omega
        obtain ⟨x, hx⟩ : ∃ x, a[k] = x := ⟨_, rfl⟩
        obtain ⟨y, hy⟩ : ∃ x, b[k] = x := ⟨_, rfl⟩
        rw [hx] at hc
        rw [hy] at hc'
        have HX := Lib.hid hx
        have HY := Lib.hid hy
        clear hx hy
        go_wp2_with fail
        refine (pairs_any x y wr (HT.out.below HW.out hbig)).mono ?_
        rintro e w4 ⟨rfl, b4⟩
        have B4 := Lib.hid (HW.out.trans (b4.mono hsz))
        clear b4 hc hc'
        rcases hxy : (fo x == fo y) with _ | _
        · go_wp2
          go_ret
          refine ⟨ret_bool ?_, B4.out⟩
          have h1 := HX.out
          have h2 := HY.out
          unfold sameF
          rw [eq_comm, decide_eq_false_iff_not]
          intro e
          have h3 := congrArg (·[k]?) e
          simp only [List.getElem?_map, List.getElem?_eq_getElem hlt, List.getElem?_eq_getElem hlt', h1, h2, Option.map_some, Option.some.injEq] at h3
          simp [h3] at hxy
        · go_wp2
          go_roundw
          case rel =>
            refine ⟨k + 1, by omega, by go_num, ?_, B4.out⟩
            show _ = _
            rw [List.take_succ_eq_append_getElem hlt, List.take_succ_eq_append_getElem hlt', List.map_append, List.map_append, HE.out, HX.out, HY.out]
            simp only [List.map_cons, List.map_nil, beq_iff_eq.1 hxy]
          case measure => simp [intOf]; omega
      · go_wp2
        go_ret
        refine ⟨ret_bool ?_, HW.out⟩
        have := HE.out
        have := HN.out
        rw [List.take_of_length_le (by omega), List.take_of_length_le (by omega)] at *
        simp [sameF, *]
  · have hd : ((a.length : Int) != (b.length : Int)) = true := by simp; omega
    have HN := Lib.hid hn
    clear hn
    go_enter Tryd.func16, Tryd.ntmps16
    go_wp2
    go_ret
    refine ⟨ret_bool ?_, Below.refl _ _⟩
    have := HN.out
    unfold sameF
    rw [eq_comm, decide_eq_false_iff_not]
    intro e
    exact this (by simpa using congrArg List.length e)
end Go.Proofs.YtjlnchocpngnoaaDoor
