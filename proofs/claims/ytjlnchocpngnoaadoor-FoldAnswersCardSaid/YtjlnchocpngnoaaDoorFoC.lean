/- The program's and the document's Same; the program's Kin. -/
import Derived.Test.YtjlnchocpngnoaaDoorFoB
import Derived.Test.YtjlnchocpngnoaaDoorFoM
import Derived.Test.YtjlnchocpngnoaaDoorSort
import Derived.Test.YtjlnchocpngnoaaDoorInts2
namespace Go.Proofs.YtjlnchocpngnoaaDoor
open Go.RowKit Reckon

theorem same_any (A B : Option Addr) (a b : List Int) (ca cb : Nat) (w : World) (hT : FoTabs w) (ha : Lies w w.heap.size A (ints .i64 a)) (hb : Lies w w.heap.size B (ints .i64 b)) (hl : a.length ≤ 1000000) (hl' : b.length ≤ 1000000) :
    Calls Tryd.prog 12 #[.slice A a.length ca, .slice B b.length cb] w fun e w' => e = .returned (.bool (sameF a b)) ∧ Below w.heap.size w w' := by
  have HA := Lib.hid ha
  have HB := Lib.hid hb
  have HT := Lib.hid hT
  clear ha hb hT
  go_enter Tryd.func12, Tryd.ntmps12
  go_wp2_with fail
  refine (equal_any A B a b ca cb w HT.out HA.out HB.out hl hl').mono ?_
  rintro e w1 ⟨rfl, b1⟩
  have B1 := Lib.hid b1
  have D1 := Lib.hid b1
  clear b1
  go_wp2
  go_ret
  exact ⟨rfl, B1.out⟩

theorem rsame_any (A B : Option Addr) (a b : List Int) (ca cb : Nat) (w : World) (ha : Lies w w.heap.size A (ints .i64 a)) (hb : Lies w w.heap.size B (ints .i64 b)) (hl : a.length ≤ 1000000) (hl' : b.length ≤ 1000000) :
    Calls Tryd.prog 13 #[.slice A a.length ca, .slice B b.length cb] w fun e w' => e = .returned (.bool (sameF a b)) ∧ Below w.heap.size w w' := by
  have HA := Lib.hid ha
  have HB := Lib.hid hb
  obtain ⟨x, hx⟩ : ∃ x, a.map fo = x := ⟨_, rfl⟩
  obtain ⟨y, hy⟩ : ∃ x, b.map fo = x := ⟨_, rfl⟩
  have hxl : x.length = a.length := by rw [← hx]; simp
  have hyl : y.length = b.length := by rw [← hy]; simp
  have hs : sameF a b = decide (x = y) := by rw [sameF, hx, hy]
  have HX := Lib.hid hx
  have HY := Lib.hid hy
  have HS := Lib.hid hs
  have hxb : x.length ≤ 1000000 := by omega
  have hyb : y.length ≤ 1000000 := by omega
  clear ha hb hx hy hs hxl hyl
  go_enter Tryd.func13, Tryd.ntmps13
  go_wp2_with fail
  refine (rall_any A a ca w HA.out hl).mono ?_
  rintro e w1 ⟨v1, rfl, o1, b1⟩
  rw [HX.out] at o1
  obtain ⟨A1, c1, rfl, l1, _, _⟩ := o1.form
  have B1 := Lib.hid b1
  have L1 := Lib.hid l1
  have D1 := Lib.hid b1
  simp only [ints, List.length_map]
  clear o1 b1 l1
  have HB1 := Lib.hid (HB.out.up D1.out)
  go_wp2_with fail
  refine (rall_any B b cb w1 HB1.out hl').mono ?_
  rintro e w2 ⟨v2, rfl, o2, b2⟩
  rw [HY.out] at o2
  obtain ⟨A2, c2, rfl, l2, _, _⟩ := o2.form
  have B2 := Lib.hid (below_then B1.out b2)
  have L2 := Lib.hid l2
  have D2 := Lib.hid b2
  simp only [ints, List.length_map]
  clear o2 b2 l2
  have L1b := Lib.hid (L1.out.up D2.out)
  go_wp2_with fail
  refine (ints_any A1 A2 x y c1 c2 w2 L1b.out L2.out hxb hyb).mono ?_
  rintro e w3 ⟨rfl, b3⟩
  have B3 := Lib.hid (below_then B2.out b3)
  clear b3
  go_wp2
  go_ret
  exact ⟨ret_bool HS.out.symm, B3.out⟩

/-- a row that is not empty lies in a block of its own -/
theorem Own.row {w : World} {B : Nat} {e : TypeId} {v : Value} {xs : List Value} (h : Own w B e v xs) (hn : 0 < xs.length) : ∃ g c, v = .slice (some ⟨g, 0, none⟩) xs.length c ∧ Row w B e g c xs := by
  obtain ⟨g, c, hv, _, _⟩ := World.ownsRow.form h hn
  subst hv
  exact ⟨g, c, rfl, h⟩

set_option maxHeartbeats 2000000 in
theorem kin_any (c : Int) (hc : I64 c) (w : World) (hT : FoTabs w) : Calls Tryd.prog 14 #[.int .i64 c] w (Rowed w w.heap.size 3 (ints .i64 (kin (fo c)))) := by
  have ht : I64 (fo c) := fo_i64 hc
  obtain ⟨t, e⟩ : ∃ t, fo c = t := ⟨_, rfl⟩
  rw [e] at ht ⊢
  have HE := Lib.hid e
  have HT := Lib.hid hT
  have hbig := hT.big
  clear e hT hc
  go_enter Tryd.func14, Tryd.ntmps14
  go_wp2_with fail
  refine (of_any c w HT.out).mono ?_
  rintro e w1 ⟨rfl, b1⟩
  rw [HE.out]
  have B1 := Lib.hid b1
  have D1 := Lib.hid b1
  clear b1
  have HT1 := Lib.hid (HT.out.below B1.out hbig)
  go_wp2_with (first
    | (refine wpList_load_mid rfl 31 _ rfl 0 0 rfl rowCells _ (HT1.out.below (below_alloc _ _) HT1.out.big).cells Tryd.underlying31 rfl (by kernel_rfl) ?_)
    | fail)
  have hsz1 := B1.out.size
  have O1 : Hid (Own (w1.alloc (.cells #[Value.int .i64 t] 3)) w.heap.size 3 (.slice (some ⟨w1.heap.size, 0, none⟩) 1 1) (ints .i64 (t :: (rws.take 0).filterMap (from? t)))) :=
    Lib.hid (Own.ofLit #[Value.int .i64 t] hsz1 (by simp [maxLen]))
  have BA := Lib.hid (B1.out.alloc hsz1 (.cells #[Value.int .i64 t] 3))
  go_loopw [13, 4] (fun i v wr => ∃ k : Nat, k ≤ 10 ∧ i = .int .i64 k ∧ Own wr w.heap.size 3 v (ints .i64 (t :: (rws.take k).filterMap (from? t))) ∧ Below w.heap.size w wr) (fun i _ _ => 10 - (intOf i).toNat)
  case atStart => exact ⟨0, by omega, rfl, O1.out, BA.out⟩
  case round =>
    obtain ⟨k, hk, rfl, ho, hb⟩ := hrel
    have HO := Lib.hid ho
    have HB := Lib.hid hb
    have hsz := hb.size
    clear ho hb
    by_cases hlt : k < 10
    · have b1 : (k : Int) < 10 := by omega
      obtain ⟨r, hr⟩ : ∃ r, rws[k]? = some r := ⟨_, List.getElem?_eq_getElem (show k < rws.length from hlt)⟩
      have hx := index_row k r hr
      have htake : (rws.take (k + 1)).filterMap (from? t) = (rws.take k).filterMap (from? t) ++ (from? t r).toList := by
        obtain ⟨hk', hr'⟩ := List.getElem?_eq_some_iff.1 hr
        rw [List.take_succ_eq_append_getElem hk', hr', List.filterMap_append]
        cases hq : from? t r <;> simp [hq]
      have HTK := Lib.hid htake
      have htk := htake
      have hbd := rws_small r (List.mem_of_getElem? hr)
      obtain ⟨a, b, m⟩ := r
      dsimp only at hx hbd
      have hfr : from? t (a, b, m) = if a ≤ t - m ∧ t - m ≤ b then some (t - m) else none := rfl
      have hwr := IntKind.wrap_i64 (t - m)
      obtain ⟨f, hf⟩ : ∃ f, IntKind.i64.wrap (t - m) = f := ⟨_, rfl⟩
      rw [hf] at hwr
      have HWR := Lib.hid hwr
      have HF := Lib.hid hf
      have HFR := Lib.hid hfr
      have hlen : ((rws.take k).filterMap (from? t)).length ≤ 10 := Nat.le_trans (List.length_filterMap_le _ _) (by simp; omega)
      clear htake hr hwr hfr
      unfold I64 at ht
      rcases ha : decide (a ≤ f) with _ | _
      · go_wp2
        go_roundw
        case rel =>
          refine ⟨k + 1, by omega, by go_num, ?_, HB.out.alloc hsz _⟩
          have hn : from? t (a, b, m) = none := by
            have := HWR.out
            rw [HFR.out, if_neg (by simp at ha; omega)]
          rw [HTK.out, hn]
          simp only [Option.toList_none, List.append_nil]
          exact HO.out.alloc _
        case measure => simp [intOf]; omega
      · rcases hbb : decide (f ≤ b) with _ | _
        · go_wp2
          go_roundw
          case rel =>
            refine ⟨k + 1, by omega, by go_num, ?_, HB.out.alloc hsz _⟩
            have hn : from? t (a, b, m) = none := by
              have := HWR.out
              rw [HFR.out, if_neg (by simp at hbb; omega)]
            rw [HTK.out, hn]
            simp only [Option.toList_none, List.append_nil]
            exact HO.out.alloc _
          case measure => simp [intOf]; omega
        · have hft : f = t - m := by
            have := HWR.out
            simp at ha hbb
            omega
          have hs : from? t (a, b, m) = some f := by
            simp at ha hbb
            rw [HFR.out, if_pos (by omega), hft]
          rw [hs] at htk
          have HTK := Lib.hid htk
          clear hft hs htk HFR HWR
          have HW : Hid (∀ o, (wr.alloc o).heap.size = wr.heap.size + 1) := Lib.hid fun o => by simp
          go_wp2_with (first
            | (at_builtin; go_loud (refine app_lit intsT w _ w.heap.size _ _ #[.int .i64 f] 1 _ _ rfl rfl rfl (by rw [HW.out]; rfl) (HO.out.alloc _) (by simp [Value.oneCell']) (HB.out.alloc hsz _) (by simp; omega) (by unfold maxLen; simp [ints]; omega) (by simp [ints]; omega) ?_); intro v' w' hown' hb' _ _))
          go_roundw
          case rel =>
            refine ⟨k + 1, by omega, by go_num, ?_, hb'⟩
            rw [HTK.out]
            simpa only [ints, List.map_append, List.map_cons, List.map_nil, Option.toList_some, List.cons_append] using hown'
          case measure => simp [intOf]; omega
    · obtain ⟨g, cg, rfl, hrow⟩ := HO.out.row (by simp)
      rw [show k = 10 by omega] at hrow
      have HR : Hid (Row wr w.heap.size 3 g cg (ints .i64 (t :: froms t))) := hrow
      obtain ⟨n, hn⟩ : ∃ n, (ints .i64 (t :: (rws.take k).filterMap (from? t))).length = n := ⟨_, rfl⟩
      have hn' : n = (t :: froms t).length := by
        rw [← hn, show k = 10 by omega]
        simp only [ints, List.length_map]
        rfl
      have hfew := froms_few t
      have hsort := sort_any w.heap.size 3 g cg (t :: froms t) wr HR.out (by simp; omega)
      rw [← hn'] at hsort
      rw [hn]
      have HS := Lib.hid hsort
      have hkl : (kin t).length = n := by rw [hn', kin, List.length_mergeSort]
      have HKL := Lib.hid hkl
      clear hsort hrow hn hn' hfew HO hkl
      go_wp2_with fail
      refine HS.out.mono ?_
      rintro e w3 ⟨rfl, r3, b3⟩
      have R3 := Lib.hid r3
      have B3 := Lib.hid (HB.out.trans b3)
      clear r3 b3
      go_wp2
      go_ret
      refine rowed_ret (R3.out.own ?_) B3.out rfl
      rw [ints, List.length_map]
      exact HKL.out.symm
end Go.Proofs.YtjlnchocpngnoaaDoor
