/- The fixed fact of layer 4. -/
import Derived.Test.YtjlnchocpngnoaaDoorFoE
namespace Go.Proofs.YtjlnchocpngnoaaDoor
open Go.RowKit Reckon

theorem kin_sigma : kin (fo 963) = [931, 962, 963] :=
  rise_eq _ _ (kin_rise _) (by decide) fun x => by
    rw [mem_kin, show fo 963 = 963 by decide]
    have := fo_spec x
    simp only [List.mem_cons, List.mem_nil_iff, or_false]
    omega

/-- the second one of two blocks that were written out -/
theorem Lies.litUp2 {w : World} {e : TypeId} (o : Obj) (cs : Array Value) : Lies ((w.alloc o).alloc (.cells cs e)) ((w.alloc o).alloc (.cells cs e)).heap.size (some ⟨w.heap.size + 1, 0, none⟩) cs.toList := by
  have := Lies.litUp (w := w.alloc o) (e := e) cs
  rwa [show (w.alloc o).heap.size = w.heap.size + 1 from World.size_alloc w o] at this
set_option maxHeartbeats 4000000 in
theorem falive_any (w : World) (hT : FoTabs w) : Calls Tryd.prog 6 #[] w fun e w' => e = .returned (.bool true) ∧ Below w.heap.size w w' := by
  have HT := Lib.hid hT
  have hbig := hT.big
  clear hT
  go_enter Tryd.func6, Tryd.ntmps6
  go_wp2_with fail
  refine (of_any 65 w HT.out).mono ?_
  rintro e w1 ⟨rfl, b1⟩
  rw [show fo 65 = 97 by decide]
  have B1 := Lib.hid b1
  have D1 := Lib.hid b1
  clear b1
  go_wp2_with fail
  refine (of_any 962 w1 (HT.out.below B1.out hbig)).mono ?_
  rintro e w2 ⟨rfl, b2⟩
  rw [show fo 962 = 963 by decide]
  have B2 := Lib.hid (below_then B1.out b2)
  have D2 := Lib.hid b2
  clear b2
  go_wp2_with fail
  refine (kin_any 963 ⟨by decide, by decide⟩ w2 (HT.out.below B2.out hbig)).mono ?_
  rintro e w3 ⟨v3, rfl, o3, b3⟩
  rw [kin_sigma] at o3
  obtain ⟨A3, c3, rfl, l3, _, _⟩ := o3.form
  have B3 := Lib.hid (below_then B2.out b3)
  have L3 := Lib.hid l3
  have D3 := Lib.hid b3
  simp only [ints, List.length_map]
  clear o3 b3 l3
  go_wp2_with fail
  refine (ints_ok A3 _ [931, 962, 963] c3 _ _ (L3.out.up (below_alloc _ _)) (Lies.litUp #[.int .i64 931, .int .i64 962, .int .i64 963]) (by decide)).mono ?_
  rintro e w4 ⟨rfl, b4⟩
  have B4 := Lib.hid (below_then B3.out (below_then (below_alloc _ _) b4))
  clear b4
  go_wp2_with fail
  refine (all_any _ [65, 49] _ _ (HT.out.below (B4.out.alloc B4.out.size _) hbig) (Lies.litUp #[.int .i64 65, .int .i64 49]) (by decide)).mono ?_
  rintro e w5 ⟨v5, rfl, o5, b5⟩
  rw [show ([65, 49] : List Int).map fo = [97, 49] by decide] at o5
  obtain ⟨A5, c5, rfl, l5, _, _⟩ := o5.form
  have B5 := Lib.hid (below_then B4.out (below_then (below_alloc _ _) b5))
  have L5 := Lib.hid l5
  clear o5 b5 l5
  go_wp2_with fail
  refine (ints_ok A5 _ [97, 49] c5 _ _ (L5.out.up (below_alloc _ _)) (Lies.litUp #[.int .i64 97, .int .i64 49]) (by decide)).mono ?_
  rintro e w6 ⟨rfl, b6⟩
  have B6 := Lib.hid (below_then B5.out (below_then (below_alloc _ _) b6))
  clear b6
  go_wp2_with fail
  refine (same_any _ _ [65] [97] _ _ _ (HT.out.below ((B6.out.alloc B6.out.size _).alloc (by have := B6.out.size; simp; omega) _) hbig) ((Lies.litUp #[.int .i64 65]).up (below_alloc _ _)) (Lies.litUp2 _ #[.int .i64 97]) (by decide) (by decide)).mono ?_
  rintro e w7 ⟨rfl, b7⟩
  rw [show sameF [65] [97] = true by decide]
  have B7 := Lib.hid (below_then B6.out (below_then (below_alloc _ _) (below_then (below_alloc _ _) b7)))
  clear b7
  go_wp2_with fail
  refine (same_any _ _ [65] [98] _ _ _ (HT.out.below ((B7.out.alloc B7.out.size _).alloc (by have := B7.out.size; simp; omega) _) hbig) ((Lies.litUp #[.int .i64 65]).up (below_alloc _ _)) (Lies.litUp2 _ #[.int .i64 98]) (by decide) (by decide)).mono ?_
  rintro e w8 ⟨rfl, b8⟩
  rw [show sameF [65] [98] = false by decide]
  have B8 := Lib.hid (below_then B7.out (below_then (below_alloc _ _) (below_then (below_alloc _ _) b8)))
  clear b8
  go_wp2
  go_ret
  exact ⟨rfl, B8.out⟩
end Go.Proofs.YtjlnchocpngnoaaDoor
