/- Valid of layer 1, and the fixed fact. -/
import Derived.Test.YtnjddmcckndpgaaDoorUtG
import Derived.Test.YtnjddmcckndpgaaDoorUtH
namespace Go.Proofs.YtnjddmcckndpgaaDoor
open Go.RowKit

/-- Valid: not too many, and right -/
def valL (l : List UInt8) : Bool := decide (l.length ≤ 4000) && Lib.validD l

set_option maxHeartbeats 400000 in
theorem valid_any (A : Option Addr) (l : List UInt8) (c : Nat) (w : World) (h : Lies w w.heap.size A (ints .u8 (u8s l))) (hT : Tabs w) (hlc : l.length ≤ c) :
    Calls Tryd.prog 12 #[.slice A l.length c] w fun e w' => e = .returned (.bool (valL l)) ∧ Below w.heap.size w w' := by
  by_cases hl : l.length ≤ 4000
  · have HT := Lib.hid hT
    have H := Lib.hid h
    clear hT h
    go_enter Tryd.func12, Tryd.ntmps12
    go_wp2_with (go_at_call 23; refine (u8valid_any A l c _ H.out HT.out hl hlc).mono ?_; rintro e w' ⟨rfl, hb⟩)
    go_ret
    exact ⟨ret_bool (by simp [valL, hl]), hb⟩
  · go_enter Tryd.func12, Tryd.ntmps12
    go_wp2
    go_ret
    exact ⟨ret_bool (by simp [valL, hl]), Below.refl _ _⟩

theorem Lies.lit {w : World} {e : TypeId} (cs : Array Value) : Lies (w.alloc (.cells cs e)) (w.heap.size + 1) (some ⟨w.heap.size, 0, none⟩) cs.toList := fun _ =>
  ⟨_, rfl, by simp, World.news_of_block (heap_alloc_new w _)⟩

theorem Lies.up {w w' : World} {A : Option Addr} {xs : List Value} (h : Lies w w.heap.size A xs) (hb : Below w.heap.size w w') : Lies w' w'.heap.size A xs := (h.below hb).wider hb.size
theorem below_alloc (w : World) (o : Obj) : Below w.heap.size w (w.alloc o) := (Below.refl _ _).alloc (Nat.le_refl _) o
theorem below_then {a b c : World} (h : Below a.heap.size a b) (k : Below b.heap.size b c) : Below a.heap.size a c := h.trans (k.mono h.size)
theorem Lies.litUp {w : World} {e : TypeId} (cs : Array Value) : Lies (w.alloc (.cells cs e)) (w.alloc (.cells cs e)).heap.size (some ⟨w.heap.size, 0, none⟩) cs.toList := by
  have := Lies.lit (w := w) (e := e) cs; simpa using this

theorem ints_ok (A A' : Option Addr) (l : List Int) (c c' : Nat) (w : World) (h : Lies w w.heap.size A (ints .i64 l)) (h' : Lies w w.heap.size A' (ints .i64 l)) (hl : l.length ≤ 9223372036854775807) :
    Calls Tryd.prog 11 #[.slice A l.length c, .slice A' l.length c'] w fun e w' => e = .returned (.bool true) ∧ Below w.heap.size w w' :=
  (ints_yes A A' l c c' _ w h h' hl).mono fun _ _ ⟨he, n, hn⟩ => ⟨he, hn ▸ below_drawn (Below.refl _ _) n⟩

set_option maxHeartbeats 2000000 in
theorem alive_any (w : World) (hT : Tabs w) : Calls Tryd.prog 8 #[] w fun e w' => e = .returned (.bool true) ∧ Below w.heap.size w w' := by
  have HT := Lib.hid hT
  have hbig := hT.big
  clear hT
  have h1 : Lies (w.alloc (.cells #[.int .u8 195, .int .u8 40, .int .u8 215, .int .u8 144] 5)) (w.heap.size + 1) (some ⟨w.heap.size, 0, none⟩) (ints .u8 (u8s [195, 40, 215, 144])) := Lies.lit _
  have H1 := Lib.hid h1
  clear h1
  go_enter Tryd.func8, Tryd.ntmps8
  go_wp2_with fail
  refine (decode_any _ [195, 40, 215, 144] _ _ (by simpa using H1.out) (by decide)).mono ?_
  rintro e w1 ⟨v1, v2, rfl, o1, o2, b1⟩
  rw [show decC [195, 40, 215, 144] = [65533, 40, 1488] by decide +kernel] at o1
  rw [show decA [195, 40, 215, 144] = [0, 1, 2, 4] by decide +kernel] at o2
  obtain ⟨A1, c1, rfl, l1, _, _⟩ := o1.form
  obtain ⟨A2, c2, rfl, l2, _, _⟩ := o2.form
  have L1 := Lib.hid l1
  have L2 := Lib.hid l2
  have B1 := Lib.hid b1
  clear l1 l2 b1 o1 o2
  go_wp2_with fail
  refine (encode_any _ [65, 1488, 8364, 128512] _ _ (Lies.litUp #[.int .i64 65, .int .i64 1488, .int .i64 8364, .int .i64 128512]) (by decide)).mono ?_
  rintro e w2 ⟨v3, rfl, o3, b2⟩
  rw [show (encL [65, 1488, 8364, 128512]).1 = u8s [65, 215, 144, 226, 130, 172, 240, 159, 152, 128] by decide +kernel] at o3
  rw [show (encL [65, 1488, 8364, 128512]).2 = 0 by decide +kernel]
  obtain ⟨A3, c3, rfl, l3, k3, _⟩ := o3.form
  have L3 := Lib.hid l3
  have B2 := Lib.hid (below_then (below_alloc _ _) b2)
  have b02 := Lib.hid (below_then (below_alloc w _) (below_then B1.out B2.out))
  have L1' := Lib.hid (L1.out.up B2.out)
  have L2' := Lib.hid (L2.out.up B2.out)
  clear l3 b2 o3 L1 L2 B1 B2 H1
  simp only [ints, u8s, List.length_map, List.length_cons, List.length_nil] at k3 ⊢
  go_wp2_with fail
  refine (ints_ok _ _ [65533, 40, 1488] _ _ _ (L1'.out.up (below_alloc _ _)) (Lies.litUp #[.int .i64 65533, .int .i64 40, .int .i64 1488]) (by decide)).mono ?_
  rintro e w3 ⟨rfl, b3⟩
  have B3 := Lib.hid (below_then (below_alloc _ _) b3)
  clear b3
  go_wp2_with fail
  refine (ints_ok _ _ [0, 1, 2, 4] _ _ _ ((L2'.out.up B3.out).up (below_alloc _ _)) (Lies.litUp #[.int .i64 0, .int .i64 1, .int .i64 2, .int .i64 4]) (by decide)).mono ?_
  rintro e w4 ⟨rfl, b4⟩
  have B4 := Lib.hid (below_then (below_alloc _ _) b4)
  have b24 := Lib.hid (below_then B3.out B4.out)
  have T4 := Lib.hid (HT.out.below (below_then b02.out b24.out) hbig)
  clear b4
  go_wp2_with fail
  refine (valid_any A3 [65, 215, 144, 226, 130, 172, 240, 159, 152, 128] c3 w4 (L3.out.up b24.out) T4.out k3).mono ?_
  rintro e w5 ⟨rfl, b5⟩
  rw [show valL [65, 215, 144, 226, 130, 172, 240, 159, 152, 128] = true by decide +kernel]
  have B5 := Lib.hid b5
  have b25 := Lib.hid (below_then b24.out b5)
  have T5 := Lib.hid (HT.out.below (below_then b02.out b25.out) hbig)
  clear b5
  go_wp2_with fail
  refine (valid_any _ [195, 40] _ _ (Lies.litUp #[.int .u8 195, .int .u8 40]) (T5.out.below (below_alloc _ _) T5.out.big) (by decide)).mono ?_
  rintro e w6 ⟨rfl, b6⟩
  rw [show valL [195, 40] = false by decide +kernel]
  have b26 := Lib.hid (below_then b25.out (below_then (below_alloc _ _) b6))
  clear b6
  go_wp2_with fail
  refine (offset_any A2 [0, 1, 2, 4] c2 3 _ w6 (L2'.out.up b26.out)).mono ?_
  rintro e w7 ⟨rfl, rfl⟩
  rw [show nthI [0, 1, 2, 4] 3 = 4 by decide +kernel]
  go_wp2_with fail
  refine (size_any 8364 w6).mono ?_
  rintro e w7 ⟨rfl, rfl⟩
  rw [show szCh 8364 = 3 by decide +kernel]
  go_wp2
  go_ret
  exact ⟨rfl, below_then b02.out b26.out⟩
end Go.Proofs.YtnjddmcckndpgaaDoor
