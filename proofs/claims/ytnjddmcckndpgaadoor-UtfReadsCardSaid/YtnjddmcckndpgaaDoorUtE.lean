/- Decode: what bytes are read as. -/
import Derived.Test.YtnjddmcckndpgaaDoorUtC
import Derived.Test.YtnjddmcckndpgaaDoorUtD
namespace Go.Proofs.YtnjddmcckndpgaaDoor
open Go.RowKit

def Rowed3 (w : World) (B : Nat) (e : TypeId) (xs ys : List Value) (n : Int) (ed : Ending) (w' : World) : Prop :=
  ∃ v1 v2, ed = .returned (.tuple #[v1, v2, .int .i64 n]) ∧ Own w' B e v1 xs ∧ Own w' B e v2 ys ∧ Below B w w'

theorem strOf (l : List UInt8) : strOfNums (u8s l) = ⟨l.toArray⟩ := by
  unfold strOfNums; rw [u8s_str]

set_option maxHeartbeats 400000 in
theorem decode_long (A : Option Addr) (l : List UInt8) (c : Nat) (w : World) (hl : 4000 < l.length) (hm : l.length ≤ 9223372036854775807) :
    Calls Tryd.prog 9 #[.slice A (u8s l).length c] w (Rowed3 w w.heap.size 3 [] [] 2) := by
  rw [u8s_length]
  go_enter Tryd.func9, Tryd.ntmps9
  go_wp2
  go_ret3
  exact ⟨_, _, rfl, Own.empty _ _ _, Own.empty _ _ _, Below.refl _ _⟩

set_option maxHeartbeats 4000000 in
theorem decode_any (A : Option Addr) (l : List UInt8) (c : Nat) (w : World) (h : Lies w w.heap.size A (ints .u8 (u8s l))) (hl : l.length ≤ 4000) :
    Calls Tryd.prog 9 #[.slice A (u8s l).length c] w (Rowed3 w w.heap.size 3 (ints .i64 (decC l)) (ints .i64 (decA l)) 0) := by
  have hconv := conv_string (P := Tryd.prog) 22 5 9 c Tryd.underlying22 Tryd.underlying5 Tryd.underlying9 h
  rw [strOf] at hconv
  rw [u8s_length] at hconv ⊢
  obtain ⟨s, hs⟩ : ∃ s : ByteArray, s = ⟨l.toArray⟩ := ⟨_, rfl⟩
  have hsl : s.data.toList = l := by rw [hs]
  have hsz : s.size = l.length := by rw [← hsl, Array.length_toList]; rfl
  rw [← hs] at hconv
  clear hs h
  have HL := Lib.hid hsl
  clear hsl
  have HZ := Lib.hid hsz
  clear hsz
  have hsb : s.size ≤ 4000 := by rw [HZ.out]; exact hl
  go_enter Tryd.func9, Tryd.ntmps9
  go_wp2
  clear hconv
  go_loopw [2, 3] (fun v1 v2 wr => ∃ (pos : Nat) (done : List (Int × Int)), wr.heap[w.heap.size]? = some (.stringIter s pos) ∧ Own wr (w.heap.size + 1) 3 v1 (ints .i64 (done.map (·.1))) ∧ Own wr (w.heap.size + 1) 3 v2 (ints .i64 (done.map (·.2))) ∧ Apart v1 v2 ∧ Below w.heap.size w wr ∧ Hid (done ++ decAt pos (l.drop pos) = decAt 0 l) ∧ pos ≤ s.size ∧ done.length ≤ pos) (fun _ _ wr => s.size - wr.iterPos w.heap.size)
  case atStart => exact ⟨0, [], World.iter_heap w s 0, Own.empty _ _ _, Own.empty _ _ _, Apart.nil_left, (Below.refl _ _).alloc (Nat.le_refl _) _, rfl, by omega, by simp⟩
  case round =>
    obtain ⟨pos, done, hit, ho1, ho2, hap, hb, HS, hp, hd⟩ := hrel
    have hpos0 := iterPos_eq hit
    have hlt := heap_lt hit
    by_cases hps : pos < s.size
    · have hnx : ∀ ty, (Instr.next (.pointer (some ⟨w.heap.size, 0, none⟩)) true ty).run Tryd.prog wr = _ := fun ty => Lib.run_next_any_at wr w.heap.size s pos ty hit hps
      have hne : l.drop pos ≠ [] := by
        intro e
        have := congrArg List.length e
        rw [List.length_drop, ← HZ.out] at this
        simp at this; omega
      have hwd : pos + (Utf8.decode s pos).2 ≤ s.size := by
        have := width_le_len _ hne
        rw [← HL.out, Lib.decodeL_drop, HL.out, List.length_drop, ← HZ.out] at this
        omega
      have hw1 := Lib.width_pos s pos
      have HN : Hid ((done ++ [(((Utf8.decode s pos).1 : Int), (pos : Int))]) ++ decAt (pos + (Utf8.decode s pos).2) (l.drop (pos + (Utf8.decode s pos).2)) = decAt 0 l) := by
        show _ = _
        rw [← HS.out, decAt_step pos _ hne, List.append_assoc, List.singleton_append]
        rw [← HL.out, Lib.decodeL_drop, List.drop_drop]
      have hit2 := Lib.iterAt_heap wr w.heap.size s pos (pos + (Utf8.decode s pos).2) hit
      have hb2 := Lib.below_iterAt hb (k := w.heap.size) (Nat.le_refl _) s (pos + (Utf8.decode s pos).2)
      have p1 := ho1.iterAt (k := w.heap.size) (by omega) s (pos + (Utf8.decode s pos).2)
      have p2 := ho2.iterAt (k := w.heap.size) (by omega) s (pos + (Utf8.decode s pos).2)
      have hz : w.heap.size + 1 ≤ (wr.iterAt w.heap.size s (pos + (Utf8.decode s pos).2)).heap.size := by have := heap_lt hit2; omega
      obtain ⟨W1, hW1⟩ : ∃ W1, W1 = wr.iterAt w.heap.size s (pos + (Utf8.decode s pos).2) := ⟨_, rfl⟩
      rw [← hW1] at hnx hit2 hb2 p1 p2 hz
      clear hW1 hit ho1 ho2 hb
      have hdl : (ints .i64 (done.map (·.1))).length ≤ 4000 := by simp; omega
      have hdl2 : (ints .i64 (done.map (·.2))).length ≤ 4000 := by simp; omega
      have Q1 := Lib.hid p1
      have Q2 := Lib.hid p2
      have QI := Lib.hid hit2
      have QP := Lib.hid hpos0
      clear p1 p2 hit2 hpos0
      have hr1 := decode_le s pos
      go_wp2_with (first
        | (at_builtin; refine app_lit intsT W1 _ (w.heap.size + 1) _ _ _ _ _ _ rfl rfl rfl rfl Q1.out (by simp [Value.oneCell']) (Below.refl _ _) hz (by unfold maxLen; simp only [List.size_toArray, List.length_cons, List.length_nil]; omega) (by simp only [List.size_toArray, List.length_cons, List.length_nil]; omega) ?_; intro v1' w2 o1 b1 g1 l1
           have hz2 := Nat.le_trans hz b1.size
           have q2 := Lib.hid (Own.keep Q2.out g1 hap.symm)
           have ap2 := (hap.grow Q2.out l1)
           have o1' := Lib.hid o1
           clear o1 g1 l1 Q1)
        | (at_builtin; refine app_lit intsT W1 _ (w.heap.size + 1) _ _ _ _ _ _ rfl rfl rfl rfl q2.out (by simp [Value.oneCell']) b1 hz2 (by unfold maxLen; simp only [List.size_toArray, List.length_cons, List.length_nil]; omega) (by simp only [List.size_toArray, List.length_cons, List.length_nil]; omega) ?_; intro v2' w3 o2 b2 g2 l2))
      have q1 := Own.keep o1'.out g2 ap2
      have ap3 := (ap2.symm.grow o1'.out l2).symm
      have hit3 : w3.heap[w.heap.size]? = some (.stringIter s (pos + (Utf8.decode s pos).2)) := (b2.block _ (by omega)).trans QI.out
      have hb3 := hb2.trans (b2.mono (by omega))
      go_roundw
      case rel => exact ⟨_, _, hit3, by simpa [ints] using q1, by simpa [ints] using o2, ap3, hb3, HN, hwd, by simp; omega⟩
      case measure => rw [iterPos_eq hit3, QP.out]; omega
    · have hnx : ∀ ty, (Instr.next (.pointer (some ⟨w.heap.size, 0, none⟩)) true ty).run Tryd.prog wr = _ := fun ty => Lib.run_next_end_at wr w.heap.size s pos ty hit hps
      obtain rfl : pos = s.size := by omega
      have HE : Hid (done = decAt 0 l) := by
        show _ = _
        rw [← HS.out, HZ.out, List.drop_length, decAt_nil, List.append_nil]
      have Q1 := Lib.hid ho1
      have Q2 := Lib.hid ho2
      have hdl2 : (ints .i64 (done.map (·.2))).length ≤ 4000 := by simp; omega
      clear ho1 ho2 hit hpos0
      go_wp2_with (at_builtin; refine app_lit intsT w _ w.heap.size _ _ _ _ _ _ rfl rfl rfl rfl (Q2.out.weaken (Nat.le_succ _)) (by simp [Value.oneCell']) hb (by omega) (by unfold maxLen; simp only [List.size_toArray, List.length_cons, List.length_nil]; omega) (by simp only [List.size_toArray, List.length_cons, List.length_nil]; omega) ?_; intro v2' w3 o2 b2 g2 l2)
      have q1 := Own.keep Q1.out g2 hap
      go_ret3
      refine ⟨_, _, rfl, ?_, ?_, b2⟩
      · rw [decC, ← HE.out]; exact q1.weaken (Nat.le_succ _)
      · rw [decA, ← HE.out]; simpa [ints] using o2
end Go.Proofs.YtnjddmcckndpgaaDoor
