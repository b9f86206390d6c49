/- The document's own reading, walked: starts, first. -/
import Derived.Test.YtnjddmcckndpgaaDoorUtO
import Derived.Test.YtnjddmcckndpgaaDoorUtG
import Derived.Lib.SlicesS
import Derived.Test.YtnjddmcckndpgaaDoorMem2
namespace Go.Proofs.YtnjddmcckndpgaaDoor
open Go.RowKit

theorem Lies.take {w : World} {B : Nat} {A : Option Addr} {t : List UInt8} (h : Lies w B A (ints .u8 (u8s t))) (k : Nat) : Lies w B A (ints .u8 (u8s (t.take k))) := fun hn => by
  obtain ⟨p, hA, hp, hc⟩ := h (by intro e; apply hn; have : t = [] := by simpa [ints, u8s] using e
                                  rw [this]; simp [ints, u8s])
  refine ⟨p, hA, hp, fun i u hu => hc i u ?_⟩
  simp only [ints, u8s, List.map_take, List.getElem?_take] at hu ⊢
  split at hu
  · exact hu
  · cases hu

set_option maxHeartbeats 1500000 in
theorem starts_any (A A' : Option Addr) (l m : List UInt8) (c c' : Nat) (w : World) (h : Lies w w.heap.size A (ints .u8 (u8s l))) (h' : Lies w w.heap.size A' (ints .u8 (u8s m))) (hc : l.length ≤ c) (hl : l.length ≤ 9223372036854775807) (hm : m.length ≤ 9223372036854775807) :
    Calls Tryd.prog 27 #[.slice A l.length c, .slice A' m.length c'] w fun e w' => e = .returned (.bool (startsL l m)) ∧ Below w.heap.size w w' := by
  by_cases h0 : 0 < m.length
  · have d0 : decide ((0 : Int) < (m.length : Int)) = true := by simp; omega
    by_cases h1 : m.length ≤ l.length
    · have d1 : decide (m.length ≤ l.length) = true := by simpa using h1
      have tl : (l.take m.length).length = m.length := by rw [List.length_take]; omega
      have s1 := fun n => conv_string (P := Tryd.prog) (w := w.drewN n) 22 5 9 c Tryd.underlying22 Tryd.underlying5 Tryd.underlying9 (Lies.drawn (h.take m.length) n)
      have s2 := fun n => conv_string (P := Tryd.prog) (w := w.drewN n) 22 5 9 c' Tryd.underlying22 Tryd.underlying5 Tryd.underlying9 (Lies.drawn h' n)
      simp only [u8s_length, tl] at s1
      simp only [u8s_length] at s2
      obtain ⟨S1, e1⟩ : ∃ S, strOfNums (u8s (l.take m.length)) = S := ⟨_, rfl⟩
      obtain ⟨S2, e2⟩ : ∃ S, strOfNums (u8s m) = S := ⟨_, rfl⟩
      rw [e1] at s1
      rw [e2] at s2
      have hS : (S1.toList == S2.toList) = startsL l m := by
        rw [← e1, ← e2, strOf, strOf, startsL, Bool.eq_iff_iff]
        have hne : m ≠ [] := by intro e; subst e; simp at h0
        rw [Lib.bytes_beq_iff]
        simp only [hne, Bool.and_eq_true, decide_eq_true_eq, ne_eq, not_false_eq_true, true_and]
        constructor
        · intro hh
          have := congrArg (fun s : ByteArray => s.data.toList) hh
          simpa using this
        · intro hh; rw [hh]
      clear e1 e2 tl h h'
      have hcc : (m.length : Int) ≤ (c : Int) := by omega
      have hcn : m.length ≤ c := by omega
      go_enter Tryd.func27, Tryd.ntmps27
      go_wp2
      go_quiet (fail)
      go_wp2
      go_ret
      exact ⟨rfl, below_drawn (Below.refl _ _) _⟩
    · have d1 : decide (m.length ≤ l.length) = false := by simpa using h1
      have hr : startsL l m = false := by
        simp only [startsL, Bool.and_eq_false_iff, decide_eq_false_iff_not]
        right; intro e
        have := congrArg List.length e
        rw [List.length_take] at this; omega
      have HR := Lib.hid hr
      clear hr h h'
      go_enter Tryd.func27, Tryd.ntmps27
      go_wp2
      go_quiet (fail)
      go_wp2
      go_ret
      exact ⟨ret_bool HR.out.symm, below_drawn (Below.refl _ _) _⟩
  · have hm0 : m = [] := List.eq_nil_of_length_eq_zero (by omega)
    subst hm0
    have HR : Hid (startsL l [] = false) := by show _ = _; simp [startsL]
    clear h h'
    go_enter Tryd.func27, Tryd.ntmps27
    go_wp2
    go_quiet (fail)
    go_wp2
    go_ret
    exact ⟨ret_bool HR.out.symm, below_drawn (Below.refl _ _) _⟩

set_option maxHeartbeats 3000000 in
theorem first_any (A : Option Addr) (l : List UInt8) (c : Nat) (w : World) (h : Lies w w.heap.size A (ints .u8 (u8s l))) (hc : l.length ≤ c) (hl : l.length ≤ 9223372036854775807) (hne : l ≠ []) :
    Calls Tryd.prog 22 #[.slice A l.length c] w fun e w' => e = .returned (.int .i64 (firstL l)) ∧ Below w.heap.size w w' := by
  have hpos : 0 < l.length := List.length_pos_iff.2 hne
  obtain ⟨b, off, rfl, hb, hcell⟩ := h.plainInts (by simpa using hpos)
  have H := Lib.hid h
  have g : ∀ i (hi : i < l.length), w.cell? ⟨b, off + i, none⟩ = some (.int .u8 ((l.getD i 0).toNat : Int)) := fun i hi => by
    rw [hcell i (by simpa using hi), u8s_get]; simp [hi]
  have G := Lib.hid g
  obtain ⟨W, hW⟩ : ∃ W, W = w.alloc (.cells #[.int .i64 0, .int .i64 192, .int .i64 224, .int .i64 240] 3) := ⟨_, rfl⟩
  have hld : ∀ m, m < 4 → W.cell? ⟨w.heap.size, m, none⟩ = some (.int .i64 (leadN m)) := fun m hm => by
    rw [hW, World.cell?_alloc_at _ _ _ _ rfl]
    match m, hm with
    | 0, _ => rfl
    | 1, _ => rfl
    | 2, _ => rfl
    | 3, _ => rfl
  have LD := Lib.hid hld
  have BW : Hid (Below w.heap.size w W) := by show Below _ _ _; rw [hW]; exact (Below.refl _ _).alloc (Nat.le_refl _) _
  have SW : w.heap.size + 1 ≤ W.heap.size := by rw [hW]; simp
  have HWW := Lib.hid hW
  clear hcell g hld hW h
  go_enter Tryd.func22, Tryd.ntmps22
  go_wp2_with fail
  rw [← HWW.out]
  go_loopw [4] (fun n wr => ∃ m : Nat, m ≤ 4 ∧ m ≤ l.length ∧ n = .int .i64 ((m : Int) + 1) ∧ Hid (firstFrom l (5 - m) m = firstL l) ∧ Below W.heap.size W wr) (fun n _ => 6 - (intOf n).toNat)
  case atStart => exact ⟨0, by omega, by omega, rfl, rfl, Below.refl _ _⟩
  case round =>
    obtain ⟨m, hm, hml, rfl, HF, hbr⟩ := hrel
    by_cases hgo : m < 4 ∧ m < l.length
    · obtain ⟨m4, ml⟩ := hgo
      have cellB : ∀ i, i < l.length → wr.cell? ⟨b, off + i, none⟩ = some (.int .u8 ((l.getD i 0).toNat : Int)) := fun i hi => by
        rw [hbr.cell (p := ⟨b, off + i, none⟩) (by show b < _; omega), BW.out.cell (p := ⟨b, off + i, none⟩) hb]; exact G.out i hi
      have cL : wr.cell? ⟨w.heap.size, m, none⟩ = some (.int .i64 (leadN m)) := by
        rw [hbr.cell (p := ⟨w.heap.size, m, none⟩) (by show w.heap.size < _; omega)]; exact LD.out m m4
      have c0 : wr.cell? ⟨b, off, none⟩ = some (.int .u8 ((l.getD 0 0).toNat : Int)) := cellB 0 hpos
      have CB := Lib.hid cellB
      have bp := pcN_bd l m
      have BP := Lib.hid bp
      obtain ⟨x0, hx0⟩ : ∃ x, (l.getD 0 0).toNat = x := ⟨_, rfl⟩
      rw [hx0] at c0
      have x0b : x0 < 256 := by rw [← hx0]; exact UInt8.toNat_lt _
      have hl0 : 0 ≤ leadN m ∧ leadN m ≤ 240 := by unfold leadN; (repeat' split) <;> omega
      obtain ⟨L0, hL0⟩ : ∃ x, leadN m = x := ⟨_, rfl⟩
      rw [hL0] at cL hl0
      have HP0 : Hid (pcN l m 0 = (x0 : Int) - L0) := by show _ = _; rw [pcN, hx0, hL0]
      have hl1 := hl0.1
      have hl2 := hl0.2
      have HBR := Lib.hid hbr
      clear cellB bp hx0 hL0 hl0 hbr
      have q0 : (0 : Int) < (l.length : Int) := by omega
      have q1 : (0 : Int) ≤ (m : Int) := by omega
      have q2 : (m : Int) < 4 := by omega
      have q3 : (m : Int) + 1 ≤ 4 := by omega
      have q4 : (m : Int) + 1 ≤ (l.length : Int) := by omega
      have sk : IntKind.i64.wrap ((m : Int) + 1 - 1) = (m : Int) := by rw [show (m : Int) + 1 - 1 = m by omega]; exact IntWalk.i64_in _ (by omega)
      have sk2 : IntKind.i64.wrap (m : Int) = (m : Int) := IntWalk.i64_in _ (by omega)
      have sw : IntKind.i64.wrap ((x0 : Int) - L0) = (x0 : Int) - L0 := IntWalk.i64_in _ (by omega)
      go_wp2
      go_quiet (fail)
      clear sk sk2 sw
      go_wp2
      go_loop [5, 6] (fun cv i => ∃ j : Nat, j ≤ m ∧ i = .int .i64 ((j : Int) + 1) ∧ cv = .int .i64 (pcN l m j)) (fun _ i => m + 1 - (intOf i).toNat)
      case atStart => exact ⟨0, by omega, by go_num, by rw [HP0.out]⟩
      case round =>
        obtain ⟨j, hj, rfl, rfl⟩ := hrel
        by_cases hjm : j < m
        · have bj := BP.out j (by omega)
          have cj := CB.out (j + 1) (by omega)
          obtain ⟨pv, hpv⟩ : ∃ x, pcN l m j = x := ⟨_, rfl⟩
          obtain ⟨xj, hxj⟩ : ∃ x, (l.getD (j + 1) 0).toNat = x := ⟨_, rfl⟩
          have xjb : xj < 256 := by rw [← hxj]; exact UInt8.toNat_lt _
          have HN : Hid (pcN l m (j + 1) = pv * 64 + (xj : Int) - 128) := by show _ = _; rw [pcN, hpv, hxj]
          rw [hpv] at bj ⊢
          rw [hxj] at cj
          have bj1 := bj.1
          have bj2 := bj.2
          clear hpv hxj bj
          have r0 : (0 : Int) ≤ (j : Int) + 1 := by omega
          have r1 : (j : Int) + 1 < (l.length : Int) := by omega
          go_wp2
          go_round
          case rel => exact ⟨j + 1, by omega, by go_num, by rw [HN.out]⟩
          case measure => simp [intOf]; omega
        · obtain rfl : j = m := by omega
          have bj := BP.out j (by omega)
          obtain ⟨pv, hpv⟩ : ∃ x, pcN l j j = x := ⟨_, rfl⟩
          have HPV := Lib.hid hpv
          rw [hpv] at bj ⊢
          have bj1 := bj.1
          have bj2 := bj.2
          have BYT := Lib.hid (u8s_bytB pv)
          have BYL := Lib.hid (bytB_len pv)
          clear hpv bj
          go_wp2_with fail
          refine (bytes_any pv _).mono ?_
          rintro e w1 ⟨v1, rfl, o1, b1⟩
          rw [← BYT.out] at o1
          obtain ⟨A1, k1, rfl, l1, _, _⟩ := o1.form
          have L1 := Lib.hid l1
          have hbx := Lib.hid (below_drawn HBR.out nq)
          have B1 := Lib.hid (hbx.out.trans (b1.mono hbx.out.size))
          have LH := Lib.hid (((H.out.below BW.out).below (B1.out.mono (by omega))).wider (B' := w1.heap.size) (by have := B1.out.size; omega))
          simp only [ints, List.length_map, u8s_length]
          clear o1 l1 b1
          go_wp2_with fail
          refine (starts_any _ _ l (bytB pv) c k1 w1 LH.out L1.out hc hl (by rw [BYL.out]; have := (encCh_len pv).1; unfold bytL; split <;> simp <;> omega)).mono ?_
          rintro e w2 ⟨rfl, b2⟩
          have B2 := Lib.hid (B1.out.trans (b2.mono B1.out.size))
          clear b2
          rcases hs : startsL l (bytB pv) with _ | _
          · have ST : Hid (okN l j = false) := by show _ = _; simp [okN, HPV.out, hs]
            clear hs
            go_wp2
            go_roundw
            case rel =>
              refine ⟨j + 1, by omega, by omega, by go_num, ?_, B2.out⟩
              show _ = _
              rw [← HF.out, show 5 - j = (5 - (j + 1)) + 1 by omega, firstFrom, if_pos ⟨m4, ml⟩, if_neg (by rw [ST.out]; simp)]
            case measure => simp [intOf]; omega
          · have ST := Lib.hid hs
            clear hs
            go_wp2_with fail
            refine (bytes_any pv _).mono ?_
            rintro e w3 ⟨v3, rfl, o3, b3⟩
            obtain ⟨A3, k3, rfl, _, _, _⟩ := o3.form
            have B3 := Lib.hid (B2.out.trans (b3.mono B2.out.size))
            simp only [ints, List.length_map]
            clear o3 b3
            by_cases hlen : (bytL pv).length = j + 1
            · have OK : Hid (okN l j = true) := by show _ = _; simp [okN, HPV.out, ST.out, hlen]
              have HLN := Lib.hid hlen
              have hbt : (((bytL pv).length : Int) == (j : Int) + 1) = true := by rw [beq_iff_eq]; omega
              clear hlen
              go_wp2
              go_ret
              refine ⟨ret_int ?_, BW.out.trans (B3.out.mono (by omega))⟩
              rw [← HF.out, show 5 - j = (5 - (j + 1)) + 1 by omega, firstFrom, if_pos ⟨m4, ml⟩, if_pos OK.out, HPV.out]
            · have OK : Hid (okN l j = false) := by show _ = _; simp [okN, HPV.out, hlen]
              have hbt : (((bytL pv).length : Int) == (j : Int) + 1) = false := by rw [beq_eq_false_iff_ne]; omega
              clear hlen
              go_wp2
              go_roundw
              case rel =>
                refine ⟨j + 1, by omega, by omega, by go_num, ?_, B3.out⟩
                show _ = _
                rw [← HF.out, show 5 - j = (5 - (j + 1)) + 1 by omega, firstFrom, if_pos ⟨m4, ml⟩, if_neg (by rw [OK.out]; simp)]
              case measure => simp [intOf]; omega
    · have HE : Hid (firstL l = -1) := by
        show _ = _
        rw [← HF.out]
        rcases Nat.lt_or_ge m 5 with k | k
        · rw [show 5 - m = (5 - (m + 1)) + 1 by omega, firstFrom, if_neg hgo]
        · omega
      by_cases m4 : m < 4
      · have ml : l.length ≤ m := by omega
        have q3 : (m : Int) + 1 ≤ 4 := by omega
        have q4 : ¬ ((m : Int) + 1 ≤ (l.length : Int)) := by omega
        clear hgo
        go_wp2
        go_ret
        exact ⟨ret_int HE.out.symm, BW.out.trans (hbr.mono (by omega))⟩
      · have q3 : ¬ ((m : Int) + 1 ≤ 4) := by omega
        clear hgo
        go_wp2
        go_ret
        exact ⟨ret_int HE.out.symm, BW.out.trans (hbr.mono (by omega))⟩
end Go.Proofs.YtnjddmcckndpgaaDoor
