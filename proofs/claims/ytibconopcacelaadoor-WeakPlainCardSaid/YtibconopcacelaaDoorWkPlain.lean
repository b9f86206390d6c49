/- WeakPlain: for every list of bytes and both directions: of letters, AN, neutral ones and white space alone all rules make what was there, but R for AL; and nothing more when done once more. Conditions: none (the names of the classes are tied to the text of the program). -/
import Derived.Test.YtibconopcacelaaDoorWkV
import Derived.Test.YtibconopcacelaaDoorSame
import Derived.Test.YtibconopcacelaaDoorClL
import Derived.Test.YtibconopcacelaaDoorLaw
import Derived.Deep.DeepCutAuto
import Derived.Test.YtibconopcacelaaDoorRows
namespace Go.Proofs.YtibconopcacelaaDoor.lawPlain
open Go.ChangeShapes Go.WideShapes Go.ChangeAt Go.RowKit

def six : List Int := [0, 1, 2, 6, 13, 12]
def kd (x : Int) : Int := six.getD (x % 6).toNat 0
def inL (l : List Int) : List Int := l.map kd
def alR (k : Int) : Int := if k = 2 then 1 else k
def wantL (l : List Int) : List Int := (inL l).map alR
theorem alR_twice (k : Int) : alR (alR k) = alR k := by
  by_cases h : k = 2
  · subst h; rfl
  · have e : alR k = k := by rw [alR, if_neg h]
    rw [e, e]
theorem kd_mem (x : Int) : kd x ∈ ([0, 1, 2, 6, 13, 12] : List Int) := by
  unfold kd
  have h1 : 0 ≤ x % 6 := Int.emod_nonneg _ (by decide)
  have h2 : x % 6 < 6 := Int.emod_lt_of_pos _ (by decide)
  obtain ⟨r, hr⟩ : ∃ r : Nat, x % 6 = r := ⟨(x % 6).toNat, by omega⟩
  rw [hr, Int.toNat_natCast]
  have : r < 6 := by omega
  rw [show six.getD r 0 = six[r]'(by simpa [six] using this) by simp [six, this]]
  exact List.getElem_mem _
theorem in_ok (l : List Int) (n : Int) : ofI (inL l) n = wantL l := of_plain n fun k hk => by
  obtain ⟨x, _, rfl⟩ := List.mem_map.1 hk
  exact kd_mem x
theorem want_ok (l : List Int) (n : Int) : ofI (wantL l) n = wantL l := by
  rw [of_plain n (fun k hk => ?_)]
  · unfold wantL
    rw [List.map_map]
    apply List.map_congr_left
    intro k _
    exact alR_twice k
  · obtain ⟨y, hy, rfl⟩ := List.mem_map.1 hk
    obtain ⟨x, _, rfl⟩ := List.mem_map.1 hy
    have := kd_mem x
    unfold alR
    split
    · decide
    · exact this

set_option maxRecDepth 20000 in
set_option maxHeartbeats 8000000 in
theorem walk_ok (w : World) (hT : ClsTabs w) (A : Option Addr) (l : List Int) (c : Nat) (hl : l.length ≤ 200) (h : Lies w w.heap.size A (ints .u8 l)) (wf : ∀ n ∈ l, (Lit.int .u8 n).wf = true) (b : Bool) :
    Calls Tryd.prog 6 #[.slice A l.length c, .bool b] w fun e w' => e = .returned (.bool true) ∧ Below w.heap.size w w' := by
  have H := Lib.hid h
  have HTB := Lib.hid hT
  clear hT
  have HWF := Lib.hid wf
  obtain ⟨n, hn⟩ : ∃ n : Int, (if b then 1 else 0) = n := ⟨_, rfl⟩
  have HB0 := Lib.hid hn
  clear h hn wf
  go_enter Tryd.func6, Tryd.ntmps6
  go_wp2_with fail
  refine (walive_any w HTB.out).mono ?_
  rintro e w1 ⟨rfl, b1⟩
  have B1 := Lib.hid b1
  have D1 := Lib.hid b1
  clear b1
  go_upto_if 16 with fail
  go_cut [1, 5] (fun v1 v wx => v1 = .bool b ∧ v = .int .i64 n ∧ w1 = wx)
  case first =>
    rcases b with _ | _
    · have e : Hid ((0 : Int) = n) := Lib.hid (by rw [← HB0.out]; rfl)
      go_wp2_with fail
      go_meet
      exact ⟨rfl, by rw [e.out], rfl⟩
    · have e : Hid ((1 : Int) = n) := Lib.hid (by rw [← HB0.out]; rfl)
      go_wp2_with fail
      go_meet
      exact ⟨rfl, by rw [e.out], rfl⟩
  case rest =>
    obtain ⟨rfl, rfl, rfl⟩ := hcut
    have H1 := Lib.hid (H.out.up B1.out)
    go_wp2_with fail
    go_loopw [8, 6, 7] (fun iv ov tv wr => ∃ i : Nat, i ≤ l.length ∧ iv = .int .i64 i ∧ Own wr w1.heap.size 3 ov (ints .i64 ((inL l).take i)) ∧ Own wr w1.heap.size 3 tv (ints .i64 ((wantL l).take i)) ∧ Apart ov tv ∧ Below w1.heap.size w1 wr) (fun iv _ _ _ => l.length - (intOf iv).toNat)
    case atStart => exact ⟨0, by omega, rfl, by simpa [ints] using Own.empty _ _ _, by simpa [ints] using Own.empty _ _ _, Apart.nil_left, Below.refl _ _⟩
    case round =>
      obtain ⟨i, hi, rfl, ho, ht, ha, hb⟩ := hrel
      have HO := Lib.hid ho
      have HT := Lib.hid ht
      have HA := Lib.hid ha
      have HB := Lib.hid hb
      clear ho ht ha hb
      by_cases hlt : i < l.length
      · obtain ⟨p, rfl, _, hcx⟩ := (H1.out.up HB.out).int hlt
        obtain ⟨x, hx⟩ : ∃ x, l[i] = x := ⟨_, rfl⟩
        have hxw := bounds_u8 (HWF.out _ (List.getElem_mem hlt))
        rw [hx] at hcx hxw
        have HIN : Hid ((inL l).take (i + 1) = (inL l).take i ++ [kd x]) := Lib.hid (by
          rw [List.take_succ_eq_append_getElem (by simpa [inL] using hlt)]
          simp [inL, hx])
        have HWA : Hid ((wantL l).take (i + 1) = (wantL l).take i ++ [alR (kd x)]) := Lib.hid (by
          rw [List.take_succ_eq_append_getElem (by simpa [inL, wantL] using hlt)]
          simp [inL, wantL, hx])
        have HIL : Hid (((inL l).take i).length ≤ 1000 ∧ ((wantL l).take i).length ≤ 1000) := Lib.hid (by simp; omega)
        obtain ⟨r, hr⟩ : ∃ r : Nat, x % 6 = (r : Int) := ⟨(x % 6).toNat, by omega⟩
        have hr6 : r < 6 := by omega
        obtain ⟨k, hk⟩ : ∃ y, kd x = y := ⟨_, rfl⟩
        have hlit : ∀ u : World, (u.alloc (.cells #[.int .i64 0, .int .i64 1, .int .i64 2, .int .i64 6, .int .i64 13, .int .i64 12] 3)).cell? ⟨u.heap.size, r, none⟩ = some (.int .i64 k) := fun u => by
          refine boxed (Below.refl _ _) ?_
          rw [← hk, kd, hr, Int.toNat_natCast]
          match r, hr6 with
          | 0, _ => rfl
          | 1, _ => rfl
          | 2, _ => rfl
          | 3, _ => rfl
          | 4, _ => rfl
          | 5, _ => rfl
        rw [hk] at HIN HWA
        have c0 : (0 : Int) ≤ (i : Int) := by omega
        have c1 : (i : Int) < (l.length : Int) := by omega
        have d0 : (0 : Int) ≤ (r : Int) := by omega
        have d1 : (r : Int) < 6 := by omega
        have hww : IntKind.i64.wrap x = x := IntWalk.i64_in _ (by omega)
        have hcx2 : ∀ o : Obj, (World.alloc wr o).cell? (p.add i) = some (.int .u8 x) := fun o => by rw [(below_alloc wr o).cell (World.block_lt_of_cell? wr _ hcx)]; exact hcx
        clear hx hk hcx
        rcases h2 : (k == 2) with _ | _
        · have HK : Hid (alR k = k) := Lib.hid (by rw [alR, if_neg (by simpa using h2)])
          have OS := Lib.hid (HO.out.alloc (.cells #[.int .i64 0, .int .i64 1, .int .i64 2, .int .i64 6, .int .i64 13, .int .i64 12] 3))
          have TS := Lib.hid (HT.out.alloc (.cells #[.int .i64 0, .int .i64 1, .int .i64 2, .int .i64 6, .int .i64 13, .int .i64 12] 3))
          have BS : Hid (Below w1.heap.size w1 (wr.alloc (.cells #[.int .i64 0, .int .i64 1, .int .i64 2, .int .i64 6, .int .i64 13, .int .i64 12] 3))) := Lib.hid (HB.out.trans ((below_alloc wr _).mono HB.out.size))
          go_upto_region 13 with fail
          obtain ⟨W6, hW6⟩ : ∃ W, wr.alloc (.cells #[.int .i64 0, .int .i64 1, .int .i64 2, .int .i64 6, .int .i64 13, .int .i64 12] 3) = W := ⟨_, rfl⟩
          rw [hW6] at OS TS BS ⊢
          clear hW6 hlit hcx2
          go_wp2_with (first
            | (at_builtin; refine app_lit intsT w1 W6 w1.heap.size _ _ #[.int .i64 k] 1 _ _ rfl rfl rfl rfl OS.out (by simp [Value.oneCell']) BS.out BS.out.size (by have := HIL.out.1; unfold maxLen; simp only [ints, List.length_map]; simp; omega) (by have := HIL.out.1; simp only [ints, List.length_map]; simp; omega) ?_
               intro v2 w2 o2 b2 g2 e2
               have O2 := Lib.hid o2
               have B2 := Lib.hid b2
               have T2 := Lib.hid (TS.out.keep g2 HA.out.symm)
               have A2 := Lib.hid (HA.out.grow TS.out e2)
               clear o2 b2 g2 e2)
            | (at_builtin; refine app_lit intsT w1 w2 w1.heap.size _ _ #[.int .i64 k] 1 _ _ rfl rfl rfl rfl T2.out (by simp [Value.oneCell']) B2.out B2.out.size (by have := HIL.out.2; unfold maxLen; simp only [ints, List.length_map]; simp; omega) (by have := HIL.out.2; simp only [ints, List.length_map]; simp; omega) ?_
               intro v3 w3 o3 b3 g3 e3
               have O3 := Lib.hid o3
               have B3 := Lib.hid b3
               have O4 := Lib.hid (O2.out.keep g3 A2.out)
               have A3 := Lib.hid (A2.out.symm.grow O2.out e3).symm
               clear o3 b3 g3 e3)
            | fail)
          go_roundw
          case rel => exact ⟨i + 1, by omega, by go_num, by rw [HIN.out]; simpa [ints] using O4.out, by rw [HWA.out, HK.out]; simpa [ints] using O3.out, A3.out, B3.out⟩
          case measure => simp [intOf]; omega
        · obtain rfl : k = 2 := by simpa using h2
          have HK : Hid (alR 2 = 1) := Lib.hid rfl
          clear h2
          have OS := Lib.hid (HO.out.alloc (.cells #[.int .i64 0, .int .i64 1, .int .i64 2, .int .i64 6, .int .i64 13, .int .i64 12] 3))
          have TS := Lib.hid (HT.out.alloc (.cells #[.int .i64 0, .int .i64 1, .int .i64 2, .int .i64 6, .int .i64 13, .int .i64 12] 3))
          have BS : Hid (Below w1.heap.size w1 (wr.alloc (.cells #[.int .i64 0, .int .i64 1, .int .i64 2, .int .i64 6, .int .i64 13, .int .i64 12] 3))) := Lib.hid (HB.out.trans ((below_alloc wr _).mono HB.out.size))
          go_upto_region 13 with fail
          obtain ⟨W6, hW6⟩ : ∃ W, wr.alloc (.cells #[.int .i64 0, .int .i64 1, .int .i64 2, .int .i64 6, .int .i64 13, .int .i64 12] 3) = W := ⟨_, rfl⟩
          rw [hW6] at OS TS BS ⊢
          clear hW6 hlit hcx2
          go_wp2_with (first
            | (at_builtin; refine app_lit intsT w1 W6 w1.heap.size _ _ #[.int .i64 2] 1 _ _ rfl rfl rfl rfl OS.out (by simp [Value.oneCell']) BS.out BS.out.size (by have := HIL.out.1; unfold maxLen; simp only [ints, List.length_map]; simp; omega) (by have := HIL.out.1; simp only [ints, List.length_map]; simp; omega) ?_
               intro v2 w2 o2 b2 g2 e2
               have O2 := Lib.hid o2
               have B2 := Lib.hid b2
               have T2 := Lib.hid (TS.out.keep g2 HA.out.symm)
               have A2 := Lib.hid (HA.out.grow TS.out e2)
               clear o2 b2 g2 e2)
            | (at_builtin; refine app_lit intsT w1 w2 w1.heap.size _ _ #[.int .i64 1] 1 _ _ rfl rfl rfl rfl T2.out (by simp [Value.oneCell']) B2.out B2.out.size (by have := HIL.out.2; unfold maxLen; simp only [ints, List.length_map]; simp; omega) (by have := HIL.out.2; simp only [ints, List.length_map]; simp; omega) ?_
               intro v3 w3 o3 b3 g3 e3
               have O3 := Lib.hid o3
               have B3 := Lib.hid b3
               have O4 := Lib.hid (O2.out.keep g3 A2.out)
               have A3 := Lib.hid (A2.out.symm.grow O2.out e3).symm
               clear o3 b3 g3 e3)
            | fail)
          go_roundw
          case rel => exact ⟨i + 1, by omega, by go_num, by rw [HIN.out]; simpa [ints] using O4.out, by rw [HWA.out, HK.out]; simpa [ints] using O3.out, A3.out, B3.out⟩
          case measure => simp [intOf]; omega
      · obtain rfl : i = l.length := by omega
        obtain ⟨L1, hL1⟩ : ∃ x, inL l = x := ⟨_, rfl⟩
        obtain ⟨L2, hL2⟩ : ∃ x, wantL l = x := ⟨_, rfl⟩
        have HF : Hid (ofI L1 n = L2 ∧ ofI L2 n = L2) := Lib.hid ⟨by rw [← hL1, ← hL2]; exact in_ok l n, by rw [← hL2]; exact want_ok l n⟩
        have HLL : Hid (L1.length ≤ 1000 ∧ L2.length ≤ 1000) := Lib.hid ⟨by rw [← hL1]; simp [inL]; omega, by rw [← hL2]; simp [wantL, inL]; omega⟩
        have ho := HO.out
        have ht := HT.out
        rw [List.take_of_length_le (by simp [inL]), hL1] at ho
        rw [List.take_of_length_le (by simp [inL, wantL]), hL2] at ht
        obtain ⟨Ai, ci, rfl, li, -, -⟩ := ho.form
        obtain ⟨At', ct, rfl, lt, -, -⟩ := ht.form
        have LI := Lib.hid li
        have LT := Lib.hid lt
        have HBW := Lib.hid (below_then B1.out HB.out)
        clear ho ht li lt hL1 hL2
        simp only [ints, List.length_map]
        go_wp2_with fail
        refine (wof_any Ai L1 ci n wr (HTB.out.below HBW.out HTB.out.big) LI.out HLL.out.1).mono ?_
        rintro e w5 ⟨v5, rfl, o5, b5⟩
        rw [HF.out.1] at o5
        obtain ⟨A5, c5, rfl, l5, -, -⟩ := o5.form
        have L5 := Lib.hid l5
        have B5 := Lib.hid (below_then HBW.out b5)
        have T5 := Lib.hid (LT.out.up b5)
        clear o5 b5 l5
        simp only [ints, List.length_map]
        go_wp2_with fail
        refine (ints_ok A5 At' L2 c5 ct _ L5.out T5.out (by have := HLL.out.2; omega)).mono ?_
        rintro e w6 ⟨rfl, b6⟩
        have B6 := Lib.hid (below_then B5.out b6)
        have L6 := Lib.hid (L5.out.up b6)
        clear b6
        go_wp2_with fail
        refine (wof_any A5 L2 c5 n w6 (HTB.out.below B6.out HTB.out.big) L6.out HLL.out.2).mono ?_
        rintro e w7 ⟨v7, rfl, o7, b7⟩
        rw [HF.out.2] at o7
        obtain ⟨A7, c7, rfl, l7, -, -⟩ := o7.form
        have L7 := Lib.hid l7
        have B7 := Lib.hid (below_then B6.out b7)
        have K7 := Lib.hid (L6.out.up b7)
        clear o7 b7 l7
        simp only [ints, List.length_map]
        go_wp2_with fail
        refine (ints_ok A7 A5 L2 c7 c5 _ L7.out K7.out (by have := HLL.out.2; omega)).mono ?_
        rintro e w8 ⟨rfl, b8⟩
        have B8 := Lib.hid (below_then B7.out b8)
        clear b8
        go_wp2
        go_ret
        exact ⟨rfl, B8.out⟩

set_option maxHeartbeats 1000000 in
theorem walk_long (w : World) (hT : ClsTabs w) (A : Option Addr) (l : List Int) (c : Nat) (hl : l.length ≤ 9223372036854775807) (hh : 200 < l.length) (b : Bool) :
    Calls Tryd.prog 6 #[.slice A l.length c, .bool b] w fun e w' => e = .returned (.bool true) ∧ Below w.heap.size w w' := by
  have HTB := Lib.hid hT
  clear hT
  go_enter Tryd.func6, Tryd.ntmps6
  go_wp2_with fail
  refine (walive_any w HTB.out).mono ?_
  rintro e w1 ⟨rfl, b1⟩
  have B1 := Lib.hid b1
  have D1 := Lib.hid b1
  clear b1
  go_wp2
  go_ret
  exact ⟨rfl, B1.out⟩

theorem walk (w : World) (hT : ClsTabs w) (A : Option Addr) (l : List Int) (c : Nat) (hc : l.length ≤ c) (hm : c ≤ maxLen) (h : Lies w w.heap.size A (ints .u8 l)) (wf : ∀ n ∈ l, (Lit.int .u8 n).wf = true) (b : Bool) :
    Calls Tryd.prog 6 #[.slice A l.length c, .bool b] w fun e w' => e = .returned (.bool true) ∧ Below w.heap.size w w' := by
  unfold maxLen at hm
  by_cases hh : 200 < l.length
  · exact walk_long w hT A l c (by omega) hh _
  · exact walk_ok w hT A l c (by omega) h wf b
-- WRAP
theorem spec : LawSpec Rows.weakPlainSpec 2 := ⟨rfl, fun H ds h => by
  match ds, h with
  | [d0, d1], _ => rfl⟩
theorem params_ok : ∀ t ∈ Tryd.f6.params.toList, Tryd.prog.readableRec t = true ∧ t < Tryd.prog.types.size := by
  rw [Tryd.params6]
  intro t ht
  simp only [List.mem_cons, List.mem_nil_iff, or_false] at ht
  rcases ht with rfl | rfl
  all_goals exact ⟨by kernel_rfl, of_decide_eq_true (by kernel_rfl)⟩

theorem contract (H : Type) (enc : TypeId × Value → H) (W : World) (base : Nat) (args : Array Value) (ds gs : List (DataW H)) (before : List MemPlace)
    (hval : ∀ (j : Nat) t v, Tryd.f6.params[j]? = some t → args[j]? = some v → Value.okWide Tryd.prog W .any base t v)
    (hW : DataW.Whole enc Tryd.prog Tryd.f6.params.toList Rows.weakPlainSpec.vars false W args.toList ds gs before) (hL : laidMetH Tryd.prog laidList W) :
    Calls Tryd.prog 6 args W fun e W' => ∃ v, e = .returned v ∧ Rows.weakPlainSpec.post enc Tryd.prog Tryd.f6 false true false false W args v W' := by
  have hW' := hW
  obtain ⟨p, q, hA0, hV, rfl, hfz, hnd⟩ := hW
  have hA : DataW.TrodAll enc Tryd.prog W 0 (fun _ => true) true Tryd.f6.params.toList args.toList ds p := hA0
  rw [Tryd.params6] at hA hval
  obtain ⟨v0, vs0, d0, ds0, p0, q0, hargs, rfl, rfl, h0, r0⟩ := trodAll_cons hA
  obtain ⟨v1, vs1, d1, ds1, p1, q1, rfl, rfl, rfl, h1, r1⟩ := trodAll_cons r0
  obtain ⟨rfl, rfl, rfl⟩ := trodAll_nil r1
  obtain rfl : args = #[v0, v1] := by cases args; simp_all
  obtain ⟨A0, l0, c0, rfl, hc0, hm0, hl0, wf0⟩ := open_list Tryd.underlying31 Tryd.underlying5 (by kernel_rfl) (hval 0 31 v0 rfl rfl) h0
  obtain ⟨a1, rfl, rfl, rfl⟩ := open_bool Tryd.underlying4 (hval 1 4 v1 rfl rfl) h1
  exact (walk W (tabs_of hL) A0 l0 c0 hc0 hm0 hl0 wf0 a1).mono fun e W' ⟨he, hg⟩ => ⟨_, he, law_post spec (by rw [Tryd.params6]; rfl) (by kernel_rfl) params_ok (by kernel_rfl) Tryd.underlying4 hW' hg⟩

theorem laid_met (os : Os) : laidMet Tryd.prog Rows.weakPlainRow.laid ((laidWorld os #[.slice none 0 0, .bool false]).forCall (fun _ _ => 0) ⟨#[], #[.slice none 0 0, .bool false], []⟩).memory :=
  laidMet_of_run' 8 (by kernel_rfl) (by kernel_rfl)
theorem reads (os : Os) {H : Type} (enc : TypeId × Value → H) : ∃ places, DataW.whole enc Tryd.prog ((laidWorld os #[.slice none 0 0, .bool false]).forCall (fun _ _ => 0) ⟨#[], #[.slice none 0 0, .bool false], []⟩).memory Tryd.f6.params.toList Rows.weakPlainSpec.vars false #[.slice none 0 0, .bool false].toList 8 = some ([.nil, .lit (.bool false)], [], places) :=
  ⟨[], by kernel_rfl⟩
set_option maxRecDepth 100000 in
theorem lifted (os : Os) (started : os.Started) (H : Type) (enc : TypeId × Value → H) (F : Stop.Interp) :
    ReturnsInHanded {} Tryd.checked os 6 .any ((OpenSpec.ofChange Rows.weakPlainSpec).preRow enc Tryd.prog Tryd.f6 Rows.weakPlainRow.domain false Rows.weakPlainRow.laid) (((OpenSpec.ofChange Rows.weakPlainSpec).at F).post enc Tryd.prog Tryd.f6 false true false false) := by
  obtain ⟨places, hx⟩ := reads os enc
  refine returnsInHanded_of_row (C := Tryd.checked) (s := OpenSpec.ofChange Rows.weakPlainSpec) own started (by kernel_rfl) Tryd.func6
    (witness_row_at (enc := enc) (C := Tryd.checked) false (laidWorld os #[.slice none 0 0, .bool false]) #[.slice none 0 0, .bool false] rfl (by kernel_rfl) (by kernel_rfl) (by kernel_rfl)
      (OpenSpec.preRow_of_cond 8 hx (by kernel_rfl) (fun k hk => by cases hk) (by kernel_rfl) (laid_met os))) ?_
  intro W base args ds gs before hval hW _ _ _ hL _ _
  exact contract H enc W base args ds gs before hval hW hL
theorem said : Rows.WeakPlainSaid :=
  OpenClaim.holds_of_cond 6 Tryd.f6 rfl rfl rfl rfl rfl rfl rfl ⟨rfl, rfl, rfl, rfl, rfl⟩ rfl rfl rfl rfl rfl (by kernel_rfl) Tryd.func6 (by kernel_rfl)
    (of_decide_eq_true (by kernel_rfl)) (by unfold Func.isWrapper; first | (rw [if_pos (by decide +kernel)]; kernel_rfl) | (rw [if_neg (by decide +kernel)]; exact ⟨rfl, rfl⟩))
    (fun os started H enc _ F => by rw [OpenClaim.pre_eq_preRow]; exact lifted os started H enc F)
theorem card : Rows.WeakPlainCardSaid :=
  Claim7.holds_tied_plain_at .later [] _ _ _ _ said (fun _ h => by cases h) (by kernel_rfl) (fun _ h => by cases h) weakPlain_row_tie rfl ⟨rfl, rfl⟩ (by kernel_rfl) rfl
    (plainOf "ductus/ductuslaw09.WeakPlain" 6 Tryd.f6 (by kernel_rfl) Tryd.func6 (by kernel_rfl) (fun j t ht => by
      rw [Tryd.params6] at ht
      have hm := Array.mem_of_getElem? ht
      simp only [List.mem_toArray, List.mem_cons, List.mem_nil_iff, or_false] at hm
      rcases hm with rfl | rfl
      all_goals (show Tryd.prog.wantsStandIn _ = false; kernel_rfl))) (by kernel_rfl)
end Go.Proofs.YtibconopcacelaaDoor.lawPlain
