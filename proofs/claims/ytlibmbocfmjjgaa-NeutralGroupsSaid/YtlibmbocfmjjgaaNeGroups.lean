/- NeutralGroups: for every list of numbers, groups are of what is neutral, all of it, and don't touch. Conditions: none. -/
import Derived.Test.YtlibmbocfmjjgaaNeV
import Derived.Test.YtlibmbocfmjjgaaLaw
import Derived.Deep.DeepCutAuto
import Derived.Test.YtlibmbocfmjjgaaRows
namespace Go.Proofs.Ytlibmbocfmjjgaa.lawGroups
open Go.ChangeShapes Go.WideShapes Go.ChangeAt Go.RowKit

theorem size_take {G : List (Int × Int)} {n : Nat} (hn : n < G.length) {a b : Nat} (h : G[n] = ((a : Int), (b : Int))) : sizeG (G.take (n + 1)) = sizeG (G.take n) + (b - a) := by
  rw [List.take_succ_eq_append_getElem hn, sizeG_snoc, h]
  congr 1
  simp only
  omega
/-- all that the walk asks of the groups -/
structure Grp (l : List Int) (G : List (Int × Int)) (n a b : Nat) : Prop where
  is : ∃ h : n < G.length, G[n] = ((a : Int), (b : Int))
  around : Around l a b
  apart : ∀ m, m + 1 = n → ∃ a' b' : Nat, ∃ h : m < G.length, G[m] = ((a' : Int), (b' : Int)) ∧ b' < a
  size : sizeG (G.take (n + 1)) = sizeG (G.take n) + (b - a)
theorem grp_all (l : List Int) {n : Nat} (hn : n < (groupsI l).length) : ∃ a b : Nat, Grp l (groupsI l) n a b := by
  obtain ⟨a, b, h1, h2⟩ := grp_at l hn
  refine ⟨a, b, ⟨hn, h1⟩, h2, fun m hm => ?_, size_take hn h1⟩
  have hml : m < (groupsI l).length := by omega
  obtain ⟨a', b', h3, h4⟩ := grp_at l hml
  have hI : GInv l l.length (groupsI l) := ginv l l.length (Nat.le_refl _)
  have hpw := List.pairwise_iff_getElem.1 hI.apart m n hml hn (by omega)
  rw [h1, h3] at hpw
  simp only at hpw
  exact ⟨a', b', hml, h3, by omega⟩
theorem size_le (l : List Int) : ∀ n, n ≤ (groupsI l).length → sizeG ((groupsI l).take n) ≤ endN l n
  | 0, _ => by simp [sizeG]
  | n + 1, hn => by
    obtain ⟨a, b, h1, h2⟩ := grp_at l (show n < (groupsI l).length by omega)
    have h3 := size_le l n (by omega)
    have h4 := endN_le l (show n < (groupsI l).length by omega) h1
    have h5 := h2.lt
    rw [size_take (by omega) h1, endN_succ l (by omega) h1]
    omega
theorem size_small (l : List Int) {n : Nat} (hn : n ≤ (groupsI l).length) : sizeG ((groupsI l).take n) ≤ l.length := by
  have h := size_le l n hn
  rcases Nat.eq_zero_or_pos n with h0 | h0
  · subst h0; simp [sizeG]
  · obtain ⟨a, b, h1, h2⟩ := grp_at l (show n - 1 < (groupsI l).length by omega)
    have h3 := endN_succ l (by omega) h1
    rw [show n - 1 + 1 = n by omega] at h3
    have := h2.le
    omega

set_option maxRecDepth 20000 in
set_option maxHeartbeats 8000000 in
theorem walk_ok (w : World) (A : Option Addr) (l : List Int) (c : Nat) (hl : l.length ≤ 500) (h : Lies w w.heap.size A (ints .i64 l)) :
    Calls Try.prog 6 #[.slice A l.length c] w fun e w' => e = .returned (.bool true) ∧ Below w.heap.size w w' := by
  have H := Lib.hid h
  obtain ⟨G, hG⟩ : ∃ G, groupsI l = G := ⟨_, rfl⟩
  have HG := Lib.hid hG
  have hgl : G.length ≤ 500 := by rw [← hG]; have := (ginv l l.length (Nat.le_refl _)).len; show (grpN l l.length).length ≤ _; omega
  have HGR : Hid (∀ n, n < G.length → ∃ a b : Nat, Grp l G n a b) := Lib.hid fun n hn => by subst hG; exact grp_all l hn
  have HSM : Hid (∀ n, n ≤ G.length → sizeG (G.take n) ≤ l.length) := Lib.hid fun n hn => by subst hG; exact size_small l hn
  have HSZ : Hid (sizeG G = cntN l l.length) := Lib.hid (by rw [← hG]; exact (ginv l l.length (Nat.le_refl _)).size)
  clear h hG
  go_enter Try.func6, Try.ntmps6
  go_wp2_with fail
  refine (nalive_any w).mono ?_
  rintro e w1 ⟨rfl, b1⟩
  have B1 := Lib.hid b1
  have D1 := Lib.hid b1
  clear b1
  have H1 := Lib.hid (H.out.up B1.out)
  go_wp2_with fail
  refine (ngroups_any A l c w1 H1.out (by omega)).mono ?_
  rintro e w2 ⟨A2, c2, rfl, l2, b2⟩
  rw [HG.out] at l2 ⊢
  have B2 := Lib.hid (below_then B1.out b2)
  have L2 := Lib.hid l2
  have H2 := Lib.hid (H1.out.up b2)
  clear l2 b2
  go_wp2_with fail
  go_loopw [5, 4] (fun iv nv wr => ∃ (i n : Nat), i ≤ G.length ∧ iv = .int .i64 i ∧ nv = .int .i64 n ∧ n ≤ 500 ∧ Hid (n = sizeG (G.take i)) ∧ Hid (Below w2.heap.size w2 wr)) (fun iv _ _ => G.length - (intOf iv).toNat)
  case atStart => exact ⟨0, 0, by omega, rfl, rfl, by omega, Lib.hid (by simp [sizeG]), Lib.hid (Below.refl _ _)⟩
  case round =>
    obtain ⟨i, n, hi, rfl, rfl, hn5, HN, HB⟩ := hrel
    by_cases hlt : i < G.length
    · obtain ⟨a, b, hg⟩ := HGR.out i hlt
      obtain ⟨hlt', hab⟩ := hg.is
      obtain ⟨g, off, hA2, hgw, p0, p1⟩ := prC_at (L2.out.up HB.out) hlt
      have hA2r := hA2
      subst hA2
      rw [hab] at p0 p1
      simp only at p0 p1
      have hal := hg.around.lt
      have hbl := hg.around.le
      have HGI := Lib.hid hg
      have hns : n + (b - a) ≤ 500 := by
        have h1 := hg.size
        have h2 := HSM.out (i + 1) (by omega)
        have h3 := HN.out
        omega
      have i0 : (0 : Int) ≤ (i : Int) := by omega
      have i1 : (i : Int) < (G.length : Int) := by omega
      clear hab hlt' hg
      have HP : Hid (∀ u, Below wr.heap.size wr u → u.cell? ⟨g, off + i * 2, none⟩ = some (.int .i64 (a : Int)) ∧ u.cell? ⟨g, off + i * 2 + 1, none⟩ = some (.int .i64 (b : Int))) := Lib.hid fun u hu => ⟨(hu.cell hgw).trans p0, (hu.cell hgw).trans p1⟩
      clear hA2r
      go_upto_region 10 with fail
      go_cut [68] (fun v wx => v = .bool false ∧ ∃ nq, wr.drewN nq = wx)
      case first =>
        obtain ⟨az, haz⟩ : ∃ z : Int, (a : Int) = z := ⟨_, rfl⟩
        obtain ⟨bz, hbz⟩ : ∃ z : Int, (b : Int) = z := ⟨_, rfl⟩
        rw [haz] at p0
        rw [hbz] at p1
        have d0 : decide (az < 0) = false := by simp; omega
        have d1 : decide (az ≥ bz) = false := by simp; omega
        have d1' : decide (bz ≤ az) = false := by simp; omega
        have d2 : decide (bz > (l.length : Int)) = false := by simp; omega
        have d2' : decide ((l.length : Int) < bz) = false := by simp; omega
        have HAZ := Lib.hid haz
        clear haz hbz hal hbl hns
        rcases i with _ | j
        · rw [Nat.zero_mul, Nat.add_zero] at p0 p1
          go_big_quiet (fail)
          go_wp2_with fail
          go_meet
          exact ⟨rfl, _, rfl⟩
        · obtain ⟨a', b', hj, hab', hba⟩ := HGI.out.apart j rfl
          obtain ⟨g', off', hA', _, q0, q1⟩ := prC_at (L2.out.up HB.out) hj
          injection hA' with hA'
          injection hA' with hg' ho' _
          subst hg' ho'
          rw [hab'] at q1
          simp only at q1
          obtain ⟨bz', hbz'⟩ : ∃ z : Int, (b' : Int) = z := ⟨_, rfl⟩
          rw [hbz'] at q1
          have d3 : decide (bz' ≥ az) = false := by have := HAZ.out; simp; omega
          have d3' : decide (az ≤ bz') = false := by have := HAZ.out; simp; omega
          have d4 : decide (((j + 1 : Nat) : Int) > 0) = true := decide_eq_true (by omega)
          have d4' : decide (0 < ((j + 1 : Nat) : Int)) = true := decide_eq_true (by omega)
          clear q0 hab' hba hbz'
          go_big_quiet (fail)
          go_wp2_with fail
          go_meet
          exact ⟨rfl, _, rfl⟩
      case rest =>
        obtain ⟨rfl, nq, rfl⟩ := hcut
        obtain ⟨wz, hwz⟩ : ∃ u, wr.drewN nq = u := ⟨_, rfl⟩
        rw [hwz]
        have HBz : Hid (Below w2.heap.size w2 wz) := Lib.hid (by rw [← hwz]; exact below_drawn HB.out nq)
        obtain ⟨q0, q1⟩ := HP.out wz (by rw [← hwz]; exact below_drawn (Below.refl _ _) nq)
        clear p0 p1 hwz
        go_wp2_with fail
        go_loopw [6, 4] (fun kv nv wx => ∃ (k m : Nat), a ≤ k ∧ k ≤ b ∧ kv = .int .i64 k ∧ nv = .int .i64 m ∧ m + a = n + k ∧ m ≤ 500 ∧ wz = wx) (fun kv _ _ => b - (intOf kv).toNat)
        case atStart => exact ⟨a, n, by omega, by omega, rfl, rfl, by omega, by omega, rfl⟩
        case round =>
          obtain ⟨k, m, hak, hkb, rfl, rfl, hmn, hm5, rfl⟩ := hrel
          by_cases hk : k < b
          · have hkl : k < l.length := by omega
            obtain ⟨p, hp, _, hcx⟩ := (H2.out.up HBz.out).int hkl
            subst hp
            obtain ⟨x, hx⟩ : ∃ x, l[k] = x := ⟨_, rfl⟩
            have HX : Hid (isNeutral x = true) := Lib.hid (by have := HGI.out.around.all k hak hk; rw [getD_at hkl, hx] at this; exact this)
            rw [hx] at hcx
            have k0 : (0 : Int) ≤ (k : Int) := by omega
            have k1 : (k : Int) < (l.length : Int) := by omega
            have k2 : (k : Int) < (b : Int) := by omega
            clear hx
            go_wp2_with fail
            refine (rneutral_any x wz).mono ?_
            rintro e wq ⟨rfl, rfl⟩
            rw [HX.out]
            go_wp2_with fail
            go_roundw
            case rel => exact ⟨k + 1, m + 1, by omega, by omega, by go_num, by go_num, by omega, by omega, by first | rfl | trivial⟩
            case measure => simp [intOf]; omega
          · obtain rfl : k = b := by omega
            have k2 : ¬ (k : Int) < (k : Int) := by omega
            go_wp2_with fail
            go_roundw
            case rel =>
              refine ⟨i + 1, m, by omega, by go_num, rfl, by omega, Lib.hid ?_, HBz⟩
              have h1 := HGI.out.size
              have h2 := HN.out
              omega
            case measure => simp [intOf]; omega
    · obtain rfl : i = G.length := by omega
      have HNF : Hid (n = cntN l l.length) := Lib.hid (by have := HN.out; rw [List.take_length, HSZ.out] at this; exact this)
      go_wp2_with fail
      go_loopw [8, 7] (fun kv nv wx => ∃ (k m : Nat), k ≤ l.length ∧ kv = .int .i64 k ∧ nv = .int .i64 m ∧ Hid (m = cntN l k) ∧ wr = wx) (fun kv _ _ => l.length - (intOf kv).toNat)
      case atStart => exact ⟨0, 0, by omega, rfl, rfl, Lib.hid (by simp [cntN]), rfl⟩
      case round =>
        obtain ⟨k, m, hkl, rfl, rfl, HM, rfl⟩ := hrel
        have hm5 : m ≤ 500 := by
          have h1 := HM.out
          have : cntN l k ≤ (l.take k).length := List.countP_le_length
          rw [List.length_take] at this
          omega
        by_cases hk : k < l.length
        · obtain ⟨p, hp, _, hcx⟩ := (H2.out.up HB.out).int hk
          subst hp
          obtain ⟨x, hx⟩ : ∃ x, l[k] = x := ⟨_, rfl⟩
          have HC := Lib.hid (cntN_succ l hk)
          rw [getD_at hk, hx] at HC
          rw [hx] at hcx
          have k0 : (0 : Int) ≤ (k : Int) := by omega
          have k1 : (k : Int) < (l.length : Int) := by omega
          clear hx
          rcases hn : isNeutral x with _ | _
          · have HX := Lib.hid hn
            clear hn
            go_wp2_with fail
            refine (rneutral_any x wr).mono ?_
            rintro e wq ⟨rfl, rfl⟩
            rw [HX.out]
            go_wp2_with fail
            go_roundw
            case rel => exact ⟨k + 1, m, by omega, by go_num, rfl, Lib.hid (by rw [HC.out, HX.out, if_neg (by simp), Nat.add_zero, HM.out]), by first | rfl | trivial⟩
            case measure => simp [intOf]; omega
          · have HX := Lib.hid hn
            clear hn
            go_wp2_with fail
            refine (rneutral_any x wr).mono ?_
            rintro e wq ⟨rfl, rfl⟩
            rw [HX.out]
            go_wp2_with fail
            go_roundw
            case rel => exact ⟨k + 1, m + 1, by omega, by go_num, by go_num, Lib.hid (by rw [HC.out, HX.out, if_pos rfl, HM.out]), by first | rfl | trivial⟩
            case measure => simp [intOf]; omega
        · obtain rfl : k = l.length := by omega
          obtain rfl : n = m := by rw [HM.out]; exact HNF.out
          have hnn : ((n : Int) == (n : Int)) = true := by simp
          go_wp2
          go_ret
          exact ⟨rfl, below_then B2.out HB.out⟩

set_option maxHeartbeats 1000000 in
theorem walk_long (w : World) (A : Option Addr) (l : List Int) (c : Nat) (hl : l.length ≤ 9223372036854775807) (hh : 500 < l.length) :
    Calls Try.prog 6 #[.slice A l.length c] w fun e w' => e = .returned (.bool true) ∧ Below w.heap.size w w' := by
  go_enter Try.func6, Try.ntmps6
  go_wp2_with fail
  refine (nalive_any w).mono ?_
  rintro e w1 ⟨rfl, b1⟩
  have B1 := Lib.hid b1
  have D1 := Lib.hid b1
  clear b1
  go_wp2
  go_ret
  exact ⟨rfl, B1.out⟩

theorem walk (w : World) (A : Option Addr) (l : List Int) (c : Nat) (hc : l.length ≤ c) (hm : c ≤ maxLen) (h : Lies w w.heap.size A (ints .i64 l)) (_ : ∀ n ∈ l, (Lit.int .i64 n).wf = true) :
    Calls Try.prog 6 #[.slice A l.length c] w fun e w' => e = .returned (.bool true) ∧ Below w.heap.size w w' := by
  unfold maxLen at hm
  by_cases hh : 500 < l.length
  · exact walk_long w A l c (by omega) hh
  · exact walk_ok w A l c (by omega) h
-- WRAP
theorem spec : LawSpec Rows.neutralGroupsSpec 1 := ⟨rfl, fun H ds h => by
  match ds, h with
  | [d0], _ => rfl⟩
theorem params_ok : ∀ t ∈ Try.f6.params.toList, Try.prog.readableRec t = true ∧ t < Try.prog.types.size := by
  rw [Try.params6]
  intro t ht
  simp only [List.mem_cons, List.mem_nil_iff, or_false] at ht
  rcases ht with rfl
  all_goals exact ⟨by kernel_rfl, of_decide_eq_true (by kernel_rfl)⟩

theorem contract (H : Type) (enc : TypeId × Value → H) (W : World) (base : Nat) (args : Array Value) (ds gs : List (DataW H)) (before : List MemPlace)
    (hval : ∀ (j : Nat) t v, Try.f6.params[j]? = some t → args[j]? = some v → Value.okWide Try.prog W .any base t v)
    (hW : DataW.Whole enc Try.prog Try.f6.params.toList Rows.neutralGroupsSpec.vars false W args.toList ds gs before) :
    Calls Try.prog 6 args W fun e W' => ∃ v, e = .returned v ∧ Rows.neutralGroupsSpec.post enc Try.prog Try.f6 false true false false W args v W' := by
  have hW' := hW
  obtain ⟨p, q, hA0, hV, rfl, hfz, hnd⟩ := hW
  have hA : DataW.TrodAll enc Try.prog W 0 (fun _ => true) true Try.f6.params.toList args.toList ds p := hA0
  rw [Try.params6] at hA hval
  obtain ⟨v0, vs0, d0, ds0, p0, q0, hargs, rfl, rfl, h0, r0⟩ := trodAll_cons hA
  obtain ⟨rfl, rfl, rfl⟩ := trodAll_nil r0
  obtain rfl : args = #[v0] := by cases args; simp_all
  obtain ⟨A0, l0, c0, rfl, hc0, hm0, hl0, wf0⟩ := open_list Try.underlying22 Try.underlying3 (by kernel_rfl) (hval 0 22 v0 rfl rfl) h0
  exact (walk W A0 l0 c0 hc0 hm0 hl0 wf0).mono fun e W' ⟨he, hg⟩ => ⟨_, he, law_post spec (by rw [Try.params6]; rfl) (by kernel_rfl) params_ok (by kernel_rfl) Try.underlying4 hW' hg⟩

theorem own : ownKnob Try.prog.godebug = none := by kernel_rfl
set_option maxRecDepth 100000 in
theorem lifted (os : Os) (started : os.Started) (H : Type) (enc : TypeId × Value → H) :
    ReturnsInHanded {} Try.checked os 6 .any (Rows.neutralGroupsSpec.pre6 enc Try.prog Try.f6 Rows.neutralGroupsRow.domain false) (Rows.neutralGroupsSpec.post enc Try.prog Try.f6 false true false false) := by
  refine returnsInHanded_of_change (C := Try.checked) own started (by kernel_rfl) Try.func6
    (ChangeSpec.witness6 (enc := enc) (C := Try.checked) false ⟨#[], #[.slice none 0 0], []⟩ 8 (by kernel_rfl) (by kernel_rfl) (by kernel_rfl) (by kernel_rfl)) ?_
  intro W base args ds gs before hval hW _ _
  exact contract H enc W base args ds gs before hval hW
theorem said : Rows.NeutralGroupsSaid :=
  OpenClaim.holds_of_wide 6 Try.f6 rfl rfl rfl rfl rfl rfl rfl ⟨rfl, rfl, rfl, rfl, rfl⟩ rfl rfl rfl rfl rfl (by kernel_rfl) Try.func6 (by kernel_rfl)
    (of_decide_eq_true (by kernel_rfl)) (by unfold Func.isWrapper; first | (rw [if_pos (by decide +kernel)]; kernel_rfl) | (rw [if_neg (by decide +kernel)]; exact ⟨rfl, rfl⟩))
    (fun os started H enc _ => lifted os started H enc)
end Go.Proofs.Ytlibmbocfmjjgaa.lawGroups
