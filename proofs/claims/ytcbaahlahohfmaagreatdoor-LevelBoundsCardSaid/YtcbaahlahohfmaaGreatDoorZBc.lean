/- LevelBounds: for every list of numbers and every number, levels are from the base to 126, each as its class's must be; a text of L alone has level 0. Conditions: none. -/
import Derived.Test.YtcbaahlahohfmaaGreatDoorRows
import Derived.Test.YtcbaahlahohfmaaGreatDoorZB22
import Derived.Test.YtcbaahlahohfmaaGreatDoorZB23
namespace Go.Proofs.YtcbaahlahohfmaaGreatDoor.lawBounds
open Go.ChangeShapes Go.WideShapes Go.ChangeAt Go.RowKit Reckon
theorem max_le : ∀ (l : List Int) (a b : Int), a ≤ b → (∀ x ∈ l, x ≤ b) → l.foldl max a ≤ b
 | [], _, _, h, _ => h
 | y :: l, a, b, h, hl => by
  rw [List.foldl_cons]
  exact max_le l _ _ (Int.max_le.2 ⟨h, hl y (by simp)⟩) (fun x hx => hl x (List.mem_cons_of_mem _ hx))
theorem most_left {chars : List Int} {dir : Int} (hb : baseI chars dir = 0) (hall : ∀ c ∈ chars, cls c = 0) : mostI (levI chars dir) ≤ 0 := by
 have hat : ∀ x ∈ levI chars dir, x ≤ 0 := fun x hx => by
  obtain ⟨q, hq, rfl⟩ := List.mem_iff_getElem.1 hx
  rw [levI_length] at hq
  have := level_plain (.inl rfl) hall dir hq
  rw [getD_at (by rw [levI_length]; exact hq), hb] at this
  rw [this]
  decide
 cases hl : levI chars dir with
 | nil => decide
 | cons a l =>
  rw [hl] at hat
  exact max_le l a 0 (hat a (by simp)) (fun x hx => hat x (List.mem_cons_of_mem _ hx))
theorem all_next (l : List Int) (m : Int) {i : Nat} (h : i < l.length) : (l.take (i + 1)).all (fun x => x == m) = ((l.take i).all (fun x => x == m) && l[i] == m) := by
 rw [take_snoc l i h, List.all_append]; simp
set_option maxRecDepth 20000 in
set_option maxHeartbeats 8000000 in
theorem walk_ok (w : World) (hT : ClsTabs w) (A : Option Addr) (chars : List Int) (c : Nat) (hl : chars.length ≤ 200) (h : Lies w w.heap.size A (ints .i64 chars)) (dir : Int) :
 Calls Tryz.prog 4 #[.slice A chars.length c, .int .i64 dir] w fun e w' => e = .returned (.bool true) ∧ Below w.heap.size w w' := by
 have HT := Lib.hid hT
 clear hT
 have H := Lib.hid h
 obtain ⟨L, hL⟩ : ∃ L, levI chars dir = L := ⟨_, rfl⟩
 obtain ⟨C, hC⟩ : ∃ C, lclsI chars dir = C := ⟨_, rfl⟩
 obtain ⟨F, hF⟩ : ∃ F, clsL chars = F := ⟨_, rfl⟩
 obtain ⟨bs, hbs⟩ : ∃ b, baseI chars dir = b := ⟨_, rfl⟩
 have hb2 : bs = 0 ∨ bs = 1 := hbs ▸ base_two chars dir
 have HL := Lib.hid hL
 have HC := Lib.hid hC
 have HBS := Lib.hid hbs
 have HLL : Hid (L.length = chars.length) := Lib.hid (by rw [← hL, levI_length])
 have HCL : Hid (C.length = chars.length) := Lib.hid (by rw [← hC, lclsI_length])
 have HFL : Hid (F.length = chars.length) := Lib.hid (by rw [← hF, clsL_length])
 have HFA : Hid (∀ i (hi : i < chars.length) (hi' : i < F.length), F[i] = cls chars[i]) := Lib.hid fun i hi hi' => by subst hF; simp [clsL]
 have HAT : Hid (∀ q, q < chars.length → (bs ≤ L.getD q 0 ∧ L.getD q 0 ≤ 126) ∧ isOut (C.getD q 0) = isOut (F.getD q 0) ∧ (isOut (F.getD q 0) = false → Due bs (L.getD q 0) (C.getD q 0))) := Lib.hid fun q hq => by
  rw [← hL, ← hC, ← hF, ← hbs]; exact level_bounds chars dir hq
 have HLEFT : Hid (bs = 0 → F.all (fun x => x == 0) = true → mostI L ≤ 0) := Lib.hid fun hb0 hall => by
  rw [← hL]
  refine most_left (hbs.trans hb0) fun x hx => ?_
  rw [List.all_eq_true] at hall
  have := hall (cls x) (by rw [← hF]; exact List.mem_map.2 ⟨x, hx, rfl⟩)
  simpa using this
 have hb0 : decide (bs < 0) = false := by simp; omega
 have hb1 : decide (bs > 1) = false := by simp; omega
 have hb1' : decide (1 < bs) = false := by simp; omega
 have HB2 := Lib.hid hb2
 clear h hL hC hF hbs hb2
 go_enter Tryz.func4, Tryz.ntmps4
 go_wp2_with fail
 refine (lalive_any w HT.out).mono ?_
 rintro e w1 ⟨rfl, b1⟩
 have B1 := Lib.hid b1
 have D1 := Lib.hid b1
 clear b1
 have H1 := Lib.hid (H.out.up B1.out)
 go_wp2_with fail
 refine (lof_any A chars c dir w1 (HT.out.below B1.out HT.out.big) H1.out (by omega)).mono ?_
 rintro e w2 ⟨v2, rfl, o2, b2⟩
 rw [HL.out] at o2
 rw [HBS.out]
 obtain ⟨A2, c2, hv2, l2, -, -⟩ := o2.form
 rw [ints, List.length_map, HLL.out] at hv2
 subst hv2
 have B2 := Lib.hid (below_then B1.out b2)
 have H2 := Lib.hid (H1.out.up b2)
 have L2 := Lib.hid l2
 clear o2 l2 b2
 go_wp2_with fail
 refine (lcls_any A chars c dir w2 (HT.out.below B2.out HT.out.big) H2.out (by omega)).mono ?_
 rintro e w3 ⟨v3, rfl, o3, b3⟩
 rw [HC.out] at o3
 obtain ⟨A3, c3, hv3, l3, -, -⟩ := o3.form
 rw [ints, List.length_map, HCL.out] at hv3
 subst hv3
 have B3 := Lib.hid (below_then B2.out b3)
 have H3 := Lib.hid (H2.out.up b3)
 have L3 := Lib.hid (L2.out.up b3)
 have C3 := Lib.hid l3
 clear o3 l3 b3
 obtain ⟨z0, hz0⟩ : ∃ z : Bool, (bs == 0) = z := ⟨_, rfl⟩
 have HZ0 := Lib.hid hz0
 go_wp2_with fail
 clear hz0
 go_loopw [9, 8] (fun iv bv wr => ∃ (i : Nat) (q : Bool), i ≤ chars.length ∧ iv = .int .i64 i ∧ bv = .bool q ∧ Hid (q = (z0 && (F.take i).all (fun x => x == 0))) ∧ Hid (Below w3.heap.size w3 wr)) (fun iv _ _ => chars.length - (intOf iv).toNat)
 case atStart => exact ⟨0, z0, by omega, rfl, rfl, Lib.hid (by simp), Lib.hid (Below.refl _ _)⟩
 case round =>
  obtain ⟨i, q, hi, rfl, rfl, HQ, HB⟩ := hrel
  by_cases hlt : i < chars.length
  ·have hlo : i < L.length := by rw [HLL.out]; exact hlt
   have hco : i < C.length := by rw [HCL.out]; exact hlt
   have hfo : i < F.length := by rw [HFL.out]; exact hlt
   obtain ⟨p, hp, _, hch⟩ := (H3.out.up HB.out).int hlt
   obtain ⟨p2, hp2, _, hlv⟩ := (L3.out.up HB.out).int hlo
   obtain ⟨p3, hp3, _, hcc⟩ := (C3.out.up HB.out).int hco
   subst hp hp2 hp3
   obtain ⟨⟨h1, h2⟩, h3, h4⟩ := HAT.out i hlt
   rw [getD_at hlo] at h1 h2 h4
   rw [getD_at hco] at h3 h4
   rw [getD_at hfo] at h3 h4
   have hfa := HFA.out i hlt hfo
   have HAN := Lib.hid (all_next F 0 hfo)
   obtain ⟨x, hx⟩ : ∃ x, chars[i] = x := ⟨_, rfl⟩
   obtain ⟨m, hm⟩ : ∃ m : Nat, L[i] = (m : Int) := ⟨L[i].toNat, by have := HB2.out; omega⟩
   obtain ⟨y, hy⟩ : ∃ y, C[i] = y := ⟨_, rfl⟩
   obtain ⟨k, hk⟩ : ∃ k, cls x = k := ⟨_, rfl⟩
   rw [hx] at hch hfa
   rw [hk] at hfa
   rw [hm] at hlv h1 h2 h4
   rw [hy] at hcc h3 h4
   rw [hfa] at h3 h4 HAN
   have i0 : (0 : Int) ≤ (i : Int) := by omega
   have i1 : (i : Int) < (chars.length : Int) := by omega
   have d0 : decide ((m : Int) < bs) = false := by simp; omega
   have d1 : decide ((m : Int) > 126) = false := by simp; omega
   have d1' : decide ((126 : Int) < (m : Int)) = false := by simp; omega
   have HK := Lib.hid hk
   have HD := Lib.hid h4
   clear hx hy hk hfa hm h1 h2 h4 hlo hco hfo
   obtain ⟨ko, hko⟩ : ∃ z : Bool, (k == 0) = z := ⟨_, rfl⟩
   have HKO := Lib.hid hko
   obtain ⟨q2, hq2⟩ : ∃ q2 : Bool, (q && ko) = q2 := ⟨_, rfl⟩
   have HQ2 : Hid (q2 = (z0 && (F.take (i + 1)).all (fun x => x == 0))) := Lib.hid (by rw [HAN.out, ← Bool.and_assoc, ← HQ.out, hko, hq2])
   clear HAN
   go_upto_region 14 with fail
   refine (rof_any x wr).mono ?_
   rintro e wq ⟨rfl, rfl⟩
   rw [HK.out]
   go_upto_region 14 with fail
   go_cut [8] (fun v wx => v = .bool q2 ∧ wr = wx)
   case first =>
    cases q
    ·have e : Hid (false = q2) := Lib.hid (by rw [← hq2]; rfl)
     clear hq2
     go_wp2_with fail
     go_meet
     exact ⟨by rw [e.out], rfl⟩
    ·have e : Hid (ko = q2) := Lib.hid (by rw [← hq2, Bool.true_and])
     clear hq2
     go_wp2_with fail
     go_meet
     exact ⟨by rw [e.out], rfl⟩
   case rest =>
    obtain ⟨rfl, rfl⟩ := hcut
    clear hq2 hko
    obtain ⟨o, ho⟩ : ∃ o, isOut k = o := ⟨_, rfl⟩
    rw [ho] at h3 HD
    have HOK : Hid (∀ u, Calls Tryz.prog 19 #[.int .i64 k] u fun e w' => e = .returned (.bool o) ∧ u = w') := Lib.hid fun u => ho ▸ rout_any k u
    have HOY : Hid (∀ u, Calls Tryz.prog 19 #[.int .i64 y] u fun e w' => e = .returned (.bool o) ∧ u = w') := Lib.hid fun u => h3 ▸ rout_any y u
    clear ho h3
    go_upto_region 17 with fail
    go_quiet ((first | (go_at_call 19; first | with_reducible exact quiet_same (HOK.out _) | with_reducible exact quiet_same (HOY.out _))))
    go_upto_region 17 with fail
    obtain ⟨w4, hw4⟩ : ∃ u, wr.drewN nq = u := ⟨_, rfl⟩
    rw [hw4]
    have hcc4 : w4.cell? (p3.add i) = some (.int .i64 y) := by rw [← hw4]; exact hcc
    have hlv4 : w4.cell? (p2.add i) = some (.int .i64 (m : Int)) := by rw [← hw4]; exact hlv
    have HB4 : Hid (Below w3.heap.size w3 w4) := Lib.hid (by rw [← hw4]; exact below_drawn HB.out _)
    go_cut [168] (fun v wx => v = .bool false ∧ w4 = wx)
    case first =>
     have hx2 : (Instr.indexAt 22 (.slice (some p2) chars.length c2) (.int .i64 i)).run Tryz.prog w4 = .ok (.pointer (some (p2.add i))) w4 := by go_simp
     have hx3 : (Instr.indexAt 22 (.slice (some p3) chars.length c3) (.int .i64 i)).run Tryz.prog w4 = .ok (.pointer (some (p3.add i))) w4 := by go_simp
     have hl2 : (Instr.loadAt 3 (.pointer (some (p2.add i)))).run Tryz.prog w4 = .ok (.int .i64 m) w4 := by go_simp
     have hl3 : (Instr.loadAt 3 (.pointer (some (p3.add i)))).run Tryz.prog w4 = .ok (.int .i64 y) w4 := by go_simp
     have hfn : ∃ fn, Tryz.prog.funcs[19]? = some fn ∧ (fn.name == "runtime.NumGoroutine") = false ∧ fn.body.isNone = false := ⟨_, Tryz.func19, by kernel_rfl, by kernel_rfl⟩
     have hou := HOK.out w4
     have hgd : ∀ n : Int, (∀ X Y, (eqGuard .rem 3 X Y (.int .i64 n) (.int .i64 2)).run Tryz.prog w4 = .ok () w4) := fun n X Y => by simp [eqGuard]
     have hrm : ∀ n : Int, (binOp .rem 3 (.int .i64 n) (.int .i64 2)).run Tryz.prog w4 = .ok (.int .i64 (Int.tmod n 2)) w4 := fun n => by go_simp
     cases o
     ·have hdue := HD.out rfl
      rcases hdue.fin with rfl | rfl | rfl | rfl
      ·have hm2 : Int.tmod (m : Int) 2 = 0 := (Int.tmod_eq_emod_of_nonneg (by omega)).trans (hdue.left rfl)
       have hmm := hrm m
       rw [hm2] at hmm
       refine wp_region_lit (Tests.runT_ok (env := [.slice (some p2) chars.length c2, .slice (some p3) chars.length c3, .int .i64 i, .pointer (some (p2.add i)), .pointer (some (p3.add i)), .int .i64 m, .int .i64 k]) (fs := [.idx 22 (.atom 0) (.atom 2) (.atom 3), .idx 22 (.atom 1) (.atom 2) (.atom 4), .load 3 (.atom 3) (.atom 5), .load 3 (.atom 4) (.lit 0), .bin .rem 3 (.atom 5) (.lit 2) (.lit 0), .call 19 [.atom 6] (.boo false)]) (s := 86) (st := [(5, .atom 0), (7, .atom 1), (9, .atom 2), (10, .atom 6)]) ?_ (vs := [.atom 6, .boo false, .boo true, .boo true, .atom 1, .atom 2, .atom 4, .lit 0, .boo true, .boo true, .atom 0, .atom 2, .atom 3, .atom 5, .lit 0, .boo false, .boo false, .boo false, .atom 1, .atom 2, .atom 4, .lit 0, .boo false, .boo false, .nil, .nil, .nil, .nil, .nil, .nil, .boo false, .boo false, .boo false, .atom 1, .atom 2, .atom 4, .lit 0, .boo false, .boo false, .nil, .nil, .nil, .nil, .nil, .boo false, .boo false, .nil, .nil, .nil, .nil, .nil, .boo false, .boo false, .nil, .nil, .nil, .nil, .nil, .boo false, .boo false, .boo false, .atom 1, .atom 2, .atom 4, .lit 0, .boo false, .boo false, .atom 1, .atom 2, .atom 4, .lit 0, .boo false, .boo false, .boo false, .nil, .nil, .nil, .nil, .nil, .nil, .boo false, .boo false, .boo false]) (by kernel_rfl) ?_ (by simp) (by simp) ?_)
       ·intro f hf
        simp only [List.mem_cons, List.not_mem_nil, or_false] at hf
        rcases hf with rfl | rfl | rfl | rfl | rfl | rfl
        ·exact hx2
        ·exact hx3
        ·exact hl2
        ·exact hl3
        ·exact ⟨hgd _, hmm⟩
        ·exact ⟨hfn, hou⟩
       ·intro q hq
        simp only [List.mem_cons, List.not_mem_nil, or_false] at hq
        rcases hq with rfl | rfl | rfl | rfl <;> kernel_rfl
       simp only [Tests.laid, List.take_succ_cons, List.take_zero, List.drop_succ_cons, List.drop_zero, List.map_cons, List.map_nil, List.length_cons, List.length_nil, Tests.TV.val, List.getD_cons_zero, List.getD_cons_succ, List.cons_append, List.nil_append, Nat.reduceAdd]
       go_wp2_with fail
       go_meet
       exact ⟨rfl, rfl⟩
      ·have hm2 : Int.tmod (m : Int) 2 = 1 := (Int.tmod_eq_emod_of_nonneg (by omega)).trans (hdue.right rfl)
       have hmm := hrm m
       rw [hm2] at hmm
       refine wp_region_lit (Tests.runT_ok (env := [.slice (some p2) chars.length c2, .slice (some p3) chars.length c3, .int .i64 i, .pointer (some (p2.add i)), .pointer (some (p3.add i)), .int .i64 m, .int .i64 k]) (fs := [.idx 22 (.atom 0) (.atom 2) (.atom 3), .idx 22 (.atom 1) (.atom 2) (.atom 4), .load 3 (.atom 3) (.atom 5), .load 3 (.atom 4) (.lit 1), .bin .rem 3 (.atom 5) (.lit 2) (.lit 1), .call 19 [.atom 6] (.boo false)]) (s := 86) (st := [(5, .atom 0), (7, .atom 1), (9, .atom 2), (10, .atom 6)]) ?_ (vs := [.atom 6, .boo false, .boo true, .boo true, .atom 1, .atom 2, .atom 4, .lit 1, .boo false, .boo false, .nil, .nil, .nil, .nil, .nil, .nil, .boo false, .boo false, .atom 1, .atom 2, .atom 4, .lit 1, .boo true, .boo true, .atom 0, .atom 2, .atom 3, .atom 5, .lit 1, .boo false, .boo false, .boo false, .boo false, .atom 1, .atom 2, .atom 4, .lit 1, .boo true, .boo true, .atom 1, .atom 2, .atom 4, .lit 1, .boo false, .boo false, .boo false, .nil, .nil, .nil, .nil, .nil, .boo false, .boo false, .nil, .nil, .nil, .nil, .nil, .boo false, .boo false, .boo false, .atom 1, .atom 2, .atom 4, .lit 1, .boo false, .boo false, .atom 1, .atom 2, .atom 4, .lit 1, .boo false, .boo false, .boo false, .nil, .nil, .nil, .nil, .nil, .nil, .boo false, .boo false, .boo false]) (by kernel_rfl) ?_ (by simp) (by simp) ?_)
       ·intro f hf
        simp only [List.mem_cons, List.not_mem_nil, or_false] at hf
        rcases hf with rfl | rfl | rfl | rfl | rfl | rfl
        ·exact hx2
        ·exact hx3
        ·exact hl2
        ·exact hl3
        ·exact ⟨hgd _, hmm⟩
        ·exact ⟨hfn, hou⟩
       ·intro q hq
        simp only [List.mem_cons, List.not_mem_nil, or_false] at hq
        rcases hq with rfl | rfl | rfl | rfl <;> kernel_rfl
       simp only [Tests.laid, List.take_succ_cons, List.take_zero, List.drop_succ_cons, List.drop_zero, List.map_cons, List.map_nil, List.length_cons, List.length_nil, Tests.TV.val, List.getD_cons_zero, List.getD_cons_succ, List.cons_append, List.nil_append, Nat.reduceAdd]
       go_wp2_with fail
       go_meet
       exact ⟨rfl, rfl⟩
      ·have hm2 : Int.tmod (m : Int) 2 = 0 := (Int.tmod_eq_emod_of_nonneg (by omega)).trans (hdue.num (.inl rfl))
       have hmm := hrm m
       rw [hm2] at hmm
       refine wp_region_lit (Tests.runT_ok (env := [.slice (some p2) chars.length c2, .slice (some p3) chars.length c3, .int .i64 i, .pointer (some (p2.add i)), .pointer (some (p3.add i)), .int .i64 m, .int .i64 k]) (fs := [.idx 22 (.atom 0) (.atom 2) (.atom 3), .idx 22 (.atom 1) (.atom 2) (.atom 4), .load 3 (.atom 3) (.atom 5), .load 3 (.atom 4) (.lit 3), .bin .rem 3 (.atom 5) (.lit 2) (.lit 0), .call 19 [.atom 6] (.boo false)]) (s := 86) (st := [(5, .atom 0), (7, .atom 1), (9, .atom 2), (10, .atom 6)]) ?_ (vs := [.atom 6, .boo false, .boo true, .boo true, .atom 1, .atom 2, .atom 4, .lit 3, .boo false, .boo false, .nil, .nil, .nil, .nil, .nil, .nil, .boo false, .boo false, .atom 1, .atom 2, .atom 4, .lit 3, .boo false, .boo false, .nil, .nil, .nil, .nil, .nil, .nil, .boo false, .boo false, .boo false, .atom 1, .atom 2, .atom 4, .lit 3, .boo true, .boo true, .atom 1, .atom 2, .atom 4, .lit 3, .boo true, .boo true, .boo true, .atom 1, .atom 2, .atom 4, .lit 3, .boo false, .boo false, .boo false, .nil, .nil, .nil, .nil, .nil, .boo false, .boo false, .boo false, .atom 1, .atom 2, .atom 4, .lit 3, .boo true, .boo true, .nil, .nil, .nil, .nil, .nil, .boo true, .boo true, .atom 0, .atom 2, .atom 3, .atom 5, .lit 0, .boo false, .boo false, .boo false, .boo false]) (by kernel_rfl) ?_ (by simp) (by simp) ?_)
       ·intro f hf
        simp only [List.mem_cons, List.not_mem_nil, or_false] at hf
        rcases hf with rfl | rfl | rfl | rfl | rfl | rfl
        ·exact hx2
        ·exact hx3
        ·exact hl2
        ·exact hl3
        ·exact ⟨hgd _, hmm⟩
        ·exact ⟨hfn, hou⟩
       ·intro q hq
        simp only [List.mem_cons, List.not_mem_nil, or_false] at hq
        rcases hq with rfl | rfl | rfl | rfl <;> kernel_rfl
       simp only [Tests.laid, List.take_succ_cons, List.take_zero, List.drop_succ_cons, List.drop_zero, List.map_cons, List.map_nil, List.length_cons, List.length_nil, Tests.TV.val, List.getD_cons_zero, List.getD_cons_succ, List.cons_append, List.nil_append, Nat.reduceAdd]
       go_wp2_with fail
       go_meet
       exact ⟨rfl, rfl⟩
      ·have hm2 : Int.tmod (m : Int) 2 = 0 := (Int.tmod_eq_emod_of_nonneg (by omega)).trans (hdue.num (.inr rfl))
       have hmm := hrm m
       rw [hm2] at hmm
       refine wp_region_lit (Tests.runT_ok (env := [.slice (some p2) chars.length c2, .slice (some p3) chars.length c3, .int .i64 i, .pointer (some (p2.add i)), .pointer (some (p3.add i)), .int .i64 m, .int .i64 k]) (fs := [.idx 22 (.atom 0) (.atom 2) (.atom 3), .idx 22 (.atom 1) (.atom 2) (.atom 4), .load 3 (.atom 3) (.atom 5), .load 3 (.atom 4) (.lit 6), .bin .rem 3 (.atom 5) (.lit 2) (.lit 0), .call 19 [.atom 6] (.boo false)]) (s := 86) (st := [(5, .atom 0), (7, .atom 1), (9, .atom 2), (10, .atom 6)]) ?_ (vs := [.atom 6, .boo false, .boo true, .boo true, .atom 1, .atom 2, .atom 4, .lit 6, .boo false, .boo false, .nil, .nil, .nil, .nil, .nil, .nil, .boo false, .boo false, .atom 1, .atom 2, .atom 4, .lit 6, .boo false, .boo false, .nil, .nil, .nil, .nil, .nil, .nil, .boo false, .boo false, .boo false, .atom 1, .atom 2, .atom 4, .lit 6, .boo true, .boo true, .atom 1, .atom 2, .atom 4, .lit 6, .boo true, .boo true, .boo true, .atom 1, .atom 2, .atom 4, .lit 6, .boo true, .boo true, .boo true, .atom 1, .atom 2, .atom 4, .lit 6, .boo false, .boo false, .boo false, .boo false, .atom 1, .atom 2, .atom 4, .lit 6, .boo false, .boo false, .atom 1, .atom 2, .atom 4, .lit 6, .boo true, .boo true, .boo true, .atom 0, .atom 2, .atom 3, .atom 5, .lit 0, .boo false, .boo false, .boo false, .boo false]) (by kernel_rfl) ?_ (by simp) (by simp) ?_)
       ·intro f hf
        simp only [List.mem_cons, List.not_mem_nil, or_false] at hf
        rcases hf with rfl | rfl | rfl | rfl | rfl | rfl
        ·exact hx2
        ·exact hx3
        ·exact hl2
        ·exact hl3
        ·exact ⟨hgd _, hmm⟩
        ·exact ⟨hfn, hou⟩
       ·intro q hq
        simp only [List.mem_cons, List.not_mem_nil, or_false] at hq
        rcases hq with rfl | rfl | rfl | rfl <;> kernel_rfl
       simp only [Tests.laid, List.take_succ_cons, List.take_zero, List.drop_succ_cons, List.drop_zero, List.map_cons, List.map_nil, List.length_cons, List.length_nil, Tests.TV.val, List.getD_cons_zero, List.getD_cons_succ, List.cons_append, List.nil_append, Nat.reduceAdd]
       go_wp2_with fail
       go_meet
       exact ⟨rfl, rfl⟩
     ·refine wp_region_lit (Tests.runT_ok (env := [.slice (some p2) chars.length c2, .slice (some p3) chars.length c3, .int .i64 i, .pointer (some (p2.add i)), .pointer (some (p3.add i)), .int .i64 m, .int .i64 k, .int .i64 y]) (fs := [.idx 22 (.atom 0) (.atom 2) (.atom 3), .idx 22 (.atom 1) (.atom 2) (.atom 4), .load 3 (.atom 3) (.atom 5), .load 3 (.atom 4) (.atom 7), .call 19 [.atom 6] (.boo true)]) (s := 86) (st := [(5, .atom 0), (7, .atom 1), (9, .atom 2), (10, .atom 6)]) ?_ (vs := [.atom 6, .boo true, .boo false, .boo false, .nil, .nil, .nil, .nil, .nil, .nil, .nil, .nil, .nil, .nil, .nil, .nil, .nil, .nil, .nil, .nil, .nil, .nil, .nil, .nil, .nil, .nil, .nil, .nil, .nil, .nil, .nil, .nil, .nil, .nil, .nil, .nil, .nil, .nil, .nil, .nil, .nil, .nil, .nil, .nil, .nil, .nil, .nil, .nil, .nil, .nil, .nil, .nil, .nil, .nil, .nil, .nil, .nil, .nil, .nil, .nil, .nil, .nil, .nil, .nil, .nil, .nil, .nil, .nil, .nil, .nil, .nil, .nil, .nil, .nil, .nil, .nil, .nil, .nil, .nil, .nil, .nil, .nil, .boo false]) (by kernel_rfl) ?_ (by simp) (by simp) ?_)
      ·intro f hf
       simp only [List.mem_cons, List.not_mem_nil, or_false] at hf
       rcases hf with rfl | rfl | rfl | rfl | rfl
       ·exact hx2
       ·exact hx3
       ·exact hl2
       ·exact hl3
       ·exact ⟨hfn, hou⟩
      ·intro q hq
       simp only [List.mem_cons, List.not_mem_nil, or_false] at hq
       rcases hq with rfl | rfl | rfl | rfl <;> kernel_rfl
      simp only [Tests.laid, List.take_succ_cons, List.take_zero, List.drop_succ_cons, List.drop_zero, List.map_cons, List.map_nil, List.length_cons, List.length_nil, Tests.TV.val, List.getD_cons_zero, List.getD_cons_succ, List.cons_append, List.nil_append, Nat.reduceAdd]
      go_wp2_with fail
      go_meet
      exact ⟨rfl, rfl⟩
    case rest =>
     obtain ⟨rfl, rfl⟩ := hcut
     go_wp2_with fail
     go_roundw
     case rel => exact ⟨i + 1, q2, by omega, by go_num, rfl, HQ2, HB4⟩
     case measure => simp [intOf]; omega
  ·obtain rfl : i = chars.length := by omega
   have HQF : Hid (q = (z0 && F.all (fun x => x == 0))) := Lib.hid (by have := HQ.out; rw [List.take_of_length_le (by rw [HFL.out]; exact Nat.le_refl _)] at this; exact this)
   cases q
   ·go_wp2
    go_ret
    exact ⟨rfl, below_then B3.out HB.out⟩
   ·obtain ⟨mm, hmm⟩ : ∃ mm, mostI L = mm := ⟨_, rfl⟩
    have hle : mm ≤ 0 := by
     have h1 := HQF.out
     have h2 : z0 = true ∧ F.all (fun x => x == 0) = true := by
      rw [eq_comm, Bool.and_eq_true] at h1; exact h1
     rw [← hmm]
     exact HLEFT.out (by have := HZ0.out; rw [h2.1] at this; simpa using this) h2.2
    have HMO : Hid (Calls Tryz.prog 14 #[.slice A2 chars.length c2] wr fun ed w' => ed = .returned (.int .i64 mm) ∧ Below wr.heap.size wr w') := Lib.hid (by
     have := lmost_any A2 L c2 wr (L3.out.up HB.out) (by rw [HLL.out]; omega)
     rw [HLL.out, hmm] at this
     exact this)
    have hd : decide (mm ≤ 0) = true := decide_eq_true hle
    clear hmm hle
    go_wp2_with fail
    refine HMO.out.mono ?_
    rintro e w5 ⟨rfl, b5⟩
    have B5 := Lib.hid (below_then (below_then B3.out HB.out) b5)
    clear b5
    go_wp2
    go_ret
    exact ⟨rfl, B5.out⟩
set_option maxRecDepth 20000 in
set_option maxHeartbeats 1000000 in
theorem walk_long (w : World) (hT : ClsTabs w) (A : Option Addr) (chars : List Int) (c : Nat) (dir : Int) (hl : chars.length ≤ 9223372036854775807) (hh : 200 < chars.length) :
 Calls Tryz.prog 4 #[.slice A chars.length c, .int .i64 dir] w fun e w' => e = .returned (.bool true) ∧ Below w.heap.size w w' := by
 have HT := Lib.hid hT
 clear hT
 go_enter Tryz.func4, Tryz.ntmps4
 go_wp2_with fail
 refine (lalive_any w HT.out).mono ?_
 rintro e w1 ⟨rfl, b1⟩
 have B1 := Lib.hid b1
 have D1 := Lib.hid b1
 clear b1
 go_wp2
 go_ret
 exact ⟨rfl, B1.out⟩
theorem walk (w : World) (hT : ClsTabs w) (A : Option Addr) (chars : List Int) (c : Nat) (hc : chars.length ≤ c) (hm : c ≤ maxLen) (h : Lies w w.heap.size A (ints .i64 chars)) (_ : ∀ n ∈ chars, (Lit.int .i64 n).wf = true) (dir : Int) (_ : (Lit.int .i64 dir).wf = true) :
 Calls Tryz.prog 4 #[.slice A chars.length c, .int .i64 dir] w fun e w' => e = .returned (.bool true) ∧ Below w.heap.size w w' := by
 unfold maxLen at hm
 by_cases hh : 200 < chars.length
 ·exact walk_long w hT A chars c dir (by omega) hh
 ·exact walk_ok w hT A chars c (by omega) h dir
-- WRAP
theorem spec : LawSpec Rows.levelBoundsSpec 2 := ⟨rfl, fun H ds h => by
 match ds, h with
 | [d0, d1], _ => rfl⟩
theorem params_ok : ∀ t ∈ Tryz.f4.params.toList, Tryz.prog.readableRec t = true ∧ t < Tryz.prog.types.size := by
 rw [Tryz.params4]
 intro t ht
 simp only [List.mem_cons, List.mem_nil_iff, or_false] at ht
 rcases ht with rfl | rfl
 all_goals exact ⟨by kernel_rfl, of_decide_eq_true (by kernel_rfl)⟩
set_option maxRecDepth 100000 in
theorem contract (H : Type) (enc : TypeId × Value → H) (W : World) (base : Nat) (args : Array Value) (ds gs : List (DataW H)) (before : List MemPlace)
 (hval : ∀ (j : Nat) t v, Tryz.f4.params[j]? = some t → args[j]? = some v → Value.okWide Tryz.prog W .any base t v)
 (hW : DataW.Whole enc Tryz.prog Tryz.f4.params.toList Rows.levelBoundsSpec.vars false W args.toList ds gs before) (hL : laidMetH Tryz.prog laidList W) :
 Calls Tryz.prog 4 args W fun e W' => ∃ v, e = .returned v ∧ Rows.levelBoundsSpec.post enc Tryz.prog Tryz.f4 false true false false W args v W' := by
 have hW' := hW
 obtain ⟨p, q, hA0, hV, rfl, hfz, hnd⟩ := hW
 have hA : DataW.TrodAll enc Tryz.prog W 0 (fun _ => true) true Tryz.f4.params.toList args.toList ds p := hA0
 rw [Tryz.params4] at hA hval
 obtain ⟨v0, vs0, d0, ds0, p0, q0, hargs, rfl, rfl, h0, r0⟩ := trodAll_cons hA
 obtain ⟨v1, vs1, d1, ds1, p1, q1, rfl, rfl, rfl, h1, r1⟩ := trodAll_cons r0
 obtain ⟨rfl, rfl, rfl⟩ := trodAll_nil r1
 obtain rfl : args = #[v0, v1] := by cases args; simp_all
 obtain ⟨A0, l0, c0, rfl, hc0, hm0, hl0, wf0⟩ := open_list Tryz.underlying22 Tryz.underlying3 (by kernel_rfl) (hval 0 22 v0 rfl rfl) h0
 obtain ⟨a1, rfl, rfl, rfl, w1⟩ := open_int Tryz.underlying3 (hval 1 3 v1 rfl rfl) h1
 exact (walk W (tabs_of hL) A0 l0 c0 hc0 hm0 hl0 wf0 a1 w1).mono fun e W' ⟨he, hg⟩ => ⟨_, he, law_post spec (by rw [Tryz.params4]; rfl) (by kernel_rfl) params_ok (by kernel_rfl) Tryz.underlying4 hW' hg⟩
set_option maxRecDepth 100000 in
theorem laid_met (os : Os) : laidMet Tryz.prog Rows.levelBoundsRow.laid ((laidWorld os #[.slice none 0 0, .int .i64 0]).forCall (fun _ _ => 0) ⟨#[], #[.slice none 0 0, .int .i64 0], []⟩).memory :=
 laidMet_of_run' 8 (by kernel_rfl) (by kernel_rfl)
set_option maxRecDepth 100000 in
theorem reads (os : Os) {H : Type} (enc : TypeId × Value → H) : ∃ places, DataW.whole enc Tryz.prog ((laidWorld os #[.slice none 0 0, .int .i64 0]).forCall (fun _ _ => 0) ⟨#[], #[.slice none 0 0, .int .i64 0], []⟩).memory Tryz.f4.params.toList Rows.levelBoundsSpec.vars false #[.slice none 0 0, .int .i64 0].toList 8 = some ([.nil, .lit (.int .i64 0)], [], places) :=
 ⟨[], by kernel_rfl⟩
set_option maxRecDepth 100000 in
theorem lifted (os : Os) (started : os.Started) (H : Type) (enc : TypeId × Value → H) (F : Stop.Interp) :
 ReturnsInHanded {} Tryz.checked os 4 .any ((OpenSpec.ofChange Rows.levelBoundsSpec).preRow enc Tryz.prog Tryz.f4 Rows.levelBoundsRow.domain false Rows.levelBoundsRow.laid) (((OpenSpec.ofChange Rows.levelBoundsSpec).at F).post enc Tryz.prog Tryz.f4 false true false false) := by
 obtain ⟨places, hx⟩ := reads os enc
 refine returnsInHanded_of_row (C := Tryz.checked) (s := OpenSpec.ofChange Rows.levelBoundsSpec) own started (by kernel_rfl) Tryz.func4
  (witness_row_at (enc := enc) (C := Tryz.checked) false (laidWorld os #[.slice none 0 0, .int .i64 0]) #[.slice none 0 0, .int .i64 0] rfl (by kernel_rfl) (by kernel_rfl) (by kernel_rfl)
   (OpenSpec.preRow_of_cond 8 hx (by kernel_rfl) (fun k hk => by cases hk) (by kernel_rfl) (laid_met os))) ?_
 intro W base args ds gs before hval hW _ _ _ hL _ _
 exact contract H enc W base args ds gs before hval hW hL
set_option maxRecDepth 100000 in
theorem said : Rows.LevelBoundsSaid :=
 OpenClaim.holds_of_cond 4 Tryz.f4 rfl rfl rfl rfl rfl rfl rfl ⟨rfl, rfl, rfl, rfl, rfl⟩ rfl rfl rfl rfl rfl (by kernel_rfl) Tryz.func4 (by kernel_rfl)
  (of_decide_eq_true (by kernel_rfl)) (by unfold Func.isWrapper; first | (rw [if_pos (by decide +kernel)]; kernel_rfl) | (rw [if_neg (by decide +kernel)]; exact ⟨rfl, rfl⟩))
  (fun os started H enc _ F => by rw [OpenClaim.pre_eq_preRow]; exact lifted os started H enc F)
set_option maxRecDepth 100000 in
theorem card : Rows.LevelBoundsCardSaid :=
 Claim7.holds_tied_plain_at .later [] _ _ _ _ said (fun _ h => by cases h) (by kernel_rfl) (fun _ h => by cases h) levelBounds_row_tie rfl ⟨rfl, rfl⟩ (by kernel_rfl) rfl
  (plainOf "ductus/ductuslaw12.LevelBounds" 4 Tryz.f4 (by kernel_rfl) Tryz.func4 (by kernel_rfl) (fun j t ht => by
   rw [Tryz.params4] at ht
   have hm := Array.mem_of_getElem? ht
   simp only [List.mem_toArray, List.mem_cons, List.mem_nil_iff, or_false] at hm
   rcases hm with rfl | rfl
   all_goals (show Tryz.prog.wantsStandIn _ = false; kernel_rfl))) (by kernel_rfl)
end Go.Proofs.YtcbaahlahohfmaaGreatDoor.lawBounds
