/- Shared texts, shaken for one claim. -/
import Derived.Stop.LaidErr
import Derived.Test.YtoeocodfndbebaaGreatDoorZA5
import Derived.Test.YtoeocodfndbebaaGreatDoorZA10
import Derived.Test.YtoeocodfndbebaaGreatDoorZA12
import Derived.Test.YtoeocodfndbebaaGreatDoorZA16
import Derived.Test.YtoeocodfndbebaaGreatDoorZA17
import Derived.Test.YtoeocodfndbebaaGreatDoorZA18
import Derived.Test.YtoeocodfndbebaaGreatDoorZA19
import Derived.Test.YtoeocodfndbebaaGreatDoorZA22
namespace Go.Proofs.YtoeocodfndbebaaGreatDoor
open Go.RowKit
set_option maxRecDepth 20000 in
set_option maxHeartbeats 2000000 in
theorem parse_below (w : World) (A : Option Addr) (l : List Int) (c : Nat) (f : Int) (hf : f < 0) : Calls Tryz.prog 20 #[.slice A l.length c, .int .i64 f] w (Wronged w 0 11) := by
 have d0 : decide (f < 0) = true := decide_eq_true hf
 have X0 : Hid (Box (w.alloc (.cells #[.int .i64 0, .slice none 0 0, .int .i64 0, .int .i64 0, .slice none 0 0] 25)) w.heap.size ndZero 25) := Lib.hid (Box.new w _ _)
 clear hf
 go_enter Tryz.func20, Tryz.ntmps20
 go_wp2_with (first
  | (refine store_nd _ _ _ w.heap.size ndZero ndZero rfl rfl rfl rfl rfl X0.out rfl rfl (by simp [ndZero, Value.oneCell']) ?_; intro w1 x1 g1; have X1 := Lib.hid x1; have G1 := Lib.hid (grown_two (grown_new w _ none) g1 (Nat.le_refl _)); clear x1 g1)
  | fail)
 (try simp only [Exit.inBlock, Exit.then])
 exact bodyPost_ret (results_box2 rfl _ _ w.heap.size 25 _ _ rfl X1.out Tryz.underlying25 rfl (ndInfo rfl)) rfl ⟨rfl, below_row_none G1.out (Nat.le_refl _)⟩
set_option maxRecDepth 20000 in
set_option maxHeartbeats 8000000 in
theorem parse_wrong (w : World) (A : Option Addr) (l : List Int) (c : Nat) (f : Int) (hf : 0 ≤ f ∧ f ≤ 7) (h : Lies w w.heap.size A (ints .i64 l)) (hc : l.length ≤ c) (p : Nat) (x : Int) (hx : x ≠ 0) (ho : ofT l = .error (p, x)) :
 Calls Tryz.prog 20 #[.slice A l.length c, .int .i64 f] w (Wronged w p x) := by
 have d0 : decide (f < 0) = false := decide_eq_false (by omega)
 have d1 : decide (7 < f) = false := decide_eq_false (by omega)
 have d2 : decide (f > 7) = false := decide_eq_false (by omega)
 have d3 : (x != 0) = true := by simpa using hx
 obtain ⟨w0, hw0⟩ : ∃ u, w.alloc (.cells #[.int .i64 0, .slice none 0 0, .int .i64 0, .int .i64 0, .slice none 0 0] 25) = u := ⟨_, rfl⟩
 have G0 : Hid (w.grownBy w0 none) := Lib.hid (hw0 ▸ grown_new w _ none)
 have X0 : Hid (Box w0 w.heap.size ndZero 25) := Lib.hid (hw0 ▸ Box.new w _ _)
 have HW0 := Lib.hid hw0
 have HC := Lib.hid (tkof_any w0 c A l (h.up (below_row_none G0.out (Nat.le_refl _))) hc)
 rw [ho] at HC
 have d4 : (x == 0) = false := by simpa using hx
 clear hf hx hw0 h ho
 go_enter Tryz.func20, Tryz.ntmps20
 go_wp2_with fail
 rw [HW0.out]
 refine HC.out.mono ?_
 rintro e w2 ⟨rfl, b2⟩
 have X2 := Lib.hid (X0.out.kept (grown_of_below b2 none) (by simp))
 have G2 := Lib.hid (G0.out.trans (grown_of_below b2 none))
 clear b2
 go_wp2_with (first
  | (refine store_nd w2 _ _ w.heap.size ndZero ndZero rfl rfl rfl rfl rfl X2.out rfl rfl (by simp [ndZero, Value.oneCell']) ?_; intro w3 x3 g3; have X3 := Lib.hid x3; have G3 := Lib.hid (grown_two G2.out g3 (Nat.le_refl _)); clear x3 g3)
  | fail)
 (try simp only [Exit.inBlock, Exit.then])
 exact bodyPost_ret (results_box2 rfl _ _ w.heap.size 25 _ _ rfl X3.out Tryz.underlying25 rfl (ndInfo rfl)) rfl ⟨rfl, below_row_none G3.out (Nat.le_refl _)⟩
set_option maxRecDepth 20000 in
set_option maxHeartbeats 8000000 in
theorem parse_great (w : World) (hT : FoTabs w) (A : Option Addr) (l : List Int) (c : Nat) (f : Int) (hf : 0 ≤ f ∧ f ≤ 7) (h : Lies w w.heap.size A (ints .i64 l)) (hc : l.length ≤ c) (T : List Tok) (ho : ofT l = .ok T) (hn : T.length ≤ 1000) (hz : faultT l.length T 0 3 = (0, 0)) (q d : Nat) (n : Nd) (R : List Tok) (hp : patT f q d T = some (n, R)) (hs : 400 < sizeI n) :
 Calls Tryz.prog 20 #[.slice A l.length c, .int .i64 f] w (Wronged w 0 10) := by
 have d0 : decide (f < 0) = false := decide_eq_false (by omega)
 have d1 : decide (7 < f) = false := decide_eq_false (by omega)
 have d2 : decide (f > 7) = false := decide_eq_false (by omega)
 obtain ⟨w0, hw0⟩ : ∃ u, w.alloc (.cells #[.int .i64 0, .slice none 0 0, .int .i64 0, .int .i64 0, .slice none 0 0] 25) = u := ⟨_, rfl⟩
 have G0 : Hid (w.grownBy w0 none) := Lib.hid (hw0 ▸ grown_new w _ none)
 have X0 : Hid (Box w0 w.heap.size ndZero 25) := Lib.hid (hw0 ▸ Box.new w _ _)
 have HW0 := Lib.hid hw0
 have HC := Lib.hid (tkof_any w0 c A l (h.up (below_row_none G0.out (Nat.le_refl _))) hc)
 rw [ho] at HC
 have HFA := Lib.hid (fun (u : World) (A : Option Addr) (c : Nat) h => fault_any u A T c l.length h hn)
 rw [hz] at HFA
 have HTH := Lib.hid hT
 have HPA : Hid (∀ (b : Nat) (u : World), 3 < b → FoTabs u → IsT u b T f → Calls Tryz.prog 40 #[.pointer (some ⟨b, 0, none⟩)] u (NdTo u b f n R)) := Lib.hid fun b u hb h1 h2 => pat_ok b f q hb d u T n R h1 h2 hp
 obtain ⟨sz, hsz⟩ : ∃ s, sizeI n = s := ⟨_, rfl⟩
 have HSZ : Hid (∀ (w : World) (P : Nat → Prop) (v : Array Value), Treed w P n v → Calls Tryz.prog 41 #[.agg v] w fun e u' => e = .returned (.int .i64 sz) ∧ w.grownBy u' none) := Lib.hid fun w P v t => hsz ▸ size_any t w (fun _ _ _ => rfl) (Nat.le_refl _)
 rw [hsz] at hs
 have d3 : decide (400 < sz) = true := decide_eq_true (by omega)
 have d4 : decide (sz > 400) = true := decide_eq_true (by omega)
 clear hf hw0 h ho hz hp hs hsz hT
 go_enter Tryz.func20, Tryz.ntmps20
 go_wp2_with fail
 rw [HW0.out]
 refine HC.out.mono ?_
 rintro e w1 ⟨⟨tv, rfl, o1⟩, b1⟩
 obtain ⟨A1, c1, rfl, l1, hc1, -⟩ := o1.form
 have X1 := Lib.hid (X0.out.kept (grown_of_below b1 none) (by simp))
 have G1 := Lib.hid (G0.out.trans (grown_of_below b1 none))
 have HF := Lib.hid (HFA.out w1 A1 c1 l1)
 have L1 := Lib.hid l1
 clear o1 b1 l1
 go_wp2_with fail
 refine HF.out.mono ?_
 rintro e w2 ⟨rfl, g2⟩
 have X2 := Lib.hid (X1.out.kept g2 (by simp))
 have G2 := Lib.hid (G1.out.trans g2)
 have L2 := Lib.hid (L1.out.up (below_row_none g2 (Nat.le_refl _)))
 clear g2
 obtain ⟨w3, hw3⟩ : ∃ u, w2.alloc (.cells #[.slice A1 T.length c1, .int .i64 f] 72) = u := ⟨_, rfl⟩
 have N3 : w2.grownBy w3 none := hw3 ▸ grown_new w2 _ none
 have R3 : Hid (IsT w3 w2.heap.size T f) := Lib.hid ⟨⟨A1, c1, hw3 ▸ Box.new w2 _ _, L2.out.same (fun q hq => World.cell?_of_block (N3.block q.block hq (by simp))), hc1⟩, hn⟩
 have X3 := Lib.hid (X2.out.kept N3 (by simp))
 have G3 := Lib.hid (G2.out.trans N3)
 have HP3 := Lib.hid (HPA.out w2.heap.size w3 (by have := HTH.out.big; have := G2.out.size; omega) (HTH.out.grown0 G3.out) R3.out)
 have HW3 := Lib.hid hw3
 have HLT : Hid (w.heap.size < w2.heap.size) := Lib.hid X2.out.lt
 have HZ3 := Lib.hid N3.size
 clear hw3 N3
 go_wp2_with fail
 rw [HW3.out]
 refine HP3.out.mono ?_
 rintro e w4 ⟨v, rfl, t4, -, g4⟩
 have h5 := t4.size
 have h51 := t4.one
 have X4 := Lib.hid (X3.out.kept g4 (by have := HLT.out; simp; omega))
 have G4 := Lib.hid (grown_two G3.out g4 (by have := HLT.out; omega))
 have T4 := Lib.hid t4
 have Y4 : Hid (Box (w4.alloc (.cells #[.int .i64 0, .slice none 0 0, .int .i64 0, .int .i64 0, .slice none 0 0] 25)) w4.heap.size ndZero 25) := Lib.hid (Box.new w4 _ _)
 have HL4 : Hid (w.heap.size < w4.heap.size) := Lib.hid X4.out.lt
 clear t4 g4
 go_wp2_with (first
  | (refine store_nd _ _ _ w4.heap.size ndZero v rfl rfl rfl rfl rfl Y4.out rfl h5 h51 ?_; intro w5 x5 g5; have Y5 := Lib.hid x5; have N5 : Hid (w4.grownBy w5 none) := Lib.hid (grown_two (grown_new w4 _ none) g5 (Nat.le_refl _)); have X5 := Lib.hid (X4.out.kept N5.out (by simp)); have G5 := Lib.hid (G4.out.trans N5.out); have T5 := Lib.hid (T4.out.grown N5.out (fun x hx e => by cases e)); clear x5 g5)
  | (refine load_nd _ w4.heap.size v rfl rfl rfl Y5.out h5 ?_)
  | fail)
 refine (HSZ.out w5 _ v T5.out).mono ?_
 rintro e w6 ⟨rfl, g6⟩
 have Y6 := Lib.hid (Y5.out.kept g6 (by simp))
 have X6 := Lib.hid (X5.out.kept g6 (by simp))
 have G6 := Lib.hid (G5.out.trans g6)
 clear g6
 go_wp2_with (first
  | (refine store_nd w6 _ _ w.heap.size ndZero ndZero rfl rfl rfl rfl rfl X6.out rfl rfl (by simp [ndZero, Value.oneCell']) ?_; intro w7 x7 g7; have X7 := Lib.hid x7; have G7 := Lib.hid (grown_two G6.out g7 (Nat.le_refl _)); clear x7 g7)
  | fail)
 (try simp only [Exit.inBlock, Exit.then])
 exact bodyPost_ret (results_box2 rfl _ _ w.heap.size 25 _ _ rfl X7.out Tryz.underlying25 rfl (ndInfo rfl)) rfl ⟨rfl, below_row_none G7.out (Nat.le_refl _)⟩
def parseD (l : List Int) (f : Int) : Except (Int × Int) Nd :=
 if f < 0 ∨ 7 < f then .error (0, 11) else match ofT l with
  | .error (p, x) => .error ((p : Int), x)
  | .ok T => match dP f l.length 201 T with
   | .error e => .error e
   | .ok n => if 400 < sizeI n then .error (0, 10) else .ok n
def ParseTo (w : World) (r : Except (Int × Int) Nd) (ed : Ending) (w' : World) : Prop := match r with
 | .error (p, x) => Wronged w p x ed w'
 | .ok n => ParsedTo w n ed w'
theorem parse_any (w : World) (hT : FoTabs w) (A : Option Addr) (l : List Int) (c : Nat) (f : Int) (h : Lies w w.heap.size A (ints .i64 l)) (hc : l.length ≤ c) :
 Calls Tryz.prog 20 #[.slice A l.length c, .int .i64 f] w (ParseTo w (parseD l f)) := by
 unfold parseD
 by_cases hf : f < 0 ∨ 7 < f
 ·rw [if_pos hf]
  rcases hf with hf | hf
  ·exact parse_below w A l c f hf
  ·exact parse_flag w A l c f hf
 ·rw [if_neg hf]
  have hf : 0 ≤ f ∧ f ≤ 7 := by omega
  rcases ho : ofT l with ⟨p, x⟩ | T
  ·exact parse_wrong w A l c f hf h hc p x (of_bad ho).2.2.1 ho
  ·have hn : T.length ≤ 1000 := by have := of_length ho; have := (of_fits ho).2; omega
   simp only
   rcases of_same f ho with ⟨n, h1, h2, h3⟩ | ⟨h1, h2⟩
   ·rw [h1]
    simp only
    by_cases hs : 400 < sizeI n
    ·rw [if_pos hs]
     exact parse_great w hT A l c f hf h hc T ho hn h2 201 21 n [] h3 hs
    ·rw [if_neg hs]
     exact parse_right w hT A l c f hf h hc T ho hn h2 201 21 n [] h3 (by omega)
   ·rw [h1]
    exact parse_fault w A l c f hf h hc T ho hn _ _ h2 rfl
end Go.Proofs.YtoeocodfndbebaaGreatDoor
namespace Go.Proofs.YtoeocodfndbebaaGreatDoor
open Go.RowKit
def patI (n : Nd) : List Int × Int := if rightN n = false then ([], 1) else if 200 < (textN n).length then ([], 10) else (textN n, 0)
set_option maxRecDepth 20000 in
set_option maxHeartbeats 4000000 in
theorem shpattern_any {w : World} {P : Nat → Prop} {n : Nd} {v : Array Value} (h : Treed w P n v) (u : World) (hu : Agree w P u) (hP : PowT u) :
 Calls Tryz.prog 9 #[.agg v] u (Rowed2 u u.heap.size 3 (ints .i64 (patI n).1) (patI n).2) := by
 obtain ⟨A, m, c, lo, hi, A', m', c', hv⟩ := h.kind
 obtain ⟨kn, hkn⟩ : ∃ x, kindN n = x := ⟨_, rfl⟩
 rw [hkn] at hv
 subst hv
 have X0 : Hid (Box (u.alloc (.cells #[.int .i64 kn, .slice A m c, .int .i64 lo, .int .i64 hi, .slice A' m' c'] 25)) u.heap.size #[.int .i64 kn, .slice A m c, .int .i64 lo, .int .i64 hi, .slice A' m' c'] 25) := Lib.hid (Box.new u _ _)
 have G0 : Hid (u.grownBy (u.alloc (.cells #[.int .i64 kn, .slice A m c, .int .i64 lo, .int .i64 hi, .slice A' m' c'] 25)) none) := Lib.hid (grown_new u _ none)
 have HR := Lib.hid (shright_any h _ (hu.grown G0.out).1 (hu.grown G0.out).2)
 have HW : Hid (rightN n = true → ∀ x, u.grownBy x none → Calls Tryz.prog 18 #[.agg #[.int .i64 kn, .slice A m c, .int .i64 lo, .int .i64 hi, .slice A' m' c']] x (Rowed x x.heap.size 3 (ints .i64 (textN n)))) := Lib.hid fun hr x g => by
  unfold rightN at hr
  simp only [Bool.and_eq_true, decide_eq_true_eq] at hr
  exact written_any h hr.2 ⟨hr.1.1.1, hr.1.1.2⟩ x (hu.grown g) (hP.grown g)
 have HS := Lib.hid (fun hr => text_short (n := n) hr)
 obtain ⟨r, hr⟩ : ∃ r, rightN n = r := ⟨_, rfl⟩
 obtain ⟨tx, htx⟩ : ∃ t, textN n = t := ⟨_, rfl⟩
 have HPI : Hid (patI n = if r = false then ([], 1) else if 200 < tx.length then ([], 10) else (tx, 0)) := Lib.hid (by unfold patI; rw [hr, htx])
 rw [hr] at HR HW HS
 rw [htx] at HW HS
 rw [HPI.out]
 clear h hu hP hkn hr htx
 rcases r with _ | _
 ·rw [if_pos rfl]
  go_enter Tryz.func9, Tryz.ntmps9
  go_wp2_with fail
  refine HR.out.mono ?_
  rintro e w1 ⟨rfl, g1⟩
  have G1 := Lib.hid (G0.out.trans g1)
  clear g1
  go_wp2_with fail
  go_ret2
  exact ⟨_, rfl, Own.empty _ _ _, below_row_none G1.out (Nat.le_refl _)⟩
 ·rw [if_neg (by simp)]
  have hs := HS.out rfl
  rcases hd : decide (200 < (tx.length : Int)) with _ | _
  ·have hl : ¬ 200 < tx.length := by simp at hd; omega
   rw [if_neg hl]
   have HL := Lib.hid hl
   clear hl
   go_enter Tryz.func9, Tryz.ntmps9
   go_wp2_with fail
   refine HR.out.mono ?_
   rintro e w1 ⟨rfl, g1⟩
   have X1 := Lib.hid (X0.out.kept g1 (by simp))
   have G1 := Lib.hid (G0.out.trans g1)
   clear g1
   have e0 : w1.cell? ⟨u.heap.size, 0, none⟩ = some (.int .i64 kn) := X1.out.cell rfl
   have e1 : w1.cell? ⟨u.heap.size, 1, none⟩ = some (.slice A m c) := X1.out.cell rfl
   have e2 : w1.cell? ⟨u.heap.size, 2, none⟩ = some (.int .i64 lo) := X1.out.cell rfl
   have e3 : w1.cell? ⟨u.heap.size, 3, none⟩ = some (.int .i64 hi) := X1.out.cell rfl
   have e4 : w1.cell? ⟨u.heap.size, 4, none⟩ = some (.slice A' m' c') := X1.out.cell rfl
   go_wp2_with fail
   refine (HW.out (by trivial) _ G1.out).mono ?_
   rintro e w2 ⟨v2, rfl, o2, b2⟩
   obtain ⟨A2, c2, rfl, -, -, -⟩ := o2.form
   have O2 := Lib.hid o2
   have B2 := Lib.hid (below_then (below_row_none G1.out (Nat.le_refl _)) b2)
   have HZ := Lib.hid G1.out.size
   clear o2 b2 e0 e1 e2 e3 e4
   simp only [ints, List.length_map]
   go_wp2_with fail
   go_ret2
   exact ⟨_, rfl, by simpa [ints] using O2.out.weaken HZ.out, B2.out⟩
  ·have hl : 200 < tx.length := by simp at hd; omega
   rw [if_pos hl]
   have HL := Lib.hid hl
   clear hl
   go_enter Tryz.func9, Tryz.ntmps9
   go_wp2_with fail
   refine HR.out.mono ?_
   rintro e w1 ⟨rfl, g1⟩
   have X1 := Lib.hid (X0.out.kept g1 (by simp))
   have G1 := Lib.hid (G0.out.trans g1)
   clear g1
   have e0 : w1.cell? ⟨u.heap.size, 0, none⟩ = some (.int .i64 kn) := X1.out.cell rfl
   have e1 : w1.cell? ⟨u.heap.size, 1, none⟩ = some (.slice A m c) := X1.out.cell rfl
   have e2 : w1.cell? ⟨u.heap.size, 2, none⟩ = some (.int .i64 lo) := X1.out.cell rfl
   have e3 : w1.cell? ⟨u.heap.size, 3, none⟩ = some (.int .i64 hi) := X1.out.cell rfl
   have e4 : w1.cell? ⟨u.heap.size, 4, none⟩ = some (.slice A' m' c') := X1.out.cell rfl
   go_wp2_with fail
   refine (HW.out (by trivial) _ G1.out).mono ?_
   rintro e w2 ⟨v2, rfl, o2, b2⟩
   obtain ⟨A2, c2, rfl, -, -, -⟩ := o2.form
   have B2 := Lib.hid (below_then (below_row_none G1.out (Nat.le_refl _)) b2)
   clear o2 b2 e0 e1 e2 e3 e4
   simp only [ints, List.length_map]
   go_wp2_with fail
   go_ret2
   exact ⟨_, rfl, Own.empty _ _ _, B2.out⟩
def neatI (l : List Int) (f : Int) : List Int × Int × Int := match parseD l f with
 | .error (p, x) => ([], p, x)
 | .ok n => ((patI n).1, 0, (patI n).2)
def Neat3 (w : World) (r : List Int × Int × Int) (ed : Ending) (w' : World) : Prop := ∃ v, ed = .returned (.tuple #[v, .int .i64 r.2.1, .int .i64 r.2.2]) ∧ Own w' w.heap.size 3 v (ints .i64 r.1) ∧ Below w.heap.size w w'
theorem parse_err {l : List Int} {f p x : Int} (h : parseD l f = .error (p, x)) : x ≠ 0 := by
 unfold parseD at h
 split at h
 ·injection h with h; injection h with h1 h2; omega
 ·split at h
  ·rename_i q y ho
   injection h with h; injection h with h1 h2
   rw [← h2]
   exact (of_bad ho).2.2.1
  ·rename_i T ho
   split at h
   ·rename_i e he
    injection h with h
    subst h
    rcases of_same f ho with ⟨n, h1, h2, h3⟩ | ⟨h1, h2⟩
    ·rw [h1] at he; cases he
    ·rw [h1] at he
     injection he with he
     rw [he] at h2
     exact h2
   ·split at h
    ·injection h with h; injection h with h1 h2; omega
    ·cases h
set_option maxRecDepth 20000 in
set_option maxHeartbeats 4000000 in
theorem neat_any (w : World) (hT : FoTabs w) (hP : PowT w) (A : Option Addr) (l : List Int) (c : Nat) (f : Int) (h : Lies w w.heap.size A (ints .i64 l)) (hc : l.length ≤ c) :
 Calls Tryz.prog 11 #[.slice A l.length c, .int .i64 f] w (Neat3 w (neatI l f)) := by
 have HC := Lib.hid (parse_any w hT A l c f h hc)
 have HP := Lib.hid hP
 unfold neatI
 rcases hp : parseD l f with ⟨p, x⟩ | n
 ·have hx := parse_err hp
  rw [hp] at HC
  have d0 : (x != 0) = true := by simpa using hx
  clear hT hP h hc hp hx
  go_enter Tryz.func11, Tryz.ntmps11
  go_wp2_with fail
  refine HC.out.mono ?_
  rintro e w1 ⟨rfl, b1⟩
  have B1 := Lib.hid b1
  clear b1
  unfold ndZero
  go_wp2_with fail
  go_ret3
  exact ⟨_, rfl, Own.empty _ _ _, below_then B1.out (below_alloc w1 _)⟩
 ·rw [hp] at HC
  obtain ⟨pt, hpt⟩ : ∃ x, patI n = x := ⟨_, rfl⟩
  have HPT := Lib.hid hpt
  clear hT hP h hc hp hpt
  go_enter Tryz.func11, Tryz.ntmps11
  go_wp2_with fail
  refine HC.out.mono ?_
  rintro e w1 ⟨v, rfl, t1, b1⟩
  obtain ⟨k, Ar, m, c1, lo, hi, A', m', c', hv⟩ := t1.form
  subst hv
  have B1 := Lib.hid b1
  have B2 : Hid (Below w.heap.size w (w1.alloc (.cells #[.int .i64 k, .slice Ar m c1, .int .i64 lo, .int .i64 hi, .slice A' m' c'] 25))) := Lib.hid (below_then b1 (below_alloc w1 _))
  have HCP := shpattern_any t1 (w1.alloc (.cells #[.int .i64 k, .slice Ar m c1, .int .i64 lo, .int .i64 hi, .slice A' m' c'] 25)) ⟨fun b _ hl => (grown_new w1 _ none).block b hl (by simp), (grown_new w1 _ none).size⟩ (HP.out.below B2.out)
  rw [HPT.out] at HCP
  obtain ⟨px, pe⟩ := pt
  have HCQ := Lib.hid HCP
  clear t1 b1 HCP
  go_wp2_with fail
  refine HCQ.out.mono ?_
  rintro e w2 ⟨v2, rfl, o2, b2⟩
  have O2 := Lib.hid o2
  have B3 := Lib.hid (below_then B2.out b2)
  have HZ := Lib.hid B2.out.size
  clear o2 b2
  go_wp2_with fail
  go_ret3
  unfold Neat3
  rw [HPT.out]
  exact ⟨_, rfl, O2.out.weaken HZ.out, B3.out⟩
end Go.Proofs.YtoeocodfndbebaaGreatDoor
namespace Go.Proofs.YtoeocodfndbebaaGreatDoor
open Go.RowKit
def liveL : List Int := [40, 97, 124, 91, 98, 99, 93, 41, 123, 48, 44, 125, 92, 46]
def liveR : List Int := [40, 97, 124, 91, 98, 45, 99, 93, 41, 42, 92, 46]
def liveT : List Tok := [⟨3, 0, 0, 0, 0⟩, ⟨1, 97, 0, 0, 1⟩, ⟨5, 0, 0, 0, 2⟩, ⟨7, 0, 0, 0, 3⟩, ⟨1, 98, 0, 0, 4⟩, ⟨1, 99, 0, 0, 5⟩, ⟨8, 0, 0, 0, 6⟩, ⟨4, 0, 0, 0, 7⟩, ⟨6, 0, 0, -1, 8⟩, ⟨1, 46, 0, 0, 12⟩]
def liveN : Nd := .mk 3 0 0 [] [.mk 5 0 (-1) [] [.mk 4 0 0 [] [.mk 2 0 0 [(97, 97)] [], .mk 2 0 0 [(98, 99)] []]], .mk 2 0 0 [(46, 46)] []]
theorem live_of : ofT liveL = .ok liveT := by rfl
theorem live_fault : faultT liveL.length liveT 0 3 = (0, 0) := by decide
theorem live_char {c p lo hi : Int} (h0 : 0 ≤ c) (h1 : c ≤ topR) : partR 0 ⟨1, c, lo, hi, p⟩ = [(c, c)] := by
 unfold partR
 rw [if_neg (by simp), if_pos rfl]
 exact part_zero h0 (Int.le_refl _) h1
theorem live_set : classR false [(98, 98), (99, 99)] = [(98, 99)] := by
 unfold classR
 rw [if_neg (by simp)]
 refine setP_is (by simp [Canon, topR]) fun c h0 h1 => ?_
 rw [Bool.eq_iff_iff]
 simp [hasR, inR]
 omega
theorem live_pat : patT 0 201 21 liveT = some (liveN, []) := by
 have e97 : partR 0 ⟨1, 97, 0, 0, 1⟩ = [(97, 97)] := live_char (by decide) (by decide)
 have e98 : partR 0 ⟨1, 98, 0, 0, 4⟩ = [(98, 98)] := live_char (by decide) (by decide)
 have e99 : partR 0 ⟨1, 99, 0, 0, 5⟩ = [(99, 99)] := live_char (by decide) (by decide)
 have e46 : partR 0 ⟨1, 46, 0, 0, 12⟩ = [(46, 46)] := live_char (by decide) (by decide)
 have es := live_set
 simp [patT, liveT, joinT, joinL, orL, rpT, oneT, setT, classL, e97, e98, e99, e46, es, kindIs, dropIs, lazyT, togT, liveN]
theorem live_size : sizeI liveN ≤ 400 := by
 have : sizeI liveN = 6 := by
  simp [liveN, sizeI, sumI, finI, timesI]
  try decide
 omega
theorem live_dP : dP 0 liveL.length 201 liveT = .ok liveN := by
 rcases of_same 0 live_of with ⟨n, h1, h2, h3⟩ | ⟨h1, h2⟩
 ·rw [live_pat] at h3
  injection h3 with h3
  injection h3 with h3
  rw [h1, h3]
 ·rw [live_fault] at h2; exact absurd rfl h2
theorem live_parse : parseD liveL 0 = .ok liveN := by
 unfold parseD
 rw [if_neg (by decide), live_of]
 simp only
 rw [live_dP]
 simp only
 rw [if_neg (by have := live_size; omega)]
theorem set_is {R : List (Int × Int)} (h : Canon 0 R) (hl : R.length ≤ 500) : setR R = R := by
 rw [setR_small (by omega)]
 exact setP_is h fun _ _ _ => rfl
theorem live_right : rightN liveN = true := by
 have s1 : setR [(97, 97)] = [(97, 97)] := set_is (by simp [Canon, topR]) (by decide)
 have s2 : setR [(98, 99)] = [(98, 99)] := set_is (by simp [Canon, topR]) (by decide)
 have s3 : setR [(46, 46)] = [(46, 46)] := set_is (by simp [Canon, topR]) (by decide)
 simp [rightN, liveN, cntN, cntL, rngN, rngL, deepN, deepL, allN, allL, nodeI, s1, s2, s3]
theorem live_text : textN liveN = liveR := by
 simp [liveN, textN, joinTx, orTx, setI, itemsI, quoC, signI, inBr, kindN, timesT, liveR]
theorem live_neat : neatI liveL 0 = (liveR, 0, 0) := by
 unfold neatI
 rw [live_parse]
 simp only
 have : patI liveN = (liveR, 0) := by
  unfold patI
  rw [live_right, live_text, if_neg (by simp), if_neg (by decide)]
 rw [this]
theorem live_nine : patI (.mk 9 0 0 [] []) = ([], 1) := by
 have : rightN (.mk 9 0 0 [] []) = false := by simp [rightN, allN, nodeI]
 unfold patI
 rw [this, if_pos rfl]
theorem live_empty : rightN (.mk 1 0 0 [] []) = true := by
 simp [rightN, cntN, cntL, rngN, rngL, deepN, deepL, allN, allL, nodeI]
end Go.Proofs.YtoeocodfndbebaaGreatDoor
namespace Go.Proofs.YtoeocodfndbebaaGreatDoor
open Go.ChangeShapes Go.WideShapes Go.ChangeAt Go.RowKit
abbrev laidList4 : List (String × DataW Unit) := [("math/bits.deBruijn32tab", Rows.laid_math_bits_deBruijn32tab), ("math/bits.deBruijn64tab", Rows.laid_math_bits_deBruijn64tab), ("internal/strconv.uint64pow10", Rows.laid_internal_strconv_uint64pow10), ("ductus/fold.folded", Rows.laid_ductus_fold_folded)]
theorem pow_data : (Rows.laid_internal_strconv_uint64pow10 : DataW Unit) = Lib.tabData .u64 Lib.pow10Tab := by kernel_rfl
theorem gPowT : (Tryz.prog.globals[0]?).map (·.type) = some 137 := by kernel_rfl
structure Tabs4 (W : World) : Prop where
 fo : FoTabs W
 pow : PowT W
theorem tabs_of4 {W : World} (h : laidMetH Tryz.prog laidList4 W) : Tabs4 W := by
 have hm : laidMet Tryz.prog laidList4 W := h
 have h3 : Lib.VarReads Tryz.prog W "internal/strconv.uint64pow10" _ := Lib.laidMet.reads hm (d := Rows.laid_internal_strconv_uint64pow10) (by simp [laidList4])
 rw [pow_data] at h3
 obtain ⟨g, t, cs, fuel, p, hg, hty, hvar, hd⟩ := h3
 obtain rfl := Option.some.inj (gPow.symm.trans hg)
 obtain rfl := Option.some.inj (gPowT.symm.trans hty)
 have ht : Lib.TabIs Tryz.prog W "internal/strconv.uint64pow10" .u64 Lib.pow10Tab := by
  unfold Lib.TabIs
  rw [hvar, ← Lib.cells_of_tab Tryz.underlying137 Tryz.underlying118 (by kernel_rfl) (by kernel_rfl) hd]
 have hc := ht.cell gPow 0 (by rw [Lib.pow10Tab_length]; decide)
 exact ⟨tabs_of (laidMet.tail (laidMet.tail (laidMet.tail hm))), World.block_lt_of_cell? W _ hc, ht⟩
def b32Cells : List Value := [0, 1, 28, 2, 29, 14, 24, 3, 30, 22, 20, 15, 25, 17, 4, 8, 31, 27, 13, 23, 21, 19, 16, 7, 26, 12, 18, 6, 11, 5, 10, 9].map (Value.int .u8)
def b64Cells : List Value := [0, 1, 56, 2, 57, 49, 28, 3, 61, 58, 42, 50, 38, 29, 17, 4, 62, 47, 59, 36, 45, 43, 51, 22, 53, 39, 33, 30, 24, 18, 12, 5, 63, 55, 48, 27, 60, 41, 37, 16, 46, 35, 44, 21, 52, 32, 23, 11, 54, 26, 40, 15, 34, 20, 31, 10, 25, 14, 19, 9, 13, 8, 7, 6].map (Value.int .u8)
def powCells : List Value := Lib.pow10Tab.map (Value.int .u64)
noncomputable def laidWorld4 (os : Os) (args : Array Value) : World :=
 { World.holding Tryz.prog os ⟨#[], args, []⟩ with heap := ((((World.holding Tryz.prog os ⟨#[], args, []⟩).heap.modify 3 (withCells rowCells)).modify 0 (withCells powCells)).modify 1 (withCells b32Cells)).modify 2 (withCells b64Cells) }
end Go.Proofs.YtoeocodfndbebaaGreatDoor
namespace Go.Proofs.YtoeocodfndbebaaGreatDoor
open Go.RowKit
theorem Tabs4.below {w w' : World} (h : Tabs4 w) (hb : Below w.heap.size w w') : Tabs4 w' := ⟨h.fo.below hb h.fo.big, h.pow.below hb⟩
theorem Tabs4.grown {w w' : World} (h : Tabs4 w) (hg : w.grownBy w' none) : Tabs4 w' := h.below (below_row_none hg (Nat.le_refl _))
theorem treed_leaf (w : World) (k : Int) : Treed w (fun _ => False) (.mk k 0 0 [] []) #[.int .i64 k, .slice none 0 0, .int .i64 0, .int .i64 0, .slice none 0 0] :=
 .mk (rs := []) (ks := []) [] LiesP.none (by decide) rfl LiesP.none (by decide) fun i h1 => by simp at h1
set_option maxRecDepth 20000 in
set_option maxHeartbeats 8000000 in
theorem live_any (w : World) (hT : Tabs4 w) : Calls Tryz.prog 7 #[] w fun e w' => e = .returned (.bool true) ∧ Below w.heap.size w w' := by
 obtain ⟨w1, hw1⟩ : ∃ u, w.alloc (.cells #[.int .i64 40, .int .i64 97, .int .i64 124, .int .i64 91, .int .i64 98, .int .i64 99, .int .i64 93, .int .i64 41, .int .i64 123, .int .i64 48, .int .i64 44, .int .i64 125, .int .i64 92, .int .i64 46] 3) = u := ⟨_, rfl⟩
 have HW1 := Lib.hid hw1
 have B1 : Hid (Below w.heap.size w w1) := Lib.hid (hw1 ▸ below_alloc w _)
 have L1 : Lies w1 w1.heap.size (some ⟨w.heap.size, 0, none⟩) (ints .i64 liveL) := hw1 ▸ Lies.litUp _
 have HT := Lib.hid hT
 have C1 := neat_any w1 (hT.below B1.out).fo (hT.below B1.out).pow _ liveL 14 0 L1 (by decide)
 rw [live_neat] at C1
 have HC1 := Lib.hid C1
 clear hw1 L1 hT C1
 go_enter Tryz.func7, Tryz.ntmps7
 go_wp2_with fail
 rw [HW1.out]
 refine HC1.out.mono ?_
 rintro e w2 ⟨v2, rfl, o2, b2⟩
 obtain ⟨A2, c2, rfl, l2, -, -⟩ := o2.form
 have L2 := Lib.hid l2
 have B2 := Lib.hid (below_then B1.out b2)
 clear o2 b2 l2
 have C3 := shpattern_any (treed_leaf w2 9) w2 ⟨fun _ hb _ => hb.elim, Nat.le_refl _⟩ (HT.out.below B2.out).pow
 rw [live_nine] at C3
 have HC3 := Lib.hid C3
 clear C3
 go_wp2_with fail
 refine HC3.out.mono ?_
 rintro e w3 ⟨v3, rfl, o3, b3⟩
 have B3 := Lib.hid (below_then B2.out b3)
 have L3 := Lib.hid (L2.out.up b3)
 clear o3 b3
 obtain ⟨w4, hw4⟩ : ∃ u, w3.alloc (.cells #[.int .i64 40, .int .i64 97, .int .i64 124, .int .i64 91, .int .i64 98, .int .i64 45, .int .i64 99, .int .i64 93, .int .i64 41, .int .i64 42, .int .i64 92, .int .i64 46] 3) = u := ⟨_, rfl⟩
 have HW4 := Lib.hid hw4
 have B4 : Hid (Below w.heap.size w w4) := Lib.hid (below_then B3.out (hw4 ▸ below_alloc w3 _))
 have L4 : Lies w4 w4.heap.size (some ⟨w3.heap.size, 0, none⟩) (ints .i64 liveR) := hw4 ▸ Lies.litUp _
 have L24 : Lies w4 w4.heap.size A2 (ints .i64 liveR) := L3.out.up (hw4 ▸ below_alloc w3 _)
 have HI := Lib.hid (ints_ok A2 _ liveR c2 12 w4 L24 L4 (by decide))
 have HR := Lib.hid (fun u => shright_any (treed_leaf w4 1) u (fun _ hb _ => hb.elim))
 rw [live_empty] at HR
 clear hw4 L4 L24
 go_wp2_with fail
 rw [HW4.out]
 refine HI.out.mono ?_
 rintro e w5 ⟨rfl, b5⟩
 have B5 := Lib.hid (below_then B4.out b5)
 have HZ5 := Lib.hid b5.size
 clear b5
 go_wp2_with fail
 refine (HR.out _ HZ5.out).mono ?_
 rintro e w6 ⟨rfl, g6⟩
 have B6 := Lib.hid (below_then B5.out (below_row_none g6 (Nat.le_refl _)))
 clear g6
 go_wp2_with fail
 go_ret
 exact ⟨rfl, B6.out⟩
end Go.Proofs.YtoeocodfndbebaaGreatDoor
namespace Go.Proofs.YtoeocodfndbebaaGreatDoor
open Go.RowKit
set_option maxRecDepth 20000 in
set_option maxHeartbeats 4000000 in
theorem weight_some {w : World} {P : Nat → Prop} {n : Nd} {v : Array Value} (h : Treed w P n v) : ∀ (u : World) (d : Int), (∀ b, P b → b < w.heap.size → u.heap[b]? = w.heap[b]?) → w.heap.size ≤ u.heap.size → 0 ≤ d → d ≤ 101 →
 Calls Tryz.prog 8 #[.agg v, .int .i64 d] u fun e u' => (∃ z, e = .returned (.int .i64 z)) ∧ u.grownBy u' none := by
 induction h with
 | @mk k lo hi rs ks A A' c c' vs h1 hc h0 h2 hc' hk ih =>
  intro u d hu hs hd0 hd1
  have HU := Lib.hid hu
  have HIH := Lib.hid ih
  have H2 := Lib.hid h2
  have H5 : Hid (∀ v ∈ vs, v.size = 5) := Lib.hid fun v hv => by
   obtain ⟨i, hi, rfl⟩ := List.getElem_of_mem hv
   exact (hk i hi (by omega)).size
  have HFO := Lib.hid (fun (i : Nat) (hi : i < vs.length) => (hk i hi (by omega)).form)
  have HN0 := Lib.hid h0
  have HS := Lib.hid hs
  have hkl : ks.length ≤ 9223372036854775807 := by have h1 := hc'.1; have h2 := hc'.2; unfold maxLen at h2; omega
  have X0 : Hid (Box (u.alloc (.cells #[.int .i64 k, .slice A rs.length c, .int .i64 lo, .int .i64 hi, .slice A' ks.length c'] 25)) u.heap.size #[.int .i64 k, .slice A rs.length c, .int .i64 lo, .int .i64 hi, .slice A' ks.length c'] 25) := Lib.hid (Box.new u _ _)
  obtain ⟨s0, hs0⟩ : ∃ y : Int, IntKind.i64.wrap (1 + (rs.length : Int)) = y := ⟨_, rfl⟩
  have hw1 : IntKind.i64.wrap (d + 1) = d + 1 := IntWalk.i64_in _ (by omega)
  have HD := Lib.hid (And.intro hd0 hd1)
  by_cases hd : 100 < d
  ·have t0 : decide (100 < d) = true := decide_eq_true hd
   clear h1 h2 hc hc' h0 hk ih hu hs hd hd0 hd1
   go_enter Tryz.func8, Tryz.ntmps8
   go_wp2_with fail
   go_ret
   exact ⟨⟨_, rfl⟩, grown_new u _ none⟩
  ·have t0 : decide (100 < d) = false := decide_eq_false hd
   have HDL : Hid (d + 1 ≤ 101) := Lib.hid (by omega)
   clear h1 h2 hc hc' h0 hk ih hu hs hd hd0 hd1
   go_enter Tryz.func8, Tryz.ntmps8
   go_wp2_with fail
   go_loopw [6, 5] (fun iv sv wr => ∃ (i : Nat) (s : Int), i ≤ ks.length ∧ iv = .int .i64 i ∧ sv = .int .i64 s ∧ Hid (u.grownBy wr none) ∧ Hid (Box wr u.heap.size #[.int .i64 k, .slice A rs.length c, .int .i64 lo, .int .i64 hi, .slice A' ks.length c'] 25)) (fun iv _ _ => ks.length - (intOf iv).toNat)
   case atStart => exact ⟨0, _, by omega, rfl, rfl, Lib.hid (grown_new u _ none), X0⟩
   case round =>
    obtain ⟨i, s, hi', rfl, rfl, HG, HX⟩ := hrel
    have e4 : wr.cell? ⟨u.heap.size, 4, none⟩ = some (.slice A' ks.length c') := HX.out.cell rfl
    rcases hsd : decide (s ≤ 2000) with _ | _
    ·by_cases hlt : i < ks.length
     ·have b1 : (i : Int) < (ks.length : Int) := by omega
      go_wp2_with fail
      go_ret
      exact ⟨⟨_, rfl⟩, HG.out⟩
     ·obtain rfl : i = ks.length := by omega
      go_wp2_with fail
      go_ret
      exact ⟨⟨_, rfl⟩, HG.out⟩
    by_cases hlt : i < ks.length
    ·have hlv : i < vs.length := by have := HN0.out; omega
     have hagree : ∀ b, P b → b < w.heap.size → wr.heap[b]? = w.heap[b]? := fun b hb hl => (HG.out.block b (by have := HS.out; omega) (by simp)).trans (HU.out b hb hl)
     obtain ⟨g, off, rfl, hg, hcell⟩ := kid_at H2.out H5.out hagree hlv
     obtain ⟨k1, Ar, nr, cr, lo1, hi1, Ak, nk, ck, hv⟩ := HFO.out i hlv
     have q0 : wr.cell? ⟨g, off + i * 5, none⟩ = vs[i][0]? := hcell 0 (by decide)
     have q1 := hcell 1 (by decide)
     have q2 := hcell 2 (by decide)
     have q3 := hcell 3 (by decide)
     have q4 := hcell 4 (by decide)
     rw [hv] at q0 q1 q2 q3 q4
     have hrec := HIH.out i hlv hlt wr (d + 1) hagree (Nat.le_trans HS.out HG.out.size) (by have := HD.out; omega) HDL.out
     rw [hv] at hrec
     have HRC := Lib.hid hrec
     have b0 : (0 : Int) ≤ (i : Int) := by omega
     have b1 : (i : Int) < (ks.length : Int) := by omega
     clear hcell hv hrec hagree
     simp only [List.getElem?_toArray, List.getElem?_cons_zero, List.getElem?_cons_succ] at q0 q1 q2 q3 q4
     go_wp2_with fail
     refine HRC.out.mono ?_
     rintro e w2 ⟨⟨y, rfl⟩, g2⟩
     have HG2 := Lib.hid (HG.out.trans g2)
     have HX2 := Lib.hid (HX.out.kept g2 (by simp))
     obtain ⟨s2, hs2⟩ : ∃ z : Int, IntKind.i64.wrap (s + y) = z := ⟨_, rfl⟩
     clear g2
     go_wp2_with fail
     go_roundw
     case rel => exact ⟨i + 1, s2, by omega, by go_num, rfl, HG2, HX2⟩
     case measure => simp [intOf]; omega
    ·obtain rfl : i = ks.length := by omega
     go_wp2_with fail
     go_ret
     exact ⟨⟨_, rfl⟩, HG.out⟩
end Go.Proofs.YtoeocodfndbebaaGreatDoor
namespace Go.Proofs.YtoeocodfndbebaaGreatDoor
open Go.ChangeShapes Go.WideShapes Go.ChangeAt Go.RowKit
variable {H : Type} {enc : TypeId × Value → H}
set_option maxRecDepth 20000 in
set_option maxHeartbeats 1000000 in
theorem trod_ranges {W : World} {fuel : Nat} {cs : List Value} {x : DataW H × List MemPlace} (hf : DataW.trod enc Tryz.prog W 0 (fun _ => true) true fuel 22 cs = some x) :
 ∃ (A : Option Addr) (R : List (Int × Int)) (c : Nat), cs = [.slice A R.length c] ∧ R.length ≤ c ∧ c ≤ maxLen ∧ LiesP W (fun b => b < W.heap.size) A (prC R) := by
 have ce : Tryz.prog.cellsOf 66 = 2 := by kernel_rfl
 have c0 : Tryz.prog.cellsOf 3 = 1 := by kernel_rfl
 rcases Go.Deep.open_slice_pairs Tryz.underlying22 Tryz.underlying66 ce rfl rfl c0 c0 hf with ⟨rfl, _⟩ | ⟨a, len, cap, m, n, V0, V1, D0, D1, P0, P1, rfl, _, hlc, hcm, hm, _, hcell⟩
 ·exact ⟨none, [], 0, rfl, Nat.le_refl _, by unfold maxLen; omega, LiesP.none⟩
 ·rw [if_pos rfl] at hm
  subst hm
  let num : Value → Int := fun v => match v with | .int _ z => z | _ => 0
  have key : ∀ i, i < len → V0 i = .int .i64 (num (V0 i)) ∧ V1 i = .int .i64 (num (V1 i)) := by
   intro i hi
   obtain ⟨-, -, h0, h1⟩ := hcell i (by omega)
   obtain ⟨z0, e0, -, f0⟩ := DataW.trod_int Tryz.underlying3 h0
   obtain ⟨z1, e1, -, f1⟩ := DataW.trod_int Tryz.underlying3 h1
   injection e0 with e0
   injection e1 with e1
   rw [e0, e1]
   exact ⟨rfl, rfl⟩
  obtain ⟨R, hR⟩ : ∃ R, (List.range len).map (fun i => (num (V0 i), num (V1 i))) = R := ⟨_, rfl⟩
  have hlen : R.length = len := by rw [← hR]; simp
  have hget : ∀ i (hi : i < R.length), R[i] = (num (V0 i), num (V1 i)) := by
   intro i hi
   subst hR
   simp
  have hL : Lies W W.heap.size (some a) (prC R) := by
   refine fun hne => ⟨a, rfl, ?_, fun i u hu => ?_⟩
   ·have h0 : 0 < len := by
     rcases Nat.eq_zero_or_pos len with h0 | h0
     ·exfalso
      have : R = [] := List.eq_nil_of_length_eq_zero (by omega)
      subst this
      exact hne rfl
     ·exact h0
    have := (hcell 0 (by omega)).1
    exact (add_block a (0 * 2)) ▸ World.block_lt_of_cell? W _ this
   ·have hi : i < (prC R).length := (List.getElem?_eq_some_iff.1 hu).1
    rw [prC_length] at hi
    have hj : i / 2 < R.length := by omega
    obtain ⟨g0, g1⟩ := prC_get R (i / 2) hj
    obtain ⟨k0, k1⟩ := key (i / 2) (by omega)
    obtain ⟨m0, m1, -, -⟩ := hcell (i / 2) (by omega)
    rcases Nat.mod_two_eq_zero_or_one i with hz | hz
    ·rw [show i / 2 * 2 = i by omega] at g0 m0
     rw [g0, hget _ hj] at hu
     injection hu with hu
     rw [m0, ← hu, k0]
    ·rw [show i / 2 * 2 + 1 = i by omega] at g1 m1
     rw [g1, hget _ hj] at hu
     injection hu with hu
     rw [m1, ← hu, k1]
  refine ⟨some a, R, _, by rw [hlen], by rw [hlen]; exact hlc, hcm, fun hne => ?_⟩
  obtain ⟨g, off, hA, hg, hc⟩ := hL.plain (List.length_pos_iff.2 hne)
  exact ⟨g, off, hA, hg, hg, fun i u hu => by
   obtain ⟨hi, e⟩ := List.getElem?_eq_some_iff.1 hu
   rw [hc i hi, e]⟩
set_option maxRecDepth 20000 in
set_option maxHeartbeats 1000000 in
theorem trod_tree {W : World} : ∀ (fuel : Nat) {cs : List Value} {x : DataW H × List MemPlace}, DataW.trod enc Tryz.prog W 0 (fun _ => true) true fuel 25 cs = some x →
 ∃ (n : Nd) (V : Array Value), cs = V.toList ∧ Treed W (fun b => b < W.heap.size) n V := by
 intro fuel
 induction fuel using Nat.strongRecOn with
 | _ fuel ih =>
  intro cs x h
  obtain ⟨xs, m, rfl, -, hl, hxl, hf⟩ := DataW.trod_struct Tryz.underlying25 h
  have c0 : Tryz.prog.cellsOf 3 = 1 := by kernel_rfl
  have c1 : Tryz.prog.cellsOf 22 = 1 := by kernel_rfl
  have c2 : Tryz.prog.cellsOf 23 = 1 := by kernel_rfl
  have c5 : Tryz.prog.cellsOf 25 = 5 := by kernel_rfl
  rw [c5] at hl
  obtain ⟨v0, v1, v2, v3, v4, rfl⟩ : ∃ v0 v1 v2 v3 v4, cs = [v0, v1, v2, v3, v4] := by
   match cs, hl with
   | [a, b, c, d, e], _ => exact ⟨a, b, c, d, e, rfl⟩
  have hx : ∀ i, i < 5 → ∃ y, xs[i]? = some y := fun i hi => ⟨_, List.getElem?_eq_getElem (by rw [hxl]; exact hi)⟩
  have f0 : DataW.trod enc Tryz.prog W 0 (fun _ => true) true m 3 (([v0, v1, v2, v3, v4].drop 0).take (Tryz.prog.cellsOf 3)) = xs[0]? := hf 0 _ rfl
  rw [c0] at f0
  have f1 : DataW.trod enc Tryz.prog W 0 (fun _ => true) true m 22 (([v0, v1, v2, v3, v4].drop 1).take (Tryz.prog.cellsOf 22)) = xs[1]? := hf 1 _ rfl
  rw [c1] at f1
  have f2 : DataW.trod enc Tryz.prog W 0 (fun _ => true) true m 3 (([v0, v1, v2, v3, v4].drop 2).take (Tryz.prog.cellsOf 3)) = xs[2]? := hf 2 _ rfl
  rw [c0] at f2
  have f3 : DataW.trod enc Tryz.prog W 0 (fun _ => true) true m 3 (([v0, v1, v2, v3, v4].drop 3).take (Tryz.prog.cellsOf 3)) = xs[3]? := hf 3 _ rfl
  rw [c0] at f3
  have f4 : DataW.trod enc Tryz.prog W 0 (fun _ => true) true m 23 (([v0, v1, v2, v3, v4].drop 4).take (Tryz.prog.cellsOf 23)) = xs[4]? := hf 4 _ rfl
  rw [c2] at f4
  obtain ⟨y0, e0⟩ := hx 0 (by decide)
  obtain ⟨y1, e1⟩ := hx 1 (by decide)
  obtain ⟨y2, e2⟩ := hx 2 (by decide)
  obtain ⟨y3, e3⟩ := hx 3 (by decide)
  obtain ⟨y4, e4⟩ := hx 4 (by decide)
  rw [e0] at f0
  replace f0 : DataW.trod enc Tryz.prog W 0 (fun _ => true) true m 3 [v0] = some y0 := f0
  rw [e1] at f1
  replace f1 : DataW.trod enc Tryz.prog W 0 (fun _ => true) true m 22 [v1] = some y1 := f1
  rw [e2] at f2
  replace f2 : DataW.trod enc Tryz.prog W 0 (fun _ => true) true m 3 [v2] = some y2 := f2
  rw [e3] at f3
  replace f3 : DataW.trod enc Tryz.prog W 0 (fun _ => true) true m 3 [v3] = some y3 := f3
  rw [e4] at f4
  replace f4 : DataW.trod enc Tryz.prog W 0 (fun _ => true) true m 23 [v4] = some y4 := f4
  obtain ⟨k, hk, -, -⟩ := DataW.trod_int Tryz.underlying3 f0
  obtain ⟨lo, hlo, -, -⟩ := DataW.trod_int Tryz.underlying3 f2
  obtain ⟨hi, hhi, -, -⟩ := DataW.trod_int Tryz.underlying3 f3
  obtain ⟨A, R, c, hA, hRc, hcm, hRL⟩ := trod_ranges f1
  injection hk with hk
  injection hlo with hlo
  injection hhi with hhi
  injection hA with hA
  subst hk hlo hhi hA
  rcases DataW.trod_slice Tryz.underlying23 f4 with ⟨h4, -⟩ | ⟨a, len, cap, elems, rest, n, hmn, h4, -, -, hlc, hcapm, hlen, hel, -, -⟩
  ·injection h4 with h4
   subst h4
   exact ⟨.mk k lo hi R [], _, rfl, .mk (ks := []) [] hRL ⟨hRc, hcm⟩ rfl LiesP.none ⟨Nat.le_refl 0, Nat.zero_le _⟩ fun i h1 => by simp at h1⟩
  ·injection h4 with h4
   subst h4
   have each : ∀ i, i < len → ∃ q : Nd × Array Value, Treed W (fun b => b < W.heap.size) q.1 q.2 ∧ ∀ r, r < 5 → W.cell? ((a.add (i * 5)).add r) = q.2.toList[r]? := by
    intro i hi
    have h1 := hel i hi
    rw [List.getElem?_eq_getElem (by omega), c5] at h1
    obtain ⟨cs', g1, g2⟩ := Option.bind_eq_some_iff.1 h1
    obtain ⟨n', V, rfl, ht⟩ := ih n (by omega) g2
    obtain ⟨-, -, hc⟩ := World.cells?_some g1
    exact ⟨(n', V), ht, hc⟩
   haveI : Inhabited (Nd × Array Value) := ⟨(.mk 0 0 0 [] [], #[])⟩
   obtain ⟨q, hq⟩ := Go.Deep.choose_lt each
   have hlv : ((List.range len).map fun i => (q i).2).length = len := by simp
   have h5 : ∀ v ∈ (List.range len).map (fun i => (q i).2), v.size = 5 := by
    intro v hv
    obtain ⟨i, hi, rfl⟩ := List.mem_map.1 hv
    exact (hq i (List.mem_range.1 hi)).1.size
   have hlk : ((List.range len).map fun i => (q i).1).length = len := by simp
   refine ⟨.mk k lo hi R ((List.range len).map fun i => (q i).1), #[.int .i64 k, .slice A R.length c, .int .i64 lo, .int .i64 hi, .slice (some a) ((List.range len).map fun i => (q i).1).length cap], by rw [hlk], .mk ((List.range len).map fun i => (q i).2) hRL ⟨hRc, hcm⟩ (by rw [hlv, hlk]) (fun hne => ?_) (by rw [hlk]; exact ⟨hlc, hcapm⟩) fun i h1 h2 => ?_⟩
   ·have hp : 0 < len := by
     rcases Nat.eq_zero_or_pos len with h0 | h0
     ·subst h0; exact absurd rfl hne
     ·exact h0
    have hfl := nflat_len h5
    rw [hlv] at hfl
    have hcell : ∀ i u, (((List.range len).map fun i => (q i).2).flatMap Array.toList)[i]? = some u → W.cell? (a.add i) = some u := by
     intro i u hu
     have hi := (List.getElem?_eq_some_iff.1 hu).1
     have hj : i / 5 < len := by omega
     have := nflat_at h5 (i / 5) (i % 5) (by rw [hlv]; exact hj) (Nat.mod_lt _ (by decide))
     rw [show i / 5 * 5 + i % 5 = i by omega, hu] at this
     have h2 := (hq (i / 5) hj).2 (i % 5) (Nat.mod_lt _ (by decide))
     rw [add_add, show i / 5 * 5 + i % 5 = i by omega] at h2
     rw [h2]
     simpa using this.symm
    have h00 := hcell 0 _ (List.getElem?_eq_getElem (by omega))
    have hs := plain_of_cell h00
    have hb := World.block_lt_of_cell? W _ h00
    rw [add_block] at hb
    obtain ⟨b, off, spot⟩ := a
    have hsp : spot = none := by
     unfold Addr.add at hs; simpa using hs
    subst hsp
    exact ⟨b, off, rfl, hb, hb, fun i u hu => by rw [← add_plain]; exact hcell i u hu⟩
   ·have hi : i < len := by rw [hlv] at h1; exact h1
    simp only [List.getElem_map, List.getElem_range]
    exact (hq i hi).1
set_option maxRecDepth 20000 in
set_option maxHeartbeats 1000000 in
theorem open_node {W : World} {v : Value} {d : DataW H} {ps : List MemPlace} {r : Reach} {b0 : Nat} (hval : Value.okWide Tryz.prog W r b0 25 v)
 (h : DataW.Trod enc Tryz.prog W 0 (fun _ => true) true 25 v d ps) :
 ∃ (n : Nd) (V : Array Value), v = .agg V ∧ Treed W (fun b => b < W.heap.size) n V := by
 obtain ⟨cs, rfl, -⟩ := okWide_struct Tryz.underlying25 hval
 obtain ⟨fuel, hf⟩ := h
 obtain ⟨n, V, hV, ht⟩ := trod_tree fuel hf
 refine ⟨n, V, ?_, ht⟩
 congr 1
 have : cs.toList = V.toList := hV
 exact Array.toList_inj.1 this
end Go.Proofs.YtoeocodfndbebaaGreatDoor
