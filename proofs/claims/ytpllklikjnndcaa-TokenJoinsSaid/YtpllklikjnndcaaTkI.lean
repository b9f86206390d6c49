/- Layer 15: caught: what is wrong ends the reading, and is told; Of. -/
import Derived.Recover
import Derived.Defers
import Derived.Test.YtpllklikjnndcaaTkH
namespace Go.Proofs.Ytpllklikjnndcaa
open Go.RowKit

theorem catch_frame (b : Nat) : #[Value.pointer (some ⟨b, 0, none⟩)] ++ Array.replicate (Try.f15.ntmps - #[Value.pointer (some ⟨b, 0, none⟩)].size) undef = #[.pointer (some ⟨b, 0, none⟩), undef, undef, undef, undef, undef, undef, undef, undef, undef, undef, undef, undef, undef, undef, undef] := by
  rw [Try.ntmps15]; rfl
theorem wrong_one (n x : Int) : (#[Value.int .i64 n, .int .i64 x] : Array Value).all (·.oneCell') = true := by simp [Value.oneCell']
theorem wrongInfo (n x : Int) : (Try.prog.info? 38).map (·.size) = some (#[Value.int .i64 n, .int .i64 x] : Array Value).size := by kernel_rfl
theorem tkassert (n x : Int) (w : World) : (Instr.typeAssert (.iface 38 (.agg #[.int .i64 n, .int .i64 x])) 20 38 true).run Try.prog w = .ok (.tuple #[.agg #[.int .i64 n, .int .i64 x], .bool true]) w := by kernel_rfl
set_option maxRecDepth 20000 in
set_option maxHeartbeats 1000000 in
theorem catch_wrong (w : World) (b : Nat) (x0 x1 n x : Int) (hb : Box w b #[.int .i64 x0, .int .i64 x1] 38) :
    CallsD Try.prog 15 #[.pointer (some ⟨b, 0, none⟩)] (.panicking [{ v := .iface 38 (.agg #[.int .i64 n, .int .i64 x]), recovered := false }]) w fun e u' w' =>
      e = .returned (.tuple #[]) ∧ u' = .panicking [{ v := .iface 38 (.agg #[.int .i64 n, .int .i64 x]), recovered := true }] ∧ Box w' b #[.int .i64 n, .int .i64 x] 38 ∧ w.grownBy w' (some b) := by
  refine callsD_of_wpS Try.func15 rfl fun c₀ cs hu => ?_
  rw [catch_frame]
  apply wpS_seq
  apply wpS_region
  simp [wpOpsS, go_sem, recoverD, hu, Exit.thenS]
  refine wpS_of_wp ?_
  have HB := Lib.hid (hb.kept (grown_new w (.cells #[.int .i64 n, .int .i64 x] 38) none) (by simp))
  have hbw := hb.lt
  have hne : ¬ w.heap.size = b := by omega
  have hta := tkassert n x w
  clear hb
  go_wp2_with (first
    | (refine store_box _ _ _ b _ #[.int .i64 n, .int .i64 x] rfl rfl rfl rfl rfl HB.out rfl (wrongInfo n x) (wrong_one n x) ?_; intro w2 x2 g2; have X2 := Lib.hid x2; have G2 := Lib.hid ((grown_new w (.cells #[.int .i64 n, .int .i64 x] 38) (some b)).trans g2); clear x2 g2)
    | fail)
  exact ⟨rfl, _, rfl, _, results_none rfl _ _ _, rfl, rfl, X2.out, G2.out⟩
set_option maxRecDepth 20000 in
set_option maxHeartbeats 1000000 in
theorem catch_none (w : World) (b : Nat) :
    CallsD Try.prog 15 #[.pointer (some ⟨b, 0, none⟩)] .returning w fun e u' w' => e = .returned (.tuple #[]) ∧ u' = .returning ∧ w' = w := by
  refine callsD_of_wpS Try.func15 rfl fun c₀ cs hu => ?_
  rw [catch_frame]
  apply wpS_seq
  apply wpS_region
  simp [wpOpsS, go_sem, recoverD, hu, Exit.thenS]
  refine wpS_of_wp ?_
  go_wp2_with fail
  exact ⟨rfl, .returning, by cases c₀; simp at hu; subst hu; rfl, .tuple #[], results_none rfl _ _ _, rfl, rfl, rfl⟩

/-- a slot, and a struct in a box, are answered -/
theorem results_slot_box {P : Program} {fn : Func} {t p : Tmp} {ty : TypeId} (h : fn.results = #[.tmp t, .cell p ty]) (tmps : Array Value) (w : World) (g : Nat) (e : TypeId) (cs : Array Value) (d : TypeDesc)
    (hp : tmps.getD p undef = .pointer (some ⟨g, 0, none⟩)) (hg : Box w g cs e)
    (hu : P.underlying ty = some d) (hd : (match d with | .struct _ | .array _ _ => true | _ => false) = true) (hi : (P.info? ty).map (·.size) = some cs.size) :
    (results fn tmps).run P w = .ok (.tuple #[tmps.getD t undef, .agg cs]) w := by
  have hp' : tmps[p]?.getD undef = .pointer (some ⟨g, 0, none⟩) := by simpa using hp
  simp [results, h, hp', asAddr, run_loadVar_row w g e ty cs (0, 0) d hg hu hd hi]
/-- tokens, or where it is wrong, and by which error -/
def CaughtT (w : World) (r : Wr (List Tok)) (ed : Ending) (w' : World) : Prop := match r with
  | .ok T => (∃ tv, ed = .returned (.tuple #[tv, .agg #[.int .i64 0, .int .i64 0]]) ∧ OwnN w' w.heap.size 30 5 tv T.length (tokCells T)) ∧ Below w.heap.size w w'
  | .error (n, x) => ed = .returned (.tuple #[.slice none 0 0, .agg #[.int .i64 n, .int .i64 x]]) ∧ Below w.heap.size w w'
set_option maxRecDepth 20000 in
set_option maxHeartbeats 1000000 in
theorem tkcaught_any (w : World) (c : Nat) (A : Option Addr) (l : List Int) (h : Lies w w.heap.size A (ints .i64 l)) (hl : l.length ≤ 1000) (hc : l.length ≤ c) :
    Calls Try.prog 14 #[.slice A l.length c] w (CaughtT w (readT l (l.length + 1) false 0 [])) := by
  obtain ⟨R, hR⟩ : ∃ R, readT l (l.length + 1) false 0 [] = R := ⟨_, rfl⟩
  obtain ⟨w0, hw0⟩ : ∃ u, w.alloc (.cells #[.int .i64 0, .int .i64 0] 38) = u := ⟨_, rfl⟩
  have X0 : Hid (Box w0 w.heap.size #[.int .i64 0, .int .i64 0] 38) := Lib.hid (hw0 ▸ Box.new w _ _)
  have B0 : Hid (Below w.heap.size w w0) := Lib.hid (hw0 ▸ below_alloc w _)
  have Z0 : Hid (w0.heap.size = w.heap.size + 1) := Lib.hid (by rw [← hw0]; simp)
  have HC := Lib.hid (tkread_any w0 c A l (by have := Z0.out; exact (h.below B0.out).wider (by omega)) hl hc)
  have HW0 := Lib.hid hw0
  rw [hR] at HC ⊢
  clear hw0 hR h
  have hmf : ∀ (fn : Fn) (first cap : Array Value) (w : World), (Instr.makeFunc fn first cap).run Try.prog w = .ok (.func fn first cap) w := fun _ _ _ _ => rfl
  rcases R with ⟨n, x⟩ | T
  · go_enter_defers Try.func14, Try.ntmps14
    go_wp2_with fail
    rw [HW0.out]
    refine HC.out.mono ?_
    rintro e w1 ⟨rfl, b1⟩
    have B1 : Hid (Below w.heap.size w w1) := Lib.hid (B0.out.trans (b1.mono (by have := Z0.out; omega)))
    have X1 := Lib.hid (X0.out.below b1 (by have := Z0.out; omega))
    clear b1
    go_wp2_with fail
    refine leaves_cons (f := 15) (args := #[.pointer (some ⟨w.heap.size, 0, none⟩)]) (by simp) (by simp [go_sem]) ?_
    refine (catch_wrong w1 w.heap.size 0 0 n x X1.out).mono ?_
    rintro e u w2 ⟨rfl, rfl, x2, g2⟩
    exact ⟨_, results_slot_box rfl _ _ w.heap.size 38 _ _ rfl x2 Try.underlying38 rfl (wrongInfo n x), rfl, B1.out.trans (below_row g2 (Nat.le_refl _) B1.out.size)⟩
  · go_enter_defers Try.func14, Try.ntmps14
    go_wp2_with fail
    rw [HW0.out]
    refine HC.out.mono ?_
    rintro e w1 ⟨⟨tv, rfl, o1⟩, b1⟩
    have O1 := Lib.hid o1
    have B1 : Hid (Below w.heap.size w w1) := Lib.hid (B0.out.trans (b1.mono (by have := Z0.out; omega)))
    have X1 := Lib.hid (X0.out.below b1 (by have := Z0.out; omega))
    clear b1 o1
    go_wp2_with (first
      | (refine store_box w1 _ _ w.heap.size _ #[.int .i64 0, .int .i64 0] rfl rfl rfl rfl rfl X1.out rfl (wrongInfo 0 0) (wrong_one 0 0) ?_; intro w2 x2 g2; have X2 := Lib.hid x2; have G2 := Lib.hid g2; clear x2 g2)
      | fail)
    refine leaves_cons (f := 15) (args := #[.pointer (some ⟨w.heap.size, 0, none⟩)]) (by simp) (by simp [go_sem]) ?_
    refine (catch_none w2 w.heap.size).mono ?_
    rintro e u w3 ⟨rfl, rfl, rfl⟩
    refine ⟨_, results_slot_box rfl _ _ w.heap.size 38 _ _ rfl X2.out Try.underlying38 rfl (wrongInfo 0 0), ⟨tv, rfl, ?_⟩, B1.out.trans (below_row G2.out (Nat.le_refl _) B1.out.size)⟩
    have := (O1.out.keep G2.out (.inr fun e => by have := (O1.out.inside _ e).1; have := Z0.out; omega)).weaken (B' := w.heap.size) (by have := Z0.out; omega)
    exact this

/-- what Of answers -/
def OfTo (w : World) (r : Wr (List Tok)) (ed : Ending) (w' : World) : Prop := match r with
  | .ok T => (∃ tv, ed = .returned (.tuple #[tv, .int .i64 0, .int .i64 0]) ∧ OwnN w' w.heap.size 30 5 tv T.length (tokCells T)) ∧ Below w.heap.size w w'
  | .error (n, x) => ed = .returned (.tuple #[.slice none 0 0, .int .i64 n, .int .i64 x]) ∧ Below w.heap.size w w'
set_option maxRecDepth 20000 in
set_option maxHeartbeats 1000000 in
theorem tkof_any (w : World) (c : Nat) (A : Option Addr) (l : List Int) (h : Lies w w.heap.size A (ints .i64 l)) (hc : l.length ≤ c) :
    Calls Try.prog 8 #[.slice A l.length c] w (OfTo w (ofT l)) := by
  by_cases h200 : 200 < l.length
  · have hr : ofT l = .error (0, 10) := by unfold ofT; rw [if_pos h200]
    rw [hr]
    have d1 : decide (200 < (l.length : Int)) = true := decide_eq_true (by omega)
    clear h hc h200 hr
    go_enter Try.func8, Try.ntmps8
    go_wp2_with fail
    go_ret3
    exact ⟨rfl, Below.refl _ _⟩
  · obtain ⟨R, hR⟩ : ∃ R, readT l (l.length + 1) false 0 [] = R := ⟨_, rfl⟩
    have hr : ofT l = R := by unfold ofT; rw [if_neg h200, hR]
    have HC := Lib.hid (tkcaught_any w c A l h (by omega) hc)
    rw [hr]
    rw [hR] at HC
    have d1 : decide (200 < (l.length : Int)) = false := decide_eq_false (by omega)
    clear h hc h200 hr hR
    rcases R with ⟨n, x⟩ | T
    · go_enter Try.func8, Try.ntmps8
      go_wp2_with fail
      refine HC.out.mono ?_
      rintro e w1 ⟨rfl, b1⟩
      have B1 := Lib.hid b1
      clear b1
      go_wp2_with fail
      go_quiet (fail)
      go_wp2_with fail
      go_ret3
      exact ⟨rfl, below_drawn (B1.out.alloc B1.out.size _) _⟩
    · go_enter Try.func8, Try.ntmps8
      go_wp2_with fail
      refine HC.out.mono ?_
      rintro e w1 ⟨⟨tv, rfl, o1⟩, b1⟩
      have B1 := Lib.hid b1
      have O1 := Lib.hid o1
      clear b1 o1
      go_wp2_with fail
      go_quiet (fail)
      go_wp2_with fail
      go_ret3
      exact ⟨⟨_, rfl, (O1.out.alloc _).same rfl⟩, below_drawn (B1.out.alloc B1.out.size _) _⟩
end Go.Proofs.Ytpllklikjnndcaa
