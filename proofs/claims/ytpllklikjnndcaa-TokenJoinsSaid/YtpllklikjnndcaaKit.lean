/- Words that every layer's walks use. -/
import Derived.Test.YtpllklikjnndcaaMem
import Derived.Test.YtpllklikjnndcaaMem2
import Derived.Test.YtpllklikjnndcaaChecked
import Derived.OrdersHeld
import Derived.Deep.RegionHeld
namespace Go.Proofs.Ytpllklikjnndcaa
open Go.RowKit

section
variable {α : Type _}
theorem ZA {xs : List α} {i : Nat} (h : i < xs.toArray.size) : xs.toArray[i] = xs[i]'(by simpa using h) := List.getElem_toArray h
theorem ZB (a : α) (l : List α) (h : 0 < (a :: l).length) : (a :: l)[0] = a := rfl
theorem ZC (a : α) (l : List α) (i : Nat) (h : i + 1 < (a :: l).length) : (a :: l)[i + 1] = l[i]'(Nat.lt_of_succ_lt_succ h) := rfl
theorem ZD (l : List α) (i : Nat) (a : α) : l.toArray.setIfInBounds i a = (l.set i a).toArray := List.setIfInBounds_toArray l i a
theorem ZE {x a : α} {xs : List α} : (x :: xs).set 0 a = a :: xs := rfl
theorem ZF {x a : α} {xs : List α} {i : Nat} : (x :: xs).set (i + 1) a = x :: xs.set i a := rfl
end
section
variable {P : Program} {ops : Array Oper} {Q : Exit → Act → World → Prop} {md : Region.Mode} {S : World → Prop}
/-- in fewer words: what yields under S is taken; what isn't wanted; the only one that is ready -/
theorem hY (i : Nat) {oi : Oper} {v : Value} {fuel : Nat} {listed : Array Bool} {a : Act} {w : World}
    (h : wpAnyH P md ops Q S fuel (listed.setIfInBounds i true) (a.put oi.dst v) w) (hS : S w := by assumption)
    (hi : ops[i]? = some oi := by rfl) (hQ : ∀ c a w, Q (.panic c) (a.put oi.dst v) w → Q (.panic c) a w := by exact fun _ _ _ h => h)
    (hw : Region.wanted oi (yielded ops a.tmps) = true := by rfl) (hy : ∀ u, S u → (execOp a.eval oi).run P u = .ok (.value v) u := by (intro u hu; (try dsimp only at hu); go_simp; try with_reducible rfl))
    (hs : Region.noSelect ops = true := by kernel_rfl) (hf : Region.free md ops listed i = true := by kernel_rfl) (hr : (Region.ready md ops listed).contains i = true := by kernel_rfl) : wpAnyH P md ops Q S (fuel + 1) listed a w := wpAnyH_take hi hs hf hr hQ (.inl ⟨hw, hy⟩) hS h
theorem hN (i : Nat) {oi : Oper} {fuel : Nat} {listed : Array Bool} {a : Act} {w : World}
    (h : wpAnyH P md ops Q S fuel (listed.setIfInBounds i true) (a.put oi.dst undef) w) (hS : S w := by assumption)
    (hi : ops[i]? = some oi := by rfl) (hQ : ∀ c a w, Q (.panic c) (a.put oi.dst undef) w → Q (.panic c) a w := by exact fun _ _ _ h => h)
    (hw : Region.wanted oi (yielded ops a.tmps) = false := by rfl)
    (hs : Region.noSelect ops = true := by kernel_rfl) (hf : Region.free md ops listed i = true := by kernel_rfl) (hr : (Region.ready md ops listed).contains i = true := by kernel_rfl) : wpAnyH P md ops Q S (fuel + 1) listed a w := wpAnyH_take hi hs hf hr hQ (.inr ⟨hw, rfl⟩) hS h
theorem hA (i : Nat) {fuel : Nat} {listed : Array Bool} {a : Act} {w : World} {o : Oper}
    (h : ∀ K' : Act → World → Prop, Shut (∀ a w, S w → (S w → wpAnyH P md ops Q S fuel (listed.setIfInBounds i true) a w) → K' a w) → if Region.wanted o (yielded ops a.tmps) = true then Oper.wp P o a w K' Q else K' (a.put o.dst undef) w)
    (ho : ops[i]? = some o := by rfl) (hr : Region.ready md ops listed = [i] := by kernel_rfl) : wpAnyH P md ops Q S (fuel + 1) listed a w :=
  wpAnyH_ready hr (List.cons_ne_nil _ _) (AllReadyH.cons ho h AllReadyH.nil)
end
theorem ret_int {k : IntKind} {a b : Int} (h : a = b) : Ending.returned (.int k a) = .returned (.int k b) := by rw [h]
theorem ret_bool {a b : Bool} (h : a = b) : Ending.returned (.bool a) = .returned (.bool b) := by rw [h]
/-- what a call of one result hands back: a row of its own -/
def Rowed (w : World) (B : Nat) (e : TypeId) (xs : List Value) (ed : Ending) (w' : World) : Prop :=
  ∃ v, ed = .returned v ∧ Own w' B e v xs ∧ Below B w w'
theorem rowed_ret {w0 w : World} {B : Nat} {e : TypeId} {xs ys : List Value} {v : Value} (h : Own w B e v ys) (hb : Below B w0 w) (he : ys = xs) : Rowed w0 B e xs (.returned v) w :=
  ⟨v, rfl, he ▸ h, hb⟩
/-- a row of its own, and a number -/
def Rowed2 (w : World) (B : Nat) (e : TypeId) (xs : List Value) (n : Int) (ed : Ending) (w' : World) : Prop :=
  ∃ v, ed = .returned (.tuple #[v, .int .i64 n]) ∧ Own w' B e v xs ∧ Below B w w'
def Rowed3 (w : World) (B : Nat) (e : TypeId) (xs ys : List Value) (n : Int) (ed : Ending) (w' : World) : Prop :=
  ∃ v1 v2, ed = .returned (.tuple #[v1, v2, .int .i64 n]) ∧ Own w' B e v1 xs ∧ Own w' B e v2 ys ∧ Below B w w'
theorem take_snoc (l : List Int) (k : Nat) (h : k < l.length) : l.take (k + 1) = l.take k ++ [l[k]] := by
  rw [List.take_succ_eq_append_getElem h]
theorem Lies.ofIf {w : World} {B : Nat} {X Y : Option Addr} {xs : List Value} {c : Prop} [Decidable c] (h : Lies w B X xs) (hc : c → xs = []) : Lies w B (if c then Y else X) xs := by
  split
  · rename_i hh; rw [hc hh]; exact Lies.empty
  · exact h
theorem quiet_more {P : Program} {f : FuncId} {args : Array Value} {w : World} {a n : Nat} {v : Value}
    (h : Calls P f args (w.drewN (a + n)) fun e w' => e = .returned v ∧ ∃ j, w' = (w.drewN (a + n)).drewN j) :
    Calls P f args (w.drewN (a + n)) fun e w'' => e = .returned v ∧ ∃ m, w'' = w.drewN (a + m) :=
  h.mono fun _ _ ⟨he, m, hm⟩ => ⟨he, n + m, by rw [hm, World.drewN_drewN, Nat.add_assoc]⟩
theorem quiet_same {P : Program} {f : FuncId} {args : Array Value} {w : World} {n : Nat} {v : Value}
    (h : Calls P f args (w.drewN n) fun e w' => e = .returned v ∧ w.drewN n = w') : Calls P f args (w.drewN n) fun e w'' => e = .returned v ∧ ∃ m, w'' = w.drewN m :=
  h.mono fun _ _ ⟨he, hm⟩ => ⟨he, n, hm.symm⟩
def lenOf : Value → Nat | .slice _ n _ => n | _ => 0
theorem below_drawn {B : Nat} {a w : World} (h : Below B a w) (n : Nat) : Below B a (w.drewN n) := ⟨h.os, h.tape, h.output, h.size, h.block⟩
theorem Lies.lit {w : World} {e : TypeId} (cs : Array Value) : Lies (w.alloc (.cells cs e)) (w.heap.size + 1) (some ⟨w.heap.size, 0, none⟩) cs.toList := fun _ =>
  ⟨_, rfl, by simp, World.news_of_block (heap_alloc_new w _)⟩
theorem Lies.up {w w' : World} {A : Option Addr} {xs : List Value} (h : Lies w w.heap.size A xs) (hb : Below w.heap.size w w') : Lies w' w'.heap.size A xs := (h.below hb).wider hb.size
theorem below_alloc (w : World) (o : Obj) : Below w.heap.size w (w.alloc o) := (Below.refl _ _).alloc (Nat.le_refl _) o
theorem below_then {a b c : World} (h : Below a.heap.size a b) (k : Below b.heap.size b c) : Below a.heap.size a c := h.trans (k.mono h.size)
theorem Lies.litUp {w : World} {e : TypeId} (cs : Array Value) : Lies (w.alloc (.cells cs e)) (w.alloc (.cells cs e)).heap.size (some ⟨w.heap.size, 0, none⟩) cs.toList := by
  have := Lies.lit (w := w) (e := e) cs; simpa using this
theorem add_plain (b off i : Nat) : (⟨b, off, none⟩ : Addr).add i = ⟨b, off + i, none⟩ := by
  unfold Addr.add; split
  · simp
  · rfl
end Go.Proofs.Ytpllklikjnndcaa
