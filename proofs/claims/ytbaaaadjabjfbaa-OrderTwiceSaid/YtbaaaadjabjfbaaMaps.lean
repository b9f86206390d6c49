/- Maps from whole numbers to whole numbers: what one holds, as a function. -/
import Derived.Test.YtbaaaadjabjfbaaInts
import Derived.Maps.RangeWalk
import Derived.Maps.Ext
namespace Go.Proofs.Ytbaaaadjabjfbaa
open Go.RowKit Go.Maps

theorem keyI : Keyed Try.prog 3 := int_keyed Try.underlying3

/-- a map as read holds just what M says -/
def Reads (D : DataW Unit) (M : Int → Option Int) : Prop :=
  IsMap D ∧ ∀ x, match M x with
    | some y => ∀ z, D.atKey (.int .i64 x) z = .lit (.int .i64 y)
    | none => has D (.int .i64 x) = false
theorem reads_none : Reads (.map []) fun _ => none := ⟨⟨[], rfl⟩, fun _ => rfl⟩
theorem reads_put {D : DataW Unit} {M : Int → Option Int} (h : Reads D M) (k v : Int) : Reads (D.put (.int .i64 k) (.lit (.int .i64 v))) (fun x => if x = k then some v else M x) := by
  refine ⟨h.1.put _ _, fun x => ?_⟩
  have hx := h.2 x
  by_cases e : x = k
  · subst e
    simp only [if_true]
    exact fun z => atKey_put_same h.1 (k := .int .i64 x) trivial _ z
  · have ne : (Lit.int .i64 x) ≠ .int .i64 k := fun h => e (by injection h)
    simp only [if_neg e]
    cases hM : M x with
    | none => rw [hM] at hx; exact (has_put_other ne _).trans hx
    | some y => rw [hM] at hx; exact fun z => (atKey_put_other ne _ z).trans (hx z)
theorem Reads.has {D : DataW Unit} {M : Int → Option Int} (h : Reads D M) {x y : Int} (e : M x = some y) : Maps.has D (.int .i64 x) = true := by
  have := h.2 x
  rw [e] at this
  exact has_true_of_atKey this
theorem Reads.eq {D : DataW Unit} {M : Int → Option Int} (h : Reads D M) {x y : Int} (e : ∀ z, D.atKey (.int .i64 x) z = .lit (.int .i64 y)) : M x = some y := by
  have hx := h.2 x
  cases hM : M x with
  | none => rw [hM] at hx; exact absurd ((has_true_of_atKey e).symm.trans hx) (by simp)
  | some c =>
    rw [hM] at hx
    have := (hx .nil).symm.trans (e .nil)
    injection this with this
    injection this with _ this
    rw [this]

/-- a list of pairs as a map: the first one counts -/
def lkp : List (Int × Int) → Int → Option Int
  | [], _ => none
  | (a, b) :: r, x => if x = a then some b else lkp r x
theorem lkp_mem : ∀ {l : List (Int × Int)} {x y : Int}, lkp l x = some y → (x, y) ∈ l
  | (a, b) :: r, x, y, h => by
    unfold lkp at h
    split at h
    · rename_i e; subst e; injection h with h; subst h; simp
    · exact List.mem_cons_of_mem _ (lkp_mem h)
theorem lkp_append (l m : List (Int × Int)) (x : Int) : lkp (l ++ m) x = (lkp l x).or (lkp m x) := by
  induction l with
  | nil => rfl
  | cons p r ih => obtain ⟨a, b⟩ := p; simp only [List.cons_append, lkp]; split <;> simp [ih]

/-- block b is a map that holds what M says, of at most n entries -/
def MapAt (w : World) (b n : Nat) (M : Int → Option Int) : Prop := ∃ D : DataW Unit, w.ownsMap Try.prog 3 (plainElem Try.prog 3) b n D ∧ Reads D M
section
variable {w w' : World} {b n : Nat} {M M' : Int → Option Int}
theorem MapAt.lt (h : MapAt w b n M) : b < w.heap.size := h.elim fun _ h => h.1.lt
theorem MapAt.cong (h : MapAt w b n M) (e : ∀ x, M x = M' x) : MapAt w b n M' := (funext e : M = M') ▸ h
theorem MapAt.kept {row : Option Nat} (h : MapAt w b n M) (hg : w.grownBy w' row) (hb : some b ≠ row) : MapAt w' b n M := h.elim fun D h => ⟨D, h.1.kept hg hb, h.2⟩
theorem MapAt.alloc (h : MapAt w b n M) (o : Obj) : MapAt (w.alloc o) b n M := h.elim fun D h => ⟨D, h.1.alloc o, h.2⟩
theorem MapAt.below (h : MapAt w b n M) {B : Nat} (hb : Below B w w') (_hB : b < B) (hB' : w.heap.size ≤ B) : MapAt w' b n M := by
  refine h.kept (row := none) ⟨hb.os, hb.tape, hb.output, hb.size, fun k hk _ => hb.block k (by omega)⟩ (by simp)
theorem mapAt_made (w : World) : MapAt (w.alloc (.map #[] 0)) w.heap.size 0 fun _ => none := ⟨_, World.ownsMap_made _ _ _ _, reads_none⟩
variable {ops : Array Oper} {rest : List Oper} {o : Oper} {a : Act} {Q : Exit → Act → World → Prop}
/-- an entry of a map that is written out -/
theorem insert_at (hg : o.guard = none) {t : TypeId} {m x v : Operand} (hop : o.op = Op.insert t m x v) (ht : Try.prog.underlying t = some (.map 3 3))
    (hm : a.eval m = .map (some b)) (h : MapAt w b n M) (hn : n < maxLen) {k y : Int} (hx : a.eval x = .int .i64 k) (hv : a.eval v = .int .i64 y) (hk : (Lit.int .i64 k).wf = true) (hy : (Lit.int .i64 y).wf = true)
    (hK : ∀ w', MapAt w' b (n + 1) (fun z => if z = k then some y else M z) → w.grownBy w' (some b) → wpList Try.prog ops Q rest (a.put o.dst undef) w') :
    wpList Try.prog ops Q (o :: rest) a w := by
  obtain ⟨D, hown, hR⟩ := h
  refine wpList_plain hg fun K' hK' => ?_
  obtain ⟨w', hrun, r1, r2⟩ := hown.update keyI ht hn (keyOf_int_mk Try.underlying3 hk) (plainElem_int Try.underlying3 hy)
  unfold Oper.wp
  simp [execOp, hop, hm, hx, hv, hrun, Result.andThen]
  exact hK' _ _ (hK w' ⟨_, r1, reads_put hR _ _⟩ r2)
theorem update_at (hg : o.guard = none) {t : TypeId} {m x v : Operand} (hop : o.op = Op.mapUpdate t m x v) (ht : Try.prog.underlying t = some (.map 3 3))
    (hm : a.eval m = .map (some b)) (h : MapAt w b n M) (hn : n < maxLen) {k y : Int} (hx : a.eval x = .int .i64 k) (hv : a.eval v = .int .i64 y) (hk : (Lit.int .i64 k).wf = true) (hy : (Lit.int .i64 y).wf = true)
    (hK : ∀ w', MapAt w' b (n + 1) (fun z => if z = k then some y else M z) → w.grownBy w' (some b) → wpList Try.prog ops Q rest (a.put o.dst undef) w') :
    wpList Try.prog ops Q (o :: rest) a w := by
  obtain ⟨D, hown, hR⟩ := h
  refine wpList_plain hg fun K' hK' => ?_
  obtain ⟨w', hrun, r1, r2⟩ := hown.update keyI ht hn (keyOf_int_mk Try.underlying3 hk) (plainElem_int Try.underlying3 hy)
  unfold Oper.wp
  simp [execOp, hop, hm, hx, hv, hrun, Result.andThen]
  exact hK' _ _ (hK w' ⟨_, r1, reads_put hR _ _⟩ r2)

/-- a range over the map in block b, its iterator in block r: the keys of 'left' are still to come -/
def Ranging (w : World) (b r n : Nat) (M : Int → Option Int) (left : Int → Bool) (cnt : Nat) : Prop :=
  ∃ (D : DataW Unit) (lf : Lit → Bool), w.ranges Try.prog 3 (plainElem Try.prog 3) b r n D lf cnt ∧ Reads D M ∧ ∀ x, left x = lf (.int .i64 x)
theorem Ranging.left_eq {r cnt : Nat} {left : Int → Bool} (h : Ranging w b r n M left cnt) : w.rangeLeft b r = cnt := h.elim fun _ ⟨_, h, _⟩ => h.left_eq
theorem Ranging.kept {r cnt : Nat} {left : Int → Bool} {row : Option Nat} (h : Ranging w b r n M left cnt) (hg : w.grownBy w' row) (hb : some b ≠ row) (hr : some r ≠ row) : Ranging w' b r n M left cnt := by
  obtain ⟨D, lf, h1, h2, h3⟩ := h
  exact ⟨D, lf, h1.kept hg hb hr, h2, h3⟩
theorem Ranging.map {r cnt : Nat} {left : Int → Bool} (h : Ranging w b r n M left cnt) : MapAt w b n M := h.elim fun D ⟨_, h, hR, _⟩ => ⟨D, h.owns, hR⟩
theorem range_at (hg : o.guard = none) {m : Operand} {t : TypeId} (hop : o.op = Op.range t m) (ht : Try.prog.underlying t = some (.map 3 3)) (hm : a.eval m = .map (some b)) (h : MapAt w b n M)
    (hK : ∀ w' left cnt, Ranging w' b w.heap.size n M left cnt → (∀ x y, M x = some y → left x = true) → cnt ≤ n → w.grownBy w' none → w'.heap.size = w.heap.size + 1 → wpList Try.prog ops Q rest (a.put o.dst (.pointer (some ⟨w.heap.size, 0, none⟩))) w') :
    wpList Try.prog ops Q (o :: rest) a w := by
  obtain ⟨D, hown, hR⟩ := h
  refine wpList_range_own w hg m t hop 3 3 keyI ht _ b n D hm hown ?_
  intro w' h1 h2 h3
  exact hK w' (fun x => Maps.has D (.int .i64 x)) _ ⟨D, _, h1, hR, fun _ => rfl⟩ (fun x y e => hR.has e) hown.size_le h2 h3
theorem next_at {r cnt : Nat} {left : Int → Bool} (hg : o.guard = none) {it : Operand} (hop : o.op = Op.next it false) (hit : a.eval it = .pointer (some ⟨r, 0, none⟩)) (h : Ranging w b r n M left cnt)
    (hDone : (∀ x, left x = false) → cnt = 0 → wpList Try.prog ops Q rest (a.put o.dst (.tuple #[.bool false])) w)
    (hMore : ∀ (x y : Int) (w' : World) (left' : Int → Bool) (cnt' : Nat), (Lit.int .i64 x).wf = true → (Lit.int .i64 y).wf = true → M x = some y → left x = true → left' x = false → (∀ z, z ≠ x → left' z = left z) → Ranging w' b r n M left' cnt' → cnt' < cnt →
      w.grownBy w' (some r) → w'.heap.size = w.heap.size → (Instr.entry (.pointer (some ⟨r, 0, none⟩))).run Try.prog w' = .ok (.tuple #[.int .i64 x, .int .i64 y]) w' → wpList Try.prog ops Q rest (a.put o.dst (.tuple #[.bool true, .int .i64 x, .int .i64 y])) w') :
    wpList Try.prog ops Q (o :: rest) a w := by
  obtain ⟨D, lf, h1, hR, hl⟩ := h
  refine wpList_next_ranges_ii w hg it hop 3 3 .i64 .i64 keyI Try.underlying3 Try.underlying3 b r n D lf cnt hit h1 (fun h0 h => hDone (fun x => (hl x).trans (h _)) h0) ?_
  intro x c w' cnt' hwx hwc hlx hat h2 hlt hgr hsz hen
  refine hMore x c w' (fun z => lf (.int .i64 z) && !(Lit.int .i64 z).sameKey (.int .i64 x)) cnt' hwx hwc (hR.eq hat) ((hl x).trans hlx) ?_ ?_ ⟨D, _, h2, hR, fun _ => rfl⟩ hlt hgr hsz hen
  · rw [WideAt.sameKey_self (a := .int .i64 x) trivial]; simp
  · intro z hz
    rw [Maps.sameKey_ne (fun e => hz (by injection e)), hl z]
    simp
end
end Go.Proofs.Ytbaaaadjabjfbaa
