/- Shared texts, shaken for one claim. -/
import Derived.Deep.Quiet
import Derived.ProofKit
import Derived.OpenShut
import Derived.Carry
import Derived.Deep.DeepHandedRow
import Derived.Test.YtadfleopbpomfaaZA1
import Derived.Test.YtadfleopbpomfaaZA2
namespace Go.Proofs.Ytadfleopbpomfaa.Tests
open Go Reckon
inductive TV where
 | atom (i : Nat)
 | lit (n : Int)
 | boo (b : Bool)
 | nil
 deriving DecidableEq
def TV.val (env : List Value) : TV → Value
 | .atom i => env.getD i undef
 | .lit n => .int .i64 n
 | .boo b => .bool b
 | .nil => undef
inductive Fact where
 | idx (t : TypeId) (x i r : TV)
 | load (t : TypeId) (x r : TV)
 | bin (op : BinOp) (t : TypeId) (x y r : TV)
 | call (f : Nat) (xs : List TV) (r : TV)
 | fld (t : TypeId) (x : TV) (n : Nat) (r : TV)
 | len (ts : Array TypeId) (x r : TV)
section
variable (P : Program) (env : List Value) (w : World)
def Fact.Ok : Fact → Prop
 | .idx t x i r => (Instr.indexAt t (x.val env) (i.val env)).run P w = .ok (r.val env) w
 | .load t x r => (Instr.loadAt t (x.val env)).run P w = .ok (r.val env) w
 | .bin op t x y r => (∀ X Y, (eqGuard op t X Y (x.val env) (y.val env)).run P w = .ok () w) ∧ (binOp op t (x.val env) (y.val env)).run P w = .ok (r.val env) w
 | .call f xs r => (∃ fn, P.funcs[f]? = some fn ∧ (fn.name == "runtime.NumGoroutine") = false ∧ fn.body.isNone = false) ∧ Calls P f (xs.map (TV.val env)).toArray w fun e w' => e = .returned (r.val env) ∧ w = w'
 | .fld t x n r => (Instr.fieldAt t (x.val env) n).run P w = .ok (r.val env) w
 | .len ts x r => ∀ ty, (Builtin.len_ ts ty #[x.val env]).run P w = .ok (r.val env) w
end
def findIdx (t : TypeId) (x i : TV) : List Fact → Option TV
 | [] => none
 | .idx t' x' i' r :: l => if t' = t ∧ x' = x ∧ i' = i then some r else findIdx t x i l
 | _ :: l => findIdx t x i l
def findLoad (t : TypeId) (x : TV) : List Fact → Option TV
 | [] => none
 | .load t' x' r :: l => if t' = t ∧ x' = x then some r else findLoad t x l
 | _ :: l => findLoad t x l
def findBin (op : BinOp) (t : TypeId) (x y : TV) : List Fact → Option TV
 | [] => none
 | .bin op' t' x' y' r :: l => if op' = op ∧ t' = t ∧ x' = x ∧ y' = y then some r else findBin op t x y l
 | _ :: l => findBin op t x y l
def findCall (f : Nat) (xs : List TV) : List Fact → Option TV
 | [] => none
 | .call f' xs' r :: l => if f' = f ∧ xs' = xs then some r else findCall f xs l
 | _ :: l => findCall f xs l
def findFld (t : TypeId) (x : TV) (n : Nat) : List Fact → Option TV
 | [] => none
 | .fld t' x' n' r :: l => if t' = t ∧ x' = x ∧ n' = n then some r else findFld t x n l
 | _ :: l => findFld t x n l
def findLen (ts : Array TypeId) (x : TV) : List Fact → Option TV
 | [] => none
 | .len ts' x' r :: l => if ts' = ts ∧ x' = x then some r else findLen ts x l
 | _ :: l => findLen ts x l
theorem findFld_mem {t : TypeId} {x r : TV} {n : Nat} : ∀ {l : List Fact}, findFld t x n l = some r → Fact.fld t x n r ∈ l
 | [], h => by cases h
 | f :: l, h => by
  cases f <;> simp only [findFld] at h
  case fld =>
   split at h
   ·rename_i e; obtain ⟨rfl, rfl, rfl⟩ := e; injection h with h; subst h; simp
   ·exact List.mem_cons_of_mem _ (findFld_mem h)
  all_goals exact List.mem_cons_of_mem _ (findFld_mem h)
theorem findLen_mem {ts : Array TypeId} {x r : TV} : ∀ {l : List Fact}, findLen ts x l = some r → Fact.len ts x r ∈ l
 | [], h => by cases h
 | f :: l, h => by
  cases f <;> simp only [findLen] at h
  case len =>
   split at h
   ·rename_i e; obtain ⟨rfl, rfl⟩ := e; injection h with h; subst h; simp
   ·exact List.mem_cons_of_mem _ (findLen_mem h)
  all_goals exact List.mem_cons_of_mem _ (findLen_mem h)
theorem findIdx_mem {t : TypeId} {x i r : TV} : ∀ {l : List Fact}, findIdx t x i l = some r → Fact.idx t x i r ∈ l
 | [], h => by cases h
 | f :: l, h => by
  cases f <;> simp only [findIdx] at h
  case idx =>
   split at h
   ·rename_i e; obtain ⟨rfl, rfl, rfl⟩ := e; injection h with h; subst h; simp
   ·exact List.mem_cons_of_mem _ (findIdx_mem h)
  all_goals exact List.mem_cons_of_mem _ (findIdx_mem h)
theorem findLoad_mem {t : TypeId} {x r : TV} : ∀ {l : List Fact}, findLoad t x l = some r → Fact.load t x r ∈ l
 | [], h => by cases h
 | f :: l, h => by
  cases f <;> simp only [findLoad] at h
  case load =>
   split at h
   ·rename_i e; obtain ⟨rfl, rfl⟩ := e; injection h with h; subst h; simp
   ·exact List.mem_cons_of_mem _ (findLoad_mem h)
  all_goals exact List.mem_cons_of_mem _ (findLoad_mem h)
theorem findBin_mem {op : BinOp} {t : TypeId} {x y r : TV} : ∀ {l : List Fact}, findBin op t x y l = some r → Fact.bin op t x y r ∈ l
 | [], h => by cases h
 | f :: l, h => by
  cases f <;> simp only [findBin] at h
  case bin =>
   split at h
   ·rename_i e; obtain ⟨rfl, rfl, rfl, rfl⟩ := e; injection h with h; subst h; simp
   ·exact List.mem_cons_of_mem _ (findBin_mem h)
  all_goals exact List.mem_cons_of_mem _ (findBin_mem h)
theorem findCall_mem {f : Nat} {xs : List TV} {r : TV} : ∀ {l : List Fact}, findCall f xs l = some r → Fact.call f xs r ∈ l
 | [], h => by cases h
 | g :: l, h => by
  cases g <;> simp only [findCall] at h
  case call =>
   split at h
   ·rename_i e; obtain ⟨rfl, rfl⟩ := e; injection h with h; subst h; simp
   ·exact List.mem_cons_of_mem _ (findCall_mem h)
  all_goals exact List.mem_cons_of_mem _ (findCall_mem h)
def plainBin (op : BinOp) : TV → TV → Option TV
 | .lit a, .lit b => match op with
  | .eql => some (.boo (a == b))
  | .neq => some (.boo (a != b))
  | .lss => some (.boo (decide (a < b)))
  | .leq => some (.boo (decide (a ≤ b)))
  | .gtr => some (.boo (decide (b < a)))
  | .geq => some (.boo (decide (b ≤ a)))
  | .add => some (.lit (IntKind.i64.wrap (a + b)))
  | .sub => some (.lit (IntKind.i64.wrap (a - b)))
  | _ => none
 | _, _ => none
theorem plainBin_ok {P : Program} {env : List Value} {w : World} {op : BinOp} {x y r : TV} (h : plainBin op x y = some r) (t : TypeId) :
 (∀ X Y, (eqGuard op t X Y (x.val env) (y.val env)).run P w = .ok () w) ∧ (binOp op t (x.val env) (y.val env)).run P w = .ok (r.val env) w := by
 unfold plainBin at h
 split at h
 ·rename_i a b
  constructor
  ·intro X Y; cases op <;> simp [eqGuard, TV.val]
  ·cases op <;> simp only at h <;> first | (cases h; done) | (obtain rfl := Option.some.inj h; simp [binOp, Op.intCmp, Op.intArith, TV.val])
 ·cases h
def evalT (st : List (Nat × TV)) : Operand → Option TV
 | .tmp t => Reckon.look st t
 | .const (.int .i64 n) => some (.lit n)
 | .const (.bool b) => some (.boo b)
 | _ => none
def evalTs (st : List (Nat × TV)) : List Operand → Option (List TV)
 | [] => some []
 | o :: r => match evalT st o, evalTs st r with
  | some v, some vs => some (v :: vs)
  | _, _ => none
def opT (fs : List Fact) (st : List (Nat × TV)) (o : Oper) : Option TV := match o.op with
 | .move x => evalT st x
 | .assign x => evalT st x
 | .pick t x y => match evalT st t with
  | some (.boo b) => if b then evalT st x else evalT st y
  | _ => none
 | .indexAddr t x i => match evalT st x, evalT st i with
  | some u, some v => findIdx t u v fs
  | _, _ => none
 | .load t x => match evalT st x with
  | some u => findLoad t u fs
  | none => none
 | .binOp op t x y _ => match evalT st x, evalT st y with
  | some u, some v => match findBin op t u v fs with
   | some r => some r
   | none => plainBin op u v
  | _, _ => none
 | .unOp .not _ x => match evalT st x with
  | some (.boo b) => some (.boo !b)
  | _ => none
 | .call { callee := .value (.func f), args := ays, argTypes := _ } => match evalTs st ays.toList with
  | some vs => findCall f vs fs
  | none => none
 | .fieldAddr t x n => match evalT st x with
  | some u => findFld t u n fs
  | none => none
 | .call { callee := .builtin .len, args := ays, argTypes := ts } => match evalTs st ays.toList with
  | some [v] => findLen ts v fs
  | _ => none
 | _ => none
def wantedT (ops : Array Oper) (st : List (Nat × TV)) (o : Oper) : Option Bool := match o.guard with
 | none => some true
 | some (j, want) => match (ops[j]?).bind (·.dst) with
  | some d => match Reckon.look st d with
   | some (.boo b) => some (b == want)
   | some .nil => some false
   | _ => none
  | none => none
def runT (fs : List Fact) (ops : Array Oper) : Nat → List Oper → List (Nat × TV) → Option (List TV)
 | _, [], _ => some []
 | s, o :: r, st => if o.dst = some s then match wantedT ops st o with
  | some true => match opT fs st o with
   | some v => (runT fs ops (s + 1) r ((s, v) :: st)).map (v :: ·)
   | none => none
  | some false => (runT fs ops (s + 1) r ((s, .nil) :: st)).map (.nil :: ·)
  | none => none
  else none
def Known (env : List Value) (st : List (Nat × TV)) (a : Act) : Prop := ∀ p ∈ st, a.tmps[p.1]? = some (p.2.val env)
section
variable {P : Program} {env : List Value} {w : World} {st : List (Nat × TV)} {a : Act}
theorem Known.get (h : Known env st a) {d : Nat} {v : TV} (e : Reckon.look st d = some v) : a.tmps[d]? = some (v.val env) := h _ (Reckon.look_mem e)
theorem evalT_ok (h : Known env st a) {o : Operand} {v : TV} (e : evalT st o = some v) : a.eval o = v.val env := by
 unfold evalT at e
 split at e
 ·have := h.get e
  simp [Act.eval, this]
 ·obtain rfl := Option.some.inj e; rfl
 ·obtain rfl := Option.some.inj e; rfl
 ·cases e
theorem evalTs_ok (h : Known env st a) : ∀ {os : List Operand} {vs : List TV}, evalTs st os = some vs → os.map a.eval = vs.map (TV.val env)
 | [], vs, e => by simp only [evalTs, Option.some.injEq] at e; subst e; rfl
 | o :: r, vs, e => by
  simp only [evalTs] at e
  split at e
  ·rename_i v vs' hv hvs
   simp only [Option.some.injEq] at e
   subst e
   simp [evalT_ok h hv, evalTs_ok h hvs]
  ·cases e
theorem wantedT_ok (h : Known env st a) {ops : Array Oper} {o : Oper} {b : Bool} (e : wantedT ops st o = some b) : Region.wanted o (yielded ops a.tmps) = b := by
 unfold wantedT at e
 split at e
 ·rename_i hg; obtain rfl := Option.some.inj e; simp [Region.wanted, hg]
 ·rename_i j want hg
  split at e
  ·rename_i d hd
   split at e
   ·rename_i x hx
    obtain rfl := Option.some.inj e
    have := h.get hx
    simp [Region.wanted, hg, yielded, hd, this, TV.val]
   ·rename_i hx
    obtain rfl := Option.some.inj e
    have := h.get hx
    simp [Region.wanted, hg, yielded, hd, this, TV.val, undef]
   ·cases e
  ·cases e
theorem Known.put (h : Known env st a) {s : Nat} (hs : s < a.tmps.size) (hn : ∀ p ∈ st, p.1 ≠ s) (v : TV) : Known env ((s, v) :: st) (a.put (some s) (v.val env)) := fun p hp => by
 rcases List.mem_cons.1 hp with rfl | hp
 ·simp [Act.put, hs]
 ·rw [Act.put, Array.getElem?_setIfInBounds_ne (by have := hn p hp; omega)]
  exact h p hp
def laid (env : List Value) (a : Act) (s : Nat) (vs : List TV) : Act := ⟨(a.tmps.toList.take s ++ vs.map (TV.val env) ++ a.tmps.toList.drop (s + vs.length)).toArray, a.defers⟩
theorem laid_nil (s : Nat) : laid env a s [] = a := by
 cases a with | mk t d => simp [laid]
theorem laid_cons {s : Nat} (hs : s < a.tmps.size) (v : TV) (vs : List TV) : laid env (a.put (some s) (v.val env)) (s + 1) vs = laid env a s (v :: vs) := by
 unfold laid
 refine congrArg (fun x => (⟨List.toArray x, a.defers⟩ : Act)) ?_
 simp only [Act.put, Array.toList_setIfInBounds, List.map_cons, List.length_cons]
 rw [List.take_succ_eq_append_getElem (by simpa using hs), List.take_set_of_le (Nat.le_refl _), List.getElem_set_self, List.drop_set_of_lt (by omega)]
 simp [Nat.add_assoc, Nat.add_comm 1]
/-! A region that draws its order, and only reads: reckoned once, in the text's order. -/
theorem opT_quiet {C : World → Prop} {fs : List Fact} (hF : ∀ f ∈ fs, f.Ok P env w) (hC : C w) (h : Known env st a) {o : Oper} {v : TV} (e : opT fs st o = some v) : o.quietAt P a C w (v.val env) := by
 unfold opT at e
 unfold Oper.quietAt
 split at e
 ·rename_i x ho
  unfold execOp
  simp only [ho, evalT_ok h e]
  exact ⟨rfl, rfl⟩
 ·rename_i x ho
  unfold execOp
  simp only [ho, evalT_ok h e]
  exact ⟨rfl, rfl⟩
 ·rename_i t x y ho
  split at e
  ·rename_i b hb
   have hb' := evalT_ok h hb
   unfold execOp
   simp only [ho, hb', TV.val, asBool, Sem.run_bind, Sem.run_pure, Result.andThen_ok]
   cases b
   ·simp only [Bool.false_eq_true, if_false] at e ⊢
    rw [evalT_ok h e]; exact ⟨rfl, rfl⟩
   ·simp only [if_true] at e ⊢
    rw [evalT_ok h e]; exact ⟨rfl, rfl⟩
  ·cases e
 ·rename_i t x i ho
  split at e
  ·rename_i u u' hu hu'
   have hf : (Instr.indexAt t (u.val env) (u'.val env)).run P w = .ok (v.val env) w := hF _ (findIdx_mem e)
   unfold execOp
   simp only [ho, evalT_ok h hu, evalT_ok h hu', Sem.run_bind, Sem.run_pure, Result.andThen_ok, hf]
   exact ⟨rfl, rfl⟩
  ·cases e
 ·rename_i t x ho
  split at e
  ·rename_i u hu
   have hf : (Instr.loadAt t (u.val env)).run P w = .ok (v.val env) w := hF _ (findLoad_mem e)
   unfold execOp
   simp only [ho, evalT_ok h hu, Sem.run_bind, Sem.run_pure, Result.andThen_ok, hf]
   exact ⟨rfl, rfl⟩
  ·cases e
 ·rename_i op t x y t' ho
  split at e
  ·rename_i u u' hu hu'
   have hb : (∀ X Y, (eqGuard op t X Y (u.val env) (u'.val env)).run P w = .ok () w) ∧ (binOp op t (u.val env) (u'.val env)).run P w = .ok (v.val env) w := by
    split at e
    ·rename_i r hr
     obtain rfl := Option.some.inj e
     exact hF _ (findBin_mem hr)
    ·exact plainBin_ok e t
   unfold execOp
   simp only [ho, evalT_ok h hu, evalT_ok h hu', Sem.run_bind, Sem.run_pure, Result.andThen_ok, hb.1, hb.2]
   exact ⟨rfl, rfl⟩
  ·cases e
 ·rename_i t x ho
  split at e
  ·rename_i b hb
   obtain rfl := Option.some.inj e
   unfold execOp
   simp only [ho, evalT_ok h hb, TV.val, Op.unary, Sem.run_bind, Sem.run_pure, Result.andThen_ok]
   exact ⟨rfl, rfl⟩
  ·cases e
 ·rename_i f ays ts ho
  split at e
  ·rename_i vs hvs
   obtain ⟨⟨fn, hf, hn, hb⟩, hcall⟩ : Fact.Ok P env w (.call f vs v) := hF _ (findCall_mem e)
   have hargs := evalTs_ok h hvs
   have hm : ays.map a.eval = (vs.map (TV.val env)).toArray := by
    rw [← hargs]; simp [← List.map_toArray]
   unfold execOp
   simp only [ho, resolve, Deferred.ofValue, invoke, callFunc, Act.eval, Sem.run_bind, Sem.run_pure, Result.andThen_ok]
   have hm' : (Array.map a.eval ays) = (vs.map (TV.val env)).toArray := hm
   simp only [run_program, Result.andThen_ok, hf, hn, hb, Bool.false_eq_true, if_false, Sem.run_pure, hm', Array.append_empty, Array.empty_append]
   refine ⟨rfl, hcall.mono ?_⟩
   rintro ed w' ⟨rfl, rfl⟩
   exact ⟨rfl, hC⟩
  ·cases e
 ·rename_i t x n ho
  split at e
  ·rename_i u hu
   have hf : (Instr.fieldAt t (u.val env) n).run P w = .ok (v.val env) w := hF _ (findFld_mem e)
   unfold execOp
   simp only [ho, evalT_ok h hu, Sem.run_bind, Sem.run_pure, Result.andThen_ok, hf]
   exact ⟨rfl, rfl⟩
  ·cases e
 ·rename_i ays ts ho
  split at e
  ·rename_i u hvs
   have hF' : Fact.Ok P env w (.len ts u v) := hF _ (findLen_mem e)
   have hargs := evalTs_ok h hvs
   have hm : Array.map a.eval ays = #[u.val env] := by
    apply Array.toList_inj.1
    rw [Array.toList_map, hargs, List.map_cons, List.map_nil]
   have he : (execOp a.eval o).run P w = .ok (.value (v.val env)) w := by
    unfold execOp
    simp only [ho, resolve]
    rw [hm]
    go_simp
    rw [hF']
    rfl
   rw [he]
   exact ⟨rfl, rfl⟩
  ·cases e
 ·cases e
theorem runQ_ok {C : World → Prop} {fs : List Fact} (hF : ∀ w, C w → ∀ f ∈ fs, f.Ok P env w) {ops : Array Oper} {Q : Act → Prop} : ∀ {l : List Oper} {s : Nat} {st : List (Nat × TV)} {vs : List TV} {a : Act}, runT fs ops s l st = some vs → Known env st a →
 (∀ p ∈ st, p.1 < s) → s + l.length ≤ a.tmps.size → Q (laid env a s vs) → wpQuiet P ops C Q l a
 | [], s, st, vs, a, e, h, _, _, k => by
  simp only [runT, Option.some.injEq] at e; subst e
  rw [laid_nil] at k
  exact k
 | o :: r, s, st, vs, a, e, h, hs, hz, k => by
  simp only [runT] at e
  simp only [List.length_cons] at hz
  have hs1 : ∀ v : TV, ∀ p ∈ (s, v) :: st, p.1 < s + 1 := fun v p hp => by
   rcases List.mem_cons.1 hp with rfl | hp
   ·exact Nat.lt_succ_self _
   ·have := hs p hp; omega
  have hlen : ∀ v : TV, (s + 1) + r.length ≤ (a.put (some s) (v.val env)).tmps.size := fun v => by simp [Act.put]; omega
  show if Region.wanted o (yielded ops a.tmps) then o.quiet P a C (wpQuiet P ops C Q r) else wpQuiet P ops C Q r (a.put o.dst undef)
  split at e
  ·rename_i hd
   split at e
   ·rename_i hw
    rw [if_pos (wantedT_ok h hw)]
    split at e
    ·rename_i v hv
     obtain ⟨ws, hws, rfl⟩ := Option.map_eq_some_iff.1 e
     refine ⟨v.val env, fun w hw => opT_quiet (hF w hw) hw h hv, ?_⟩
     rw [hd]
     refine runQ_ok hF hws (h.put (by omega) (fun p hp => by have := hs p hp; omega) v) (hs1 v) (hlen v) ?_
     rw [laid_cons (by omega)]
     exact k
    ·cases e
   ·rename_i hw
    obtain ⟨ws, hws, rfl⟩ := Option.map_eq_some_iff.1 e
    rw [if_neg (by rw [wantedT_ok h hw]; simp), hd, show undef = TV.val env .nil from rfl]
    refine runQ_ok hF hws (h.put (by omega) (fun p hp => by have := hs p hp; omega) .nil) (hs1 .nil) (hlen .nil) ?_
    rw [laid_cons (by omega)]
    exact k
   ·cases e
  ·cases e
end
end Go.Proofs.Ytadfleopbpomfaa.Tests
namespace Go.Proofs.Ytadfleopbpomfaa
open Go.ChangeShapes Go.WideShapes Go.ChangeAt Go.RowKit
section
variable {H : Type} {enc : TypeId × Value → H} {P : Program}
theorem trodAll_kept (hl : laidOutB P = true) {W W' : World} {sp : Nat → Bool} (hb : Below W.heap.size W W') :
 ∀ (ts : List TypeId) (vs : List Value) (ds : List (DataW H)) (ps : List MemPlace), (∀ t ∈ ts, P.readableRec t = true ∧ t < P.types.size) →
  DataW.TrodAll enc P W 0 (fun _ => true) true ts vs ds ps → (∀ x ∈ ps, x.block < W.heap.size) → (∀ x ∈ ps, sp x.block = true) → DataW.TrodAll enc P W' 0 sp true ts vs ds ps := by
 intro ts
 induction ts with
 | nil =>
  intro vs ds ps _ h _ _
  obtain ⟨rfl, rfl, rfl⟩ := trodAll_nil h
  exact trodAll_mk0
 | cons t ts ih =>
  intro vs ds ps ht h hlt hsp
  obtain ⟨v, vs', d, ds', p, q, rfl, rfl, rfl, h0, hr⟩ := trodAll_cons h
  obtain ⟨r1, r2⟩ := ht t (by simp)
  refine trodAll_cons_mk (WideElems.Trod_stays hl r1 r2 h0 (fun x hx => hb.same (hlt x (by simp [hx]))) (fun x hx => hsp x (by simp [hx]))) ?_
  exact ih vs' ds' q (fun t' h' => ht t' (by simp [h'])) hr (fun x hx => hlt x (by simp [hx])) (fun x hx => hsp x (by simp [hx]))
structure LawSpec (s : ChangeSpec) (n : Nat) : Prop where
 vars : s.vars = []
 says : ∀ (H : Type) (ds : List (DataW H)), ds.length = n → s.fn H ds = { results := [.lit (.bool true)], args := ds }
theorem trodAll_length : ∀ (ts : List TypeId) {W : World} {b : Nat} {sp : Nat → Bool} {hd : Bool} (vs : List Value) (ds : List (DataW H)) (ps : List MemPlace), DataW.TrodAll enc P W b sp hd ts vs ds ps → ds.length = ts.length := by
 intro ts
 induction ts with
 | nil => intro W b sp hd vs ds ps h; obtain ⟨_, rfl, _⟩ := trodAll_nil h; rfl
 | cons t ts ih =>
  intro W b sp hd vs ds ps h
  obtain ⟨v, vs', d, ds', p, q, rfl, rfl, rfl, _, hr⟩ := trodAll_cons h
  simp [ih _ _ _ hr]
theorem law_post {f : Func} {s : ChangeSpec} {n : Nat} {W W' : World} {args : Array Value} {ds gs : List (DataW H)} {before : List MemPlace} {tb : TypeId}
 (hs : LawSpec s n) (hn : f.params.toList.length = n) (hl : laidOutB P = true) (ht : ∀ t ∈ f.params.toList, P.readableRec t = true ∧ t < P.types.size)
 (hr : f.resultTypes = #[tb]) (hb : P.underlying tb = some .bool)
 (hW : DataW.Whole enc P f.params.toList s.vars false W args.toList ds gs before) (hbe : Below W.heap.size W W') :
 s.post enc P f false true false false W args (.bool true) W' := by
 have hlt := hW.lt
 have hW' := hW
 obtain ⟨p, q, hA, hV, rfl, _, _⟩ := hW
 rw [hs.vars] at hV
 obtain ⟨rfl, rfl⟩ := trodVars_none hV
 have e := hs.says H ds ((trodAll_length _ _ _ _ hA).trans hn)
 simp only [List.append_nil] at hW' hlt
 refine ⟨ds, [], p, [], p, [], hW', ?_, ?_, ?_, ?_, fun h => by cases h⟩
 ·rw [hr, List.append_nil, e]
  exact trodAll_cons_mk (shut_bool hb _) trodAll_mk0
 ·rw [List.append_nil, e]
  exact trodAll_kept hl hbe _ _ _ _ ht hA hlt (fun x hx => by simpa using hlt x hx)
 ·rw [hs.vars, List.append_nil, e]
  rfl
 ·exact World.keptBut_mono (fun x hx => hx) (hbe.frame _)
theorem open_list {t e : TypeId} {k : IntKind} {W : World} {v : Value} {d : DataW H} {ps : List MemPlace} (ht : P.underlying t = some (.slice e)) (he : P.underlying e = some (.int k)) (hc : P.cellsOf e = 1) {r : Reach} {b0 : Nat} (hval : Value.okWide P W r b0 t v)
 (h : DataW.Trod enc P W 0 (fun _ => true) true t v d ps) :
 ∃ (A : Option Addr) (l : List Int) (c : Nat), v = .slice A l.length c ∧ l.length ≤ c ∧ c ≤ maxLen ∧ Lies W W.heap.size A (ints k l) ∧ ∀ n ∈ l, (Lit.int k n).wf = true := by
 obtain ⟨a0, len0, cap0, rfl⟩ := okWide_slice ht hval
 obtain ⟨fuel, hf⟩ := h
 rcases open_ints ht he hc hf with ⟨hv, _⟩ | ⟨a, len, cap, zs, hv, _, hlc, hcm, hz, _, hcell, hwf⟩
 ·simp [Value.cells] at hv
  obtain ⟨rfl, rfl, rfl⟩ := hv
  exact ⟨none, [], 0, rfl, Nat.le_refl _, by unfold maxLen; omega, Lies.empty, fun n hn => by cases hn⟩
 ·simp [Value.cells] at hv
  obtain ⟨rfl, rfl, rfl⟩ := hv
  rw [if_pos rfl] at hz
  have hlen : (zs.take len0).length = len0 := by rw [List.length_take, hz]; omega
  refine ⟨some a, zs.take len0, cap0, by rw [hlen], by rw [hlen]; exact hlc, hcm, fun hne => ⟨a, rfl, ?_, fun i u hu => ?_⟩, fun n hn => hwf n (List.mem_of_mem_take hn)⟩
  ·have h0 : 0 < len0 := by
    rcases Nat.eq_zero_or_pos len0 with h0 | h0
    ·subst h0; simp at hne
    ·exact h0
   have := hcell 0 (by omega)
   exact (add_block a 0) ▸ World.block_lt_of_cell? W _ this
  ·rw [List.getElem?_map] at hu
   obtain ⟨x, hx, rfl⟩ := Option.map_eq_some_iff.1 hu
   rw [List.getElem?_take] at hx
   split at hx
   ·have hi : i < zs.length := (List.getElem?_eq_some_iff.1 hx).1
    rw [hcell i hi]
    simp [List.getD, hx]
   ·cases hx
end
end Go.Proofs.Ytadfleopbpomfaa
