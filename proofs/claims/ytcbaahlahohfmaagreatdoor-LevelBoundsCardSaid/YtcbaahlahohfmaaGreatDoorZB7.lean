/- Shared texts, shaken for one claim. -/
import Derived.Laws.Slices
import Derived.Deep.RegionHeld3
import Derived.Deep.LoopGhost
import Derived.Deep.DeepCutAuto
import Derived.Test.YtcbaahlahohfmaaGreatDoorZB1
import Derived.Test.YtcbaahlahohfmaaGreatDoorZB2
import Derived.Test.YtcbaahlahohfmaaGreatDoorZB3
import Derived.Test.YtcbaahlahohfmaaGreatDoorZB4
import Derived.Test.YtcbaahlahohfmaaGreatDoorZB6
namespace Go.Proofs.YtcbaahlahohfmaaGreatDoor
open Go.RowKit
section
variable {w w' W : World} {B : Nat} {e : TypeId} {v : Value} {xs : List Value}
theorem Own.short (h : Own w B e v xs) {j : Nat} (hj : j ≤ xs.length) : ∃ A c, v = .slice A xs.length c ∧ xs.length ≤ c ∧ Own w B e (.slice A j c) (xs.take j) := by
 rcases h.2 with ⟨rfl, hn⟩ | ⟨g, cap, cur, rfl, hg, hh, hc, hm, hs, ht⟩
 ·refine ⟨none, 0, by rw [hn], by omega, ?_⟩
  obtain rfl : j = 0 := by omega
  exact Own.empty _ _ _
 ·refine ⟨_, cap, rfl, hc, ?_⟩
  unfold Own
  rw [List.length_take, Nat.min_eq_left hj]
  refine ⟨by simp; omega, .inr ⟨g, cap, cur, rfl, hg, hh, by omega, hm, hs, ?_⟩⟩
  rw [← ht, List.take_take, Nat.min_eq_left (by omega), Nat.mul_one]
variable {P : Program} {ops : Array Oper} {rest : List Oper} {o : Oper} {a : Act} {Q : Exit → Act → World → Prop}
theorem short_own {t : TypeId} {z : Value} {bytes : Nat} (T : SliceOf P t e z bytes) (W : World) (B : Nat) (x y : Operand) (k : IntKind) (j : Int) (v : Value) (xs : List Value)
 (hgd : o.guard = none) (ho : o.op = .slice t x none (some y) none) (hx : a.eval x = v) (hy : a.eval y = .int k j) (h0 : 0 ≤ j) (hown : Own W B e v xs) (hj : j.toNat ≤ xs.length)
 (h : ∀ v', Own W B e v' (xs.take j.toNat) → v'.ownBlock = v.ownBlock → wpList P ops Q rest (a.put o.dst v') W) :
 wpList P ops Q (o :: rest) a W := by
 obtain ⟨i, hi, hz0, hz1, hz2⟩ := info_parts T.elem
 obtain ⟨A, c, rfl, hlc, hown'⟩ := hown.short hj
 have he : P.elem t = e := by simp [Program.elem, T.slice]
 have hrun := run_slice_h (P := P) (w := W) t A xs.length c (by rw [T.slice, he]) k j h0 (by omega)
 refine wpList_plain hgd fun K' hK' => ?_
 unfold Oper.wp
 simp [execOp, ho, hx, hy, run_sliceAt_slice, T.slice, he, hrun, Result.andThen, sizeOf, typeInfo, hi, hz1, sliced]
 refine hK' _ _ ?_
 have e0 : (if c = 0 then A else Option.map (fun x : Addr => x.add 0) A) = A := by cases A <;> simp [Addr.add]
 rw [e0]
 exact h _ hown' (by cases A <;> rfl)
theorem store_row {t : TypeId} {z : Value} {bytes : Nat} (T : SliceOf P t e z bytes) (W : World) (B : Nat) (x y : Operand) (g j c : Nat) (k : IntKind) (n : Int) (xs : List Value) (w0 : World)
 (hgd : o.guard = none) (hd : o.dst = none) (ho : o.op = .store e x y) (hx : a.eval x = .pointer (some ⟨g, j, none⟩)) (hy : a.eval y = .int k n) (hr : Row W B e g c xs) (hj : j < xs.length) (hb : Below B w0 W)
 (h : ∀ w', Row w' B e g c (xs.set j (.int k n)) → Below B w0 w' → W.grownBy w' (some g) → wpList P ops Q rest a w') :
 wpList P ops Q (o :: rest) a W := by
 have hcell := hr.cell hj
 have hfree := hr.free j
 refine wpList_plain hgd fun K' hK' => ?_
 unfold Oper.wp
 obtain ⟨i, hi, hz0, hz1, hz2⟩ := info_parts T.elem
 simp [execOp, ho, hx, hy, Instr.storeAt, Instr.sureAddr]
 go_simp
 simp only [sizeOf, typeInfo, Sem.run_bind, Sem.run_pure]
 go_simp
 obtain ⟨dst, op, ty, pos, after, guard⟩ := o
 obtain rfl : dst = none := hd
 exact hK' _ _ (h _ (hr.set j _) (Row.setB hb hr j _) (hr.setG j _))
end
theorem Own.inRow {w : World} {B : Nat} {e : TypeId} {v : Value} {xs : List Value} (h : Own w B e v xs) (hn : 0 < xs.length) : ∃ g c, v = .slice (some ⟨g, 0, none⟩) xs.length c ∧ Row w B e g c xs := by
 obtain ⟨g, c, hv, _, _⟩ := World.ownsRow.form h hn
 subst hv
 exact ⟨g, c, rfl, h⟩
theorem Row.drewN {w : World} {B : Nat} {e : TypeId} {g c : Nat} {xs : List Value} (h : Row w B e g c xs) (n : Nat) : Row (w.drewN n) B e g c xs := h
theorem Row.keep {w w' : World} {B : Nat} {e : TypeId} {g c : Nat} {xs : List Value} {row : Option Nat} (h : Row w B e g c xs) (hg : w.grownBy w' row) (hr : row ≠ some g) : Row w' B e g c xs :=
 Own.keep h hg (.inr fun e => hr e.symm)
theorem Own.keepRow {w w' : World} {B : Nat} {e : TypeId} {v : Value} {xs : List Value} {g : Nat} (h : Own w B e v xs) (hg : w.grownBy w' (some g)) (hr : v.ownBlock ≠ some g) : Own w' B e v xs :=
 Own.keep h hg (.inr hr)
theorem ints_set (k : IntKind) (l : List Int) (i : Nat) (n : Int) : (ints k l).set i (.int k n) = ints k (l.set i n) := by
 rw [ints, ints, List.map_set]
theorem fresh_ne {v v' : Value} {W : World} {g : Nat} (h : v.ownBlock ≠ some g) (hg : g < W.heap.size) (hv : v'.ownBlock = v.ownBlock ∨ ∃ q, v'.ownBlock = some q ∧ W.heap.size ≤ q) : v'.ownBlock ≠ some g := by
 rcases hv with hv | ⟨q, hv, hq⟩
 ·rw [hv]; exact h
 ·rw [hv]; intro e; injection e with e; omega
section
variable {P : Program}
variable {ops : Array Oper} {rest : List Oper} {o : Oper} {a : Act} {Q : Exit → Act → World → Prop}
end
end Go.Proofs.YtcbaahlahohfmaaGreatDoor
namespace Go.Proofs.YtcbaahlahohfmaaGreatDoor
open Go.RowKit
def lvs (l : List Int) (base : Int) : List Int := (runX l base l.length).levels
def xcls (l : List Int) (base : Int) : List Int := (runX l base l.length).classes
theorem lvs_length (l : List Int) (base : Int) : (lvs l base).length = l.length := (wf_run l base l.length).levels
theorem xcls_length (l : List Int) (base : Int) : (xcls l base).length = l.length := (wf_run l base l.length).classes
def RowedIIA (w : World) (n : Nat) (xs ys : List Int) (ed : Ending) (w' : World) : Prop :=
 ∃ g1 g2, ed = .returned (.tuple #[.slice (some ⟨g1, 0, none⟩) n n, .slice (some ⟨g2, 0, none⟩) n n]) ∧ Row w' w.heap.size 3 g1 n (ints .i64 xs) ∧ Row w' w.heap.size 3 g2 n (ints .i64 ys) ∧ g1 ≠ g2 ∧ Below w.heap.size w w'
set_option maxRecDepth 20000 in
set_option maxHeartbeats 2000000 in
theorem begin_any (A : Option Addr) (l : List Int) (cap : Nat) (base : Int) (w : World) :
 Calls Tryz.prog 45 #[.slice A l.length cap, .int .i64 base] w fun ed w' => ed = .returned (.pointer (some ⟨w.heap.size, 0, none⟩)) ∧ HasP w' w.heap.size w.heap.size (runX l base 0).core (.slice A l.length cap) ∧ Below w.heap.size w w' := by
 obtain ⟨b, hb⟩ : ∃ b : Int, (if base = 0 then (0 : Int) else 1) = b := ⟨_, rfl⟩
 have HBG : Hid ((runX l base 0).core = resetP ⟨b, [], 0, 0, 0⟩) := Lib.hid (by rw [runX, beginX, hb]; rfl)
 have X0 : Hid (IsP (w.alloc (.cells #[.slice A l.length cap, .int .i64 b, .slice none 0 0, .int .i64 0, .int .i64 0, .int .i64 0] 86)) w.heap.size w.heap.size ⟨b, [], 0, 0, 0⟩ (.slice A l.length cap) (.slice none 0 0)) :=
  Lib.hid ⟨OwnN.ofLit (n := 6) (size := 1) #[.slice A l.length cap, .int .i64 b, .slice none 0 0, .int .i64 0, .int .i64 0, .int .i64 0] (Nat.le_refl _) (by unfold maxLen; omega) rfl, OwnN.empty _ _ _ _⟩
 have B0 := Lib.hid (below_alloc w (.cells #[.slice A l.length cap, .int .i64 b, .slice none 0 0, .int .i64 0, .int .i64 0, .int .i64 0] 86))
 obtain ⟨B, hB⟩ : ∃ B, w.heap.size = B := ⟨_, rfl⟩
 rw [hB] at X0 B0
 have HB := Lib.hid hB
 have hb2 : (b = 0 ∧ base = 0 ∧ (base != 0) = false) ∨ (b = 1 ∧ (base != 0) = true) := by
  by_cases h0 : base = 0
  ·rw [if_pos h0] at hb; exact .inl ⟨hb.symm, h0, by simpa using h0⟩
  ·rw [if_neg h0] at hb; exact .inr ⟨hb.symm, by simpa using h0⟩
 clear hb
 rw [HBG.out]
 rcases hb2 with ⟨rfl, rfl, hb0⟩ | ⟨rfl, hb0⟩
 ·clear hb0
  go_enter Tryz.func45, Tryz.ntmps45
  go_wp2_with fail
  refine (reset_any _ B B _ _ _ X0.out (.inr rfl) (by simp)).mono ?_
  rintro ed w1 ⟨rfl, x1, b1⟩
  have X1 := Lib.hid x1
  have B1 := Lib.hid (B0.out.trans b1)
  clear x1 b1 hB
  go_wp2_with fail
  go_ret
  rw [HB.out]
  exact ⟨rfl, X1.out, B1.out⟩
 ·go_enter Tryz.func45, Tryz.ntmps45
  go_wp2_with fail
  refine (reset_any _ B B _ _ _ X0.out (.inr rfl) (by simp)).mono ?_
  rintro ed w1 ⟨rfl, x1, b1⟩
  have X1 := Lib.hid x1
  have B1 := Lib.hid (B0.out.trans b1)
  clear x1 b1 hB
  go_wp2_with fail
  go_ret
  rw [HB.out]
  exact ⟨rfl, X1.out, B1.out⟩
theorem Row.stay {w w' : World} {B C : Nat} {e : TypeId} {g c : Nat} {xs : List Value} (h : Row w B e g c xs) (hb : Below C w w') (hg : g < C) : Row w' B e g c xs := by
 unfold Row Own at *
 refine ⟨h.1, ?_⟩
 rcases h.2 with h2 | ⟨g', cap, cur, hv, hbg, hh, r⟩
 ·exact .inl h2
 ·refine .inr ⟨g', cap, cur, hv, hbg, ?_, r⟩
  injection hv with h1 _ _
  injection h1 with h1
  injection h1 with h1 _ _
  subst h1
  rw [hb.block g hg]; exact hh
theorem HasP.keep {w w' : World} {B g k : Nat} {p : P6} {lsl : Value} (h : HasP w B g p lsl) (hg : w.grownBy w' (some k)) (hk : k < B) : HasP w' B g p lsl := by
 obtain ⟨sv, h⟩ := h
 have hin := h.inside
 exact ⟨sv, h.row.keep hg (.inr (fun e => by injection e with e; simp at e; omega)), h.stack.keep hg (.inr (fun e => by have := (h.stack.inside _ e).1; omega))⟩
theorem small_core {x : X6} {k : Nat} (h : Wf x k) (hk : k ≤ 1000000) : x.core.Small := by
 have := wf_small h hk
 exact ⟨this.st, this.isos, this.embeds, this.valid⟩
theorem ends_core {x : X6} {k : Nat} (h : Wf x k) : ∃ e2 st2, (endP x.core).st = e2 :: st2 := by
 obtain ⟨⟨e2, st2, he⟩, _⟩ := wf_end (c := 0) h
 exact ⟨e2, st2, by rw [← core_end x 0, endX, core_put]; exact he⟩
section
variable {P : Program} {ops : Array Oper} {o : Oper} {a : Act} {K : Act → World → Prop} {Q : Exit → Act → World → Prop} {E : Prop}
theorem step_make {t e : TypeId} {z : Value} {bytes : Nat} (T : SliceOf P t e z bytes) (w0 W : World) (B : Nat) (x y : Operand) (kl kc : IntKind) (n : Nat)
 (hgd : o.guard = none) (ho : o.op = .makeSlice t x y) (hx : a.eval x = .int kl (n : Int)) (hy : a.eval y = .int kc (n : Int)) (hz : z.cells = #[z]) (hb : Below B w0 W) (hB : B ≤ W.heap.size) (hn : bytes * n ≤ 281474976710656) (hm : n ≤ maxLen)
 (h : ∀ w', Row w' B e W.heap.size n (List.replicate n z) → Below B w0 w' → W.grownBy w' none → K (a.put o.dst (.slice (some ⟨W.heap.size, 0, none⟩) n n)) w') :
 if Region.wanted o (yielded ops a.tmps) = true then Oper.wp P o a W K Q else E := by
 have hw : Region.wanted o (yielded ops a.tmps) = true := by simp [Region.wanted, hgd]
 rw [if_pos hw]
 obtain ⟨i, hi, hz0, hz1, hz2⟩ := info_parts T.elem
 obtain ⟨w', hrun, r1, r2⟩ := run_make_full (P := P) W B t e i z 1 T.slice hi hz0 hz1 kl kc n (by rw [hz2]; exact hn) hm hB
 unfold Oper.wp
 simp [execOp, ho, hx, hy, hrun, Result.andThen]
 refine h w' ?_ (hb.grown r2 hB (fun k hk => by cases hk)) r2
 rw [hz, Nat.mul_one, toList_madeCells_one] at r1
 unfold Row Own
 simpa using r1
end
set_option maxRecDepth 20000 in
set_option maxHeartbeats 4000000 in
theorem xof_anyA (A : Option Addr) (l : List Int) (cap : Nat) (base : Int) (w : World) (hT : ClsTabs w) (h : Lies w w.heap.size A (ints .i64 l)) (hl : l.length ≤ 1000000) (hcap : l.length ≤ cap) :
 Calls Tryz.prog 29 #[.slice A l.length cap, .int .i64 base] w fun ed w' => RowedIIA w l.length (lvs l base) (xcls l base) ed w' := by
 have HL := Lib.hid h
 have HT := Lib.hid hT
 obtain ⟨n, hn⟩ : ∃ n, l.length = n := ⟨_, rfl⟩
 have HN := Lib.hid hn
 rw [hn] at hl hcap ⊢
 clear h hT
 go_enter Tryz.func29, Tryz.ntmps29
 go_upto_region 1 with fail
 go_cut [4, 5] (fun v1 v2 wx => ∃ g1 g2, v1 = .slice (some ⟨g1, 0, none⟩) n n ∧ v2 = .slice (some ⟨g2, 0, none⟩) n n ∧ g1 ≠ g2 ∧ Row wx w.heap.size 3 g1 n (List.replicate n (.int .i64 0)) ∧ Row wx w.heap.size 3 g2 n (List.replicate n (.int .i64 0)) ∧ Below w.heap.size w wx)
 case first =>
  refine wp_region_E (S := fun _ => True) [] (by kernel_rfl) (trivial) (fun hHeld hZ => ?_)
  refine' eY 0 hHeld hZ fun hZ => ?_
  try simp only [Act.put,ZA,ZB,ZD,ZE,ZF]
  refine' eY 1 hHeld hZ fun hZ => ?_
  try simp only [Act.put,ZA,ZB,ZC,ZD,ZE,ZF]
  refine' eY 3 hHeld hZ fun hZ => ?_
  try simp only [Act.put,ZA,ZB,ZC,ZD,ZE,ZF]
  refine' eY 4 hHeld hZ fun hZ => ?_
  try simp only [Act.put,ZA,ZB,ZC,ZD,ZE,ZF]
  refine wpAnyE_ready (rs := [2, 5]) (by kernel_rfl) (by simp) ?_
  refine AllReadyE.cons rfl (fun K hK => ?_) (AllReadyE.cons rfl (fun K hK => ?_) AllReadyE.nil)
  ·refine step_make intsT w _ w.heap.size (.tmp 9) (.tmp 9) .i64 .i64 n rfl rfl rfl rfl rfl (by exact below_same (Below.refl _ _) rfl rfl rfl rfl) (by exact Nat.le_refl _) (by omega) (by unfold maxLen; omega) ?_
   intro w1 r1 b1 g1
   have R1 := Lib.hid r1
   have B1 := Lib.hid b1
   clear r1 b1 g1
   refine eB hK hZ (trivial) fun hHeld hZ => ?_
   clear hK K
   try simp only [Act.put,ZA,ZB,ZC,ZD,ZE,ZF]
   refine' eX 6 hZ fun hZ => ?_
   try simp only [Act.put,ZA,ZB,ZC,ZD,ZE,ZF]
   refine eA 5 fun K hK => ?_
   refine step_make intsT w w1 w.heap.size (.tmp 12) (.tmp 12) .i64 .i64 n rfl rfl rfl rfl rfl B1.out B1.out.size (by omega) (by unfold maxLen; omega) ?_
   intro w2 r2 b2 g2
   have R2 := Lib.hid r2
   have B2 := Lib.hid b2
   have R12 := Lib.hid (R1.out.keep g2 (by simp))
   have HNE : Hid (w.drew.heap.size ≠ w1.heap.size) := Lib.hid (by have := R1.out.inside; omega)
   clear r2 b2 g2
   refine eB hK hZ (trivial) fun hHeld hZ => ?_
   clear hK K
   try simp only [Act.put,ZA,ZB,ZC,ZD,ZE,ZF]
   refine' eX 7 hZ fun hZ => ?_
   try simp only [Act.put,ZA,ZB,ZC,ZD,ZE,ZF]
   refine wpAnyE_done (by kernel_rfl) ?_ _
   clear hZ
   go_wp2_with fail
   go_meet
   exact ⟨_, _, rfl, rfl, HNE.out, R12.out, R2.out, B2.out⟩
  ·refine step_make intsT w _ w.heap.size (.tmp 12) (.tmp 12) .i64 .i64 n rfl rfl rfl rfl rfl (by exact below_same (Below.refl _ _) rfl rfl rfl rfl) (by exact Nat.le_refl _) (by omega) (by unfold maxLen; omega) ?_
   intro w1 r1 b1 g1
   have R1 := Lib.hid r1
   have B1 := Lib.hid b1
   clear r1 b1 g1
   refine eB hK hZ (trivial) fun hHeld hZ => ?_
   clear hK K
   try simp only [Act.put,ZA,ZB,ZC,ZD,ZE,ZF]
   refine eA 2 fun K hK => ?_
   refine step_make intsT w w1 w.heap.size (.tmp 9) (.tmp 9) .i64 .i64 n rfl rfl rfl rfl rfl B1.out B1.out.size (by omega) (by unfold maxLen; omega) ?_
   intro w2 r2 b2 g2
   have R2 := Lib.hid r2
   have B2 := Lib.hid b2
   have R12 := Lib.hid (R1.out.keep g2 (by simp))
   have HNE : Hid (w1.heap.size ≠ w.drew.heap.size) := Lib.hid (by have := R1.out.inside; omega)
   clear r2 b2 g2
   refine eB hK hZ (trivial) fun hHeld hZ => ?_
   clear hK K
   try simp only [Act.put,ZA,ZB,ZC,ZD,ZE,ZF]
   refine' eX 6 hZ fun hZ => ?_
   try simp only [Act.put,ZA,ZB,ZC,ZD,ZE,ZF]
   refine' eX 7 hZ fun hZ => ?_
   try simp only [Act.put,ZA,ZB,ZC,ZD,ZE,ZF]
   refine wpAnyE_done (by kernel_rfl) ?_ _
   clear hZ
   go_wp2_with fail
   go_meet
   exact ⟨_, _, rfl, rfl, HNE.out, R2.out, R12.out, B2.out⟩
 case rest =>
  obtain ⟨g1, g2, rfl, rfl, hne, r1, r2, bc⟩ := hcut
  have R1 := Lib.hid r1
  have R2 := Lib.hid r2
  have BC := Lib.hid bc
  have HNE := Lib.hid hne
  have HBG : Hid (g1 < wc.heap.size ∧ g2 < wc.heap.size) := Lib.hid ⟨r1.inside.2, r2.inside.2⟩
  clear r1 r2 bc hne
  go_wp2_with fail
  have hbg := begin_any A l cap base wc
  rw [HN.out] at hbg
  refine hbg.mono ?_
  clear hbg
  rintro ed w1 ⟨rfl, x1, b1⟩
  have X1 := Lib.hid x1
  have B1 : Hid (Below w.heap.size w w1) := Lib.hid (below_then BC.out b1)
  have R11 := Lib.hid (R1.out.below b1 (Nat.le_refl _))
  have R21 := Lib.hid (R2.out.below b1 (Nat.le_refl _))
  obtain ⟨C, hC⟩ : ∃ C, wc.heap.size = C := ⟨_, rfl⟩
  rw [hC] at X1 HBG
  have HC1 : Hid (w.heap.size ≤ C) := Lib.hid (hC ▸ BC.out.size)
  rw [hC]
  clear x1 b1 hC
  go_wp2_with fail
  go_loopw [19] (fun iv wr => ∃ k : Nat, k ≤ n ∧ iv = .int .i64 k ∧ Row wr w.heap.size 3 g1 n (ints .i64 (runX l base k).levels ++ List.replicate (n - k) (.int .i64 0)) ∧ Row wr w.heap.size 3 g2 n (ints .i64 (runX l base k).classes ++ List.replicate (n - k) (.int .i64 0)) ∧ HasP wr C C (runX l base k).core (.slice A n cap) ∧ Below w.heap.size w wr) (fun iv _ => n - (intOf iv).toNat)
  case atStart => exact ⟨0, by omega, rfl, R11.out, R21.out, X1.out, B1.out⟩
  case round =>
   obtain ⟨k, hk, rfl, r1, r2, hx, hb⟩ := hrel
   have HX := Lib.hid hx
   have BW := Lib.hid hb
   have RA := Lib.hid r1
   have RB := Lib.hid r2
   clear hx hb r1 r2
   by_cases hlt : k < n
   ·obtain ⟨x, hx⟩ : ∃ x, runX l base k = x := ⟨_, rfl⟩
    have HWF : Hid (Wf x k) := Lib.hid (hx ▸ wf_run l base k)
    have HOV : Hid (OvOk x) := Lib.hid (hx ▸ ov_run l base k)
    have hkl : k < l.length := by have := HN.out; omega
    obtain ⟨c, hc⟩ : ∃ c, l[k] = c := ⟨_, rfl⟩
    have HS : Hid (runX l base (k + 1) = stepX l x k c) := Lib.hid (by rw [runX, hx, at0_eq hkl, hc])
    obtain ⟨e, st, hst⟩ := HWF.out.top
    have HTO := Lib.hid (told_step HWF.out HOV.out l c)
    rw [hx] at HX RA RB
    obtain ⟨r, hr⟩ : ∃ r, tellP x.core c = r := ⟨_, rfl⟩
    have HR := Lib.hid hr
    have CT : Hid (Ctx wr C A l) := Lib.hid ⟨HT.out.below BW.out HT.out.big, by have := HT.out.big; have := HC1.out; omega, (HL.out.below BW.out).wider HC1.out⟩
    have HCO := Lib.hid (core_step hst l k c)
    have hstep := step_any wr C C x.core A l cap k hkl c hc e st hst (by rw [HN.out]; exact HX.out) (small_core HWF.out (by omega)) CT.out (by have := HN.out; omega) (by have := HN.out; omega) (ends_core HWF.out)
    rw [hr, HN.out] at hstep
    have HSTEP := Lib.hid hstep
    have b0 : (0 : Int) ≤ (k : Int) := by omega
    have b1 : (k : Int) < (n : Int) := by omega
    have HWL : Hid (x.levels.length = k) := Lib.hid HWF.out.levels
    have HWC : Hid (x.classes.length = k) := Lib.hid HWF.out.classes
    have hNR : (List.replicate n (Value.int .i64 0)).length = n := by simp
    clear hx hc hst hr hstep
    go_wp2_with fail
    refine HSTEP.out.mono ?_
    rintro ed w2 ⟨rfl, x2, b2⟩
    have X2 := Lib.hid x2
    have B2 := Lib.hid (BW.out.trans (b2.mono HC1.out))
    have RA2 := Lib.hid (RA.out.stay b2 HBG.out.1)
    have RB2 := Lib.hid (RB.out.stay b2 HBG.out.2)
    clear x2 b2
    go_wp2_with (first
     | (refine store_row intsT w2 w.heap.size _ _ g1 k n .i64 r.1 _ w rfl rfl rfl rfl rfl RA2.out (by have := HWL.out; simp; omega) B2.out ?_; intro w3 r3 b3 g3; have RA3 := Lib.hid r3; have RB3 := Lib.hid (RB2.out.keep g3 (fun e => HNE.out (Option.some.inj e))); have X3 := Lib.hid (X2.out.keep g3 HBG.out.1); have B3 := Lib.hid b3; clear r3 b3 g3)
     | (refine store_row intsT w3 w.heap.size _ _ g2 k n .i64 r.2 _ w rfl rfl rfl rfl rfl RB3.out (by have := HWC.out; simp; omega) B3.out ?_; intro w4 r4 b4 g4; have RB4 := Lib.hid r4; have RA4 := Lib.hid (RA3.out.keep g4 (fun e => HNE.out (Option.some.inj e).symm)); have X4 := Lib.hid (X3.out.keep g4 HBG.out.2); have B4 := Lib.hid b4; clear r4 b4 g4)
     | fail)
    go_roundw
    case rel => exact ⟨k + 1, by omega, by go_num, by
     have := RA4.out
     rw [fill_list (by simpa using HWL.out) hlt] at this
     rw [HS.out, HTO.out.levels, HR.out]
     simpa [ints] using this, by
     have := RB4.out
     rw [fill_list (by simpa using HWC.out) hlt] at this
     rw [HS.out, HTO.out.classes, HR.out]
     simpa [ints] using this, by rw [HS.out, HCO.out]; exact X4.out, B4.out⟩
    case measure => simp [intOf]; omega
   ·obtain rfl : k = n := by omega
    go_wp2_with fail
    go_ret2
    have h1 := RA.out
    have h2 := RB.out
    rw [Nat.sub_self, List.replicate_zero, List.append_nil] at h1 h2
    have HNk := HN.out
    exact ⟨g1, g2, rfl, by unfold lvs; rw [HNk]; exact h1, by unfold xcls; rw [HNk]; exact h2, HNE.out, BW.out⟩
end Go.Proofs.YtcbaahlahohfmaaGreatDoor
namespace Go.Proofs.YtcbaahlahohfmaaGreatDoor
open Go.RowKit
theorem run_told (l : List Int) (base : Int) (k : Nat) : Told (runX l base k) (runX l base (k + 1)) (tellP (runX l base k).core (at0 l k)) := by
 rw [runX]; exact told_step (wf_run l base k) (ov_run l base k) l _
theorem run_get (l : List Int) (base : Int) (k : Nat) : ∀ m, k < m → (runX l base m).levels[k]? = some (tellP (runX l base k).core (at0 l k)).1 ∧ (runX l base m).classes[k]? = some (tellP (runX l base k).core (at0 l k)).2 := by
 intro m
 induction m with
 | zero => intro h; omega
 | succ m ih =>
  intro h
  have ht := run_told l base m
  have h1 := (wf_run l base m).levels
  have h2 := (wf_run l base m).classes
  rw [ht.levels, ht.classes]
  by_cases hk : k = m
  ·subst hk
   rw [List.getElem?_append_right (by omega), List.getElem?_append_right (by omega), h1, h2, Nat.sub_self]
   exact ⟨rfl, rfl⟩
  ·rw [List.getElem?_append_left (by omega), List.getElem?_append_left (by omega)]
   exact ih (by omega)
theorem lvs_at (l : List Int) (base : Int) (k : Nat) (h : k < l.length) (h1 : k < (lvs l base).length) : (lvs l base)[k] = (tellP (runX l base k).core l[k]).1 := by
 have := (run_get l base k l.length h).1
 rw [at0_eq h] at this
 have h2 : (lvs l base)[k]? = some (lvs l base)[k] := List.getElem?_eq_getElem h1
 unfold lvs at h2 ⊢
 rw [this] at h2
 exact (Option.some.inj h2).symm
theorem xcls_at (l : List Int) (base : Int) (k : Nat) (h : k < l.length) (h1 : k < (xcls l base).length) : (xcls l base)[k] = (tellP (runX l base k).core l[k]).2 := by
 have := (run_get l base k l.length h).2
 rw [at0_eq h] at this
 have h2 : (xcls l base)[k]? = some (xcls l base)[k] := List.getElem?_eq_getElem h1
 unfold xcls at h2 ⊢
 rw [this] at h2
 exact (Option.some.inj h2).symm
theorem core_base {x : X6} {k : Nat} (hw : Wf x k) (l : List Int) (c : Int) : (stepX l x k c).base = x.base := by
 obtain ⟨e, st, hst⟩ := hw.top
 have h : (stepX l x k c).base = (stepP x.core l k c).base := by rw [← core_step hst l k c]; rfl
 have hpush : ∀ (p : P6) (d o : Int) (i : Bool), (pushP p d o i).base = p.base := by intro p d o i; unfold pushP; split <;> (try split) <;> rfl
 have hbeg : ∀ (p : P6) (d o : Int), (beginP p d o).base = p.base := by
  intro p d o
  unfold beginP
  split
  ·split <;> rfl
  ·exact hpush _ _ _ _
 rw [h]
 show _ = x.core.base
 unfold stepP
 split
 ·rfl
 ·split
  ·unfold embedP
   repeat' split
   all_goals first | rfl | exact hbeg _ _ _ | (unfold backP; repeat' split) <;> rfl
  ·split
   ·unfold isolateP
    split
    ·rfl
    ·exact hpush _ _ _ _
   ·split
    ·unfold endP; repeat' split
     all_goals rfl
    ·rfl
theorem base_run (l : List Int) (base : Int) : ∀ k, (runX l base k).base = if base = 0 then 0 else 1 := by
 intro k
 induction k with
 | zero => rfl
 | succ k ih => rw [runX, core_base (wf_run l base k)]; exact ih
theorem out_known {c : Int} (h : isOut c = false) : isOut (knownI c) = false := by
 unfold knownI; split
 ·decide
 ·exact h
theorem out_over {e : Ent} (ho : e.over = -1 ∨ e.over = 0 ∨ e.over = 1) {c : Int} (h : isOut c = false) : isOut (overE e c) = false := by
 unfold overE
 rcases ho with ho | ho | ho <;> rw [ho]
 ·rw [if_pos rfl]; exact h
 ·rw [if_neg (by decide)]; decide
 ·rw [if_neg (by decide)]; decide
theorem tell_facts {x : X6} {k : Nat} (hw : Wf x k) (ho : OvOk x) (c : Int) : x.base ≤ (tellP x.core c).1 ∧ (tellP x.core c).1 ≤ 125 ∧ isOut (tellP x.core c).2 = isOut c ∧ (c = 10 → (tellP x.core c).1 = x.base) := by
 obtain ⟨e, st, hst⟩ := hw.top
 obtain ⟨⟨e2, st2, he2⟩, _⟩ := wf_end (c := c) hw
 have hr := hw.rng e (by rw [hst]; simp)
 have hr2 : x.base ≤ e2.lev ∧ e2.lev ≤ 125 := by
  have hm : (endX0 x).base = x.base := by
   unfold endX0
   repeat' split
   all_goals rfl
  have := hw.ended.rng e2 (by show e2 ∈ (endX0 x).st; rw [he2]; simp)
  exact ⟨by have h1 := this.1; show x.base ≤ e2.lev; rw [← hm]; exact h1, this.2⟩
 have hov := ho e (by rw [hst]; simp)
 have hov2 := ov_end ho e2 (by rw [he2]; simp)
 have hb := hw.base
 have hes : (endP x.core).st = e2 :: st2 := by rw [← core_end x c, endX, core_put]; exact he2
 have hcs : x.core.st = e :: st := hst
 unfold tellP
 rw [hcs]
 simp only [hes]
 have hcb : x.core.base = x.base := rfl
 rw [hcb]
 split
 ·exact ⟨Int.le_refl _, by show x.base ≤ 125; omega, rfl, fun _ => rfl⟩
 ·rename_i h10
  split
  ·exact ⟨hr.1, hr.2, rfl, fun h => absurd h h10⟩
  ·rename_i hO
   have hO : isOut c = false := by simpa using hO
   split
   ·exact ⟨hr.1, hr.2, by rw [out_over hov hO, hO], fun h => absurd h h10⟩
   ·split
    ·exact ⟨hr2.1, hr2.2, by rw [out_over hov2 hO, hO], fun h => absurd h h10⟩
    ·exact ⟨hr.1, hr.2, by rw [out_over hov (out_known hO), hO], fun h => absurd h h10⟩
def plainC (c : Int) : Bool := !isOut c && (!isOpens c && !(c == 22))
theorem plain_run (l : List Int) (base : Int) : ∀ k, (∀ j, j < k → plainC (at0 l j) = true) → (runX l base k).st = [⟨(runX l base k).base, -1, false⟩] := by
 intro k
 induction k with
 | zero => intro _; rfl
 | succ k ih =>
  intro h
  have hk := ih (fun j hj => h j (by omega))
  have hc := h k (by omega)
  rw [base_run, ← base_run l base k]
  rw [runX]
  have hst : (stepX l (runX l base k) k (at0 l k)).st = (stepP (runX l base k).core l k (at0 l k)).st := by rw [← core_step hk l k (at0 l k)]; rfl
  rw [hst]
  unfold plainC at hc
  simp only [Bool.and_eq_true, Bool.not_eq_true', beq_eq_false_iff_ne, ne_eq] at hc
  unfold stepP
  split
  ·rfl
  ·rw [if_neg (by rw [hc.1]; simp), if_neg (by rw [hc.2.1]; simp), if_neg hc.2.2]
   exact hk
theorem plain_tell {x : X6} (hst : x.st = [⟨x.base, -1, false⟩]) {c : Int} (hc : plainC c = true) : (tellP x.core c).1 = x.base ∧ ((tellP x.core c).2 = c ∨ c < 0 ∨ 22 < c) := by
 have hcs : x.core.st = [⟨x.base, -1, false⟩] := hst
 unfold plainC at hc
 simp only [Bool.and_eq_true, Bool.not_eq_true', beq_eq_false_iff_ne, ne_eq] at hc
 unfold tellP
 rw [hcs]
 simp only
 split
 ·exact ⟨rfl, .inl rfl⟩
 ·rw [if_neg (by rw [hc.1]; simp), if_neg (by rw [hc.2.1]; simp), if_neg hc.2.2]
  refine ⟨rfl, ?_⟩
  have he : overE ⟨x.base, -1, false⟩ (knownI c) = knownI c := by rw [overE, if_pos rfl]
  simp only [he]
  unfold knownI
  split
  ·exact .inr (by assumption)
  ·exact .inl rfl
end Go.Proofs.YtcbaahlahohfmaaGreatDoor
namespace Go.Proofs.YtcbaahlahohfmaaGreatDoor
open Go.RowKit
def seenN (l : List Int) (k : Nat) : List Int := ((List.range k).filter fun i => !isOut (l.getD i 0)).map fun (i : Nat) => (i : Int)
def seenI (l : List Int) : List Int := seenN l l.length
theorem seenN_succ (l : List Int) (k : Nat) (h : k < l.length) : seenN l (k + 1) = if isOut l[k] then seenN l k else seenN l k ++ [(k : Int)] := by
 unfold seenN
 have hg : l.getD k 0 = l[k] := by simp [h]
 have hf : ([k].filter fun i => !isOut (l.getD i 0)) = if isOut l[k] then [] else [k] := by
  rw [List.filter_cons, hg]
  cases isOut l[k] <;> rfl
 rw [List.range_succ, List.filter_append, List.map_append, hf]
 split
 ·simp
 ·rfl
theorem seenN_le (l : List Int) (k : Nat) : (seenN l k).length ≤ k := by
 unfold seenN
 rw [List.length_map]
 have := List.length_filter_le (fun i => !isOut (l.getD i 0)) (List.range k)
 rw [List.length_range] at this
 exact this
def dirL (k : Int) : Int := if k % 2 = 0 then 0 else 1
theorem tmod_dir (k : Int) : (Int.tmod k 2 = 0) ↔ k % 2 = 0 := ⟨fun h => Int.emod_eq_zero_of_dvd (Int.dvd_of_tmod_eq_zero h), fun h => Int.tmod_eq_zero_of_dvd (Int.dvd_of_emod_eq_zero h)⟩
end Go.Proofs.YtcbaahlahohfmaaGreatDoor
namespace Go.Proofs.YtcbaahlahohfmaaGreatDoor
open Go.RowKit
theorem Own.asN {w : World} {B : Nat} {e : TypeId} {v : Value} {xs : List Value} (h : Own w B e v xs) : OwnN w B e 1 v xs.length xs := h
theorem Own.unlike {w : World} {B B' : Nat} {e e' : TypeId} {v v' : Value} {xs xs' : List Value} (h : Own w B e v xs) (h' : Own w B' e' v' xs') (he : e ≠ e') : v.ownBlock = none ∨ v.ownBlock ≠ v'.ownBlock :=
 OwnN.unlike h.asN h'.asN he
theorem Own.store {w : World} {B : Nat} {e : TypeId} {g c : Nat} {xs : List Value} (h : Row w B e g c xs) (j : Nat) (u : Value) : Row (w.setCell ⟨g, j, none⟩ u) B e g c (xs.set j u) := h.set j u
structure Nest (w : World) (B : Nat) (eo ei : TypeId) (v : Value) (es : List Value) (L : List (List Value)) : Prop where
 outer : Own w B eo v es
 len : es.length = L.length
 inner : ∀ (j : Nat) (h1 : j < es.length) (h2 : j < L.length), Own w B ei es[j] L[j]
 apart : ∀ (i j : Nat) (hi : i < es.length) (hj : j < es.length), i ≠ j → Apart es[i] es[j]
section
variable {w w' w'' : World} {B : Nat} {eo ei : TypeId} {v : Value} {es : List Value} {L : List (List Value)}
theorem Nest.empty (w : World) (B : Nat) (eo ei : TypeId) : Nest w B eo ei (.slice none 0 0) [] [] :=
 ⟨Own.empty _ _ _, rfl, fun j h => by simp at h, fun i j h => by simp at h⟩
theorem Nest.below (h : Nest w B eo ei v es L) {C : Nat} (hb : Below C w w') (hC : w.heap.size ≤ C) : Nest w' B eo ei v es L :=
 ⟨h.outer.below hb hC, h.len, fun j h1 h2 => (h.inner j h1 h2).below hb hC, h.apart⟩
theorem Nest.alloc (h : Nest w B eo ei v es L) (o : Obj) : Nest (w.alloc o) B eo ei v es L := h.below (below_alloc w o) (Nat.le_refl _)
theorem Nest.far (h : Nest w B eo ei v es L) (he : eo ≠ ei) (j : Nat) (h1 : j < es.length) : es[j].ownBlock = none ∨ es[j].ownBlock ≠ v.ownBlock :=
 (h.inner j h1 (by rw [← h.len]; exact h1)).unlike h.outer he.symm
theorem Nest.grow {g c : Nat} {u : Value} {xs : List Value} (h : Nest w B eo ei (.slice (some ⟨g, 0, none⟩) es.length c) es L) (he : eo ≠ ei) {j : Nat} (hj : j < es.length)
 (hu : Own w' B ei u xs) (hg : w.grownBy w' es[j].ownBlock) (hn : u.ownBlock = es[j].ownBlock ∨ ∃ q, u.ownBlock = some q ∧ w.heap.size ≤ q)
 (ho : Own w'' B eo (.slice (some ⟨g, 0, none⟩) (es.set j u).length c) (es.set j u)) (hg2 : w'.grownBy w'' (some g)) :
 Nest w'' B eo ei (.slice (some ⟨g, 0, none⟩) (es.set j u).length c) (es.set j u) (L.set j xs) := by
 have hl := h.len
 have hgin : g < w.heap.size := (h.outer.inside g rfl).2
 have hug : u.ownBlock ≠ some g := by
  rcases hn with hn | ⟨q, hn, hq⟩
  ·rw [hn]
   rcases h.far he j hj with h1 | h1
   ·rw [h1]; simp
   ·exact h1
  ·rw [hn]; intro e; injection e with e; omega
 have hfar : ∀ i (hi : i < es.length), i ≠ j → Own w'' B ei es[i] (L[i]'(by omega)) := fun i hi hij => by
  have h1 := (h.inner i hi (by omega)).keep hg (h.apart i j hi hj hij)
  refine h1.keep hg2 ?_
  rcases h.far he i hi with h2 | h2
  ·exact .inl h2
  ·exact .inr h2
 refine ⟨ho, by simp [hl], fun i h1 h2 => ?_, fun a b ha hb hab => ?_⟩
 ·by_cases hij : i = j
  ·subst hij
   rw [List.getElem_set_self, List.getElem_set_self]
   exact hu.keep hg2 (.inr hug)
  ·rw [List.getElem_set_ne (fun e => hij e.symm), List.getElem_set_ne (fun e => hij e.symm)]
   exact hfar i (by simpa using h1) hij
 ·have ha' : a < es.length := by simpa using ha
  have hb' : b < es.length := by simpa using hb
  have key : ∀ i (hi : i < es.length), i ≠ j → Apart u es[i] := fun i hi hij => by
   rcases hn with hn | ⟨q, hn, hq⟩
   ·have := h.apart j i hj hi (fun e => hij e.symm)
    unfold Apart at *
    rw [hn]; exact this
   ·refine .inr fun e => ?_
    have := ((h.inner i hi (by omega)).inside q (by rw [← e, hn])).2
    omega
  by_cases h1 : a = j
  ·subst h1
   rw [List.getElem_set_self, List.getElem_set_ne hab]
   exact key b hb' (fun e => hab e.symm)
  ·by_cases h2 : b = j
   ·subst h2
    rw [List.getElem_set_self, List.getElem_set_ne (fun e => h1 e.symm)]
    exact (key a ha' h1).symm
   ·rw [List.getElem_set_ne (fun e => h1 e.symm), List.getElem_set_ne (fun e => h2 e.symm)]
    exact h.apart a b ha' hb' hab
end
end Go.Proofs.YtcbaahlahohfmaaGreatDoor
namespace Go.Proofs.YtcbaahlahohfmaaGreatDoor
open Go.RowKit
theorem Lies.short {w : World} {B : Nat} {A : Option Addr} {l : List Int} (h : Lies w B A (ints .i64 l)) (k : Nat) : Lies w B A (ints .i64 (l.take k)) := by
 intro hne
 have hl : ints .i64 l ≠ [] := by
  intro e
  apply hne
  have : l = [] := by simpa [ints] using e
  subst this; simp [ints]
 obtain ⟨p, hA, hp, hc⟩ := h hl
 refine ⟨p, hA, hp, fun i u hu => hc i u ?_⟩
 rw [ints, List.map_take] at hu
 rw [List.getElem?_take] at hu
 split at hu
 ·exact hu
 ·cases hu
theorem Lies.dropIf {w : World} {B : Nat} {A : Option Addr} {l : List Int} (h : Lies w B A (ints .i64 l)) (k c : Nat) (hc : l.length ≤ c) :
 Lies w B (if c = k then A else Option.map (fun x => { block := x.block, off := x.off + k }) A) (ints .i64 (l.drop k)) := by
 intro hne
 have hk : k < l.length := by
  apply Classical.byContradiction
  intro hk
  apply hne
  rw [List.drop_of_length_le (by omega)]; rfl
 obtain ⟨b, off, rfl, hb, hcell⟩ := h.plainInts (by omega)
 rw [if_neg (by omega)]
 refine ⟨_, rfl, hb, fun i u hu => ?_⟩
 rw [add_plain]
 rw [ints, List.map_drop, List.getElem?_drop, List.getElem?_map] at hu
 obtain ⟨x, hx, rfl⟩ := Option.map_eq_some_iff.1 hu
 obtain ⟨hlt, rfl⟩ := List.getElem?_eq_some_iff.1 hx
 have := hcell (k + i) hlt
 rw [show off + k + i = off + (k + i) by omega]
 exact this
section
variable {P : Program} {ops : Array Oper} {rest : List Oper} {o : Oper} {a : Act} {Q : Exit → Act → World → Prop}
end
end Go.Proofs.YtcbaahlahohfmaaGreatDoor
namespace Go.Proofs.YtcbaahlahohfmaaGreatDoor
open Go.RowKit
def addLast (L : List (List Int)) (p : Int) : List (List Int) := L.set (L.length - 1) (L.getD (L.length - 1) [] ++ [p])
def freshAt (cl lv s : List Int) (k : Nat) : Bool := k == 0 || (lv.getD (s.getD k 0).toNat 0 != lv.getD (s.getD (k - 1) 0).toNat 0 || cl.getD (s.getD (k - 1) 0).toNat 0 == 10)
def listsN (cl lv s : List Int) : Nat → List (List Int)
 | 0 => []
 | k + 1 => addLast (if freshAt cl lv s k then listsN cl lv s k ++ [[]] else listsN cl lv s k) (s.getD k 0)
def listsI (cl lv : List Int) : List (List Int) := if cl.length = lv.length then listsN cl lv (seenI cl) (seenI cl).length else []
theorem addLast_length (L : List (List Int)) (p : Int) : (addLast L p).length = L.length := by simp [addLast]
theorem listsN_le (cl lv s : List Int) : ∀ k, (listsN cl lv s k).length ≤ k ∧ (0 < k → 0 < (listsN cl lv s k).length) := by
 intro k
 induction k with
 | zero => exact ⟨by simp [listsN], fun h => absurd h (by omega)⟩
 | succ k ih =>
  rw [listsN, addLast_length]
  split
  ·simp; omega
  ·rename_i h
   refine ⟨by omega, fun _ => ih.2 ?_⟩
   cases k with
   | zero => simp [freshAt] at h
   | succ k => omega
theorem addLast_mem {L : List (List Int)} {p : Int} {n : Nat} (h : ∀ l ∈ L, l.length ≤ n) : ∀ l ∈ addLast L p, l.length ≤ n + 1 := by
 intro l hl
 unfold addLast at hl
 obtain ⟨i, hi, rfl⟩ := List.mem_iff_getElem.1 hl
 rw [List.length_set] at hi
 by_cases he : L.length - 1 = i
 ·subst he
  rw [List.getElem_set_self]
  have h2 : L.getD (L.length - 1) [] = L[L.length - 1] := by simp [hi]
  have := h _ (List.getElem_mem hi)
  rw [h2]; simp; omega
 ·rw [List.getElem_set_ne he]
  have := h _ (List.getElem_mem hi)
  omega
theorem listsN_mem (cl lv s : List Int) : ∀ k, ∀ l ∈ listsN cl lv s k, l.length ≤ k := by
 intro k
 induction k with
 | zero => intro l hl; simp [listsN] at hl
 | succ k ih =>
  rw [listsN]
  refine addLast_mem ?_
  split
  ·intro l hl
   rcases List.mem_append.1 hl with h | h
   ·exact ih l h
   ·rw [List.mem_singleton.1 h]; simp
  ·exact ih
theorem seenN_at (l : List Int) : ∀ k j (h : j < (seenN l k).length), ∃ q : Nat, (seenN l k)[j] = (q : Int) ∧ q < k := by
 intro k j h
 have hm : (seenN l k)[j] ∈ seenN l k := List.getElem_mem h
 unfold seenN at hm
 obtain ⟨q, hq, he⟩ := List.mem_map.1 hm
 have := List.mem_range.1 (List.mem_filter.1 hq).1
 exact ⟨q, he.symm, this⟩
end Go.Proofs.YtcbaahlahohfmaaGreatDoor
namespace Go.Proofs.YtcbaahlahohfmaaGreatDoor
open Go.RowKit
theorem nestT : SliceOf Tryz.prog 61 22 (.slice none 0 0) 24 := ⟨by kernel_rfl, by kernel_rfl, rfl⟩
theorem Nest.same {w w' : World} {B : Nat} {eo ei : TypeId} {v : Value} {es : List Value} {L : List (List Value)} (h : Nest w B eo ei v es L) (hh : w'.heap = w.heap) : Nest w' B eo ei v es L :=
 ⟨h.outer.same hh, h.len, fun j h1 h2 => (h.inner j h1 h2).same hh, h.apart⟩
theorem Nest.weaken {w : World} {B B' : Nat} {eo ei : TypeId} {v : Value} {es : List Value} {L : List (List Value)} (h : Nest w B eo ei v es L) (hB : B' ≤ B) : Nest w B' eo ei v es L :=
 ⟨h.outer.weaken hB, h.len, fun j h1 h2 => (h.inner j h1 h2).weaken hB, h.apart⟩
end Go.Proofs.YtcbaahlahohfmaaGreatDoor
namespace Go.Proofs.YtcbaahlahohfmaaGreatDoor
open Go.RowKit
theorem addLast_ne {L : List (List Int)} {p : Int} (h : ∀ j (hj : j < L.length), j + 1 < L.length → L[j] ≠ []) : ∀ l ∈ addLast L p, l ≠ [] := by
 intro l hl
 unfold addLast at hl
 obtain ⟨i, hi, rfl⟩ := List.mem_iff_getElem.1 hl
 rw [List.length_set] at hi
 by_cases he : L.length - 1 = i
 ·subst he
  rw [List.getElem_set_self]; simp
 ·rw [List.getElem_set_ne he]
  exact h i hi (by omega)
theorem listsN_ne (cl lv s : List Int) : ∀ k, ∀ l ∈ listsN cl lv s k, l ≠ [] := by
 intro k
 induction k with
 | zero => intro l hl; simp [listsN] at hl
 | succ k ih =>
  rw [listsN]
  refine addLast_ne ?_
  split
  ·intro j hj hj2
   rw [List.length_append, List.length_singleton] at hj2
   rw [List.getElem_append_left (by omega)]
   exact ih _ (List.getElem_mem _)
  ·intro j hj _
   exact ih _ (List.getElem_mem _)
theorem listsI_ne (cl lv : List Int) : ∀ l ∈ listsI cl lv, l ≠ [] := by
 unfold listsI
 split
 ·exact listsN_ne _ _ _ _
 ·intro l hl; simp at hl
theorem listsI_le (cl lv : List Int) : (listsI cl lv).length ≤ cl.length ∧ ∀ l ∈ listsI cl lv, l.length ≤ cl.length := by
 have h1 := seenN_le cl cl.length
 unfold listsI
 split
 ·have h2 := (listsN_le cl lv (seenI cl) (seenI cl).length).1
  have h3 := listsN_mem cl lv (seenI cl) (seenI cl).length
  unfold seenI at *
  exact ⟨by omega, fun l hl => Nat.le_trans (h3 l hl) h1⟩
 ·simp
def headI (r : List Int) : Int := r.getD 0 0
def lastI (r : List Int) : Int := r.getD (r.length - 1) 0
def pairsOf (L : List (List Int)) : List Value := L.flatMap fun r => [.int .i64 (headI r), .int .i64 (lastI r)]
structure Shown (w : World) (B : Nat) (p : Addr) (k : Nat) (r : List Int) where
 b : Nat
 off : Nat
 c : Nat
 lt : b < B
 outer : p.block < B
 cell : w.cell? (p.add k) = some (.slice (some ⟨b, off, none⟩) r.length c)
 cells : ∀ i (hi : i < r.length), w.cell? ⟨b, off + i, none⟩ = some (.int .i64 r[i])
end Go.Proofs.YtcbaahlahohfmaaGreatDoor
namespace Go.Proofs.YtcbaahlahohfmaaGreatDoor
open Go.RowKit
def firstAt (L : List (List Int)) (x : Int) : Int := match (List.range L.length).find? (fun k => headI (L.getD k []) == x) with
 | some k => k
 | none => -1
theorem firstAt_some {L : List (List Int)} {x : Int} {k : Nat} (hk : k < L.length) (he : headI L[k] = x) (hn : ∀ j (hj : j < k), headI (L[j]'(by omega)) ≠ x) : firstAt L x = k := by
 unfold firstAt
 have : (List.range L.length).find? (fun k => headI (L.getD k []) == x) = some k := by
  rw [List.find?_range_eq_some]
  refine ⟨by simpa [hk] using he, by simpa using hk, fun j hj => ?_⟩
  have hjl : j < L.length := by omega
  simpa [hjl] using hn j hj
 rw [this]
def nextI (cl m : List Int) (L : List (List Int)) (i : Nat) : Int :=
 if isOpens (cl.getD (lastI (L.getD i [])).toNat 0) = false ∨ m.getD (lastI (L.getD i [])).toNat 0 < 0 then -1 else firstAt L (m.getD (lastI (L.getD i [])).toNat 0)
def Within (L : List (List Int)) (n : Nat) : Prop := ∀ r ∈ L, r ≠ [] ∧ r.length ≤ n ∧ ∀ x ∈ r, ∃ q : Nat, x = (q : Int) ∧ q < n
theorem Within.last {L : List (List Int)} {n : Nat} (h : Within L n) {i : Nat} (hi : i < L.length) : ∃ q : Nat, lastI L[i] = (q : Int) ∧ q < n := by
 obtain ⟨h1, _, h2⟩ := h _ (List.getElem_mem hi)
 have hp := List.length_pos_iff.2 h1
 refine h2 _ ?_
 unfold lastI
 have : L[i].getD (L[i].length - 1) 0 = L[i][L[i].length - 1] := by simp [List.getElem?_eq_getElem (show L[i].length - 1 < L[i].length by omega)]
 rw [this]
 exact List.getElem_mem _
end Go.Proofs.YtcbaahlahohfmaaGreatDoor
