/- Shared texts, shaken for one claim. -/
import Derived.Test.YtkojnnjcgcllmaaGreatDoorZB17
namespace Go.Proofs.YtkojnnjcgcllmaaGreatDoor
open Go.RowKit
set_option maxRecDepth 20000 in
set_option maxHeartbeats 4000000 in
theorem equalrg_self (w : World) (B : Nat) (A : Option Addr) (R : List (Int × Int)) (c : Nat) (h : Lies w B A (prC R)) (hl : R.length ≤ 9223372036854775807) :
 Calls Tryz.prog 38 #[.slice A R.length c, .slice A R.length c] w fun e w' => e = .returned (.bool true) ∧ w.grownBy w' none := by
 have H := Lib.hid h
 clear h
 have d0 : ((R.length : Int) != (R.length : Int)) = false := by simp
 have d1 : (R.length != R.length) = false := by simp
 go_enter Tryz.func38, Tryz.ntmps38
 go_wp2_with fail
 go_loopw [13] (fun i wr => ∃ k n : Nat, k ≤ R.length ∧ i = .int .i64 k ∧ wr = w.drewN n) (fun i _ => R.length - (intOf i).toNat)
 case atStart => exact ⟨0, 0, by omega, rfl, rfl⟩
 case round =>
  obtain ⟨k, n, hk, rfl, rfl⟩ := hrel
  by_cases hlt : k < R.length
  ·obtain ⟨g, off, rfl, -, c0, c1⟩ := prC_at H.out hlt
   have b0 : (0 : Int) ≤ (k : Int) := by omega
   have b1 : (k : Int) < (R.length : Int) := by omega
   obtain ⟨p, hp⟩ : ∃ x, R[k] = x := ⟨_, rfl⟩
   rw [hp] at c0 c1
   obtain ⟨p1, p2⟩ := p
   simp only at c0 c1
   have heq := fun u => eq_rg p1 p2 p1 p2 u
   have hx : (p1 == p1) = true := by simp
   have hy : (p2 == p2) = true := by simp
   clear hp
   go_wp2_with fail
   go_quiet (fail)
   go_wp2_with fail
   go_roundw
   case rel => exact ⟨k + 1, n + nq, by omega, by go_num, rfl⟩
   case measure => simp [intOf]; omega
  ·obtain rfl : k = R.length := by omega
   go_wp2_with fail
   go_ret
   exact ⟨rfl, grown_draws (grown_refl _ _) _⟩
set_option maxRecDepth 20000 in
set_option maxHeartbeats 4000000 in
theorem equalkids {w : World} {P : Nat → Prop} {A : Option Addr} {c : Nat} {ks : List Nd} {vs : List (Array Value)} (h0 : vs.length = ks.length) (h2 : LiesP w P A (vs.flatMap Array.toList)) (hkl : ks.length ≤ 9223372036854775807)
 (hk : ∀ (i : Nat) (h1 : i < vs.length) (h2 : i < ks.length), Treed w P ks[i] vs[i])
 (ih : ∀ (i : Nat) (h1 : i < vs.length) (_ : i < ks.length) (u : World), (∀ b, P b → b < w.heap.size → u.heap[b]? = w.heap[b]?) → w.heap.size ≤ u.heap.size → Calls Tryz.prog 23 #[.agg vs[i], .agg vs[i]] u fun e u' => e = .returned (.bool true) ∧ u.grownBy u' none)
 (u : World) (hu : ∀ b, P b → b < w.heap.size → u.heap[b]? = w.heap[b]?) (hs : w.heap.size ≤ u.heap.size) :
 Calls Tryz.prog 39 #[.slice A ks.length c, .slice A ks.length c, .func (.func 23) #[] #[]] u fun e u' => e = .returned (.bool true) ∧ u.grownBy u' none := by
 have HU := Lib.hid hu
 have HIH := Lib.hid ih
 have H2 := Lib.hid h2
 have H5 : Hid (∀ v ∈ vs, v.size = 5) := Lib.hid fun v hv => by
  obtain ⟨i, hi, rfl⟩ := List.getElem_of_mem hv
  exact (hk i hi (by omega)).size
 have HFO := Lib.hid (fun (i : Nat) (hi : i < vs.length) => (hk i hi (by omega)).form)
 have HN0 := Lib.hid h0
 have HS := Lib.hid hs
 have d0 : ((ks.length : Int) != (ks.length : Int)) = false := by simp
 have d1 : (ks.length != ks.length) = false := by simp
 have henter := fun args u => call_ok Tryz.func23 (by kernel_rfl) rfl args u
 clear h0 h2 hk ih hu hs
 go_enter Tryz.func39, Tryz.ntmps39
 go_wp2_with fail
 go_loopw [17] (fun iv wr => ∃ (i : Nat), i ≤ ks.length ∧ iv = .int .i64 i ∧ Hid (u.grownBy wr none)) (fun iv _ => ks.length - (intOf iv).toNat)
 case atStart => exact ⟨0, by omega, rfl, Lib.hid (grown_refl _ _)⟩
 case round =>
  obtain ⟨i, hi', rfl, HG⟩ := hrel
  by_cases hlt : i < ks.length
  ·have hlv : i < vs.length := by have := HN0.out; omega
   have hagree : ∀ b, P b → b < w.heap.size → wr.heap[b]? = w.heap[b]? := fun b hb hl => (HG.out.block b (by have := HS.out; omega) (by simp)).trans (HU.out b hb hl)
   obtain ⟨k1, Ar, nr, cr, lo1, hi1, Ak, nk, ck, hv⟩ := HFO.out i hlv
   have N1 : wr.grownBy (wr.alloc (.cells #[.int .i64 k1, .slice Ar nr cr, .int .i64 lo1, .int .i64 hi1, .slice Ak nk ck] 35)) none := grown_new _ _ none
   have N2 := N1.trans (grown_new (wr.alloc (.cells #[.int .i64 k1, .slice Ar nr cr, .int .i64 lo1, .int .i64 hi1, .slice Ak nk ck] 35)) (.cells #[.int .i64 k1, .slice Ar nr cr, .int .i64 lo1, .int .i64 hi1, .slice Ak nk ck] 35) none)
   have hag1 : ∀ b, P b → b < w.heap.size → (wr.alloc (.cells #[.int .i64 k1, .slice Ar nr cr, .int .i64 lo1, .int .i64 hi1, .slice Ak nk ck] 35)).heap[b]? = w.heap[b]? := fun b hb hl => (N1.block b (by have := HS.out; have := HG.out.size; omega) (by simp)).trans (hagree b hb hl)
   obtain ⟨g, off, hA, hg, hcell⟩ := kid_at H2.out H5.out hagree hlv
   obtain ⟨g', off', hA', hg', hcell'⟩ := kid_at H2.out H5.out hag1 hlv
   rw [hA] at hA'
   injection hA' with hA'
   injection hA' with e1 e2
   subst e1 e2 hA
   have q0 : wr.cell? ⟨g, off + i * 5, none⟩ = vs[i][0]? := hcell 0 (by decide)
   have q1 := hcell 1 (by decide)
   have q2 := hcell 2 (by decide)
   have q3 := hcell 3 (by decide)
   have q4 := hcell 4 (by decide)
   have r0 : (wr.alloc (.cells #[.int .i64 k1, .slice Ar nr cr, .int .i64 lo1, .int .i64 hi1, .slice Ak nk ck] 35)).cell? ⟨g, off + i * 5, none⟩ = vs[i][0]? := hcell' 0 (by decide)
   have r1 := hcell' 1 (by decide)
   have r2 := hcell' 2 (by decide)
   have r3 := hcell' 3 (by decide)
   have r4 := hcell' 4 (by decide)
   have hrec := fun u' a b => HIH.out i hlv hlt u' a b
   rw [hv] at q0 q1 q2 q3 q4 r0 r1 r2 r3 r4 hrec
   have HRC := Lib.hid (hrec ((wr.alloc (.cells #[.int .i64 k1, .slice Ar nr cr, .int .i64 lo1, .int .i64 hi1, .slice Ak nk ck] 35)).alloc (.cells #[.int .i64 k1, .slice Ar nr cr, .int .i64 lo1, .int .i64 hi1, .slice Ak nk ck] 35)) (fun b hb hl => (N2.block b (by have := HS.out; have := HG.out.size; omega) (by simp)).trans (hagree b hb hl)) (by have := HS.out; have := HG.out.size; have := N2.size; omega))
   have HGN := Lib.hid (HG.out.trans N2)
   have Y1 : Hid (Box ((wr.alloc (.cells #[.int .i64 k1, .slice Ar nr cr, .int .i64 lo1, .int .i64 hi1, .slice Ak nk ck] 35)).alloc (.cells #[.int .i64 k1, .slice Ar nr cr, .int .i64 lo1, .int .i64 hi1, .slice Ak nk ck] 35)) wr.heap.size #[.int .i64 k1, .slice Ar nr cr, .int .i64 lo1, .int .i64 hi1, .slice Ak nk ck] 35) := Lib.hid ((Box.new wr _ _).kept (grown_new _ _ none) (by simp))
   have b0 : (0 : Int) ≤ (i : Int) := by omega
   have b1 : (i : Int) < (ks.length : Int) := by omega
   clear hcell hcell' hv hrec hagree N1 N2 hag1
   simp only [List.getElem?_toArray, List.getElem?_cons_zero, List.getElem?_cons_succ] at q0 q1 q2 q3 q4 r0 r1 r2 r3 r4
   go_wp2_with (first
    | (refine load_nd _ wr.heap.size _ rfl rfl rfl Y1.out rfl ?_)
    | fail)
   refine HRC.out.mono ?_
   rintro e w2 ⟨rfl, g2⟩
   have HG2 := Lib.hid (HGN.out.trans g2)
   clear g2
   go_wp2_with fail
   go_roundw
   case rel => exact ⟨i + 1, by omega, by go_num, HG2⟩
   case measure => simp [intOf]; omega
  ·obtain rfl : i = ks.length := by omega
   go_wp2_with fail
   go_ret
   exact ⟨rfl, HG.out⟩
set_option maxRecDepth 20000 in
set_option maxHeartbeats 4000000 in
theorem same_self {w : World} {P : Nat → Prop} {n : Nd} {v : Array Value} (h : Treed w P n v) : ∀ (u : World), (∀ b, P b → b < w.heap.size → u.heap[b]? = w.heap[b]?) → w.heap.size ≤ u.heap.size →
 Calls Tryz.prog 23 #[.agg v, .agg v] u fun e u' => e = .returned (.bool true) ∧ u.grownBy u' none := by
 induction h with
 | @mk k lo hi rs ks A A' c c' vs h1 hc h0 h2 hc' hk ih =>
  intro u hu hs
  obtain ⟨V, hV⟩ : ∃ V, (#[.int .i64 k, .slice A rs.length c, .int .i64 lo, .int .i64 hi, .slice A' ks.length c'] : Array Value) = V := ⟨_, rfl⟩
  have M0 : u.grownBy ((u.alloc (.cells #[.int .i64 k, .slice A rs.length c, .int .i64 lo, .int .i64 hi, .slice A' ks.length c'] 35)).alloc (.cells #[.int .i64 k, .slice A rs.length c, .int .i64 lo, .int .i64 hi, .slice A' ks.length c'] 35)) none := (grown_new _ _ none).trans (grown_new _ _ none)
  have X1 : Box ((u.alloc (.cells #[.int .i64 k, .slice A rs.length c, .int .i64 lo, .int .i64 hi, .slice A' ks.length c'] 35)).alloc (.cells #[.int .i64 k, .slice A rs.length c, .int .i64 lo, .int .i64 hi, .slice A' ks.length c'] 35)) u.heap.size #[.int .i64 k, .slice A rs.length c, .int .i64 lo, .int .i64 hi, .slice A' ks.length c'] 35 := (Box.new u _ _).kept (grown_new _ _ none) (by simp)
  have X2 : Box ((u.alloc (.cells #[.int .i64 k, .slice A rs.length c, .int .i64 lo, .int .i64 hi, .slice A' ks.length c'] 35)).alloc (.cells #[.int .i64 k, .slice A rs.length c, .int .i64 lo, .int .i64 hi, .slice A' ks.length c'] 35)) (u.heap.size + 1) #[.int .i64 k, .slice A rs.length c, .int .i64 lo, .int .i64 hi, .slice A' ks.length c'] 35 := by
   have := Box.new (u.alloc (.cells #[.int .i64 k, .slice A rs.length c, .int .i64 lo, .int .i64 hi, .slice A' ks.length c'] 35)) #[.int .i64 k, .slice A rs.length c, .int .i64 lo, .int .i64 hi, .slice A' ks.length c'] 35
   rw [World.size_alloc] at this
   exact this
  have hrl : rs.length ≤ 9223372036854775807 := by have h1 := hc.1; have h2 := hc.2; unfold maxLen at h2; omega
  have hkl : ks.length ≤ 9223372036854775807 := by have h1 := hc'.1; have h2 := hc'.2; unfold maxLen at h2; omega
  have HR := Lib.hid (equalrg_self ((u.alloc (.cells #[.int .i64 k, .slice A rs.length c, .int .i64 lo, .int .i64 hi, .slice A' ks.length c'] 35)).alloc (.cells #[.int .i64 k, .slice A rs.length c, .int .i64 lo, .int .i64 hi, .slice A' ks.length c'] 35)) _ A rs c ((h1.keep (fun b hb hl => (M0.block b (by omega) (by simp)).trans (hu b hb hl)) (Nat.le_trans hs M0.size)).lies) hrl)
  have HK := Lib.hid (fun (u' : World) a b => equalkids (c := c') h0 h2 hkl hk ih u' a b)
  have HU := Lib.hid hu
  have HS := Lib.hid hs
  have HM0 := Lib.hid M0
  have HX1 := Lib.hid X1
  have HX2 := Lib.hid X2
  have e1 : (k == k) = true := by simp
  have e2 : (lo == lo) = true := by simp
  have e3 : (hi == hi) = true := by simp
  clear h1 h2 hc hc' hk ih hu hs hV M0 X1 X2
  go_enter Tryz.func23, Tryz.ntmps23
  go_wp2_with fail
  refine HR.out.mono ?_
  rintro e w1 ⟨rfl, g1⟩
  have HG1 := Lib.hid (HM0.out.trans g1)
  have q4 := ((HX1.out.kept g1 (by simp)).cell (i := 4) rfl : w1.cell? ⟨u.heap.size, 4, none⟩ = some (.slice A' ks.length c'))
  have r4 := ((HX2.out.kept g1 (by simp)).cell (i := 4) rfl : w1.cell? ⟨u.heap.size + 1, 4, none⟩ = some (.slice A' ks.length c'))
  have HKC := Lib.hid (HK.out w1 (fun b hb hl => (HG1.out.block b (by have := HS.out; omega) (by simp)).trans (HU.out b hb hl)) (Nat.le_trans HS.out HG1.out.size))
  clear g1
  go_wp2_with fail
  refine HKC.out.mono ?_
  rintro e w2 ⟨rfl, g2⟩
  have HG2 := Lib.hid (HG1.out.trans g2)
  clear g2
  go_wp2_with fail
  go_ret
  exact ⟨rfl, HG2.out⟩
end Go.Proofs.YtkojnnjcgcllmaaGreatDoor
namespace Go.Proofs.YtkojnnjcgcllmaaGreatDoor
open Go.RowKit
theorem results_box2 {P : Program} {fn : Func} {t u p : Tmp} {ty : TypeId} (h : fn.results = #[.cell p ty, .tmp t, .tmp u]) (tmps : Array Value) (w : World) (g : Nat) (e : TypeId) (cs : Array Value) (d : TypeDesc)
 (hp : tmps.getD p undef = .pointer (some ⟨g, 0, none⟩)) (hg : Box w g cs e)
 (hu : P.underlying ty = some d) (hd : (match d with | .struct _ | .array _ _ => true | _ => false) = true) (hi : (P.info? ty).map (·.size) = some cs.size) :
 (results fn tmps).run P w = .ok (.tuple #[.agg cs, tmps.getD t undef, tmps.getD u undef]) w := by
 have hp' : tmps[p]?.getD undef = .pointer (some ⟨g, 0, none⟩) := by simpa using hp
 simp [results, h, hp', asAddr, run_loadVar_row w g e ty cs (0, 0) d hg hu hd hi]
def Wronged (w : World) (p x : Int) (ed : Ending) (w' : World) : Prop := ed = .returned (.tuple #[.agg ndZero, .int .i64 p, .int .i64 x]) ∧ Below w.heap.size w w'
set_option maxRecDepth 20000 in
set_option maxHeartbeats 2000000 in
theorem parse_flag (w : World) (A : Option Addr) (l : List Int) (c : Nat) (f : Int) (hf : 7 < f) : Calls Tryz.prog 20 #[.slice A l.length c, .int .i64 f] w (Wronged w 0 11) := by
 have d0 : decide (f < 0) = false := decide_eq_false (by omega)
 have d1 : decide (7 < f) = true := decide_eq_true hf
 have d2 : decide (f > 7) = true := decide_eq_true hf
 have X0 : Hid (Box (w.alloc (.cells #[.int .i64 0, .slice none 0 0, .int .i64 0, .int .i64 0, .slice none 0 0] 35)) w.heap.size ndZero 35) := Lib.hid (Box.new w _ _)
 clear hf
 go_enter Tryz.func20, Tryz.ntmps20
 go_wp2_with (first
  | (refine store_nd _ _ _ w.heap.size ndZero ndZero rfl rfl rfl rfl rfl X0.out rfl rfl (by simp [ndZero, Value.oneCell']) ?_; intro w1 x1 g1; have X1 := Lib.hid x1; have G1 := Lib.hid (grown_two (grown_new w _ none) g1 (Nat.le_refl _)); clear x1 g1)
  | fail)
 (try simp only [Exit.inBlock, Exit.then])
 exact bodyPost_ret (results_box2 rfl _ _ w.heap.size 35 _ _ rfl X1.out Tryz.underlying35 rfl (ndInfo rfl)) rfl ⟨rfl, below_row_none G1.out (Nat.le_refl _)⟩
set_option maxRecDepth 20000 in
set_option maxHeartbeats 8000000 in
theorem parse_fault (w : World) (A : Option Addr) (l : List Int) (c : Nat) (f : Int) (hf : 0 ≤ f ∧ f ≤ 7) (h : Lies w w.heap.size A (ints .i64 l)) (hc : l.length ≤ c) (T : List Tok) (ho : ofT l = .ok T) (hn : T.length ≤ 1000) (p x : Int) (hx : x ≠ 0) (hz : faultT l.length T 0 3 = (p, x)) :
 Calls Tryz.prog 20 #[.slice A l.length c, .int .i64 f] w (Wronged w p x) := by
 have d0 : decide (f < 0) = false := decide_eq_false (by omega)
 have d1 : decide (7 < f) = false := decide_eq_false (by omega)
 have d2 : decide (f > 7) = false := decide_eq_false (by omega)
 have d3 : (x != 0) = true := by simpa using hx
 obtain ⟨w0, hw0⟩ : ∃ u, w.alloc (.cells #[.int .i64 0, .slice none 0 0, .int .i64 0, .int .i64 0, .slice none 0 0] 35) = u := ⟨_, rfl⟩
 have G0 : Hid (w.grownBy w0 none) := Lib.hid (hw0 ▸ grown_new w _ none)
 have X0 : Hid (Box w0 w.heap.size ndZero 35) := Lib.hid (hw0 ▸ Box.new w _ _)
 have HW0 := Lib.hid hw0
 have HC := Lib.hid (tkof_any w0 c A l (h.up (below_row_none G0.out (Nat.le_refl _))) hc)
 rw [ho] at HC
 have HFA := Lib.hid (fun (u : World) (A : Option Addr) (c : Nat) h => fault_any u A T c l.length h hn)
 rw [hz] at HFA
 clear hf hx hw0 h ho hz
 go_enter Tryz.func20, Tryz.ntmps20
 go_wp2_with fail
 rw [HW0.out]
 refine HC.out.mono ?_
 rintro e w1 ⟨⟨tv, rfl, o1⟩, b1⟩
 obtain ⟨A1, c1, rfl, l1, -, -⟩ := o1.form
 have X1 := Lib.hid (X0.out.kept (grown_of_below b1 none) (by simp))
 have G1 := Lib.hid (G0.out.trans (grown_of_below b1 none))
 have HF := Lib.hid (HFA.out w1 A1 c1 l1)
 clear o1 b1 l1
 go_wp2_with fail
 refine HF.out.mono ?_
 rintro e w2 ⟨rfl, g2⟩
 have X2 := Lib.hid (X1.out.kept g2 (by simp))
 have G2 := Lib.hid (G1.out.trans g2)
 clear g2
 go_wp2_with (first
  | (refine store_nd w2 _ _ w.heap.size ndZero ndZero rfl rfl rfl rfl rfl X2.out rfl rfl (by simp [ndZero, Value.oneCell']) ?_; intro w3 x3 g3; have X3 := Lib.hid x3; have G3 := Lib.hid (grown_two G2.out g3 (Nat.le_refl _)); clear x3 g3)
  | fail)
 (try simp only [Exit.inBlock, Exit.then])
 exact bodyPost_ret (results_box2 rfl _ _ w.heap.size 35 _ _ rfl X3.out Tryz.underlying35 rfl (ndInfo rfl)) rfl ⟨rfl, below_row_none G3.out (Nat.le_refl _)⟩
def ParsedTo (w : World) (n : Nd) (ed : Ending) (w' : World) : Prop := ∃ v, ed = .returned (.tuple #[.agg v, .int .i64 0, .int .i64 0]) ∧ Treed w' (Fresh w w') n v ∧ Below w.heap.size w w'
set_option maxRecDepth 20000 in
set_option maxHeartbeats 8000000 in
theorem parse_right (w : World) (hT : FoTabs w) (A : Option Addr) (l : List Int) (c : Nat) (f : Int) (hf : 0 ≤ f ∧ f ≤ 7) (h : Lies w w.heap.size A (ints .i64 l)) (hc : l.length ≤ c) (T : List Tok) (ho : ofT l = .ok T) (hn : T.length ≤ 1000) (hz : faultT l.length T 0 3 = (0, 0)) (q d : Nat) (n : Nd) (R : List Tok) (hp : patT f q d T = some (n, R)) (hs : sizeI n ≤ 400) :
 Calls Tryz.prog 20 #[.slice A l.length c, .int .i64 f] w (ParsedTo w n) := by
 have d0 : decide (f < 0) = false := decide_eq_false (by omega)
 have d1 : decide (7 < f) = false := decide_eq_false (by omega)
 have d2 : decide (f > 7) = false := decide_eq_false (by omega)
 obtain ⟨w0, hw0⟩ : ∃ u, w.alloc (.cells #[.int .i64 0, .slice none 0 0, .int .i64 0, .int .i64 0, .slice none 0 0] 35) = u := ⟨_, rfl⟩
 have G0 : Hid (w.grownBy w0 none) := Lib.hid (hw0 ▸ grown_new w _ none)
 have X0 : Hid (Box w0 w.heap.size ndZero 35) := Lib.hid (hw0 ▸ Box.new w _ _)
 have HW0 := Lib.hid hw0
 have HC := Lib.hid (tkof_any w0 c A l (h.up (below_row_none G0.out (Nat.le_refl _))) hc)
 rw [ho] at HC
 have HFA := Lib.hid (fun (u : World) (A : Option Addr) (c : Nat) h => fault_any u A T c l.length h hn)
 rw [hz] at HFA
 have HTH := Lib.hid hT
 have HPA : Hid (∀ (b : Nat) (u : World), 0 < b → FoTabs u → IsT u b T f → Calls Tryz.prog 35 #[.pointer (some ⟨b, 0, none⟩)] u (NdTo u b f n R)) := Lib.hid fun b u hb h1 h2 => pat_ok b f q hb d u T n R h1 h2 hp
 obtain ⟨sz, hsz⟩ : ∃ s, sizeI n = s := ⟨_, rfl⟩
 have HSZ : Hid (∀ (w : World) (P : Nat → Prop) (v : Array Value), Treed w P n v → Calls Tryz.prog 22 #[.agg v] w fun e u' => e = .returned (.int .i64 sz) ∧ w.grownBy u' none) := Lib.hid fun w P v t => hsz ▸ size_any t w (fun _ _ _ => rfl) (Nat.le_refl _)
 rw [hsz] at hs
 have d3 : decide (400 < sz) = false := decide_eq_false (by omega)
 have d4 : decide (sz > 400) = false := decide_eq_false (by omega)
 clear hf hw0 h ho hz hp hs hsz hT
 go_enter Tryz.func20, Tryz.ntmps20
 go_wp2_with fail
 rw [HW0.out]
 refine HC.out.mono ?_
 rintro e w1 ⟨⟨tv, rfl, o1⟩, b1⟩
 obtain ⟨A1, c1, rfl, l1, hc1, -⟩ := o1.form
 have X1 := Lib.hid (X0.out.kept (grown_of_below b1 none) (by simp))
 have G1 := Lib.hid (G0.out.trans (grown_of_below b1 none))
 have HF := Lib.hid (HFA.out w1 A1 c1 l1)
 have L1 := Lib.hid l1
 clear o1 b1 l1
 go_wp2_with fail
 refine HF.out.mono ?_
 rintro e w2 ⟨rfl, g2⟩
 have X2 := Lib.hid (X1.out.kept g2 (by simp))
 have G2 := Lib.hid (G1.out.trans g2)
 have L2 := Lib.hid (L1.out.up (below_row_none g2 (Nat.le_refl _)))
 clear g2
 obtain ⟨w3, hw3⟩ : ∃ u, w2.alloc (.cells #[.slice A1 T.length c1, .int .i64 f] 55) = u := ⟨_, rfl⟩
 have N3 : w2.grownBy w3 none := hw3 ▸ grown_new w2 _ none
 have R3 : Hid (IsT w3 w2.heap.size T f) := Lib.hid ⟨⟨A1, c1, hw3 ▸ Box.new w2 _ _, L2.out.same (fun q hq => World.cell?_of_block (N3.block q.block hq (by simp))), hc1⟩, hn⟩
 have X3 := Lib.hid (X2.out.kept N3 (by simp))
 have G3 := Lib.hid (G2.out.trans N3)
 have HP3 := Lib.hid (HPA.out w2.heap.size w3 (by have := HTH.out.big; have := G2.out.size; omega) (HTH.out.grown0 G3.out) R3.out)
 have HW3 := Lib.hid hw3
 have HLT : Hid (w.heap.size < w2.heap.size) := Lib.hid X2.out.lt
 have HZ3 := Lib.hid N3.size
 clear hw3 N3
 go_wp2_with fail
 rw [HW3.out]
 refine HP3.out.mono ?_
 rintro e w4 ⟨v, rfl, t4, -, g4⟩
 have h5 := t4.size
 have h51 := t4.one
 have X4 := Lib.hid (X3.out.kept g4 (by have := HLT.out; simp; omega))
 have G4 := Lib.hid (grown_two G3.out g4 (by have := HLT.out; omega))
 have T4 := Lib.hid t4
 have Y4 : Hid (Box (w4.alloc (.cells #[.int .i64 0, .slice none 0 0, .int .i64 0, .int .i64 0, .slice none 0 0] 35)) w4.heap.size ndZero 35) := Lib.hid (Box.new w4 _ _)
 have HL4 : Hid (w.heap.size < w4.heap.size) := Lib.hid X4.out.lt
 clear t4 g4
 go_wp2_with (first
  | (refine store_nd _ _ _ w4.heap.size ndZero v rfl rfl rfl rfl rfl Y4.out rfl h5 h51 ?_; intro w5 x5 g5; have Y5 := Lib.hid x5; have N5 : Hid (w4.grownBy w5 none) := Lib.hid (grown_two (grown_new w4 _ none) g5 (Nat.le_refl _)); have X5 := Lib.hid (X4.out.kept N5.out (by simp)); have G5 := Lib.hid (G4.out.trans N5.out); have T5 := Lib.hid (T4.out.grown N5.out (fun x hx e => by cases e)); clear x5 g5)
  | (refine load_nd _ w4.heap.size v rfl rfl rfl Y5.out h5 ?_)
  | fail)
 refine (HSZ.out w5 _ v T5.out).mono ?_
 rintro e w6 ⟨rfl, g6⟩
 have Y6 := Lib.hid (Y5.out.kept g6 (by simp))
 have X6 := Lib.hid (X5.out.kept g6 (by simp))
 have G6 := Lib.hid (G5.out.trans g6)
 have T6 := Lib.hid (T5.out.grown g6 (fun x hx e => by cases e))
 have HZ6 := Lib.hid (Nat.le_trans N5.out.size g6.size)
 clear g6
 go_wp2_with (first
  | (refine load_nd _ w4.heap.size v rfl rfl rfl Y6.out h5 ?_)
  | (refine store_nd w6 _ _ w.heap.size ndZero v rfl rfl rfl rfl rfl X6.out rfl h5 h51 ?_; intro w7 x7 g7; have X7 := Lib.hid x7; have G7 := Lib.hid (grown_two G6.out g7 (Nat.le_refl _)); have T7 := Lib.hid (T6.out.grown g7 (fun x hx e => by injection e with e; have := hx.1; have := HLT.out; have := HZ3.out; omega)); have HZ7 := Lib.hid (Nat.le_trans HZ6.out g7.size); clear x7 g7)
  | fail)
 (try simp only [Exit.inBlock, Exit.then])
 exact bodyPost_ret (results_box2 rfl _ _ w.heap.size 35 _ _ rfl X7.out Tryz.underlying35 rfl (ndInfo h5)) rfl ⟨_, rfl, T7.out.mono fun x hx => ⟨by have := hx.1; have := HLT.out; have := HZ3.out; omega, Nat.lt_of_lt_of_le hx.2 HZ7.out⟩, below_row_none G7.out (Nat.le_refl _)⟩
end Go.Proofs.YtkojnnjcgcllmaaGreatDoor
namespace Go.Proofs.YtkojnnjcgcllmaaGreatDoor
open Go.RowKit
def aliveQ1 : List Int := [97, 124, 40, 98, 99, 41, 42, 63]
def aliveU1 : List Tok := [⟨1, 97, 0, 0, 0⟩, ⟨5, 0, 0, 0, 1⟩, ⟨3, 0, 0, 0, 2⟩, ⟨1, 98, 0, 0, 3⟩, ⟨1, 99, 0, 0, 4⟩, ⟨4, 0, 0, 0, 5⟩, ⟨6, 0, 0, -1, 6⟩, ⟨13, 0, 0, 0, 7⟩]
def aliveQ2 : List Int := [97, 42, 42]
def aliveU2 : List Tok := [⟨1, 97, 0, 0, 0⟩, ⟨6, 0, 0, -1, 1⟩, ⟨6, 0, 0, -1, 2⟩]
theorem alive_q1 : ofT aliveQ1 = .ok aliveU1 := by rfl
theorem alive_q2 : ofT aliveQ2 = .ok aliveU2 := by rfl
theorem alive_f1 : faultT aliveQ1.length aliveU1 0 3 = (0, 0) := by decide
theorem alive_f2 : faultT aliveQ2.length aliveU2 0 3 = (2, 5) := by decide
def chN (c : Int) : Nd := .mk 2 0 0 (behR (flag1 0) (flag2 0) [(c, c)]) []
def aliveN : Nd := .mk 4 0 0 [] [chN 97, .mk 5 0 (-1) [] [.mk 3 0 0 [] [chN 98, chN 99]]]
theorem alive_p1 : patT 0 9 2 aliveU1 = some (aliveN, []) := by
 simp [patT, aliveU1, joinT, joinL, orL, rpT, oneT, kindIs, dropIs, lazyT, togT, aliveN, chN]
theorem alive_s1 : sizeI aliveN = 6 := by
 simp [aliveN, chN, sizeI, sumI, finI, timesI]
 decide
theorem close_canon' {b1 b2 : Bool} {R C : List (Int × Int)} (h : closeR b1 b2 R = C) : Canon 0 C := h ▸ close_canon b1 b2 R
theorem turn_canon' {R C : List (Int × Int)} (h : turnR R = C) : Canon 0 C := h ▸ turnR_canon R
theorem set_canon' {R C : List (Int × Int)} (h : setR R = C) : Canon 0 C := h ▸ setR_canon R
theorem alive_close : behR true false (setR [(65, 65)]) = [(65, 65), (97, 97)] := by
 rw [beh_close true false (by simp)]
 have hF := fun c => close_fold (R := [(65, 65)]) (by simp) c
 obtain ⟨C, hC⟩ : ∃ C, closeR true false [(65, 65)] = C := ⟨_, rfl⟩
 rw [hC] at hF ⊢
 have k1 := close_canon' hC
 have k2 : Canon 0 [((65 : Int), (65 : Int)), (97, 97)] := by simp [Canon, topR]
 refine canon_ext k1 k2 fun c h0 h1 => ?_
 rw [Bool.eq_iff_iff, hF]
 have hs : ∀ k, hasR (setR [(65, 65)]) k = true ↔ k = 65 := fun k => by
  rw [setR_has (by simp)]
  unfold topR
  simp [hasR, inR]
  omega
 have h65 : fo 65 = 97 := by decide
 constructor
 ·rintro ⟨-, k, hk, h⟩
  rw [hs] at h
  subst h
  rw [h65] at hk
  have := fo_spec c
  simp [hasR, inR]
  omega
 ·intro h
  simp [hasR, inR] at h
  have hc : c = 65 ∨ c = 97 := by omega
  refine ⟨⟨h0, h1⟩, 65, ?_, (hs 65).2 rfl⟩
  rcases hc with rfl | rfl
  ·rfl
  ·decide
theorem alive_turn : turnR [] = [(0, 1114111)] := by
 have hF := fun c => turnR_has (R := []) (by simp) c
 obtain ⟨C, hC⟩ : ∃ C, turnR [] = C := ⟨_, rfl⟩
 rw [hC] at hF ⊢
 have k1 := turn_canon' hC
 have k2 : Canon 0 [((0 : Int), (1114111 : Int))] := by simp [Canon, topR]
 refine canon_ext k1 k2 fun c h0 h1 => ?_
 rw [hF]
 unfold topR at h1
 simp [hasR, inR, insB, topR, h0, h1]
theorem alive_set : setR [(3, 4), (1, 2)] = [(1, 4)] := by
 have hF := fun c => setR_has (R := [(3, 4), (1, 2)]) (by simp) c
 obtain ⟨C, hC⟩ : ∃ C, setR [(3, 4), (1, 2)] = C := ⟨_, rfl⟩
 rw [hC] at hF ⊢
 have k1 := set_canon' hC
 have k2 : Canon 0 [((1 : Int), (4 : Int))] := by simp [Canon, topR]
 refine canon_ext k1 k2 fun c h0 h1 => ?_
 rw [hF, Bool.eq_iff_iff]
 unfold topR at *
 simp [hasR, inR]
 omega
end Go.Proofs.YtkojnnjcgcllmaaGreatDoor
namespace Go.Proofs.YtkojnnjcgcllmaaGreatDoor
open Go.RowKit
theorem Treed.inv {w : World} {P : Nat → Prop} {k lo hi : Int} {rs : List (Int × Int)} {ks : List Nd} {v : Array Value} (h : Treed w P (.mk k lo hi rs ks) v) : ∃ (A : Option Addr) (c : Nat) (A' : Option Addr) (c' : Nat) (vs : List (Array Value)), v = #[.int .i64 k, .slice A rs.length c, .int .i64 lo, .int .i64 hi, .slice A' ks.length c'] ∧ LiesP w P A (prC rs) ∧ vs.length = ks.length ∧ LiesP w P A' (vs.flatMap Array.toList) ∧ ∀ (i : Nat) (h1 : i < vs.length) (h2 : i < ks.length), Treed w P ks[i] vs[i] := by
 cases h with
 | mk vs h1 hc h0 h2 hc' hk => exact ⟨_, _, _, _, vs, rfl, h1, h0, h2, hk⟩
theorem alive_tree {w : World} {P : Nat → Prop} {v : Array Value} (h : Treed w P aliveN v) : ∃ A c g off c' g2 off2 c2, v = #[.int .i64 4, .slice A 0 c, .int .i64 0, .int .i64 0, .slice (some ⟨g, off, none⟩) 2 c'] ∧ g < w.heap.size ∧ g2 < w.heap.size ∧ w.cell? ⟨g, off + 5, none⟩ = some (.int .i64 5) ∧ w.cell? ⟨g, off + 8, none⟩ = some (.int .i64 (-1)) ∧ w.cell? ⟨g, off + 9, none⟩ = some (.slice (some ⟨g2, off2, none⟩) 1 c2) ∧ w.cell? ⟨g2, off2, none⟩ = some (.int .i64 3) := by
 unfold aliveN at h
 obtain ⟨A, c, A', c', vs, rfl, -, h0, h2, hk⟩ := h.inv
 obtain ⟨va, vb, rfl⟩ : ∃ va vb, vs = [va, vb] := by
  rcases vs with _ | ⟨a, _ | ⟨b, _ | ⟨d, vs⟩⟩⟩
  ·simp at h0
  ·simp at h0
  ·exact ⟨a, b, rfl⟩
  ·simp at h0
 have ha := hk 0 (by simp) (by simp)
 have hb := hk 1 (by simp) (by simp)
 simp only [List.getElem_cons_zero, List.getElem_cons_succ] at ha hb
 have h5 : ∀ v ∈ [va, vb], v.size = 5 := by
  intro v hv
  simp only [List.mem_cons, List.mem_nil_iff, or_false] at hv
  rcases hv with rfl | rfl
  ·exact ha.size
  ·exact hb.size
 obtain ⟨g, off, rfl, hg, hcell⟩ := kid_at h2 h5 (fun _ _ _ => rfl) (i := 1) (by simp)
 obtain ⟨A1, c1, A2, c2, vs2, rfl, -, h02, h22, hk2⟩ := hb.inv
 obtain ⟨vc, rfl⟩ : ∃ vc, vs2 = [vc] := by
  rcases vs2 with _ | ⟨a, _ | ⟨b, vs⟩⟩
  ·simp at h02
  ·exact ⟨a, rfl⟩
  ·simp at h02
 have hc := hk2 0 (by simp) (by simp)
 simp only [List.getElem_cons_zero] at hc
 have h52 : ∀ v ∈ [vc], v.size = 5 := by
  intro v hv
  simp only [List.mem_cons, List.mem_nil_iff, or_false] at hv
  rw [hv]
  exact hc.size
 obtain ⟨g2, off2, rfl, hg2, hcell2⟩ := kid_at h22 h52 (fun _ _ _ => rfl) (i := 0) (by simp)
 obtain ⟨A3, c3, A4, c4, vs3, rfl, -⟩ := hc.inv
 exact ⟨A, c, g, off, c', g2, off2, c2, rfl, hg, hg2, hcell 0 (by decide), hcell 3 (by decide), hcell 4 (by decide), hcell2 0 (by decide)⟩
set_option maxRecDepth 20000 in
set_option maxHeartbeats 8000000 in
theorem alive_any (w : World) (hT : FoTabs w) : Calls Tryz.prog 8 #[] w fun e w' => e = .returned (.bool true) ∧ Below w.heap.size w w' := by
 obtain ⟨w1, hw1⟩ : ∃ u, w.alloc (.cells #[.int .i64 97, .int .i64 124, .int .i64 40, .int .i64 98, .int .i64 99, .int .i64 41, .int .i64 42, .int .i64 63] 3) = u := ⟨_, rfl⟩
 have HW1 := Lib.hid hw1
 have B1 : Hid (Below w.heap.size w w1) := Lib.hid (hw1 ▸ below_alloc w _)
 have L1 : Lies w1 w1.heap.size (some ⟨w.heap.size, 0, none⟩) (ints .i64 aliveQ1) := hw1 ▸ Lies.litUp _
 have HT := Lib.hid hT
 have C1 := Lib.hid (parse_right w1 (hT.below B1.out hT.big) _ aliveQ1 8 0 (by decide) L1 (by decide) aliveU1 alive_q1 (by decide) alive_f1 9 2 aliveN [] alive_p1 (by rw [alive_s1]; decide))
 clear hw1 L1 hT
 go_enter Tryz.func8, Tryz.ntmps8
 go_wp2_with fail
 rw [HW1.out]
 refine C1.out.mono ?_
 rintro e w2 ⟨v, rfl, t2, b2⟩
 obtain ⟨A, c, g, off, c', g2, off2, c2, rfl, hg, hg2, k0, k3, k4, k5⟩ := alive_tree t2
 have HK : Hid (∀ u, Below w2.heap.size w2 u → u.cell? ⟨g, off + 5, none⟩ = some (.int .i64 5) ∧ u.cell? ⟨g, off + 8, none⟩ = some (.int .i64 (-1)) ∧ u.cell? ⟨g, off + 9, none⟩ = some (.slice (some ⟨g2, off2, none⟩) 1 c2) ∧ u.cell? ⟨g2, off2, none⟩ = some (.int .i64 3)) := Lib.hid fun u hu => by
  rw [hu.cell (p := ⟨g, off + 5, none⟩) hg, hu.cell (p := ⟨g, off + 8, none⟩) hg, hu.cell (p := ⟨g, off + 9, none⟩) hg, hu.cell (p := ⟨g2, off2, none⟩) hg2]
  exact ⟨k0, k3, k4, k5⟩
 have T2 := Lib.hid t2
 have B2 := Lib.hid (below_then B1.out b2)
 clear t2 b2 hg hg2 k0 k3 k4 k5
 obtain ⟨w3, hw3⟩ : ∃ u, (w2.alloc (.cells #[.int .i64 4, .slice A 0 c, .int .i64 0, .int .i64 0, .slice (some ⟨g, off, none⟩) 2 c'] 35)).alloc (.cells #[.int .i64 97, .int .i64 42, .int .i64 42] 3) = u := ⟨_, rfl⟩
 have N3 : Hid (w2.grownBy w3 none) := Lib.hid (hw3 ▸ (grown_new w2 _ none).trans (grown_new _ _ none))
 have X3 : Hid (Box w3 w2.heap.size #[.int .i64 4, .slice A 0 c, .int .i64 0, .int .i64 0, .slice (some ⟨g, off, none⟩) 2 c'] 35) := Lib.hid (hw3 ▸ (Box.new w2 _ _).kept (grown_new _ _ none) (by simp))
 have L3 : Lies w3 w3.heap.size (some ⟨w2.heap.size + 1, 0, none⟩) (ints .i64 aliveQ2) := by
  have := litI (w2.alloc (.cells #[.int .i64 4, .slice A 0 c, .int .i64 0, .int .i64 0, .slice (some ⟨g, off, none⟩) 2 c'] 35)) aliveQ2
  rw [World.size_alloc] at this
  rw [← hw3]
  exact this.wider (by simp)
 have C3 := Lib.hid (parse_fault w3 _ aliveQ2 3 0 (by decide) L3 (by decide) aliveU2 alive_q2 (by decide) 2 5 (by decide) alive_f2)
 have HW3 := Lib.hid hw3
 clear hw3 L3
 go_wp2_with fail
 rw [HW3.out]
 refine C3.out.mono ?_
 rintro e w4 ⟨rfl, b4⟩
 have B4 : Hid (Below w2.heap.size w2 w4) := Lib.hid (below_then (below_row_none N3.out (Nat.le_refl _)) b4)
 have X4 := Lib.hid (X3.out.below b4 X3.out.lt)
 clear b4
 unfold ndZero
 have C5 := Lib.hid (parse_flag (w4.alloc (.cells #[.int .i64 0, .slice none 0 0, .int .i64 0, .int .i64 0, .slice none 0 0] 35)) none [] 0 8 (by decide))
 go_wp2_with fail
 refine C5.out.mono ?_
 rintro e w5 ⟨rfl, b5⟩
 have B5 : Hid (Below w2.heap.size w2 w5) := Lib.hid (below_then B4.out (below_then (below_alloc w4 _) b5))
 have X5 := Lib.hid ((X4.out.kept (grown_new w4 (.cells #[.int .i64 0, .slice none 0 0, .int .i64 0, .int .i64 0, .slice none 0 0] 35) none) (by simp)).below b5 (by have := X4.out.lt; simp; omega))
 clear b5
 unfold ndZero
 obtain ⟨w6, hw6⟩ : ∃ u, (w5.alloc (.cells #[.int .i64 0, .slice none 0 0, .int .i64 0, .int .i64 0, .slice none 0 0] 35)).alloc (.cells #[.int .i64 65, .int .i64 65] 30) = u := ⟨_, rfl⟩
 have N6 : Hid (w5.grownBy w6 none) := Lib.hid (hw6 ▸ (grown_new w5 _ none).trans (grown_new _ _ none))
 have X6 := Lib.hid (X5.out.kept N6.out (by simp))
 have B6 : Hid (Below w2.heap.size w2 w6) := Lib.hid (below_then B5.out (below_row_none N6.out (Nat.le_refl _)))
 have L6 : Lies w6 w6.heap.size (some ⟨w5.heap.size + 1, 0, none⟩) (prC [(65, 65)]) := by
  have := rg_lit (w5.alloc (.cells #[.int .i64 0, .slice none 0 0, .int .i64 0, .int .i64 0, .slice none 0 0] 35)) ((65 : Int), (65 : Int))
  rw [World.size_alloc] at this
  rw [← hw6]
  exact this.wider (by simp)
 have C7 := trclose_beh w6 (HT.out.below (below_then B2.out B6.out) HT.out.big) _ [(65, 65)] 1 1 L6
 rw [show (bits .and .i64 1 1 == 1) = true by decide, show (bits .and .i64 1 2 == 2) = false by decide, alive_close] at C7
 have HC7 := Lib.hid C7
 have HW6 := Lib.hid hw6
 clear hw6 L6 C7
 go_wp2_with fail
 rw [HW6.out]
 refine HC7.out.mono ?_
 rintro e w7 ⟨vs, rfl, o7, b7⟩
 obtain ⟨gs, cs, rfl, -, -, hgs, hcs⟩ := o7.block (by decide)
 have B7 : Hid (Below w2.heap.size w2 w7) := Lib.hid (below_then B6.out b7)
 have X7 := Lib.hid (X6.out.below b7 X6.out.lt)
 have L7 : Hid (∀ u, Below w7.heap.size w7 u → Lies u u.heap.size (some ⟨gs, 0, none⟩) (prC [(65, 65), (97, 97)])) := Lib.hid fun u hu => by
  obtain ⟨A', c', hv, hl, -, -⟩ := o7.form
  injection hv with hA
  subst hA
  exact hl.up hu
 have s2 : w7.cell? ⟨gs, 2, none⟩ = some (.int .i64 97) := hcs 2 (by decide)
 obtain ⟨k0, k3, k4, k5⟩ := HK.out w7 B7.out
 have x0 : w7.cell? ⟨w2.heap.size, 0, none⟩ = some (.int .i64 4) := X7.out.cell rfl
 have x4 : w7.cell? ⟨w2.heap.size, 4, none⟩ = some (.slice (some ⟨g, off, none⟩) 2 c') := X7.out.cell rfl
 have T7 := Lib.hid (T2.out.grown (grown_of_below B7.out none) (fun x _ e => by cases e))
 clear o7 b7 hcs
 simp only [List.length_cons, List.length_nil, Nat.zero_add, Nat.reduceAdd]
 have C8 := Lib.hid (trhas_any w7 (some ⟨gs, 0, none⟩) [(65, 65), (97, 97)] cs 97 (L7.out w7 (Below.refl _ _)) (by decide))
 rw [show hasR [(65, 65), (97, 97)] 97 = true by decide] at C8
 go_wp2_with fail
 refine C8.out.mono ?_
 rintro e w8 ⟨rfl, b8⟩
 have B8 : Hid (Below w2.heap.size w2 w8) := Lib.hid (below_then B7.out b8)
 have X8 := Lib.hid (X7.out.below b8 X7.out.lt)
 have T8 := Lib.hid (T7.out.grown (grown_of_below b8 none) (fun x _ e => by cases e))
 clear b8 k0 k3 k4 k5 x0 x4 s2
 have y0 : w8.cell? ⟨w2.heap.size, 0, none⟩ = some (.int .i64 4) := X8.out.cell rfl
 have y1 : w8.cell? ⟨w2.heap.size, 1, none⟩ = some (.slice A 0 c) := X8.out.cell rfl
 have y2 : w8.cell? ⟨w2.heap.size, 2, none⟩ = some (.int .i64 0) := X8.out.cell rfl
 have y3 : w8.cell? ⟨w2.heap.size, 3, none⟩ = some (.int .i64 0) := X8.out.cell rfl
 have y4 : w8.cell? ⟨w2.heap.size, 4, none⟩ = some (.slice (some ⟨g, off, none⟩) 2 c') := X8.out.cell rfl
 have C9 := Lib.hid (size_any T8.out w8 (fun _ _ _ => rfl) (Nat.le_refl _))
 rw [alive_s1] at C9
 go_wp2_with fail
 refine C9.out.mono ?_
 rintro e w9 ⟨rfl, g9⟩
 have B9 : Hid (Below w2.heap.size w2 w9) := Lib.hid (below_then B8.out (below_row_none g9 (Nat.le_refl _)))
 have X9 := Lib.hid (X8.out.kept g9 (by simp))
 have T9 := Lib.hid (T8.out.grown g9 (fun x _ e => by cases e))
 have C10 := Lib.hid (trturn_any w9 none [] 0 Lies.empty)
 rw [alive_turn] at C10
 clear g9 y0 y1 y2 y3 y4
 go_wp2_with fail
 refine C10.out.mono ?_
 rintro e w10 ⟨v10, rfl, o10, b10⟩
 obtain ⟨g10, c10, rfl, -⟩ := o10.block (by decide)
 have B10 : Hid (Below w2.heap.size w2 w10) := Lib.hid (below_then B9.out b10)
 have X10 := Lib.hid (X9.out.below b10 X9.out.lt)
 have T10 := Lib.hid (T9.out.grown (grown_of_below b10 none) (fun x _ e => by cases e))
 clear o10 b10
 have L11 : Lies (w10.alloc (.cells #[.int .i64 3, .int .i64 4, .int .i64 1, .int .i64 2] 30)) (w10.alloc (.cells #[.int .i64 3, .int .i64 4, .int .i64 1, .int .i64 2] 30)).heap.size (some ⟨w10.heap.size, 0, none⟩) (prC [(3, 4), (1, 2)]) := Lies.litUp (w := w10) (e := 30) #[.int .i64 3, .int .i64 4, .int .i64 1, .int .i64 2]
 have C11 := Lib.hid (trset_any _ _ [(3, 4), (1, 2)] 2 L11)
 rw [alive_set] at C11
 clear L11
 simp only [List.length_cons, List.length_nil, Nat.zero_add]
 go_wp2_with fail
 refine C11.out.mono ?_
 rintro e w11 ⟨v11, rfl, o11, b11⟩
 obtain ⟨g11, c11, rfl, -⟩ := o11.block (by decide)
 have B11 : Hid (Below w2.heap.size w2 w11) := Lib.hid (below_then (below_then B10.out (below_alloc w10 _)) b11)
 have X11 := Lib.hid ((X10.out.kept (grown_new w10 _ none) (by simp)).below b11 (by have := X10.out.lt; simp; omega))
 have T11 := Lib.hid ((T10.out.grown (grown_new w10 _ none) (fun x _ e => by cases e)).grown (grown_of_below b11 none) (fun x _ e => by cases e))
 clear o11 b11
 have y0 : w11.cell? ⟨w2.heap.size, 0, none⟩ = some (.int .i64 4) := X11.out.cell rfl
 have y1 : w11.cell? ⟨w2.heap.size, 1, none⟩ = some (.slice A 0 c) := X11.out.cell rfl
 have y2 : w11.cell? ⟨w2.heap.size, 2, none⟩ = some (.int .i64 0) := X11.out.cell rfl
 have y3 : w11.cell? ⟨w2.heap.size, 3, none⟩ = some (.int .i64 0) := X11.out.cell rfl
 have y4 : w11.cell? ⟨w2.heap.size, 4, none⟩ = some (.slice (some ⟨g, off, none⟩) 2 c') := X11.out.cell rfl
 have C12 := Lib.hid (same_self T11.out w11 (fun _ _ _ => rfl) (Nat.le_refl _))
 simp only [List.length_cons, List.length_nil, Nat.zero_add]
 go_wp2_with fail
 refine C12.out.mono ?_
 rintro e w12 ⟨rfl, g12⟩
 have B12 : Hid (Below w.heap.size w w12) := Lib.hid (below_then B2.out (below_then B11.out (below_row_none g12 (Nat.le_refl _))))
 clear g12
 go_wp2_with fail
 go_ret
 exact ⟨rfl, B12.out⟩
end Go.Proofs.YtkojnnjcgcllmaaGreatDoor
namespace Go.Proofs.YtkojnnjcgcllmaaGreatDoor
open Go.RowKit
theorem both_closed {R : List (Int × Int)} (hl : R.length ≤ 60) : Folded (closeR true true R) ∧ ∀ c, hasR (closeR true true R) (mir c) = true → hasR (closeR true true R) c = true := by
 have hB := close_both (R := R) (by omega)
 have hF := close_folded (R := R) (by omega)
 obtain ⟨C, hc⟩ : ∃ C, closeR true false R = C := ⟨_, rfl⟩
 obtain ⟨D, hd⟩ : ∃ D, closeR true true R = D := ⟨_, rfl⟩
 rw [hc] at hB hF
 rw [hd] at hB ⊢
 refine ⟨?_, ?_⟩
 ·intro c k hi hk h
  rw [hB, Bool.or_eq_true] at h ⊢
  rcases h with h | h
  ·exact .inl (hF c k hi hk h)
  ·by_cases he : mir k = k
   ·rw [he] at h
    exact .inl (hF c k hi hk h)
   ·have := isM_alone (isM_iff.2 he) hk.symm
    rw [this]
    exact .inr h
 ·intro c h
  rw [hB, mir_twice, Bool.or_eq_true] at h
  rw [hB, Bool.or_eq_true]
  exact h.symm
theorem beh_fold {R : List (Int × Int)} (hl : R.length ≤ 60) : behR true false (setR (closeR true false R)) = closeR true false (closeR true false R) := by
 rw [fold_twice (by omega)]
 exact beh_again true false (close_canon _ _ _) (closeR_le _ _ _) (fun _ => close_folded (by omega)) (fun h => by cases h)
theorem beh_both {R : List (Int × Int)} (hl : R.length ≤ 60) : behR true true (setR (closeR true true R)) = closeR true true (closeR true true R) := by
 rw [both_twice (by omega)]
 exact beh_again true true (close_canon _ _ _) (closeR_le _ _ _) (fun _ => (both_closed hl).1) (fun _ => (both_closed hl).2)
theorem trclose_any (w : World) (hT : FoTabs w) (A : Option Addr) (R : List (Int × Int)) (c : Nat) (f : Int) (h : Lies w w.heap.size A (prC R)) (hb : behR (bits .and .i64 f 1 == 1) (bits .and .i64 f 2 == 2) (setR R) = closeR (bits .and .i64 f 1 == 1) (bits .and .i64 f 2 == 2) R) :
 Calls Tryz.prog 12 #[.slice A R.length c, .int .i64 f] w (RowedRg w (closeR (bits .and .i64 f 1 == 1) (bits .and .i64 f 2 == 2) R)) := hb ▸ trclose_beh w hT A R c f h
end Go.Proofs.YtkojnnjcgcllmaaGreatDoor
