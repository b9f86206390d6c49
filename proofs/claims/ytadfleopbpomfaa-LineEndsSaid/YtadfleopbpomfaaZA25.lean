/- Shared texts, shaken for one claim. -/
import Derived.Deep.DeepCutAuto
import Derived.Test.YtadfleopbpomfaaZA10
import Derived.Test.YtadfleopbpomfaaZA13
import Derived.Test.YtadfleopbpomfaaZA20
import Derived.Test.YtadfleopbpomfaaZA21
import Derived.Test.YtadfleopbpomfaaZA23
import Derived.Test.YtadfleopbpomfaaZA24
namespace Go.Proofs.Ytadfleopbpomfaa
open Go.RowKit
theorem seqs_in (cl lv : List Int) (base : Int) : ∀ s ∈ seqsI cl lv base, ∀ x ∈ s.pl, 0 ≤ x ∧ x < (cl.length : Int) := fun s hs x hx => by
 obtain ⟨i, hi, _, rfl⟩ := seqsN_mem _ _ _ _ _ _ (Nat.le_refl _) s hs
 obtain ⟨q, rfl, hq⟩ := chainI_in (onward_I cl lv) (within_I cl lv) _ i hi (Nat.le_refl _) x hx
 exact ⟨by omega, by omega⟩
theorem seqs_le {cl lv : List Int} {base : Int} (h : cl.length ≤ 1000) : (seqsI cl lv base).length ≤ 1000 ∧ ∀ s ∈ seqsI cl lv base, s.pl.length ≤ 1000000 := by
 obtain ⟨h1, h2⟩ := seqs_small cl lv base
 refine ⟨by omega, fun s hs => Nat.le_trans (h2 s hs) ?_⟩
 have : cl.length * cl.length ≤ 1000 * 1000 := Nat.mul_le_mul h h
 omega
theorem SeqsR.at2 {w : World} {A : Option Addr} {L : List Sq} {vs : List Value} (h : SeqsR w A L vs) {j : Nat} (hj : j < L.length) (hv : j < vs.length) :
 ∃ g off, A = some ⟨g, off, none⟩ ∧ g < w.heap.size ∧ SqCell w g (off + j * 4) vs[j] L[j] := by
 have hl := h.len
 obtain ⟨g, off, hA, hg, hc⟩ := h.outer.plain (by rw [sqCells_length _ _ hl]; omega)
 have key : ∀ t, t < 4 → w.cell? ⟨g, off + j * 4 + t, none⟩ = (L[j].cells vs[j])[t]? := fun t ht => by
  have h1 := hc (j * 4 + t) (by rw [sqCells_length _ _ hl]; omega)
  rw [show off + j * 4 + t = off + (j * 4 + t) by omega, h1, ← List.getElem?_eq_getElem, sqCells_get vs L hl j hj t ht]
 exact ⟨g, off, hA, hg, key 0 (by omega), key 1 (by omega), key 2 (by omega), key 3 (by omega)⟩
theorem low_ne {w : World} {B : Nat} {e : TypeId} {size n : Nat} {v : Value} {xs : List Value} (h : OwnN w B e size v n xs) {q : Nat} (hq : q < B) : v.ownBlock = none ∨ v.ownBlock ≠ some q := by
 cases hv : v.ownBlock with
 | none => exact .inl rfl
 | some g =>
  have := h.inside g hv
  exact .inr (fun e => by injection e; omega)
theorem Own.low {w w' : World} {B : Nat} {e : TypeId} {v : Value} {xs : List Value} (h : Own w B e v xs) {q : Nat} (hg : w.grownBy w' (some q)) (hq : q < B) : Own w' B e v xs := h.keep hg (low_ne (h : OwnN _ _ _ 1 _ _ _) hq)
theorem Seqs.low {w w' : World} {B : Nat} {v : Value} {vs : List Value} {L : List Sq} (h : Seqs w B v vs L) {q : Nat} (hg : w.grownBy w' (some q)) (hq : q < B) : Seqs w' B v vs L :=
 ⟨h.outer.keep hg (low_ne h.outer hq), h.len, fun j h1 h2 => (h.inner j h1 h2).low hg hq⟩
set_option maxRecDepth 20000 in
set_option maxHeartbeats 4000000 in
theorem rboth_any (A : Option Addr) (chars : List Int) (c : Nat) (dir : Int) (w : World) (h : Lies w w.heap.size A (ints .i64 chars)) (hl : chars.length ≤ 1000) :
 Calls Try.prog 33 #[.slice A chars.length c, .int .i64 dir] w fun ed w' => Rowed3 w w.heap.size 3 (ints .i64 (levI chars dir)) (ints .i64 (lclsI chars dir)) (baseI chars dir) ed w' := by
 have H := Lib.hid h
 obtain ⟨F, hF⟩ : ∃ F, clsL chars = F := ⟨_, rfl⟩
 obtain ⟨b, hb⟩ : ∃ b, level F dir = b := ⟨_, rfl⟩
 obtain ⟨LV, hLV⟩ : ∃ L, lvs F b = L := ⟨_, rfl⟩
 obtain ⟨XC, hXC⟩ : ∃ L, xcls F b = L := ⟨_, rfl⟩
 obtain ⟨SQ, hSQ⟩ : ∃ L, seqsI F LV b = L := ⟨_, rfl⟩
 have HF := Lib.hid hF
 have HFM : Hid (chars.map cls = F) := Lib.hid hF
 have HB := Lib.hid hb
 have HLV := Lib.hid hLV
 have HXC := Lib.hid hXC
 have HSQ := Lib.hid hSQ
 have HFL : Hid (F.length = chars.length) := Lib.hid (by rw [← hF]; simp [clsL])
 have HLL : Hid (LV.length = chars.length) := Lib.hid (by rw [← hLV, lvs_length, HFL.out])
 have HXL : Hid (XC.length = chars.length) := Lib.hid (by rw [← hXC, xcls_length, HFL.out])
 have HLA : Hid (laidI chars dir = layN chars XC SQ (LV, XC) SQ.length) := Lib.hid (by rw [laidI, baseI, hF, hb, hLV, hXC, hSQ])
 have HEND : Hid (levI chars dir = fillN F b (laidI chars dir).1 chars.length) := Lib.hid (by rw [levI, baseI, hF, hb])
 have HBS : Hid (baseI chars dir = b) := Lib.hid (by rw [baseI, hF, hb])
 have HIN : Hid (∀ s ∈ SQ, ∀ x ∈ s.pl, 0 ≤ x ∧ x < (chars.length : Int)) := Lib.hid (by rw [← hSQ, ← HFL.out]; exact seqs_in F LV b)
 have HSL : Hid (SQ.length ≤ 1000 ∧ ∀ s ∈ SQ, s.pl.length ≤ 1000000) := Lib.hid (by rw [← hSQ]; exact seqs_le (by rw [HFL.out]; exact hl))
 clear h hF hb hLV hXC hSQ
 go_enter Try.func33, Try.ntmps33
 go_wp2_with fail
 refine (rall_any A chars c w H.out (by omega)).mono ?_
 rintro e w1 ⟨v1, rfl, o1, b1⟩
 rw [HFM.out] at o1
 obtain ⟨A1, c1, hv1, l1, -, -⟩ := o1.form
 rw [ints, List.length_map] at hv1
 subst hv1
 have B1 := Lib.hid b1
 have F1 := Lib.hid l1
 clear o1 b1 l1
 go_wp2_with fail
 refine (rlevel_any A1 F c1 dir w1 F1.out (by rw [HFL.out]; omega)).mono ?_
 rintro e w2 ⟨rfl, b2⟩
 rw [HB.out]
 have B2 := Lib.hid (below_then B1.out b2)
 have F2 := Lib.hid (F1.out.up b2)
 clear b2
 go_wp2_with fail
 refine (rxof_any A1 F c1 b w2 F2.out (by rw [HFL.out]; omega)).mono ?_
 rintro e w3 ⟨v3, u3, rfl, o3, p3, b3⟩
 rw [HLV.out] at o3
 rw [HXC.out] at p3
 obtain ⟨A3, c3, hv3, l3, -, -⟩ := o3.form
 obtain ⟨A4, c4, hv4, l4, -, -⟩ := p3.form
 rw [ints, List.length_map] at hv3 hv4
 subst hv3 hv4
 have B3 := Lib.hid (below_then B2.out b3)
 have F3 := Lib.hid (F2.out.up b3)
 have L3 := Lib.hid l3
 have X3 := Lib.hid l4
 clear o3 p3 b3 l3 l4
 go_upto_region 5 with (first
  | (at_builtin; refine app_src intsT w3 (w3.alloc (.cells #[] 3)) w3.heap.size w3.heap.size _ _ _ [] (ints .i64 LV) A3 LV.length c3 rfl rfl rfl rfl (by simp [ints]) (Own.ofLit #[] (Nat.le_refl _) (by decide)) (L3.out.alloc (Nat.le_refl _) _) (ints_one _ _) (below_alloc _ _) (by simp) (by have := HLL.out; unfold maxLen; simp [ints]; omega) (by have := HLL.out; simp [ints]; omega) ?_; intro v5 w5 o5 b5 _ _; have O5 := Lib.hid o5; have B5 := Lib.hid b5; clear o5 b5)
  | (at_builtin; refine app_src intsT w5 (w5.alloc (.cells #[] 3)) w5.heap.size w5.heap.size _ _ _ [] (ints .i64 XC) A4 XC.length c4 rfl rfl rfl rfl (by simp [ints]) (Own.ofLit #[] (Nat.le_refl _) (by decide)) ((X3.out.up B5.out).alloc (Nat.le_refl _) _) (ints_one _ _) (below_alloc _ _) (by simp) (by have := HXL.out; unfold maxLen; simp [ints]; omega) (by have := HXL.out; simp [ints]; omega) ?_; intro v6 w6 o6 b6 _ _; have O6 := Lib.hid o6; have B6 := Lib.hid b6; clear o6 b6)
  | fail)
 have O5' : Hid (Own w5 w3.heap.size 3 v5 (ints .i64 LV)) := Lib.hid (by simpa using O5.out)
 have O6' : Hid (Own w6 w5.heap.size 3 v6 (ints .i64 XC)) := Lib.hid (by simpa using O6.out)
 have S5 : Hid (w3.heap.size ≤ w5.heap.size) := Lib.hid B5.out.size
 have BB : Hid (Below w3.heap.size w3 w6) := Lib.hid (below_then B5.out B6.out)
 have P5 := Lib.hid (O5'.out.below B6.out (Nat.le_refl _))
 have S6 : Hid (w5.heap.size ≤ w6.heap.size) := Lib.hid B6.out.size
 have NE : Hid (∀ g, v5.ownBlock = some g → g < w5.heap.size ∧ w3.heap.size ≤ g) := Lib.hid fun g hg => by have := Own.inside O5'.out g hg; omega
 have NE6 : Hid (∀ g, v6.ownBlock = some g → g < w6.heap.size ∧ w5.heap.size ≤ g) := Lib.hid fun g hg => by have := Own.inside O6'.out g hg; omega
 clear O5 O6 O5'
 go_wp2_with fail
 refine (rsof_any A1 F c1 A3 LV c3 b w6 (F3.out.up BB.out) (L3.out.up BB.out) (by rw [HFL.out]; omega)).mono ?_
 rintro e w7 ⟨v7, vs, rfl, s7, b7⟩
 rw [HSQ.out] at s7
 obtain ⟨A7, c7, hv7, -⟩ := s7.read
 subst hv7
 have Q7 := Lib.hid s7
 have B7 := Lib.hid (below_then BB.out b7)
 have S7 : Hid (w6.heap.size ≤ w7.heap.size) := Lib.hid b7.size
 have P5' := Lib.hid (P5.out.below b7 (Nat.le_refl _))
 have P6' := Lib.hid (O6'.out.below b7 (Nat.le_refl _))
 clear s7 b7 P5 O6' B5 B6 BB
 go_wp2_with fail
 go_loopw [14] (fun nv wr => ∃ n : Nat, n ≤ SQ.length ∧ nv = .int .i64 n ∧ Hid (Own wr w3.heap.size 3 v5 (ints .i64 (layN chars XC SQ (LV, XC) n).1)) ∧ Hid (Own wr w5.heap.size 3 v6 (ints .i64 (layN chars XC SQ (LV, XC) n).2)) ∧ Hid (Seqs wr w6.heap.size (.slice A7 SQ.length c7) vs SQ) ∧ Hid (Below w3.heap.size w3 wr) ∧ Hid (w6.heap.size ≤ wr.heap.size)) (fun nv _ => SQ.length - (intOf nv).toNat)
 case atStart => exact ⟨0, by omega, rfl, P5', P6', Q7, B7, S7⟩
 case round =>
  obtain ⟨n, hn, rfl, HO5, HO6, HQ, HBr, H6r⟩ := hrel
  by_cases hlt : n < SQ.length
  ·obtain ⟨A8, c8, hv8, hr8⟩ := HQ.out.read
   injection hv8 with hA8 hn8 hc8
   clear hn8
   subst hA8 hc8
   have hvl : n < vs.length := by rw [HQ.out.len]; exact hlt
   obtain ⟨g, off, hA, hg, hsc⟩ := hr8.at2 hlt hvl
   subst hA
   have hin := HQ.out.inner n hvl hlt
   obtain ⟨Aj, cj, hvj, hlj, -, -⟩ := hin.form
   rw [ints, List.length_map] at hvj
   rw [hvj] at hsc hin
   obtain ⟨k1, k2, k3, k4⟩ := hsc
   obtain ⟨S, hS⟩ : ∃ S, SQ[n] = S := ⟨_, rfl⟩
   have hpin := HIN.out S (hS ▸ List.getElem_mem hlt)
   have hpl := HSL.out.2 S (hS ▸ List.getElem_mem hlt)
   rw [hS] at k1 k2 k3 k4 hlj hin
   have HIJ := Lib.hid hin
   have HSN := Lib.hid hS
   have HPI := Lib.hid hpin
   have HPL := Lib.hid hpl
   have HJ := Lib.hid hlj
   have n0 : (0 : Int) ≤ (n : Int) := by omega
   have n1 : (n : Int) < (SQ.length : Int) := by omega
   have HN := Lib.hid hlt
   clear hlj hr8 hS hpin hpl hin hvj hvl
   go_upto_region 10 with fail
   obtain ⟨ws, hws⟩ : ∃ u, wr.alloc (.cells #[.slice Aj S.pl.length cj, .int .i64 S.lev, .int .i64 S.sos, .int .i64 S.eos] 61) = u := ⟨_, rfl⟩
   have BOX : Hid (∀ w', Below ws.heap.size ws w' → w'.cell? ⟨wr.heap.size, 0, none⟩ = some (.slice Aj S.pl.length cj) ∧ w'.cell? ⟨wr.heap.size, 1, none⟩ = some (.int .i64 S.lev) ∧ w'.cell? ⟨wr.heap.size, 2, none⟩ = some (.int .i64 S.sos) ∧ w'.cell? ⟨wr.heap.size, 3, none⟩ = some (.int .i64 S.eos)) := Lib.hid fun w' hb => by
    subst hws
    exact ⟨boxed hb rfl, boxed hb rfl, boxed hb rfl, boxed hb rfl⟩
   have SW : Hid (Below wr.heap.size wr ws) := Lib.hid (hws ▸ below_alloc _ _)
   have SZ : Hid (wr.heap.size < ws.heap.size) := Lib.hid (by rw [← hws]; simp)
   have HJs := Lib.hid (HJ.out.up SW.out)
   have Bs : Hid (Below w3.heap.size w3 ws) := Lib.hid (below_then HBr.out SW.out)
   rw [hws]
   obtain ⟨q0, -, -, -⟩ := BOX.out ws (Below.refl _ _)
   clear hws k1 k2 k3 k4
   go_wp2_with fail
   clear q0
   refine (rpick_any A4 XC c4 Aj S.pl cj ws (X3.out.up Bs.out) HJs.out (by rw [HXL.out]; exact HPI.out) (by rw [HXL.out]; omega) HPL.out).mono ?_
   rintro e wa ⟨va, rfl, oa, ba⟩
   obtain ⟨OW, hOW⟩ : ∃ O, pickL XC S.pl = O := ⟨_, rfl⟩
   have HOWL : Hid (OW.length ≤ 1000000) := Lib.hid (by rw [← hOW, pickL, List.length_map]; exact HPL.out)
   rw [hOW] at oa
   have HOW := Lib.hid hOW
   obtain ⟨Aa, ca, hva, la, -, -⟩ := oa.form
   rw [ints, List.length_map] at hva
   subst hva
   have La := Lib.hid la
   have Ba := Lib.hid ba
   clear oa la ba hOW
   obtain ⟨-, -, q2, -⟩ := BOX.out wa Ba.out
   go_wp2_with fail
   clear q2
   refine (rof09_any Aa OW ca S.sos wa La.out HOWL.out).mono ?_
   rintro e wb ⟨vb, rfl, ob, bb⟩
   obtain ⟨WK, hWK⟩ : ∃ O, ofI OW S.sos = O := ⟨_, rfl⟩
   rw [hWK] at ob
   have HWK := Lib.hid hWK
   obtain ⟨Ab, cb, hvb, lb, -, -⟩ := ob.form
   rw [ints, List.length_map] at hvb
   subst hvb
   have Lb := Lib.hid lb
   have Lab := Lib.hid (La.out.up bb)
   have Bb := Lib.hid (below_then Ba.out bb)
   clear ob lb bb hWK
   go_upto_region 12 with fail
   have HWKL : Hid (WK.length = OW.length) := Lib.hid (by rw [← HWK.out, ofI_length])
   have hq : wb.drew.cell? ⟨wr.heap.size, 0, none⟩ = some (.slice Aj S.pl.length cj) ∧ wb.drew.cell? ⟨wr.heap.size, 1, none⟩ = some (.int .i64 S.lev) ∧ wb.drew.cell? ⟨wr.heap.size, 2, none⟩ = some (.int .i64 S.sos) := by
    obtain ⟨h0, h1, h2, -⟩ := BOX.out wb Bb.out
    exact ⟨h0, h1, h2⟩
   refine wp_region_E (S := fun w' => w'.cell? ⟨wr.heap.size, 0, none⟩ = some (.slice Aj S.pl.length cj) ∧ w'.cell? ⟨wr.heap.size, 1, none⟩ = some (.int .i64 S.lev) ∧ w'.cell? ⟨wr.heap.size, 2, none⟩ = some (.int .i64 S.sos)) [] (by kernel_rfl) (hq) (fun hHeld hZ => ?_)
   refine' eY 0 hHeld hZ fun hZ => ?_
   try simp only [Act.put,ZA,ZB,ZD,ZE,ZF]
   refine' eY 1 hHeld hZ fun hZ => ?_
   try simp only [Act.put,ZA,ZB,ZC,ZD,ZE,ZF]
   refine' eY 2 hHeld hZ fun hZ => ?_
   try simp only [Act.put,ZA,ZB,ZC,ZD,ZE,ZF]
   refine' eY 4 hHeld hZ fun hZ => ?_
   try simp only [Act.put,ZA,ZB,ZC,ZD,ZE,ZF]
   refine' eY 5 hHeld hZ fun hZ => ?_
   try simp only [Act.put,ZA,ZB,ZC,ZD,ZE,ZF]
   refine' eY 6 hHeld hZ fun hZ => ?_
   try simp only [Act.put,ZA,ZB,ZC,ZD,ZE,ZF]
   refine' eY 7 hHeld hZ fun hZ => ?_
   try simp only [Act.put,ZA,ZB,ZC,ZD,ZE,ZF]
   refine' eY 8 hHeld hZ fun hZ => ?_
   try simp only [Act.put,ZA,ZB,ZC,ZD,ZE,ZF]
   refine' eY 9 hHeld hZ fun hZ => ?_
   try simp only [Act.put,ZA,ZB,ZC,ZD,ZE,ZF]
   refine eA 3 fun K hK => ?_
   go_simp
   have BD : Hid (Below ws.heap.size ws wb.drew) := Lib.hid (by exact below_same Bb.out rfl rfl rfl rfl)
   have LabD : Hid (Lies wb.drew wb.drew.heap.size Aa (ints .i64 OW)) := Lib.hid (Lies.sameHeap Lab.out rfl)
   have LbD : Hid (Lies wb.drew wb.drew.heap.size Ab (ints .i64 WK)) := Lib.hid (Lies.sameHeap Lb.out rfl)
   have HBD : Hid (Below w.heap.size w wb.drew) := Lib.hid (below_then (below_then B3.out Bs.out) BD.out)
   refine (rpick_any A chars c Aj S.pl cj wb.drew (H.out.up HBD.out) (HJs.out.up BD.out) HPI.out (by omega) HPL.out).mono ?_
   rintro e wp ⟨vp, rfl, op_, bp⟩
   obtain ⟨OC, hOC⟩ : ∃ O, pickL chars S.pl = O := ⟨_, rfl⟩
   have HOCL : Hid (OC.length ≤ 1000000) := Lib.hid (by rw [← hOC, pickL, List.length_map]; exact HPL.out)
   rw [hOC] at op_
   have HOC := Lib.hid hOC
   obtain ⟨Ap, cp, hvp, lp, -, -⟩ := op_.form
   rw [ints, List.length_map] at hvp
   subst hvp
   have Lp := Lib.hid lp
   have Bp := Lib.hid (below_then BD.out bp)
   have Lap := Lib.hid (LabD.out.up bp)
   have Lbp := Lib.hid (LbD.out.up bp)
   clear op_ lp bp hOC
   have hq2 : wp.cell? ⟨wr.heap.size, 0, none⟩ = some (.slice Aj S.pl.length cj) ∧ wp.cell? ⟨wr.heap.size, 1, none⟩ = some (.int .i64 S.lev) ∧ wp.cell? ⟨wr.heap.size, 2, none⟩ = some (.int .i64 S.sos) := by
    obtain ⟨h0, h1, h2, -⟩ := BOX.out wp Bp.out
    exact ⟨h0, h1, h2⟩
   refine eB hK hZ (hq2) fun hHeld hZ => ?_
   clear hK K
   try simp only [Act.put,ZA,ZB,ZC,ZD,ZE,ZF]
   refine eA 10 fun K hK => ?_
   go_simp
   refine (rof10_all Ap OC cp Ab WK cb Aa OW ca S.lev S.sos wp Lp.out Lbp.out Lap.out HOCL.out (by rw [HWKL.out]; exact HOWL.out)).mono ?_
   rintro e wq ⟨vq, rfl, oq, bq⟩
   obtain ⟨BR, hBR⟩ : ∃ O, ofB OC WK OW S.lev S.sos = O := ⟨_, rfl⟩
   rw [hBR] at oq
   have HBR := Lib.hid hBR
   obtain ⟨Aq, cq, hvq, lq, -, -⟩ := oq.form
   rw [ints, List.length_map] at hvq
   subst hvq
   have Lq := Lib.hid lq
   have Bq := Lib.hid (below_then Bp.out bq)
   clear oq lq bq hBR
   have hq3 : wq.cell? ⟨wr.heap.size, 0, none⟩ = some (.slice Aj S.pl.length cj) ∧ wq.cell? ⟨wr.heap.size, 1, none⟩ = some (.int .i64 S.lev) ∧ wq.cell? ⟨wr.heap.size, 2, none⟩ = some (.int .i64 S.sos) := by
    obtain ⟨h0, h1, h2, -⟩ := BOX.out wq Bq.out
    exact ⟨h0, h1, h2⟩
   refine eB hK hZ (hq3) fun hHeld hZ => ?_
   clear hK K
   try simp only [Act.put,ZA,ZB,ZC,ZD,ZE,ZF]
   refine' eX 11 hZ fun hZ => ?_
   try simp only [Act.put,ZA,ZB,ZC,ZD,ZE,ZF]
   refine wpAnyE_done (by kernel_rfl) ?_ _
   clear hZ
   clear hq hq2 hq3 hHeld
   obtain ⟨-, q1, q2, q3⟩ := BOX.out wq Bq.out
   go_wp2_with fail
   clear q1 q2 q3
   have HBRL : Hid (BR.length ≤ 1000000) := Lib.hid (by rw [← HBR.out, (ofB_keeps OC WK OW S.lev S.sos).1, HWKL.out]; exact HOWL.out)
   refine (rof11_any Aq BR cq S.lev S.sos S.eos wq Lq.out HBRL.out).mono ?_
   rintro e wf ⟨vf, rfl, of_, bf⟩
   obtain ⟨ES, hES⟩ : ∃ O, nofI BR S.lev S.sos S.eos = O := ⟨_, rfl⟩
   rw [hES] at of_
   have HES : Hid (seqE chars XC S = ES) := Lib.hid (by rw [seqE, HOC.out, HOW.out, HWK.out, HBR.out, hES])
   have HESL : Hid (ES.length = S.pl.length) := Lib.hid (by rw [← HES.out, seqE_length])
   have SF : Hid (Below ws.heap.size ws wf) := Lib.hid (below_then Bq.out bf)
   obtain ⟨q0, q1, q2, q3⟩ := BOX.out wf SF.out
   have XF : Hid (wf.cell? ⟨wr.heap.size, 0, none⟩ = some (.slice Aj S.pl.length cj) ∧ wf.cell? ⟨wr.heap.size, 1, none⟩ = some (.int .i64 S.lev)) := Lib.hid ⟨q0, q1⟩
   have WF6 : Hid (w6.heap.size ≤ wr.heap.size) := Lib.hid H6r.out
   have EF : Hid (Own wf w6.heap.size 3 vf (ints .i64 ES)) := Lib.hid (of_.weaken (by have := Bq.out.size; have := SZ.out; have := H6r.out; omega))
   have QF : Hid (Seqs wf w6.heap.size (.slice (some ⟨g, off, none⟩) SQ.length c7) vs SQ) := Lib.hid (HQ.out.below (below_then SW.out SF.out) (Nat.le_refl _))
   have O5F := Lib.hid (HO5.out.below (below_then SW.out SF.out) (Nat.le_refl _))
   have O6F := Lib.hid (HO6.out.below (below_then SW.out SF.out) (Nat.le_refl _))
   have BF : Hid (Below w3.heap.size w3 wf) := Lib.hid (below_then Bs.out SF.out)
   have JF := Lib.hid (HIJ.out.below (below_then SW.out SF.out) (Nat.le_refl _))
   obtain ⟨Ae, ce, hve, -, -, -⟩ := EF.out.form
   rw [ints, List.length_map] at hve
   subst hve
   obtain ⟨st, hst⟩ : ∃ st, layN chars XC SQ (LV, XC) n = st := ⟨_, rfl⟩
   rw [hst] at O5F O6F
   have HSL5 : Hid (∀ k, (layK S.lev S.pl ES st k).1.length = chars.length ∧ (layK S.lev S.pl ES st k).2.length = chars.length) := Lib.hid fun k => by
    have h1 := layK_length S.lev S.pl ES st k
    have h2 := layN_length chars XC SQ (LV, XC) n
    rw [hst] at h2
    rw [h1.1, h1.2, h2.1, h2.2]
    exact ⟨HLL.out, HXL.out⟩
   have HLN : Hid (layN chars XC SQ (LV, XC) (n + 1) = layK S.lev S.pl ES st S.pl.length) := Lib.hid (by
    rw [layN, List.getElem?_eq_getElem HN.out, HSN.out]
    simp only
    rw [HES.out, hst])
   have WX6 : Hid (w6.heap.size ≤ wf.heap.size) := Lib.hid (by have := SF.out.size; have := SZ.out; have := H6r.out; omega)
   clear q0 q1 q2 q3 of_ bf hES hst
   go_wp2_with fail
   go_loopw [20] (fun kv wx => ∃ k : Nat, k ≤ S.pl.length ∧ kv = .int .i64 k ∧ Hid (Own wx w3.heap.size 3 v5 (ints .i64 (layK S.lev S.pl ES st k).1)) ∧ Hid (Own wx w5.heap.size 3 v6 (ints .i64 (layK S.lev S.pl ES st k).2)) ∧ Hid (Own wx w6.heap.size 3 (.slice Ae ES.length ce) (ints .i64 ES)) ∧ Hid (Own wx w6.heap.size 3 (.slice Aj S.pl.length cj) (ints .i64 S.pl)) ∧ Hid (Seqs wx w6.heap.size (.slice (some ⟨g, off, none⟩) SQ.length c7) vs SQ) ∧ Hid (wx.cell? ⟨wr.heap.size, 0, none⟩ = some (.slice Aj S.pl.length cj) ∧ wx.cell? ⟨wr.heap.size, 1, none⟩ = some (.int .i64 S.lev)) ∧ Hid (Below w3.heap.size w3 wx) ∧ Hid (wf.heap.size ≤ wx.heap.size)) (fun kv _ => S.pl.length - (intOf kv).toNat)
   case atStart => exact ⟨0, by omega, rfl, O5F, O6F, EF, JF, QF, XF, BF, Lib.hid (Nat.le_refl _)⟩
   case round =>
    rename World => wx
    obtain ⟨k, hk, rfl, HK5, HK6, HKE, HKJ, HKQ, HKX, HKB, HKS⟩ := hrel
    obtain ⟨x0, x1⟩ := HKX.out
    by_cases hlt2 : k < S.pl.length
    ·have hke : k < ES.length := by rw [HESL.out]; exact hlt2
     obtain ⟨A9, c9, hv9, l9, -, -⟩ := HKJ.out.form
     injection hv9 with hA9 hn9 hc9
     clear hn9
     subst hA9 hc9
     obtain ⟨pj, hpj, hpjb, hcj⟩ := l9.int hlt2
     obtain ⟨A10, c10, hv10, l10, -, -⟩ := HKE.out.form
     injection hv10 with hA10 hn10 hc10
     clear hn10
     subst hA10 hc10
     obtain ⟨pe, hpe, hpeb, hce⟩ := l10.int hke
     subst hpj hpe
     obtain ⟨a, ha, hal⟩ : ∃ a : Nat, S.pl[k] = (a : Int) ∧ a < chars.length := by
      have := HPI.out _ (List.getElem_mem hlt2)
      exact ⟨S.pl[k].toNat, by omega, by omega⟩
     obtain ⟨x, hx⟩ : ∃ x, ES[k] = x := ⟨_, rfl⟩
     have hsl := HSL5.out k
     obtain ⟨g6, c6, hv6, hR6⟩ := HK6.out.inRow (by rw [ints, List.length_map]; omega)
     obtain ⟨g5, c5, hv5, hR5⟩ := HK5.out.inRow (by rw [ints, List.length_map]; omega)
     rw [ints, List.length_map, hsl.1] at hv5
     rw [ints, List.length_map, hsl.2] at hv6
     subst hv5 hv6
     have G5 : Hid (g5 < w5.heap.size ∧ w3.heap.size ≤ g5) := Lib.hid (NE.out g5 rfl)
     have G6 : Hid (g6 < w6.heap.size ∧ w5.heap.size ≤ g6) := Lib.hid (NE6.out g6 rfl)
     rw [ha] at hcj
     rw [hx] at hce
     have HSET : Hid ((layK S.lev S.pl ES st (k + 1)).1 = (layK S.lev S.pl ES st k).1.set a (nLevelI x S.lev) ∧ (layK S.lev S.pl ES st (k + 1)).2 = (layK S.lev S.pl ES st k).2.set a x) := Lib.hid (by
      rw [layK, getD_at hlt2, getD_at hke, ha, hx, Int.toNat_natCast]
      exact ⟨rfl, rfl⟩)
     have kb : k < 1000000 := by have := HPL.out; omega
     have HX := Lib.hid hx
     have HA := Lib.hid ha
     have HAL := Lib.hid hal
     have HSLk := Lib.hid hsl
     have HLT2 := Lib.hid hlt2
     have HR5 := Lib.hid hR5
     have HR6 := Lib.hid hR6
     have hq : wx.drew.cell? ⟨wr.heap.size, 0, none⟩ = some (.slice (some pj) S.pl.length cj) ∧ wx.drew.cell? (pj.add k) = some (.int .i64 a) ∧ wx.drew.cell? (pe.add k) = some (.int .i64 x) := ⟨x0, hcj, hce⟩
     have k0 : (0 : Int) ≤ (k : Int) := by omega
     have k1 : (k : Int) < (S.pl.length : Int) := by omega
     have k2 : (k : Int) < (ES.length : Int) := by omega
     have a0 : (0 : Int) ≤ (a : Int) := by omega
     have a1 : (a : Int) < (chars.length : Int) := by omega
     clear hR5 hR6 hx ha hsl l9 l10 hcj hce hpjb hpeb x1
     go_upto_region 17 with fail
     clear x0
     refine wp_region_E (S := fun w' => w'.cell? ⟨wr.heap.size, 0, none⟩ = some (.slice (some pj) S.pl.length cj) ∧ w'.cell? (pj.add k) = some (.int .i64 a) ∧ w'.cell? (pe.add k) = some (.int .i64 x)) [11] (by kernel_rfl) (hq) (fun hHeld hZ => ?_)
     refine' eY 0 hHeld hZ fun hZ => ?_
     try simp only [Act.put,ZA,ZB,ZD,ZE,ZF]
     refine' eY 1 hHeld hZ fun hZ => ?_
     try simp only [Act.put,ZA,ZB,ZC,ZD,ZE,ZF]
     refine' eY 2 hHeld hZ fun hZ => ?_
     try simp only [Act.put,ZA,ZB,ZC,ZD,ZE,ZF]
     refine' eY 3 hHeld hZ fun hZ => ?_
     try simp only [Act.put,ZA,ZB,ZC,ZD,ZE,ZF]
     refine' eY 4 hHeld hZ fun hZ => ?_
     try simp only [Act.put,ZA,ZB,ZC,ZD,ZE,ZF]
     refine' eY 5 hHeld hZ fun hZ => ?_
     try simp only [Act.put,ZA,ZB,ZC,ZD,ZE,ZF]
     refine' eY 6 hHeld hZ fun hZ => ?_
     try simp only [Act.put,ZA,ZB,ZC,ZD,ZE,ZF]
     refine' eY 7 hHeld hZ fun hZ => ?_
     try simp only [Act.put,ZA,ZB,ZC,ZD,ZE,ZF]
     refine' eY 8 hHeld hZ fun hZ => ?_
     try simp only [Act.put,ZA,ZB,ZC,ZD,ZE,ZF]
     refine' eY 9 hHeld hZ fun hZ => ?_
     try simp only [Act.put,ZA,ZB,ZC,ZD,ZE,ZF]
     refine' eY 10 hHeld hZ fun hZ => ?_
     try simp only [Act.put,ZA,ZB,ZC,ZD,ZE,ZF]
     refine eA 11 fun K hK => ?_
     refine step_store wx.drew w5.heap.size (.tmp 97) (.tmp 96) g6 a c6 (.int .i64 x) (ints .i64 (layK S.lev S.pl ES st k).2) wx.drew rfl rfl rfl (by kernel_rfl) rfl rfl rfl (Own.same HR6.out rfl) (by rw [ints, List.length_map, HSLk.out.2]; exact HAL.out) (Below.refl _ _) ?_
     intro wy ry by_ gy
     have RY6 : Hid (Own wy w5.heap.size 3 (.slice (some ⟨g6, 0, none⟩) chars.length c6) (ints .i64 (layK S.lev S.pl ES st (k + 1)).2)) := Lib.hid (by
      have h1 : (ints .i64 (layK S.lev S.pl ES st k).2).length = chars.length := by rw [ints, List.length_map, HSLk.out.2]
      have h2 : (ints .i64 (layK S.lev S.pl ES st (k + 1)).2).length = chars.length := by rw [ints, List.length_map, (HSL5.out (k + 1)).2]
      rw [h1, ints_set, ← HSET.out.2] at ry
      unfold Own
      rw [h2]; exact ry)
     have RY5 : Hid (Row wy w3.heap.size 3 g5 c5 (ints .i64 (layK S.lev S.pl ES st k).1)) := Lib.hid (Row.keep (Own.same (w' := wx.drew) HR5.out rfl) gy (by have := G5.out; have := G6.out; simp; omega))
     have EY := Lib.hid (Own.low (Own.same (w' := wx.drew) HKE.out rfl) gy G6.out.1)
     have JY := Lib.hid (Own.low (Own.same (w' := wx.drew) HKJ.out rfl) gy G6.out.1)
     have QY := Lib.hid (Seqs.low (HKQ.out.below (w' := wx.drew) (by exact below_same (Below.refl wx.heap.size wx) rfl rfl rfl rfl) (Nat.le_refl _)) gy G6.out.1)
     have HBX : Hid (wr.heap.size < wx.heap.size) := Lib.hid (by have := HKS.out; have := SF.out.size; have := SZ.out; omega)
     have XY : Hid (wy.cell? ⟨wr.heap.size, 0, none⟩ = some (.slice (some pj) S.pl.length cj) ∧ wy.cell? ⟨wr.heap.size, 1, none⟩ = some (.int .i64 S.lev)) := Lib.hid (by
      have hb := gy.block wr.heap.size HBX.out (by have := G6.out.1; have := H6r.out; simp; omega)
      rw [World.cell?_of_block (a := ⟨wr.heap.size, 0, none⟩) hb, World.cell?_of_block (a := ⟨wr.heap.size, 1, none⟩) hb]
      exact HKX.out)
     have BY : Hid (Below w3.heap.size w3 wy) := Lib.hid ((show Below w3.heap.size w3 wx.drew by exact below_same HKB.out rfl rfl rfl rfl).trans (by_.mono S5.out))
     have SY : Hid (wf.heap.size ≤ wy.heap.size) := Lib.hid (Nat.le_trans HKS.out gy.size)
     clear ry by_ gy hq
     refine eE hK hZ fun hZ => ?_
     clear hK K
     try simp only [Act.put,ZA,ZB,ZC,ZD,ZE,ZF]
     refine wpAnyE_done (by kernel_rfl) ?_ _
     clear hZ
     clear hHeld
     obtain ⟨A9, c9, hv9, l9, -, -⟩ := JY.out.form
     injection hv9 with hA9 hn9 hc9
     clear hn9
     subst hA9 hc9
     obtain ⟨pj', hpj, _, hcj⟩ := l9.int HLT2.out
     injection hpj with hpj
     subst hpj
     obtain ⟨A10, c10, hv10, l10, -, -⟩ := EY.out.form
     injection hv10 with hA10 hn10 hc10
     clear hn10
     subst hA10 hc10
     obtain ⟨pe', hpe, _, hce⟩ := l10.int hke
     injection hpe with hpe
     subst hpe
     rw [HA.out] at hcj
     rw [HX.out] at hce
     have hq : wy.drew.cell? ⟨wr.heap.size, 0, none⟩ = some (.slice (some pj) S.pl.length cj) ∧ wy.drew.cell? ⟨wr.heap.size, 1, none⟩ = some (.int .i64 S.lev) ∧ wy.drew.cell? (pj.add k) = some (.int .i64 a) ∧ wy.drew.cell? (pe.add k) = some (.int .i64 x) := ⟨XY.out.1, XY.out.2, hcj, hce⟩
     clear hcj hce l9 l10
     go_upto_region 18 with fail
     refine wp_region_E (S := fun w' => w'.cell? ⟨wr.heap.size, 0, none⟩ = some (.slice (some pj) S.pl.length cj) ∧ w'.cell? ⟨wr.heap.size, 1, none⟩ = some (.int .i64 S.lev) ∧ w'.cell? (pj.add k) = some (.int .i64 a) ∧ w'.cell? (pe.add k) = some (.int .i64 x)) [14] (by kernel_rfl) (hq) (fun hHeld hZ => ?_)
     refine' eY 0 hHeld hZ fun hZ => ?_
     try simp only [Act.put,ZA,ZB,ZD,ZE,ZF]
     refine' eY 1 hHeld hZ fun hZ => ?_
     try simp only [Act.put,ZA,ZB,ZC,ZD,ZE,ZF]
     refine' eY 2 hHeld hZ fun hZ => ?_
     try simp only [Act.put,ZA,ZB,ZC,ZD,ZE,ZF]
     refine' eY 3 hHeld hZ fun hZ => ?_
     try simp only [Act.put,ZA,ZB,ZC,ZD,ZE,ZF]
     refine' eY 4 hHeld hZ fun hZ => ?_
     try simp only [Act.put,ZA,ZB,ZC,ZD,ZE,ZF]
     refine' eY 5 hHeld hZ fun hZ => ?_
     try simp only [Act.put,ZA,ZB,ZC,ZD,ZE,ZF]
     refine' eY 6 hHeld hZ fun hZ => ?_
     try simp only [Act.put,ZA,ZB,ZC,ZD,ZE,ZF]
     refine' eY 7 hHeld hZ fun hZ => ?_
     try simp only [Act.put,ZA,ZB,ZC,ZD,ZE,ZF]
     refine' eY 8 hHeld hZ fun hZ => ?_
     try simp only [Act.put,ZA,ZB,ZC,ZD,ZE,ZF]
     refine' eY 9 hHeld hZ fun hZ => ?_
     try simp only [Act.put,ZA,ZB,ZC,ZD,ZE,ZF]
     refine' eY 10 hHeld hZ fun hZ => ?_
     try simp only [Act.put,ZA,ZB,ZC,ZD,ZE,ZF]
     refine' eY 11 hHeld hZ fun hZ => ?_
     try simp only [Act.put,ZA,ZB,ZC,ZD,ZE,ZF]
     refine eA 12 fun K hK => ?_
     go_simp
     refine (rlevel11_any x S.lev wy.drew).mono ?_
     rintro e wz ⟨rfl, rfl⟩
     refine eB hK hZ (hq) fun hHeld hZ => ?_
     clear hK K
     try simp only [Act.put,ZA,ZB,ZC,ZD,ZE,ZF]
     refine' eY 13 hHeld hZ fun hZ => ?_
     try simp only [Act.put,ZA,ZB,ZC,ZD,ZE,ZF]
     refine eA 14 fun K hK => ?_
     refine step_store wy.drew w3.heap.size (.tmp 111) (.tmp 110) g5 a c5 (.int .i64 (nLevelI x S.lev)) (ints .i64 (layK S.lev S.pl ES st k).1) wy.drew rfl rfl rfl (by kernel_rfl) rfl rfl rfl (Own.same RY5.out rfl) (by rw [ints, List.length_map, HSLk.out.1]; exact HAL.out) (Below.refl _ _) ?_
     intro wz rz bz gz
     have RZ5 : Hid (Own wz w3.heap.size 3 (.slice (some ⟨g5, 0, none⟩) chars.length c5) (ints .i64 (layK S.lev S.pl ES st (k + 1)).1)) := Lib.hid (by
      have h1 : (ints .i64 (layK S.lev S.pl ES st k).1).length = chars.length := by rw [ints, List.length_map, HSLk.out.1]
      have h2 : (ints .i64 (layK S.lev S.pl ES st (k + 1)).1).length = chars.length := by rw [ints, List.length_map, (HSL5.out (k + 1)).1]
      rw [h1, ints_set, ← HSET.out.1] at rz
      unfold Own
      rw [h2]; exact rz)
     have G56 : Hid (g5 < w6.heap.size) := Lib.hid (by have := G5.out; have := S6.out; omega)
     have RZ6 := Lib.hid (Own.low (Own.same (w' := wy.drew) RY6.out rfl) gz G5.out.1)
     have EZ := Lib.hid (Own.low (Own.same (w' := wy.drew) EY.out rfl) gz G56.out)
     have JZ := Lib.hid (Own.low (Own.same (w' := wy.drew) JY.out rfl) gz G56.out)
     have QZ := Lib.hid (Seqs.low (QY.out.below (w' := wy.drew) (by exact below_same (Below.refl wy.heap.size wy) rfl rfl rfl rfl) (Nat.le_refl _)) gz G56.out)
     have XZ : Hid (wz.cell? ⟨wr.heap.size, 0, none⟩ = some (.slice (some pj) S.pl.length cj) ∧ wz.cell? ⟨wr.heap.size, 1, none⟩ = some (.int .i64 S.lev)) := Lib.hid (by
      have hb := gz.block wr.heap.size (by have := SY.out; have := SF.out.size; have := SZ.out; exact Nat.lt_of_lt_of_le (show wr.heap.size < wy.heap.size by omega) (Nat.le_refl _)) (by have := G56.out; have := H6r.out; simp; omega)
      rw [World.cell?_of_block (a := ⟨wr.heap.size, 0, none⟩) hb, World.cell?_of_block (a := ⟨wr.heap.size, 1, none⟩) hb]
      exact XY.out)
     have BZ : Hid (Below w3.heap.size w3 wz) := Lib.hid ((show Below w3.heap.size w3 wy.drew by exact below_same BY.out rfl rfl rfl rfl).trans bz)
     have SZz : Hid (wf.heap.size ≤ wz.heap.size) := Lib.hid (Nat.le_trans SY.out gz.size)
     clear rz bz gz hq
     refine eE hK hZ fun hZ => ?_
     clear hK K
     try simp only [Act.put,ZA,ZB,ZC,ZD,ZE,ZF]
     refine wpAnyE_done (by kernel_rfl) ?_ _
     clear hZ
     clear hHeld
     go_wp2_with fail
     go_roundw
     case rel => exact ⟨k + 1, HLT2.out, by go_num, RZ5, RZ6, EZ, JZ, QZ, XZ, BZ, SZz⟩
     case measure => have := HLT2.out; simp [intOf]; omega
    ·obtain rfl : k = S.pl.length := by omega
     have nb : n < 1000 := by have := HN.out; have := HSL.out.1; omega
     go_wp2_with fail
     go_roundw
     case rel => exact ⟨n + 1, HN.out, by go_num, Lib.hid (by rw [HLN.out]; exact HK5.out), Lib.hid (by rw [HLN.out]; exact HK6.out), HKQ, HKB, Lib.hid (Nat.le_trans WX6.out HKS.out)⟩
     case measure => have := HN.out; simp [intOf]; omega
  ·obtain rfl : n = SQ.length := by omega
   have h5 := HO5.out
   have h6 := HO6.out
   rw [← HLA.out] at h5 h6
   obtain ⟨la, hla⟩ : ∃ l, (laidI chars dir).1 = l := ⟨_, rfl⟩
   rw [hla] at h5
   have HLAL : Hid (la.length = chars.length) := Lib.hid (by rw [← hla, HLA.out, (layN_length _ _ _ _ _).1]; exact HLL.out)
   have HFIN : Hid (levI chars dir = fillN F b la chars.length) := Lib.hid (by rw [HEND.out, hla])
   have K5 : Hid (Own wr w3.heap.size 3 v5 (ints .i64 (fillN F b la 0))) := Lib.hid h5
   have K6 : Hid (Own wr w5.heap.size 3 v6 (ints .i64 (lclsI chars dir))) := Lib.hid h6
   clear h5 h6 hla HO5 HO6 HQ
   go_wp2_with fail
   go_loopw [21] (fun iv wx => ∃ i : Nat, i ≤ chars.length ∧ iv = .int .i64 i ∧ Hid (Own wx w3.heap.size 3 v5 (ints .i64 (fillN F b la i))) ∧ Hid (Own wx w5.heap.size 3 v6 (ints .i64 (lclsI chars dir))) ∧ Hid (Below w3.heap.size w3 wx)) (fun iv _ => chars.length - (intOf iv).toNat)
   case atStart => exact ⟨0, by omega, rfl, K5, K6, HBr⟩
   case round =>
    rename World => wx
    obtain ⟨i, hi, rfl, HI5, HI6, HIB⟩ := hrel
    by_cases hlt2 : i < chars.length
    ·have hif : i < F.length := by rw [HFL.out]; exact hlt2
     obtain ⟨pf, hpf, _, hcf⟩ := (F3.out.up HIB.out).int hif
     subst hpf
     obtain ⟨y, hy⟩ : ∃ y, F[i] = y := ⟨_, rfl⟩
     rw [hy] at hcf
     have i0 : (0 : Int) ≤ (i : Int) := by omega
     have i1 : (i : Int) < (F.length : Int) := by omega
     have i2 : (i : Int) < (chars.length : Int) := by omega
     have HLT2 := Lib.hid hlt2
     obtain ⟨o, ho⟩ : ∃ o, isOut y = o := ⟨_, rfl⟩
     have HFN : Hid (fillN F b la (i + 1) = if o then (fillN F b la i).set i (if i = 0 then b else (fillN F b la i).getD (i - 1) 0) else fillN F b la i) := Lib.hid (by rw [fillN, getD_at hif, hy, ho])
     go_upto_if 122 with fail
     refine (rout_any y wx).mono ?_
     rintro e wq ⟨rfl, rfl⟩
     rw [ho]
     clear hcf hy ho hif
     cases o
     ·go_wp2_with fail
      go_roundw
      case rel => exact ⟨i + 1, HLT2.out, by go_num, Lib.hid (by rw [HFN.out]; exact HI5.out), HI6, HIB⟩
      case measure => have := HLT2.out; simp [intOf]; omega
     ·have hil : (ints .i64 (fillN F b la i)).length = chars.length := by rw [ints, List.length_map, fillN_length, HLAL.out]
      have hil2 : (ints .i64 (fillN F b la (i + 1))).length = chars.length := by rw [ints, List.length_map, fillN_length, HLAL.out]
      obtain ⟨g5, c5, hv5, hR5⟩ := HI5.out.inRow (by rw [hil]; omega)
      rw [hil] at hv5
      subst hv5
      have G5 : Hid (g5 < w5.heap.size ∧ w3.heap.size ≤ g5) := Lib.hid (NE.out g5 rfl)
      have HR5 := Lib.hid hR5
      have HIL := Lib.hid hil
      have HIL2 := Lib.hid hil2
      clear hil hil2 hR5
      rcases i with _ | m
      ·go_wp2_with (first
        | (refine store_row intsT wx w3.heap.size _ _ g5 0 c5 .i64 b (ints .i64 (fillN F b la 0)) w3 rfl rfl rfl rfl rfl HR5.out (by rw [HIL.out]; exact HLT2.out) HIB.out ?_; intro wy ry by_ gy; have RY := Lib.hid ry; have BY := Lib.hid by_; have Y6 := Lib.hid (Own.low HI6.out gy G5.out.1); clear ry by_ gy)
        | fail)
       go_roundw
       case rel =>
        refine ⟨0 + 1, HLT2.out, by go_num, Lib.hid ?_, Y6, BY⟩
        have h1 := RY.out
        unfold Row at h1
        rw [ints_set, show (fillN F b la 0).set 0 b = fillN F b la (0 + 1) by rw [HFN.out]; rfl, HIL2.out] at h1
        exact h1
       case measure => have := HLT2.out; simp [intOf]; omega
      ·have hlm : m < (fillN F b la (m + 1)).length := by have := HIL.out; have := HLT2.out; rw [ints, List.length_map] at *; omega
       obtain ⟨y2, hy2⟩ : ∃ y2, (fillN F b la (m + 1)).getD m 0 = y2 := ⟨_, rfl⟩
       have HCM : Hid (∀ u, Row u w3.heap.size 3 g5 c5 ((ints .i64 (fillN F b la (m + 1))).set (m + 1) (.int .i64 b)) → u.cell? ⟨g5, m, none⟩ = some (.int .i64 y2)) := Lib.hid fun u r => by
        rw [r.cell (j := m) (by rw [List.length_set, ints, List.length_map]; exact hlm), List.getElem_set_ne (by omega)]
        simp only [ints, List.getElem_map]
        rw [← hy2, getD_at hlm]
       have HNX : Hid (((fillN F b la (m + 1)).set (m + 1) b).set (m + 1) y2 = fillN F b la (m + 1 + 1)) := Lib.hid (by
        rw [HFN.out, List.set_set, if_pos rfl, if_neg (by omega), Nat.add_sub_cancel, hy2])
       have HL1 : Hid ((ints .i64 ((fillN F b la (m + 1)).set (m + 1) b)).length = chars.length) := Lib.hid (by have := HIL.out; rw [ints, List.length_map] at this ⊢; rw [List.length_set]; exact this)
       have m0 : (0 : Int) ≤ (m : Int) := by omega
       have m1 : (m : Int) < (chars.length : Int) := by have := HLT2.out; omega
       have m2 : (0 : Int) < (m : Int) + 1 := by omega
       clear hlm hy2
       go_wp2_with (first
        | (refine store_row intsT wx w3.heap.size _ _ g5 (m + 1) c5 .i64 b (ints .i64 (fillN F b la (m + 1))) w3 rfl rfl rfl rfl rfl HR5.out (by rw [HIL.out]; exact HLT2.out) HIB.out ?_; intro wy ry by_ gy; have hcm := HCM.out wy ry; rw [ints_set] at ry; have RY := Lib.hid ry; have BY := Lib.hid by_; have Y6 := Lib.hid (Own.low HI6.out gy G5.out.1); clear ry by_ gy)
        | (refine store_row intsT wy w3.heap.size _ _ g5 (m + 1) c5 .i64 y2 (ints .i64 ((fillN F b la (m + 1)).set (m + 1) b)) w3 rfl rfl rfl rfl rfl RY.out (by rw [HL1.out]; exact HLT2.out) BY.out ?_; intro wz rz bz gz; rw [ints_set, HNX.out] at rz; have RZ := Lib.hid rz; have BZ := Lib.hid bz; have Z6 := Lib.hid (Own.low Y6.out gz G5.out.1); clear rz bz gz hcm)
        | fail)
       go_roundw
       case rel =>
        refine ⟨m + 1 + 1, HLT2.out, by go_num, Lib.hid ?_, Z6, BZ⟩
        have h1 := RZ.out
        unfold Row at h1
        rw [HIL2.out] at h1
        exact h1
       case measure => have := HLT2.out; simp [intOf]; omega
    ·obtain rfl : i = chars.length := by omega
     go_wp2_with fail
     go_ret3
     exact ⟨v5, v6, by rw [HBS.out]; rfl, by rw [HFIN.out]; exact HI5.out.weaken B3.out.size, HI6.out.weaken (by have := B3.out.size; have := S5.out; omega), below_then B3.out HIB.out⟩
end Go.Proofs.Ytadfleopbpomfaa
namespace Go.Proofs.Ytadfleopbpomfaa
open Go.RowKit
set_option maxRecDepth 20000 in
set_option maxHeartbeats 1000000 in
theorem rof12_any (A : Option Addr) (chars : List Int) (c : Nat) (dir : Int) (w : World) (h : Lies w w.heap.size A (ints .i64 chars)) (hl : chars.length ≤ 1000) :
 Calls Try.prog 20 #[.slice A chars.length c, .int .i64 dir] w fun ed w' => Rowed2 w w.heap.size 3 (ints .i64 (levI chars dir)) (baseI chars dir) ed w' := by
 have H := Lib.hid h
 clear h
 go_enter Try.func20, Try.ntmps20
 go_wp2_with fail
 refine (rboth_any A chars c dir w H.out hl).mono ?_
 rintro e w1 ⟨v1, v2, rfl, o1, o2, b1⟩
 have O1 := Lib.hid o1
 have B1 := Lib.hid b1
 clear o1 o2 b1
 go_wp2
 go_ret2
 exact ⟨v1, rfl, O1.out, B1.out⟩
end Go.Proofs.Ytadfleopbpomfaa
