/- Shared texts, shaken for one claim. -/
import Derived.Deep.DeepCutAuto
import Derived.Lib.SliceRun
import Derived.Laws.IdiomCopy
import Derived.Test.YtcbaahlahohfmaaGreatDoorZB1
import Derived.Test.YtcbaahlahohfmaaGreatDoorZB3
import Derived.Test.YtcbaahlahohfmaaGreatDoorZB4
import Derived.Test.YtcbaahlahohfmaaGreatDoorZB7
import Derived.Test.YtcbaahlahohfmaaGreatDoorZB8
import Derived.Test.YtcbaahlahohfmaaGreatDoorZB9
import Derived.Test.YtcbaahlahohfmaaGreatDoorZB10
namespace Go.Proofs.YtcbaahlahohfmaaGreatDoor
open Go.RowKit Reckon
abbrev outs : List Int := [9, 14, 15, 16, 17, 18]
theorem out_iff (k : Int) : isOut k = true ↔ k ∈ outs := by
 simp [isOut, outs]
 omega
theorem freeO_w1 : ∀ (p : Int) (l : List Int), Free outs l → 0 ≤ p ∧ p ≤ 22 ∧ p ∉ outs → Free outs (rW1 p l)
 | _, [], _, _ => fun x hx => by simp [rW1] at hx
 | p, k :: l, h, hp => by
  obtain ⟨h1, h2⟩ := h.tail
  have hk : 0 ≤ (if k = 8 then (if isOpens p ∨ p = 22 then 13 else p) else k) ∧ (if k = 8 then (if isOpens p ∨ p = 22 then 13 else p) else k) ≤ 22 ∧ (if k = 8 then (if isOpens p ∨ p = 22 then 13 else p) else k) ∉ outs := by
   split
   ·split
    ·decide
    ·exact hp
   ·exact h1
  rw [rW1]
  exact Free.cons hk (freeO_w1 _ l h2 hk)
theorem freeO_w3 {l : List Int} (h : Free outs l) : Free outs (rW3 l) := fun x hx => by
 obtain ⟨k, hk, rfl⟩ := List.mem_map.1 hx
 split
 ·decide
 ·exact h k hk
theorem freeO_w4 : ∀ (p : Int) (l : List Int), Free outs l → Free outs (rW4 p l)
 | _, [], _ => fun x hx => by simp [rW4] at hx
 | p, k :: l, h => by
  obtain ⟨h1, h2⟩ := h.tail
  rw [rW4]
  refine Free.cons ?_ (freeO_w4 _ l h2)
  split
  ·rename_i hc
   rcases hc with ⟨_, rfl, _⟩ | ⟨_, rfl | rfl, _⟩ <;> decide
  ·exact h1
theorem freeO_w5 : ∀ (b : Bool) (l : List Int), Free outs l → Free outs (rW5 b l)
 | _, [], _ => fun x hx => by simp [rW5] at hx
 | b, k :: l, h => by
  obtain ⟨h1, h2⟩ := h.tail
  rw [rW5]
  refine Free.cons ?_ (freeO_w5 _ l h2)
  split
  ·decide
  ·exact h1
theorem freeO_w6 {l : List Int} (h : Free outs l) : Free outs (rW6 l) := fun x hx => by
 obtain ⟨k, hk, rfl⟩ := List.mem_map.1 hx
 split
 ·decide
 ·exact h k hk
theorem freeO_of {l : List Int} (sos : Int) (h : Free outs l) : Free outs (ofI l sos) := by
 have hs : 0 ≤ sideK sos ∧ sideK sos ≤ 22 ∧ sideK sos ∉ outs := by rcases sideK_two sos with e | e <;> rw [e] <;> decide
 rw [(ofI_eq l sos).1, plainL_of h]
 exact free_wS (by decide) _ _ (freeO_w6 (freeO_w5 _ _ (freeO_w4 _ _ (freeO_w3 (free_wS (by decide) _ _ (freeO_w1 _ _ h hs))))))
def Mid (k : Int) : Prop := k = 0 ∨ k = 1 ∨ k = 3 ∨ k = 6 ∨ isNeutral k = true
theorem mid_of {l : List Int} (sos : Int) (h : Free outs l) : ∀ k ∈ ofI l sos, Mid k := fun k hk => by
 obtain ⟨h1, h2, h3⟩ := freeO_of sos h k hk
 obtain ⟨_, _, h4⟩ := (ofI_eq l sos).2 k hk
 simp only [outs, List.mem_cons, List.mem_nil_iff, or_false] at h3 h4
 unfold Mid
 have : isNeutral k = true ↔ (k = 10 ∨ k = 11 ∨ k = 12 ∨ k = 13 ∨ k = 19 ∨ k = 20 ∨ k = 21 ∨ k = 22) := by simp [isNeutral]
 rw [this]
 omega
def Fin (k : Int) : Prop := k = 0 ∨ k = 1 ∨ k = 3 ∨ k = 6
theorem pick_length (l at_ : List Int) : (pickL l at_).length = at_.length := by simp [pickL]
theorem seqE_length (chars xc : List Int) (s : Sq) : (seqE chars xc s).length = s.pl.length := by
 rw [seqE, nofI_length, (ofB_keeps _ _ _ _ _).1, ofI_length, pick_length]
theorem seqE_fin {chars xc : List Int} {s : Sq} (h : Free outs (pickL xc s.pl)) {k : Nat} (hk : k < s.pl.length) : Fin ((seqE chars xc s).getD k 0) := by
 obtain ⟨b, hb⟩ : ∃ b, ofB (pickL chars s.pl) (ofI (pickL xc s.pl) s.sos) (pickL xc s.pl) s.lev s.sos = b := ⟨_, rfl⟩
 have hbl : b.length = s.pl.length := by rw [← hb, (ofB_keeps _ _ _ _ _).1, ofI_length, pick_length]
 have hkb : k < b.length := by omega
 have hko : k < (ofI (pickL xc s.pl) s.sos).length := by rw [ofI_length, pick_length]; exact hk
 have hm : Mid b[k] := by
  have hw := mid_of s.sos h _ (List.getElem_mem hko)
  have := ((ofB_keeps (pickL chars s.pl) (ofI (pickL xc s.pl) s.sos) (pickL xc s.pl) s.lev s.sos).2 k hko (by rw [hb]; exact hkb)).2
  simp only [hb] at this
  rcases this with e | e | e
  ·rw [e]; exact hw
  ·rw [e]; exact .inl rfl
  ·rw [e]; exact .inr (.inl rfl)
 rw [seqE, hb, List.getD_eq_getElem?_getD, nofI_at _ _ _ _ hkb, Option.getD_some, outAt, getD_at hkb]
 cases hn : isNeutral b[k] with
 | true =>
  rw [if_pos rfl]
  rcases to_two b s.lev s.sos s.eos k with e | e <;> rw [e]
  ·exact .inl rfl
  ·exact .inr (.inl rfl)
 | false =>
  rw [if_neg (by simp)]
  rcases hm with e | e | e | e | e
  ·exact .inl e
  ·exact .inr (.inl e)
  ·exact .inr (.inr (.inl e))
  ·exact .inr (.inr (.inr e))
  ·rw [hn] at e; cases e
structure Emb (first : List Int) (base : Int) (lv xc : List Int) : Prop where
 ll : lv.length = first.length
 lc : xc.length = first.length
 lev : ∀ q, q < first.length → base ≤ lv.getD q 0 ∧ lv.getD q 0 ≤ 125
 out : ∀ q, q < first.length → isOut (xc.getD q 0) = isOut (first.getD q 0)
 rng : ∀ q, q < first.length → 0 ≤ xc.getD q 0 ∧ xc.getD q 0 ≤ 22
theorem over_range {e : Ent} (ho : e.over = -1 ∨ e.over = 0 ∨ e.over = 1) {c : Int} (hc : 0 ≤ c ∧ c ≤ 22) : 0 ≤ overE e c ∧ overE e c ≤ 22 := by
 unfold overE
 split
 ·exact hc
 ·omega
theorem tell_range {x : X6} {k : Nat} (hw : Wf x k) (ho : OvOk x) {c : Int} (hc : 0 ≤ c ∧ c ≤ 22) : 0 ≤ (tellP x.core c).2 ∧ (tellP x.core c).2 ≤ 22 := by
 obtain ⟨e, st, hst⟩ := hw.top
 obtain ⟨⟨e2, st2, he2⟩, _⟩ := wf_end (c := c) hw
 have hov := ho e (by rw [hst]; simp)
 have hov2 := ov_end ho e2 (by rw [he2]; simp)
 have hes : (endP x.core).st = e2 :: st2 := by rw [← core_end x c, endX, core_put]; exact he2
 have hcs : x.core.st = e :: st := hst
 have hkn : 0 ≤ knownI c ∧ knownI c ≤ 22 := by unfold knownI; split <;> omega
 unfold tellP
 rw [hcs]
 simp only [hes]
 split
 ·exact hc
 ·split
  ·exact hc
  ·split
   ·exact over_range hov hc
   ·split
    ·exact over_range hov2 hc
    ·exact over_range hov hkn
theorem emb_of {first : List Int} (hf : ∀ k ∈ first, 0 ≤ k ∧ k ≤ 22) {base : Int} (hb : base = 0 ∨ base = 1) : Emb first base (lvs first base) (xcls first base) := by
 have l1 : (lvs first base).length = first.length := (wf_run first base first.length).levels
 have l2 : (xcls first base).length = first.length := (wf_run first base first.length).classes
 have hbb : ∀ k, (runX first base k).base = base := fun k => by
  rw [base_run]
  rcases hb with rfl | rfl <;> rfl
 refine ⟨l1, l2, fun q hq => ?_, fun q hq => ?_, fun q hq => ?_⟩
 ·obtain ⟨h1, h2, -, -⟩ := tell_facts (wf_run first base q) (ov_run first base q) first[q]
  rw [getD_at (by omega), lvs_at first base q hq (by omega)]
  rw [hbb q] at h1
  exact ⟨h1, h2⟩
 ·obtain ⟨-, -, h3, -⟩ := tell_facts (wf_run first base q) (ov_run first base q) first[q]
  rw [getD_at (by omega), xcls_at first base q hq (by omega), h3, getD_at hq]
 ·rw [getD_at (by omega), xcls_at first base q hq (by omega)]
  exact tell_range (wf_run first base q) (ov_run first base q) (hf _ (List.getElem_mem hq))
theorem seq_free {first lv xc : List Int} {base : Int} (h : Emb first base lv xc) {s : Sq} (hs : s ∈ seqsI first lv base) : Free outs (pickL xc s.pl) := fun x hx => by
 obtain ⟨p, hp, rfl⟩ := List.mem_map.1 hx
 obtain ⟨k, hk, rfl⟩ := List.mem_iff_getElem.1 hp
 obtain ⟨q, h1, h2, h3⟩ := place_in h.ll.symm base hs hk
 rw [getD_at hk] at h1
 rw [h1, Int.toNat_natCast]
 have h4 := h.rng q h2
 refine ⟨h4.1, h4.2, fun hm => ?_⟩
 have := (out_iff _).2 hm
 rw [h.out q h2, h3] at this
 cases this
theorem seq_level {first lv xc : List Int} {base : Int} (h : Emb first base lv xc) {s : Sq} (hs : s ∈ seqsI first lv base) {k : Nat} (hk : k < s.pl.length) : base ≤ s.lev ∧ s.lev ≤ 125 := by
 obtain ⟨q, h1, h2, -⟩ := place_in h.ll.symm base hs (show 0 < s.pl.length by omega)
 rw [seq_lev base hs, headI, h1, Int.toNat_natCast]
 exact h.lev q h2
structure Due (base v e : Int) : Prop where
 fin : Fin e
 low : base ≤ v
 high : v ≤ 126
 left : e = 0 → v % 2 = 0
 right : e = 1 → v % 2 = 1
 num : e = 3 ∨ e = 6 → v % 2 = 0
theorem due_of {base lev e : Int} (h0 : 0 ≤ base) (h1 : base ≤ lev) (h2 : lev ≤ 125) (hf : Fin e) : Due base (nLevelI e lev) e := by
 have w1 : wrap64 (lev + 1) = lev + 1 := IntWalk.wrap64_in _ (by omega)
 have w2 : wrap64 (lev + 2) = lev + 2 := IntWalk.wrap64_in _ (by omega)
 have hd : (dirL lev = 0 ∧ lev % 2 = 0) ∨ (dirL lev = 1 ∧ lev % 2 = 1) := by
  unfold dirL
  split
  ·exact .inl ⟨rfl, by assumption⟩
  ·exact .inr ⟨rfl, by omega⟩
 have key : base ≤ nLevelI e lev ∧ nLevelI e lev ≤ 126 ∧ (e = 0 → nLevelI e lev % 2 = 0) ∧ (e = 1 → nLevelI e lev % 2 = 1) ∧ (e = 3 ∨ e = 6 → nLevelI e lev % 2 = 0) := by
  unfold Fin at hf
  unfold nLevelI
  rw [w1, w2]
  rcases hd with ⟨hd, hp⟩ | ⟨hd, hp⟩
  ·rw [hd]
   rcases hf with rfl | rfl | rfl | rfl <;> simp <;> omega
  ·rw [hd]
   rcases hf with rfl | rfl | rfl | rfl <;> simp <;> omega
 exact ⟨hf, key.1, key.2.1, key.2.2.1, key.2.2.2.1, key.2.2.2.2⟩
theorem clsL_range (chars : List Int) : ∀ k ∈ clsL chars, 0 ≤ k ∧ k ≤ 22 := fun k hk => by
 obtain ⟨c, _, rfl⟩ := List.mem_map.1 hk
 exact cls_range c
theorem clsL_length (chars : List Int) : (clsL chars).length = chars.length := by simp [clsL]
theorem laid_at (chars : List Int) (dir : Int) {q : Nat} (hq : q < chars.length) :
 (isOut ((clsL chars).getD q 0) = false → Due (baseI chars dir) ((laidI chars dir).1.getD q 0) ((laidI chars dir).2.getD q 0)) ∧
 (isOut ((clsL chars).getD q 0) = true → (laidI chars dir).1.getD q 0 = (lvs (clsL chars) (baseI chars dir)).getD q 0 ∧ (laidI chars dir).2.getD q 0 = (xcls (clsL chars) (baseI chars dir)).getD q 0) := by
 obtain ⟨f, hf⟩ : ∃ f, clsL chars = f := ⟨_, rfl⟩
 obtain ⟨b, hb⟩ : ∃ b, baseI chars dir = b := ⟨_, rfl⟩
 have hb2 : b = 0 ∨ b = 1 := hb ▸ base_two chars dir
 have hE : Emb f b (lvs f b) (xcls f b) := emb_of (hf ▸ clsL_range chars) hb2
 have hfl : f.length = chars.length := by rw [← hf, clsL_length]
 unfold laidI
 rw [hf, hb]
 have hst : (lvs f b, xcls f b).1.length = (lvs f b, xcls f b).2.length := hE.ll.trans hE.lc.symm
 have hq1 : q < (lvs f b, xcls f b).1.length := by show q < (lvs f b).length; rw [hE.ll]; omega
 rcases layN_at chars (xcls f b) (seqsI f (lvs f b) b) (lvs f b, xcls f b) hst q hq1 _ (Nat.le_refl _) with ⟨h1, h2, h3⟩ | ⟨s, hs, k, hk, hp, he, hv⟩
 ·refine ⟨fun ho => ?_, fun _ => ⟨h1, h2⟩⟩
  obtain ⟨m, hm, j, hj, hpl⟩ := place_of hE.ll.symm b (by omega) ho
  exact absurd (by rw [hpl]; simp) (h3 m hm hm j hj)
 ·obtain ⟨q', h4, h5, h6⟩ := place_in hE.ll.symm b hs hk
  have hqq : q' = q := by rw [h4] at hp; simpa using hp
  subst hqq
  refine ⟨fun _ => ?_, fun ho => by rw [h6] at ho; cases ho⟩
  rw [hv, he]
  have hl := seq_level hE hs hk
  exact due_of (by omega) hl.1 hl.2 (seqE_fin (seq_free hE hs) hk)
theorem fill_at (first : List Int) (base : Int) (l : List Int) (hl : l.length = first.length) (hb : base ≤ 126) (hbd : ∀ q, q < first.length → base ≤ l.getD q 0 ∧ l.getD q 0 ≤ 126) : ∀ k, k ≤ first.length → ∀ q, q < first.length →
 (base ≤ (fillN first base l k).getD q 0 ∧ (fillN first base l k).getD q 0 ≤ 126) ∧ (isOut (first.getD q 0) = false → (fillN first base l k).getD q 0 = l.getD q 0)
 | 0, _, q, hq => ⟨hbd q hq, fun _ => rfl⟩
 | k + 1, hk, q, hq => by
  have ih := fill_at first base l hl hb hbd k (by omega)
  rw [fillN]
  split
  ·rename_i ho
   rw [getD_set, fillN_length]
   by_cases he : k = q
   ·subst he
    rw [if_pos ⟨rfl, by omega⟩]
    refine ⟨?_, fun hn => by rw [ho] at hn; cases hn⟩
    split
    ·omega
    ·exact (ih (k - 1) (by omega)).1
   ·rw [if_neg (fun x => he x.1)]
    exact ih q hq
  ·exact ih q hq
theorem xcls_out (chars : List Int) (dir : Int) {q : Nat} (hq : q < chars.length) : isOut ((xcls (clsL chars) (baseI chars dir)).getD q 0) = isOut ((clsL chars).getD q 0) :=
 (emb_of (clsL_range chars) (base_two chars dir)).out q (by rw [clsL_length]; exact hq)
theorem laid_length (chars : List Int) (dir : Int) : (laidI chars dir).1.length = chars.length ∧ (laidI chars dir).2.length = chars.length := by
 have hE := emb_of (clsL_range chars) (base_two chars dir)
 unfold laidI
 rw [(layN_length _ _ _ _ _).1, (layN_length _ _ _ _ _).2]
 exact ⟨hE.ll.trans (clsL_length chars), hE.lc.trans (clsL_length chars)⟩
theorem levI_length (chars : List Int) (dir : Int) : (levI chars dir).length = chars.length := by rw [levI, fillN_length, (laid_length chars dir).1]
theorem lclsI_length (chars : List Int) (dir : Int) : (lclsI chars dir).length = chars.length := (laid_length chars dir).2
theorem level_bounds (chars : List Int) (dir : Int) {q : Nat} (hq : q < chars.length) :
 (baseI chars dir ≤ (levI chars dir).getD q 0 ∧ (levI chars dir).getD q 0 ≤ 126) ∧ isOut ((lclsI chars dir).getD q 0) = isOut ((clsL chars).getD q 0) ∧
 (isOut ((clsL chars).getD q 0) = false → Due (baseI chars dir) ((levI chars dir).getD q 0) ((lclsI chars dir).getD q 0)) := by
 have hb := base_two chars dir
 have hcl := clsL_length chars
 have hE := emb_of (clsL_range chars) hb
 have hbd : ∀ q, q < (clsL chars).length → baseI chars dir ≤ (laidI chars dir).1.getD q 0 ∧ (laidI chars dir).1.getD q 0 ≤ 126 := fun q hq => by
  obtain ⟨h1, h2⟩ := laid_at chars dir (show q < chars.length by omega)
  cases ho : isOut ((clsL chars).getD q 0) with
  | false => exact ⟨(h1 ho).low, (h1 ho).high⟩
  | true =>
   rw [(h2 ho).1]
   have := hE.lev q hq
   omega
 obtain ⟨f1, f2⟩ := fill_at (clsL chars) (baseI chars dir) (laidI chars dir).1 (by rw [(laid_length chars dir).1, hcl]) (by omega) hbd chars.length (by omega) q (by omega)
 obtain ⟨h1, h2⟩ := laid_at chars dir hq
 refine ⟨f1, ?_, fun ho => ?_⟩
 ·cases ho : isOut ((clsL chars).getD q 0) with
  | true =>
   rw [lclsI, (h2 ho).2, xcls_out chars dir hq, ho]
  | false =>
   have := (h1 ho).fin
   rw [lclsI]
   rcases this with e | e | e | e <;> rw [e] <;> decide
 ·rw [levI, f2 ho]
  exact h1 ho
end Go.Proofs.YtcbaahlahohfmaaGreatDoor
namespace Go.Proofs.YtcbaahlahohfmaaGreatDoor
open Go.RowKit Reckon
def putN (l at_ told : List Int) : Nat → List Int
 | 0 => l
 | k + 1 => (putN l at_ told k).set (at_.getD k 0).toNat (told.getD k 0)
theorem putN_length (l at_ told : List Int) : ∀ k, (putN l at_ told k).length = l.length
 | 0 => rfl
 | k + 1 => by rw [putN, List.length_set]; exact putN_length l at_ told k
theorem nLevelsI_length (l : List Int) (lev : Int) : (nLevelsI l lev).length = l.length := by simp [nLevelsI]
theorem layK_put (lev : Int) (at_ es : List Int) (st : List Int × List Int) : ∀ k, k ≤ es.length → layK lev at_ es st k = (putN st.1 at_ (nLevelsI es lev) k, putN st.2 at_ es k)
 | 0, _ => rfl
 | k + 1, h => by
  have e : (nLevelsI es lev).getD k 0 = nLevelI (es.getD k 0) lev := by
   simp [nLevelsI, List.getD_eq_getElem?_getD, List.getElem?_eq_getElem (show k < es.length by omega)]
  rw [layK, layK_put lev at_ es st k (by omega), putN, putN, e]
theorem fillN_congr (f g : List Int) (base : Int) (l : List Int) : ∀ k, (∀ q, q < k → isOut (f.getD q 0) = isOut (g.getD q 0)) → fillN f base l k = fillN g base l k
 | 0, _ => rfl
 | k + 1, h => by rw [fillN, fillN, fillN_congr f g base l k fun q hq => h q (by omega), h k (by omega)]
theorem flat_le {α : Type} (x : List α) : ∀ L : List (List α), x ∈ L → x.length ≤ L.flatten.length
 | [], h => by cases h
 | y :: L, h => by
  rw [List.flatten_cons, List.length_append]
  rcases List.mem_cons.1 h with rfl | h
  ·omega
  ·have := flat_le x L h; omega
theorem seq_le {cl lv : List Int} (he : cl.length = lv.length) (base : Int) : ∀ s ∈ seqsI cl lv base, s.pl.length ≤ cl.length := fun s hs => by
 have h1 := flat_le s.pl ((seqsI cl lv base).map (·.pl)) (List.mem_map.2 ⟨s, hs, rfl⟩)
 have h2 := (seqs_perm he base).length_eq
 have h3 : (seenI cl).length ≤ cl.length := seenN_le cl cl.length
 omega
theorem seqs_count (cl lv : List Int) (base : Int) : (seqsI cl lv base).length ≤ cl.length := Nat.le_trans (seqsN_le _ _ _ _ _ _) (listsI_le cl lv).1
def aheadF (cl : List Int) (base : Int) (l : List Int) (k : Nat) : Int := if k = 0 then base else (fillN cl base l k).getD (k - 1) 0
theorem aheadF_next (cl : List Int) (base : Int) (l : List Int) (k : Nat) : aheadF cl base l (k + 1) = (fillN cl base l (k + 1)).getD k 0 := by rw [aheadF, if_neg (by omega)]; rfl
theorem fillN_out {cl : List Int} {base : Int} {l : List Int} {k : Nat} (h : isOut (cl.getD k 0) = true) : fillN cl base l (k + 1) = (fillN cl base l k).set k (aheadF cl base l k) := by rw [fillN, if_pos h]; rfl
theorem fillN_in {cl : List Int} {base : Int} {l : List Int} {k : Nat} (h : isOut (cl.getD k 0) = false) : fillN cl base l (k + 1) = fillN cl base l k := by rw [fillN, if_neg (by rw [h]; exact Bool.false_ne_true)]
theorem most_succ (l : List Int) {k : Nat} (h0 : 0 < k) (h : k < l.length) : mostI (l.take (k + 1)) = max (mostI (l.take k)) l[k] := by
 cases l with
 | nil => simp at h
 | cons a l =>
  obtain ⟨j, rfl⟩ : ∃ j, k = j + 1 := ⟨k - 1, by omega⟩
  have hj : j < l.length := by simpa using h
  rw [List.take_succ_cons, List.take_succ_cons, mostI, mostI, take_snoc l j hj, List.foldl_append]
  rfl
theorem whole_take (l : List Int) (h : ∀ j (hj : j < l.length), l[j] = l[0]'(by omega)) : wholeI l = true := by
 rw [wholeI, List.all_eq_true]
 intro x hx
 obtain ⟨j, hj, rfl⟩ := List.mem_iff_getElem.1 hx
 rw [h j hj]
 cases l with
 | nil => simp at hj
 | cons a l => simp
theorem whole_not (l : List Int) {j : Nat} (hj : j < l.length) (h : l[j] ≠ l[0]'(by omega)) : wholeI l = false := by
 cases l with
 | nil => simp at hj
 | cons a l =>
  cases hw : wholeI (a :: l) with
  | false => rfl
  | true =>
   rw [wholeI, List.all_eq_true] at hw
   have := hw _ (List.getElem_mem hj)
   simp only [List.headD_cons, beq_iff_eq] at this
   exact absurd this h
theorem layK_not (lev : Int) (at_ es : List Int) (st : List Int × List Int) (q : Nat) : ∀ k, (∀ j, j < k → (at_.getD j 0).toNat ≠ q) → (layK lev at_ es st k).2.getD q 0 = st.2.getD q 0
 | 0, _ => rfl
 | k + 1, h => by
  rw [layK, getD_set, if_neg (fun x => h k (by omega) x.1)]
  exact layK_not lev at_ es st q k fun j hj => h j (by omega)
theorem layN_not (chars xc : List Int) (seqs : List Sq) (st : List Int × List Int) (q : Nat) : ∀ n, n ≤ seqs.length → (∀ m (h : m < seqs.length), m < n → ∀ j, j < seqs[m].pl.length → (seqs[m].pl.getD j 0).toNat ≠ q) →
 (layN chars xc seqs st n).2.getD q 0 = st.2.getD q 0
 | 0, _, _ => rfl
 | n + 1, hn, h => by
  have hs : seqs[n]? = some (seqs[n]'(by omega)) := List.getElem?_eq_getElem (by omega)
  rw [layN, hs]
  simp only
  rw [layK_not _ _ _ _ q _ (h n (by omega) (by omega))]
  exact layN_not chars xc seqs st q n (by omega) fun m hm hmn => h m hm (by omega)
theorem layN_next (chars xc : List Int) {seqs : List Sq} (st : List Int × List Int) {n : Nat} (h : n < seqs.length) : layN chars xc seqs st (n + 1) = layK seqs[n].lev seqs[n].pl (seqE chars xc seqs[n]) (layN chars xc seqs st n) seqs[n].pl.length := by
 rw [layN, List.getElem?_eq_getElem h]
theorem seen_once (cl : List Int) : (seenI cl).Nodup := by
 unfold List.Nodup
 rw [seenI, seenN, List.pairwise_map]
 exact (List.pairwise_lt_range.filter _).imp fun h e => by omega
theorem seqs_apart {cl lv : List Int} (he : cl.length = lv.length) (base : Int) {m n : Nat} (hm : m < (seqsI cl lv base).length) (hn : n < (seqsI cl lv base).length) (hmn : m < n) : ∀ x ∈ (seqsI cl lv base)[m].pl, ∀ y ∈ (seqsI cl lv base)[n].pl, x ≠ y := by
 have h1 : (((seqsI cl lv base).map (·.pl)).flatten).Nodup := (seqs_perm he base).nodup_iff.2 (seen_once cl)
 have h2 := (List.pairwise_flatten.1 h1).2
 rw [List.pairwise_map] at h2
 exact List.pairwise_iff_getElem.1 h2 m n hm hn hmn
theorem pick_later {cl lv : List Int} (he : cl.length = lv.length) (base : Int) (chars xc : List Int) (st : List Int) {n : Nat} (hn : n < (seqsI cl lv base).length) :
 pickL (layN chars xc (seqsI cl lv base) (st, xc) n).2 (seqsI cl lv base)[n].pl = pickL xc (seqsI cl lv base)[n].pl := by
 unfold pickL
 refine List.map_congr_left fun p hp => ?_
 refine layN_not chars xc _ (st, xc) p.toNat n (by omega) fun m hm hmn j hj => ?_
 have hx := List.getElem_mem hj
 have h1 := seqs_apart he base hm hn hmn _ hx p hp
 obtain ⟨q, h2, -, -⟩ := place_in he base (List.getElem_mem hm) hj
 obtain ⟨i, hi, hpi⟩ := List.mem_iff_getElem.1 hp
 obtain ⟨q', h3, -, -⟩ := place_in he base (List.getElem_mem hn) hi
 rw [getD_at hj] at h2
 rw [getD_at hi, hpi] at h3
 rw [getD_at hj, h2, h3]
 intro e
 exact h1 (by rw [h2, h3]; omega)
end Go.Proofs.YtcbaahlahohfmaaGreatDoor
namespace Go.Proofs.YtcbaahlahohfmaaGreatDoor
open Go.RowKit
theorem grown_of_below {w w' : World} (h : Below w.heap.size w w') (row : Option Nat) : w.grownBy w' row := ⟨h.os, h.tape, h.output, h.size, fun k hk _ => h.block k hk⟩
theorem lies_grown {w w' : World} {g B : Nat} {A : Option Addr} {xs : List Value} (h : Lies w B A xs) (hg : w.grownBy w' (some g)) (hB : B ≤ w.heap.size) (hne : ∀ p, A = some p → p.block ≠ g) : Lies w' B A xs := fun hn => by
 obtain ⟨p, hA, hp, hc⟩ := h hn
 refine ⟨p, hA, hp, fun i u hu => ?_⟩
 rw [World.cell?_of_block (hg.block _ (by rw [add_block]; omega) (by rw [add_block]; exact fun e => hne p hA (Option.some.inj e)))]
 exact hc i u hu
end Go.Proofs.YtcbaahlahohfmaaGreatDoor
namespace Go.Proofs.YtcbaahlahohfmaaGreatDoor
open Go.RowKit
set_option maxHeartbeats 2000000 in
theorem lpick_any (A : Option Addr) (l : List Int) (c : Nat) (A' : Option Addr) (at_ : List Int) (c' : Nat) (w : World) (h : Lies w w.heap.size A (ints .i64 l)) (h' : Lies w w.heap.size A' (ints .i64 at_))
 (hp : ∀ x ∈ at_, 0 ≤ x ∧ x < (l.length : Int)) (_ : l.length ≤ 1000000) (hl' : at_.length ≤ 1000000) :
 Calls Tryz.prog 53 #[.slice A l.length c, .slice A' at_.length c'] w fun ed w' => Rowed w w.heap.size 3 (ints .i64 (pickL l at_)) ed w' := by
 have H := Lib.hid h
 have H' := Lib.hid h'
 have HP := Lib.hid hp
 clear h h' hp
 have hmk := run_make_row' (P := Tryz.prog) 22 3 (.int .i64 0) 8 intsT.slice intsT.elem rfl .i64 .i64 at_.length (by omega) (by omega)
 go_enter Tryz.func53, Tryz.ntmps53
 go_wp2
 go_loopw [13] (fun iv wr => ∃ (k : Nat) (cc : Array Value), k ≤ at_.length ∧ iv = .int .i64 k ∧ Hid (cc.toList = ints .i64 (pickL l (at_.take k)) ++ List.replicate (at_.length - k) (.int .i64 0)) ∧ wr = w.alloc (.cells cc 3)) (fun iv _ => at_.length - (intOf iv).toNat)
 case atStart => exact ⟨0, _, by omega, rfl, fill_start _ _, rfl⟩
 case round =>
  obtain ⟨k, cc, hk, rfl, HC, rfl⟩ := hrel
  have HS : Hid (cc.size = at_.length) := by
   show cc.size = at_.length
   have := congrArg List.length HC.out
   simp [ints, pickL] at this
   omega
  by_cases hlt : k < at_.length
  ·obtain ⟨p', hp', hpb', hc'⟩ := H'.out.int hlt
   subst hp'
   obtain ⟨q, hq, hql⟩ : ∃ q : Nat, at_[k] = (q : Int) ∧ q < l.length := by
    have := HP.out _ (List.getElem_mem hlt)
    exact ⟨at_[k].toNat, by omega, by omega⟩
   obtain ⟨p, hp, hpb, hc⟩ := H.out.int hql
   subst hp
   obtain ⟨x, hx⟩ : ∃ x, l[q] = x := ⟨_, rfl⟩
   have HS1 : Hid (pickL l (at_.take (k + 1)) = pickL l (at_.take k) ++ [x]) := Lib.hid (by
    rw [take_snoc at_ k hlt, pickL, List.map_append, hq, List.map_cons, List.map_nil, Int.toNat_natCast, getD_at hql, hx]; rfl)
   rw [hq] at hc'
   rw [hx] at hc
   have k0 : (0 : Int) ≤ (k : Int) := by omega
   have k1 : (k : Int) < (at_.length : Int) := by omega
   have q0 : (0 : Int) ≤ (q : Int) := by omega
   have q1 : (q : Int) < (l.length : Int) := by omega
   have hcc' : (w.alloc (.cells cc 3)).cell? (p'.add k) = some (.int .i64 q) := by rw [World.cell?_alloc_lt w _ _ (by rw [add_block]; exact hpb')]; exact hc'
   have hcc : (w.alloc (.cells cc 3)).cell? (p.add q) = some (.int .i64 x) := by rw [World.cell?_alloc_lt w _ _ (by rw [add_block]; exact hpb)]; exact hc
   have hks : k < cc.size := by rw [HS.out]; exact hlt
   clear hx hq hc hc' hpb hpb'
   go_wp2
   go_roundw
   case rel =>
    refine ⟨k + 1, _, by omega, by go_num, ?_, rfl⟩
    have := fill_step (v := .int .i64 x) HC.out (by simp [pickL]; omega) hlt
    show Array.toList _ = _
    rw [this, HS1.out]
    simp only [ints, List.map_append, List.map_cons, List.map_nil]
   case measure => simp [intOf]; omega
  ·go_wp2
   go_ret
   have hcl : cc.toList = ints .i64 (pickL l at_) := by
    rw [HC.out, List.take_of_length_le (by omega), show at_.length - k = 0 by omega]; simp
   refine rowed_ret ?_ (below_alloc _ _) hcl
   have := Own.ofLit (w := w) (B := w.heap.size) (e := 3) cc (Nat.le_refl _) (by rw [HS.out]; unfold maxLen; omega)
   rw [HS.out] at this
   exact this
set_option maxHeartbeats 2000000 in
theorem lput_any (g c : Nat) (l : List Int) (A' : Option Addr) (at_ : List Int) (c' : Nat) (A2 : Option Addr) (told : List Int) (c2 : Nat) (B : Nat) (w : World)
 (h : Row w B 3 g c (ints .i64 l)) (h' : Lies w w.heap.size A' (ints .i64 at_)) (h2 : Lies w w.heap.size A2 (ints .i64 told))
 (n' : ∀ p, A' = some p → p.block ≠ g) (n2 : ∀ p, A2 = some p → p.block ≠ g)
 (hp : ∀ x ∈ at_, 0 ≤ x ∧ x < (l.length : Int)) (he : told.length = at_.length) (_ : l.length ≤ 1000000) (hl' : at_.length ≤ 1000000) :
 Calls Tryz.prog 57 #[.slice (some ⟨g, 0, none⟩) l.length c, .slice A' at_.length c', .slice A2 told.length c2] w
  fun ed w' => ed = .returned (.tuple #[]) ∧ Row w' B 3 g c (ints .i64 (putN l at_ told at_.length)) ∧ Below B w w' ∧ w.grownBy w' (some g) := by
 have H := Lib.hid h
 have H' := Lib.hid h'
 have H2 := Lib.hid h2
 have N' := Lib.hid n'
 have N2 := Lib.hid n2
 have HP := Lib.hid hp
 have HE := Lib.hid he
 clear h h' h2 n' n2 hp he
 go_enter Tryz.func57, Tryz.ntmps57
 go_wp2_with fail
 go_loopw [10] (fun kv wr => ∃ k : Nat, k ≤ at_.length ∧ kv = .int .i64 k ∧ Hid (Row wr B 3 g c (ints .i64 (putN l at_ told k))) ∧ Hid (Below B w wr) ∧ Hid (w.grownBy wr (some g))) (fun kv _ => at_.length - (intOf kv).toNat)
 case atStart => exact ⟨0, by omega, rfl, H, Lib.hid (Below.refl _ _), Lib.hid (grown_of_below (Below.refl _ _) _)⟩
 case round =>
  obtain ⟨k, hk, rfl, HR, HB, HG⟩ := hrel
  by_cases hlt : k < at_.length
  ·have hlt2 : k < told.length := by rw [HE.out]; exact hlt
   obtain ⟨p', hp', _, hc'⟩ := (lies_grown H'.out HG.out (Nat.le_refl _) N'.out).int hlt
   subst hp'
   obtain ⟨p2, hp2, _, hc2⟩ := (lies_grown H2.out HG.out (Nat.le_refl _) N2.out).int hlt2
   subst hp2
   obtain ⟨q, hq, hql⟩ : ∃ q : Nat, at_[k] = (q : Int) ∧ q < l.length := by
    have := HP.out _ (List.getElem_mem hlt)
    exact ⟨at_[k].toNat, by omega, by omega⟩
   obtain ⟨x, hx⟩ : ∃ x, told[k] = x := ⟨_, rfl⟩
   rw [hq] at hc'
   rw [hx] at hc2
   have HS : Hid ((putN l at_ told k).set q x = putN l at_ told (k + 1)) := Lib.hid (by
    rw [putN, getD_at hlt, getD_at hlt2, hq, hx, Int.toNat_natCast])
   have HL : Hid (q < (putN l at_ told k).length) := Lib.hid (by rw [putN_length]; exact hql)
   have k0 : (0 : Int) ≤ (k : Int) := by omega
   have k1 : (k : Int) < (at_.length : Int) := by omega
   have k2 : (k : Int) < (told.length : Int) := by omega
   have q0 : (0 : Int) ≤ (q : Int) := by omega
   have q1 : (q : Int) < (l.length : Int) := by omega
   clear hx hq hlt2
   go_wp2_with (first
    | (refine store_row intsT wr B _ _ g q c .i64 x (ints .i64 (putN l at_ told k)) w rfl rfl rfl rfl rfl HR.out (by rw [ints, List.length_map]; exact HL.out) HB.out ?_; intro w2 r2 b2' g2; rw [ints_set, HS.out] at r2; have R2 := Lib.hid r2; have B2 := Lib.hid b2'; have G2 := Lib.hid g2; clear r2 b2' g2)
    | fail)
   go_roundw
   case rel => exact ⟨k + 1, by omega, by go_num, R2, B2, Lib.hid (HG.out.trans G2.out)⟩
   case measure => simp [intOf]; omega
  ·obtain rfl : k = at_.length := by omega
   go_wp2_with fail
   (try simp only [Exit.inBlock, Exit.then])
   exact bodyPost_end (results_none rfl _ _ _) rfl ⟨rfl, HR.out, HB.out, HG.out⟩
set_option maxRecDepth 20000 in
set_option maxHeartbeats 4000000 in
theorem lfollow_any (g c : Nat) (L : List Int) (A' : Option Addr) (cl : List Int) (c' : Nat) (base : Int) (B : Nat) (w : World)
 (h : Row w B 3 g c (ints .i64 L)) (h' : Lies w w.heap.size A' (ints .i64 cl)) (n' : ∀ p, A' = some p → p.block ≠ g) (he : cl.length = L.length) (hl : cl.length ≤ 1000000) (hB : B ≤ w.heap.size) :
 Calls Tryz.prog 32 #[.agg #[.slice (some ⟨g, 0, none⟩) L.length c, .slice A' cl.length c', .int .i64 base]] w
  fun ed w' => ed = .returned (.tuple #[]) ∧ Row w' B 3 g c (ints .i64 (fillN cl base L cl.length)) ∧ Below B w w' ∧ w.grownBy w' (some g) := by
 obtain ⟨w0, hw0⟩ : ∃ u, w.alloc (.cells #[.slice (some ⟨g, 0, none⟩) L.length c, .slice A' cl.length c', .int .i64 base] 38) = u := ⟨_, rfl⟩
 have G0 : Hid (w.grownBy w0 (some g)) := Lib.hid (hw0 ▸ grown_of_below (below_alloc w _) _)
 have B0 : Hid (Below B w w0) := Lib.hid (hw0 ▸ (below_alloc w _).mono hB)
 have HQ : Hid (w.heap.size ≠ g ∧ w.heap.size < w0.heap.size) := Lib.hid ⟨by have := h.inside; omega, by rw [← hw0]; simp⟩
 have SK : Hid (∀ w', w0.grownBy w' (some g) → w'.cell? ⟨w.heap.size, 0, none⟩ = some (.slice (some ⟨g, 0, none⟩) L.length c) ∧ w'.cell? ⟨w.heap.size, 1, none⟩ = some (.slice A' cl.length c') ∧ w'.cell? ⟨w.heap.size, 2, none⟩ = some (.int .i64 base)) := Lib.hid fun w' hg => by
  have hb := hg.block w.heap.size HQ.out.2 (fun e => HQ.out.1 (Option.some.inj e))
  rw [World.cell?_of_block (a := ⟨w.heap.size, 0, none⟩) hb, World.cell?_of_block (a := ⟨w.heap.size, 1, none⟩) hb, World.cell?_of_block (a := ⟨w.heap.size, 2, none⟩) hb, ← hw0]
  exact ⟨boxed (Below.refl _ _) rfl, boxed (Below.refl _ _) rfl, boxed (Below.refl _ _) rfl⟩
 have H0 : Hid (Row w0 B 3 g c (ints .i64 L)) := Lib.hid (hw0 ▸ h.alloc _)
 have H' := Lib.hid (lies_grown h' G0.out (Nat.le_refl _) n')
 have N' := Lib.hid n'
 have HE := Lib.hid he
 have S0 : Hid (w.heap.size ≤ w0.heap.size) := Lib.hid G0.out.size
 clear h h' n' he
 go_enter Tryz.func32, Tryz.ntmps32
 go_upto_region 1 with fail
 obtain ⟨s0, s1, s2⟩ := SK.out w0 (grown_of_below (Below.refl _ _) _)
 clear hw0
 go_wp2_with fail
 clear s0 s1 s2
 go_loopw [10, 2] (fun kv av wr => ∃ k : Nat, k ≤ cl.length ∧ kv = .int .i64 k ∧ av = .int .i64 (aheadF cl base L k) ∧ Hid (Row wr B 3 g c (ints .i64 (fillN cl base L k))) ∧ Hid (Below B w wr) ∧ Hid (w0.grownBy wr (some g))) (fun kv _ _ => cl.length - (intOf kv).toNat)
 case atStart => exact ⟨0, by omega, rfl, rfl, H0, B0, Lib.hid (grown_of_below (Below.refl _ _) _)⟩
 case round =>
  obtain ⟨k, hk, rfl, rfl, HR, HB, HG⟩ := hrel
  by_cases hlt : k < cl.length
  ·obtain ⟨p', hp', _, hc'⟩ := (lies_grown (H'.out.wider S0.out) HG.out (Nat.le_refl _) N'.out).int hlt
   subst hp'
   obtain ⟨x, hx⟩ : ∃ x, cl[k] = x := ⟨_, rfl⟩
   rw [hx] at hc'
   obtain ⟨a, ha⟩ : ∃ a, aheadF cl base L k = a := ⟨_, rfl⟩
   have HA := Lib.hid ha
   have HX : Hid (cl.getD k 0 = x) := Lib.hid (by rw [getD_at hlt, hx])
   have HLk : Hid (∀ j, (fillN cl base L j).length = L.length) := Lib.hid (fillN_length cl base L)
   have hkL : k < L.length := by rw [← HE.out]; exact hlt
   have k0 : (0 : Int) ≤ (k : Int) := by omega
   have k1 : (k : Int) < (cl.length : Int) := by omega
   have k2 : (k : Int) < (L.length : Int) := by omega
   rw [ha]
   clear hx ha
   go_wp2_with fail
   refine (out_any x wr).mono ?_
   rintro e w1 ⟨rfl, b1⟩
   have G1 := Lib.hid (HG.out.trans (grown_of_below b1 _))
   have B1 := Lib.hid (HB.out.trans (b1.mono (Nat.le_trans (by have := HR.out.inside; omega) (Nat.le_refl wr.heap.size))))
   have R1 := Lib.hid (HR.out.below b1 (Nat.le_refl _))
   clear b1
   rcases ho : isOut x with _ | _
   ·have HN : Hid (fillN cl base L (k + 1) = fillN cl base L k) := Lib.hid (fillN_in (by rw [HX.out, ho]))
    obtain ⟨s0, -, -⟩ := SK.out w1 G1.out
    have hcL : w1.cell? ⟨g, k, none⟩ = some (.int .i64 (aheadF cl base L (k + 1))) := by
     have h1 := R1.out.cell (j := k) (by rw [ints, List.length_map, HLk.out]; exact hkL)
     rw [h1, aheadF_next, HN.out]
     simp [List.getD_eq_getElem?_getD, List.getElem?_eq_getElem (show k < (fillN cl base L k).length by rw [HLk.out]; exact hkL)]
    clear hc'
    go_wp2_with fail
    go_roundw
    case rel => exact ⟨k + 1, by omega, by go_num, rfl, Lib.hid (by rw [HN.out]; exact R1.out), B1, G1⟩
    case measure => simp [intOf]; omega
   ·have HN : Hid ((fillN cl base L k).set k a = fillN cl base L (k + 1)) := Lib.hid (by rw [← HA.out, fillN_out (by rw [HX.out, ho])])
    obtain ⟨s0, -, -⟩ := SK.out w1 G1.out
    clear hc'
    go_upto_region 7 with (first
     | (refine store_row intsT w1 B _ _ g k c .i64 a (ints .i64 (fillN cl base L k)) w rfl rfl rfl rfl rfl R1.out (by rw [ints, List.length_map, HLk.out]; exact hkL) B1.out ?_; intro w2 r2 b2' g2; rw [ints_set, HN.out] at r2; have R2 := Lib.hid r2; have B2 := Lib.hid b2'; have G2 := Lib.hid (G1.out.trans g2); clear r2 b2' g2 s0)
     | fail)
    obtain ⟨s0, -, -⟩ := SK.out w2 G2.out
    have hcL : w2.cell? ⟨g, k, none⟩ = some (.int .i64 (aheadF cl base L (k + 1))) := by
     have h1 := R2.out.cell (j := k) (by rw [ints, List.length_map, HLk.out]; exact hkL)
     rw [h1, aheadF_next]
     simp [List.getD_eq_getElem?_getD, List.getElem?_eq_getElem (show k < (fillN cl base L (k + 1)).length by rw [HLk.out]; exact hkL)]
    go_wp2_with fail
    go_roundw
    case rel => exact ⟨k + 1, by omega, by go_num, rfl, R2, B2, G2⟩
    case measure => simp [intOf]; omega
  ·obtain rfl : k = cl.length := by omega
   go_wp2_with fail
   (try simp only [Exit.inBlock, Exit.then])
   exact bodyPost_end (results_none rfl _ _ _) rfl ⟨rfl, HR.out, HB.out, G0.out.trans HG.out⟩
end Go.Proofs.YtcbaahlahohfmaaGreatDoor
namespace Go.Proofs.YtcbaahlahohfmaaGreatDoor
open Go.RowKit
theorem gStep_new {G : List (Int × Int)} {k : Nat} (h : ∀ p, G.getLast? = some p → p.2 ≠ (k : Int)) : gStep G k = G ++ [((k : Int), ((k + 1 : Nat) : Int))] := by
 rw [gStep, if_neg]
 intro e
 obtain ⟨p, hp, hp2⟩ := Option.map_eq_some_iff.1 e
 exact h p hp hp2
theorem gStep_on {D : List (Int × Int)} {a b : Int} {k : Nat} (h : b = (k : Int)) : gStep (D ++ [(a, b)]) k = D ++ [(a, ((k + 1 : Nat) : Int))] := by
 rw [gStep]
 simp [h]
theorem prC_last (D : List (Int × Int)) (a b y : Int) : (prC (D ++ [(a, b)])).set (D.length * 2 + 1) (.int .i64 y) = prC (D ++ [(a, y)]) := by
 rw [prC_append, prC_append, List.set_append_right _ _ (by rw [prC_length]; omega), prC_length, Nat.add_sub_cancel_left]
 rfl
end Go.Proofs.YtcbaahlahohfmaaGreatDoor
namespace Go.Proofs.YtcbaahlahohfmaaGreatDoor
open Go.RowKit
theorem sdir_q (k : Int) (w : World) : Calls Tryz.prog 90 #[.int .i64 k] w fun ed w' => ed = .returned (.int .i64 (dirL k)) ∧ w = w' := by
 rcases h : (Int.tmod k 2 != 0) with _ | _
 ·have hz : dirL k = 0 := by rw [dirL, if_pos ((tmod_dir k).1 (by simpa using h))]
  rw [hz]
  go_enter Tryz.func90, Tryz.ntmps90
  go_wp2
  go_ret
  exact ⟨rfl, rfl⟩
 ·have hz : dirL k = 1 := by rw [dirL, if_neg (fun e => by rw [(tmod_dir k).2 e] at h; simp at h)]
  rw [hz]
  go_enter Tryz.func90, Tryz.ntmps90
  go_wp2
  go_ret
  exact ⟨rfl, rfl⟩
theorem sdir_any (k : Int) (w : World) : Calls Tryz.prog 90 #[.int .i64 k] w fun ed w' => ed = .returned (.int .i64 (dirL k)) ∧ Below w.heap.size w w' :=
 (sdir_q k w).mono fun _ _ ⟨h1, h2⟩ => ⟨h1, h2 ▸ Below.refl _ _⟩
end Go.Proofs.YtcbaahlahohfmaaGreatDoor
namespace Go.Proofs.YtcbaahlahohfmaaGreatDoor
open Go.RowKit
theorem bside_q (k : Int) (w : World) : Calls Tryz.prog 174 #[.int .i64 k] w fun e w' => e = .returned (.int .i64 (sdB k)) ∧ w = w' := by
 obtain ⟨z, hz⟩ : ∃ z, sdB k = z := ⟨_, rfl⟩
 have HZ := Lib.hid hz
 rw [hz]
 clear hz
 rcases e0 : (k == 0) with _ | _
 ·rcases e1 : (k == 1) with _ | _
  ·rcases e3 : (k == 3) with _ | _
   ·rcases e6 : (k == 6) with _ | _
    ·have HF : Hid (z = -1) := Lib.hid (by rw [← HZ.out, sdB, if_neg (by simpa using e0), if_neg (by simp at e1 e3 e6; omega)])
     go_enter Tryz.func174, Tryz.ntmps174
     go_wp2
     go_ret
     exact ⟨ret_int HF.out.symm, rfl⟩
    ·have HF : Hid (z = 1) := Lib.hid (by rw [← HZ.out, sdB, if_neg (by simpa using e0), if_pos (by simp at e1 e3 e6; omega)])
     go_enter Tryz.func174, Tryz.ntmps174
     go_wp2
     go_ret
     exact ⟨ret_int HF.out.symm, rfl⟩
   ·have HF : Hid (z = 1) := Lib.hid (by rw [← HZ.out, sdB, if_neg (by simpa using e0), if_pos (by simp at e1 e3; omega)])
    go_enter Tryz.func174, Tryz.ntmps174
    go_wp2
    go_ret
    exact ⟨ret_int HF.out.symm, rfl⟩
  ·have HF : Hid (z = 1) := Lib.hid (by rw [← HZ.out, sdB, if_neg (by simpa using e0), if_pos (by simp at e1; omega)])
   go_enter Tryz.func174, Tryz.ntmps174
   go_wp2
   go_ret
   exact ⟨ret_int HF.out.symm, rfl⟩
 ·have HF : Hid (z = 0) := Lib.hid (by rw [← HZ.out, sdB, if_pos (by simpa using e0)])
  go_enter Tryz.func174, Tryz.ntmps174
  go_wp2
  go_ret
  exact ⟨ret_int HF.out.symm, rfl⟩
end Go.Proofs.YtcbaahlahohfmaaGreatDoor
namespace Go.Proofs.YtcbaahlahohfmaaGreatDoor
open Go.RowKit
structure Kpt (p : Int → Bool) (l : List Int) (j : Nat) (cur : List Int) : Prop where
 len : cur.length = l.length
 done : cur.take (l.take j |>.filter p).length = (l.take j).filter p
 rest : cur.drop j = l.drop j
theorem kpt_le (p : Int → Bool) (l : List Int) (j : Nat) : ((l.take j).filter p).length ≤ j := by
 have := List.length_filter_le p (l.take j)
 simp at this; omega
theorem filter_take_succ (p : Int → Bool) (l : List Int) (k : Nat) (h : k < l.length) : (l.take (k + 1)).filter p = if p l[k] then (l.take k).filter p ++ [l[k]] else (l.take k).filter p := by
 rw [take_snoc l k h, List.filter_append]
 cases ho : p l[k] <;> simp [ho]
theorem Kpt.get {p : Int → Bool} {l cur : List Int} {j : Nat} (h : Kpt p l j cur) (hj : j < l.length) : cur[j]? = some l[j] := by
 have := congrArg (·[0]?) h.rest
 simp only [List.getElem?_drop, Nat.add_zero] at this
 rw [this, List.getElem?_eq_getElem hj]
theorem Kpt.skip {p : Int → Bool} {l cur : List Int} {j : Nat} (h : Kpt p l j cur) (hj : j < l.length) (hp : p l[j] = false) : Kpt p l (j + 1) cur ∧ ((l.take (j + 1)).filter p).length = ((l.take j).filter p).length := by
 have hf := filter_take_succ p l j hj
 rw [hp, if_neg (by simp)] at hf
 refine ⟨⟨h.len, by rw [hf]; exact h.done, ?_⟩, by rw [hf]⟩
 rw [← List.drop_drop, ← List.drop_drop, h.rest]
theorem Kpt.keep {p : Int → Bool} {l cur : List Int} {j i : Nat} (h : Kpt p l j cur) (hj : j < l.length) (hp : p l[j] = true) (hi : ((l.take j).filter p).length = i) : Kpt p l (j + 1) (cur.set i l[j]) ∧ ((l.take (j + 1)).filter p).length = i + 1 := by
 have hf := filter_take_succ p l j hj
 have hle := kpt_le p l j
 rw [hp, if_pos rfl] at hf
 have hlen : ((l.take (j + 1)).filter p).length = i + 1 := by rw [hf]; simp [hi]
 have hd := h.done
 rw [hi] at hd
 have hcl := h.len
 refine ⟨⟨by rw [List.length_set, h.len], ?_, ?_⟩, hlen⟩
 ·rw [hlen, List.take_succ_eq_append_getElem (by rw [List.length_set]; omega), List.take_set_of_le (Nat.le_refl _), List.getElem_set_self, hd, hf]
 ·rw [List.drop_set_of_lt (by omega), ← List.drop_drop, ← List.drop_drop, h.rest]
set_option maxHeartbeats 1000000 in
theorem clone_any (A : Option Addr) (l : List Int) (c : Nat) (w : World) (h : Lies w w.heap.size A (ints .i64 l)) (hl : l.length ≤ 1000000) :
 Calls Tryz.prog 94 #[.slice A l.length c] w fun ed w' => Rowed w w.heap.size 3 (ints .i64 l) ed w' := by
 have H := Lib.hid h
 clear h
 rcases A with _ | p
 ·have : l = [] := by
   rcases l with _ | ⟨x, l⟩
   ·rfl
   ·obtain ⟨p, hp, _⟩ := H.out (by simp); cases hp
  subst this
  have he : ∀ W, (binOp .eql 22 (.slice none 0 c) (.slice none 0 0)).run Tryz.prog W = .ok (.bool true) W := fun W => Lib.run_eql_slice_nil W _ _ _ _ _ _ _ Tryz.underlying22
  go_enter Tryz.func94, Tryz.ntmps94
  go_wp2
  go_ret
  exact ⟨_, rfl, Own.empty _ _ _, Below.refl _ _⟩
 ·have he : ∀ W, (binOp .eql 22 (.slice (some p) l.length c) (.slice none 0 0)).run Tryz.prog W = .ok (.bool false) W := fun W => Lib.run_eql_slice_nil W _ _ _ _ _ _ _ Tryz.underlying22
  go_enter Tryz.func94, Tryz.ntmps94
  go_wp2_with (first
   | (at_builtin; refine app_src intsT w (w.alloc (.cells #[] 3)) w.heap.size w.heap.size _ _ _ [] (ints .i64 l) (some p) l.length c rfl rfl rfl rfl (by simp) (Own.ofLit #[] (Nat.le_refl _) (by decide)) (H.out.alloc (Nat.le_refl _) _) (ints_one _ _) (below_alloc _ _) (by simp) (by unfold maxLen; simp; omega) (by simp; omega) ?_; intro v2 w2 o2 b2 _ _; have O2 := Lib.hid o2; have B2 := Lib.hid b2; clear o2 b2)
   | fail)
  go_ret
  exact ⟨_, rfl, by simpa using O2.out, B2.out⟩
end Go.Proofs.YtcbaahlahohfmaaGreatDoor
