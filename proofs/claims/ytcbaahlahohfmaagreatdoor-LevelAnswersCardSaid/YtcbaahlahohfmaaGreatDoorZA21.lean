/- Shared texts, shaken for one claim. -/
import Derived.Test.YtcbaahlahohfmaaGreatDoorChecked
import Derived.Test.YtcbaahlahohfmaaGreatDoorZA1
import Derived.Test.YtcbaahlahohfmaaGreatDoorZA6
import Derived.Test.YtcbaahlahohfmaaGreatDoorZA13
import Derived.Test.YtcbaahlahohfmaaGreatDoorZA17
import Derived.Test.YtcbaahlahohfmaaGreatDoorZA20
namespace Go.Proofs.YtcbaahlahohfmaaGreatDoor
open Go.RowKit
def plainK (k : Int) : Int := if 0 ≤ k ∧ k ≤ 22 then k else 0
def plainL (l : List Int) : List Int := l.map plainK
def sideK (s : Int) : Int := if s = 1 then 1 else 0
def lastStrong (a : Int) (l : List Int) : Int := l.foldl (fun a k => if isStrong k then k else a) a
def rW1 : Int → List Int → List Int
 | _, [] => []
 | p, k :: l => (if k = 8 then (if isOpens p ∨ p = 22 then 13 else p) else k) :: rW1 (if k = 8 then (if isOpens p ∨ p = 22 then 13 else p) else k) l
def rWS (a b : Int) : Int → List Int → List Int
 | _, [] => []
 | s, k :: l => (if k = 3 ∧ s = a then b else k) :: rWS a b (if isStrong k then k else s) l
def rW3 (l : List Int) : List Int := l.map fun k => if k = 2 then 1 else k
def rW4 : Int → List Int → List Int
 | _, [] => []
 | p, k :: l => (if (k = 4 ∧ p = 3 ∧ l.head? = some 3) ∨ (k = 7 ∧ (p = 3 ∨ p = 6) ∧ l.head? = some p) then p else k) :: rW4 (if (k = 4 ∧ p = 3 ∧ l.head? = some 3) ∨ (k = 7 ∧ (p = 3 ∨ p = 6) ∧ l.head? = some p) then p else k) l
def nearEN : List Int → Bool
 | [] => false
 | k :: l => k == 3 || k == 5 && nearEN l
def rW5 : Bool → List Int → List Int
 | _, [] => []
 | b, k :: l => (if k = 5 ∧ (b || nearEN l) then 3 else k) :: rW5 (k == 3 || k == 5 && (b || nearEN l)) l
def rW6 (l : List Int) : List Int := l.map fun k => if k = 4 ∨ k = 5 ∨ k = 7 then 13 else k
def rulePlain (l : List Int) (s : Int) : Nat → List Int
 | 1 => rW1 s l
 | 2 => rWS 2 6 s l
 | 3 => rW3 l
 | 4 => rW4 (-1) l
 | 5 => rW5 false l
 | 6 => rW6 l
 | 7 => rWS 0 0 s l
 | _ => l
def ruleI (l : List Int) (sos : Int) (n : Nat) : List Int := rulePlain (plainL l) (sideK sos) n
def stepsI (l : List Int) (sos : Int) : Nat → List Int
 | 0 => l
 | n + 1 => ruleI (stepsI l sos n) sos (n + 1)
def ofI (l : List Int) (sos : Int) : List Int := stepsI l sos 7
theorem w1_length : ∀ (p : Int) (l : List Int), (rW1 p l).length = l.length
 | _, [] => rfl
 | p, k :: l => by rw [rW1, List.length_cons, List.length_cons, w1_length]
theorem wS_length (a b : Int) : ∀ (s : Int) (l : List Int), (rWS a b s l).length = l.length
 | _, [] => rfl
 | s, k :: l => by rw [rWS, List.length_cons, List.length_cons, wS_length a b]
theorem w4_length : ∀ (p : Int) (l : List Int), (rW4 p l).length = l.length
 | _, [] => rfl
 | p, k :: l => by rw [rW4, List.length_cons, List.length_cons, w4_length]
theorem w5_length : ∀ (b : Bool) (l : List Int), (rW5 b l).length = l.length
 | _, [] => rfl
 | b, k :: l => by rw [rW5, List.length_cons, List.length_cons, w5_length]
theorem rulePlain_length (l : List Int) (s : Int) (n : Nat) : (rulePlain l s n).length = l.length := by
 unfold rulePlain
 split
 ·exact w1_length _ _
 ·exact wS_length _ _ _ _
 ·simp [rW3]
 ·exact w4_length _ _
 ·exact w5_length _ _
 ·simp [rW6]
 ·exact wS_length _ _ _ _
 ·rfl
theorem ruleI_length (l : List Int) (sos : Int) (n : Nat) : (ruleI l sos n).length = l.length := by rw [ruleI, rulePlain_length, plainL, List.length_map]
theorem stepsI_length (l : List Int) (sos : Int) : ∀ n, (stepsI l sos n).length = l.length
 | 0 => rfl
 | n + 1 => by rw [stepsI, ruleI_length, stepsI_length]
theorem ofI_length (l : List Int) (sos : Int) : (ofI l sos).length = l.length := stepsI_length l sos 7
def Free (bad : List Int) (l : List Int) : Prop := ∀ k ∈ l, 0 ≤ k ∧ k ≤ 22 ∧ k ∉ bad
theorem plainK_range (k : Int) : 0 ≤ plainK k ∧ plainK k ≤ 22 := by unfold plainK; split <;> omega
theorem plainK_of {k : Int} (h : 0 ≤ k ∧ k ≤ 22) : plainK k = k := by rw [plainK, if_pos h]
theorem plainL_free (l : List Int) : Free [] (plainL l) := fun k hk => by
 obtain ⟨x, _, rfl⟩ := List.mem_map.1 hk
 have := plainK_range x
 exact ⟨this.1, this.2, by simp⟩
theorem plainL_of {bad l : List Int} (h : Free bad l) : plainL l = l := by
 unfold plainL
 conv => rhs; rw [← List.map_id l]
 apply List.map_congr_left
 intro k hk
 have := h k hk
 exact plainK_of ⟨this.1, this.2.1⟩
theorem sideK_two (s : Int) : sideK s = 0 ∨ sideK s = 1 := by unfold sideK; split <;> simp
theorem Free.tail {bad l : List Int} {k : Int} (h : Free bad (k :: l)) : (0 ≤ k ∧ k ≤ 22 ∧ k ∉ bad) ∧ Free bad l := ⟨h k (by simp), fun x hx => h x (List.mem_cons_of_mem _ hx)⟩
theorem Free.cons {bad l : List Int} {k : Int} (h : 0 ≤ k ∧ k ≤ 22 ∧ k ∉ bad) (h2 : Free bad l) : Free bad (k :: l) := fun x hx => by
 rcases List.mem_cons.1 hx with rfl | hx
 ·exact h
 ·exact h2 x hx
theorem free_w1 : ∀ (p : Int) (l : List Int), Free [] l → 0 ≤ p ∧ p ≤ 22 ∧ p ∉ ([8] : List Int) → Free [8] (rW1 p l)
 | _, [], _, _ => fun x hx => by simp [rW1] at hx
 | p, k :: l, h, hp => by
  obtain ⟨h1, h2⟩ := h.tail
  have hk : 0 ≤ (if k = 8 then (if isOpens p ∨ p = 22 then 13 else p) else k) ∧ (if k = 8 then (if isOpens p ∨ p = 22 then 13 else p) else k) ≤ 22 ∧ (if k = 8 then (if isOpens p ∨ p = 22 then 13 else p) else k) ∉ ([8] : List Int) := by
   split
   ·split
    ·decide
    ·exact hp
   ·rename_i hne; exact ⟨h1.1, h1.2.1, by simpa using hne⟩
  rw [rW1]
  exact Free.cons hk (free_w1 _ l h2 hk)
theorem free_wS {bad : List Int} {a b : Int} (hb : 0 ≤ b ∧ b ≤ 22 ∧ b ∉ bad) : ∀ (s : Int) (l : List Int), Free bad l → Free bad (rWS a b s l)
 | _, [], _ => fun x hx => by simp [rWS] at hx
 | s, k :: l, h => by
  obtain ⟨h1, h2⟩ := h.tail
  rw [rWS]
  refine Free.cons ?_ (free_wS hb _ l h2)
  split
  ·exact hb
  ·exact h1
theorem free_w3 {l : List Int} (h : Free [8] l) : Free [2, 8] (rW3 l) := fun x hx => by
 obtain ⟨k, hk, rfl⟩ := List.mem_map.1 hx
 have h1 := h k hk
 split
 ·decide
 ·rename_i hne
  refine ⟨h1.1, h1.2.1, ?_⟩
  have := h1.2.2
  simp at this ⊢
  exact ⟨hne, this⟩
theorem free_w4 : ∀ (p : Int) (l : List Int), Free [2, 8] l → Free [2, 8] (rW4 p l)
 | _, [], _ => fun x hx => by simp [rW4] at hx
 | p, k :: l, h => by
  obtain ⟨h1, h2⟩ := h.tail
  rw [rW4]
  refine Free.cons ?_ (free_w4 _ l h2)
  split
  ·rename_i hc
   have : p = 3 ∨ p = 6 := by
    rcases hc with ⟨_, e, _⟩ | ⟨_, e, _⟩
    ·exact .inl e
    ·exact e
   rcases this with rfl | rfl <;> decide
  ·exact h1
theorem free_w5 : ∀ (b : Bool) (l : List Int), Free [2, 8] l → Free [2, 8] (rW5 b l)
 | _, [], _ => fun x hx => by simp [rW5] at hx
 | b, k :: l, h => by
  obtain ⟨h1, h2⟩ := h.tail
  rw [rW5]
  refine Free.cons ?_ (free_w5 _ l h2)
  split
  ·decide
  ·exact h1
theorem free_w6 {l : List Int} (h : Free [2, 8] l) : Free [2, 4, 5, 7, 8] (rW6 l) := fun x hx => by
 obtain ⟨k, hk, rfl⟩ := List.mem_map.1 hx
 have h1 := h k hk
 split
 ·decide
 ·rename_i hne
  refine ⟨h1.1, h1.2.1, ?_⟩
  have := h1.2.2
  simp at this ⊢
  simp only [not_or] at hne
  exact ⟨this.1, hne.1, hne.2.1, hne.2.2, this.2⟩
theorem ofI_eq (l : List Int) (sos : Int) : ofI l sos = rWS 0 0 (sideK sos) (rW6 (rW5 false (rW4 (-1) (rW3 (rWS 2 6 (sideK sos) (rW1 (sideK sos) (plainL l))))))) ∧ Free [2, 4, 5, 7, 8] (ofI l sos) := by
 have hs : 0 ≤ sideK sos ∧ sideK sos ≤ 22 ∧ sideK sos ∉ ([8] : List Int) := by rcases sideK_two sos with h | h <;> rw [h] <;> decide
 have f1 := free_w1 (sideK sos) _ (plainL_free l) hs
 have f2 := free_wS (a := 2) (b := 6) (by decide) (sideK sos) _ f1
 have f3 := free_w3 f2
 have f4 := free_w4 (-1) _ f3
 have f5 := free_w5 false _ f4
 have f6 := free_w6 f5
 have f7 := free_wS (a := 0) (b := 0) (by decide) (sideK sos) _ f6
 have e : ofI l sos = rWS 0 0 (sideK sos) (rW6 (rW5 false (rW4 (-1) (rW3 (rWS 2 6 (sideK sos) (rW1 (sideK sos) (plainL l))))))) := by
  show ruleI (ruleI (ruleI (ruleI (ruleI (ruleI (ruleI l sos 1) sos 2) sos 3) sos 4) sos 5) sos 6) sos 7 = _
  have r1 : ruleI l sos 1 = rW1 (sideK sos) (plainL l) := rfl
  rw [r1]
  have r2 : ruleI (rW1 (sideK sos) (plainL l)) sos 2 = rWS 2 6 (sideK sos) (rW1 (sideK sos) (plainL l)) := by rw [ruleI, plainL_of f1]; rfl
  rw [r2]
  have r3 : ruleI (rWS 2 6 (sideK sos) (rW1 (sideK sos) (plainL l))) sos 3 = rW3 (rWS 2 6 (sideK sos) (rW1 (sideK sos) (plainL l))) := by rw [ruleI, plainL_of f2]; rfl
  rw [r3]
  have r4 : ∀ x, Free [2, 8] x → ruleI x sos 4 = rW4 (-1) x := fun x hx => by rw [ruleI, plainL_of hx]; rfl
  rw [r4 _ f3]
  have r5 : ∀ x, Free [2, 8] x → ruleI x sos 5 = rW5 false x := fun x hx => by rw [ruleI, plainL_of hx]; rfl
  rw [r5 _ f4]
  have r6 : ∀ x, Free [2, 8] x → ruleI x sos 6 = rW6 x := fun x hx => by rw [ruleI, plainL_of hx]; rfl
  rw [r6 _ f5]
  have r7 : ∀ x, Free [2, 4, 5, 7, 8] x → ruleI x sos 7 = rWS 0 0 (sideK sos) x := fun x hx => by rw [ruleI, plainL_of hx]; rfl
  rw [r7 _ f6]
 exact ⟨e, e ▸ f7⟩
theorem strong_step (l : List Int) (s : Int) {j : Nat} (hj : j < l.length) : lastStrong s (l.take (j + 1)) = if isStrong l[j] then l[j] else lastStrong s (l.take j) := by
 rw [List.take_succ_eq_append_getElem hj, lastStrong, List.foldl_append]
 rfl
end Go.Proofs.YtcbaahlahohfmaaGreatDoor
namespace Go.Proofs.YtcbaahlahohfmaaGreatDoor
open Go.RowKit Reckon
def clsSteps : List (Int × AV) := [(0, .num .i64 9), (9, .num .i64 11), (10, .num .i64 10), (11, .num .i64 11), (12, .num .i64 12), (13, .num .i64 10), (14, .num .i64 9), (28, .num .i64 10), (31, .num .i64 11), (32, .num .i64 12),
 (33, .num .i64 13), (35, .num .i64 5), (38, .num .i64 13), (43, .num .i64 4), (44, .num .i64 7), (45, .num .i64 4), (46, .num .i64 7), (48, .num .i64 3), (58, .num .i64 7), (59, .num .i64 13),
 (65, .num .i64 0), (91, .num .i64 13), (97, .num .i64 0), (123, .num .i64 13), (127, .num .i64 9), (133, .num .i64 10), (134, .num .i64 9), (160, .num .i64 7), (161, .num .i64 13), (162, .num .i64 5),
 (166, .num .i64 13), (170, .num .i64 0), (171, .num .i64 13), (173, .num .i64 9), (174, .num .i64 13), (176, .num .i64 5), (178, .num .i64 3), (180, .num .i64 13), (181, .num .i64 0), (182, .num .i64 13),
 (185, .num .i64 3), (186, .num .i64 0), (187, .num .i64 13), (192, .num .i64 0), (215, .num .i64 13), (216, .num .i64 0), (247, .num .i64 13), (248, .num .i64 0), (768, .num .i64 8), (880, .num .i64 0),
 (1425, .num .i64 8), (1470, .num .i64 1), (1471, .num .i64 8), (1472, .num .i64 1), (1473, .num .i64 8), (1475, .num .i64 0), (1488, .num .i64 1), (1525, .num .i64 0), (1536, .num .i64 6), (1542, .num .i64 13),
 (1544, .num .i64 2), (1545, .num .i64 5), (1547, .num .i64 2), (1548, .num .i64 7), (1549, .num .i64 2), (1550, .num .i64 0), (1552, .num .i64 8), (1563, .num .i64 2), (1611, .num .i64 8), (1632, .num .i64 6),
 (1642, .num .i64 5), (1643, .num .i64 6), (1645, .num .i64 2), (1648, .num .i64 8), (1649, .num .i64 2), (1750, .num .i64 0), (8203, .num .i64 9), (8206, .num .i64 0), (8207, .num .i64 1), (8208, .num .i64 13),
 (8232, .num .i64 12), (8233, .num .i64 10), (8234, .num .i64 14), (8235, .num .i64 16), (8236, .num .i64 18), (8237, .num .i64 15), (8238, .num .i64 17), (8239, .num .i64 7), (8240, .num .i64 5), (8245, .num .i64 13),
 (8260, .num .i64 0), (8294, .num .i64 19), (8295, .num .i64 20), (8296, .num .i64 21), (8297, .num .i64 22), (8298, .num .i64 0), (8304, .num .i64 3), (8305, .num .i64 0), (8308, .num .i64 3), (8314, .num .i64 0),
 (8352, .num .i64 5), (8385, .num .i64 0), (8592, .num .i64 13), (8722, .num .i64 4), (8723, .num .i64 5), (8724, .num .i64 13), (9014, .num .i64 0), (12296, .num .i64 13), (12306, .num .i64 0), (65279, .num .i64 9),
 (65280, .num .i64 0), (128512, .num .i64 13), (128592, .num .i64 0)]
def AV.int : AV → Int
 | .num _ n => n
 | .arg n => n
 | .boo _ => 0
def cls (c : Int) : Int := AV.int (stepF c (.num .i64 0) clsSteps)
theorem cls_val (c : Int) : (stepF c (.num .i64 0) clsSteps).val c = .int .i64 (cls c) := by
 have h := stepF_all (c := c) (p := fun v => v = .num .i64 (AV.int v)) clsSteps (.num .i64 0) rfl (by decide)
 unfold cls
 rw [h]
 rfl
theorem cls_all {p : Int → Prop} (c : Int) (h0 : p 0) (h : ∀ x ∈ clsSteps, p (AV.int x.2)) : p (cls c) :=
 stepF_all (c := c) (p := fun v => p (AV.int v)) clsSteps (.num .i64 0) h0 h
theorem cls_range (c : Int) : 0 ≤ cls c ∧ cls c ≤ 22 := cls_all (p := fun n => 0 ≤ n ∧ n ≤ 22) c (by decide) (by decide)
noncomputable def clsTab : List (Nat × Func) := [(43, Tryz.f43), (76, Tryz.f76), (122, Tryz.f122)]
theorem clsTab_ok : TabOk Tryz.prog clsTab := .cons Tryz.func43 (by kernel_rfl) (.cons Tryz.func76 (by kernel_rfl) (.cons Tryz.func122 (by kernel_rfl) (.nil)))
theorem of_any (c : Int) (w : World) : Calls Tryz.prog 43 #[.int .i64 c] w fun e w' => e = .returned (.int .i64 (cls c)) ∧ w = w' := by
 have h := calls_step clsTab_ok (keep := 40) (m := 3) (f := 43) (v0 := .num .i64 0) (l := clsSteps) (by kernel_rfl) c w
 rw [cls_val] at h
 exact h
noncomputable def rclsTab : List (Nat × Func) := [(18, Tryz.f18)]
theorem rclsTab_ok : TabOk Tryz.prog rclsTab := .cons Tryz.func18 (by kernel_rfl) (.nil)
theorem rof_any (c : Int) (w : World) : Calls Tryz.prog 18 #[.int .i64 c] w fun e w' => e = .returned (.int .i64 (cls c)) ∧ w = w' := by
 have h := calls_step rclsTab_ok (keep := 14) (m := 1) (f := 18) (v0 := .num .i64 0) (l := clsSteps) (by kernel_rfl) c w
 rw [cls_val] at h
 exact h
end Go.Proofs.YtcbaahlahohfmaaGreatDoor
namespace Go.Proofs.YtcbaahlahohfmaaGreatDoor
open Go.RowKit Reckon
def clsL (chars : List Int) : List Int := chars.map cls
def pickL (l at_ : List Int) : List Int := at_.map fun p => l.getD p.toNat 0
def seqE (chars xc : List Int) (s : Sq) : List Int :=
 nofI (ofB (pickL chars s.pl) (ofI (pickL xc s.pl) s.sos) (pickL xc s.pl) s.lev s.sos) s.lev s.sos s.eos
def layK (lev : Int) (at_ es : List Int) (st : List Int × List Int) : Nat → List Int × List Int
 | 0 => st
 | k + 1 => ((layK lev at_ es st k).1.set (at_.getD k 0).toNat (nLevelI (es.getD k 0) lev), (layK lev at_ es st k).2.set (at_.getD k 0).toNat (es.getD k 0))
def layN (chars xc : List Int) (seqs : List Sq) (st : List Int × List Int) : Nat → List Int × List Int
 | 0 => st
 | n + 1 => match seqs[n]? with
  | some s => layK s.lev s.pl (seqE chars xc s) (layN chars xc seqs st n) s.pl.length
  | none => layN chars xc seqs st n
def fillN (first : List Int) (base : Int) (l : List Int) : Nat → List Int
 | 0 => l
 | k + 1 => if isOut (first.getD k 0) then (fillN first base l k).set k (if k = 0 then base else (fillN first base l k).getD (k - 1) 0) else fillN first base l k
def baseI (chars : List Int) (dir : Int) : Int := level (clsL chars) dir
def laidI (chars : List Int) (dir : Int) : List Int × List Int :=
 layN chars (xcls (clsL chars) (baseI chars dir)) (seqsI (clsL chars) (lvs (clsL chars) (baseI chars dir)) (baseI chars dir)) (lvs (clsL chars) (baseI chars dir), xcls (clsL chars) (baseI chars dir)) (seqsI (clsL chars) (lvs (clsL chars) (baseI chars dir)) (baseI chars dir)).length
def levI (chars : List Int) (dir : Int) : List Int := fillN (clsL chars) (baseI chars dir) (laidI chars dir).1 chars.length
def lclsI (chars : List Int) (dir : Int) : List Int := (laidI chars dir).2
def mostI : List Int → Int
 | [] => -1
 | x :: l => l.foldl max x
def wholeI (l : List Int) : Bool := l.all fun x => x == l.headD 0
theorem base_two (chars : List Int) (dir : Int) : baseI chars dir = 0 ∨ baseI chars dir = 1 := by
 unfold baseI level
 split
 ·exact .inl rfl
 ·split
  ·exact .inr rfl
  ·rcases firstP_range (clsL chars) 0 with h | h | h <;> rw [h] <;> decide
theorem getD_set (l : List Int) (i q : Nat) (v : Int) : (l.set i v).getD q 0 = if i = q ∧ q < l.length then v else l.getD q 0 := by
 rw [List.getD_eq_getElem?_getD, List.getElem?_set]
 by_cases h : i = q
 ·subst h
  by_cases h2 : i < l.length
  ·rw [if_pos rfl, if_pos h2, if_pos ⟨rfl, h2⟩]; rfl
  ·rw [if_pos rfl, if_neg h2, if_neg (fun x => h2 x.2), List.getD_eq_getElem?_getD, List.getElem?_eq_none (by omega)]
 ·rw [if_neg h, if_neg (fun x => h x.1), List.getD_eq_getElem?_getD]
theorem layK_length (lev : Int) (at_ es : List Int) (st : List Int × List Int) : ∀ k, (layK lev at_ es st k).1.length = st.1.length ∧ (layK lev at_ es st k).2.length = st.2.length
 | 0 => ⟨rfl, rfl⟩
 | k + 1 => by rw [layK, List.length_set, List.length_set]; exact layK_length lev at_ es st k
theorem layN_length (chars xc : List Int) (seqs : List Sq) (st : List Int × List Int) : ∀ n, (layN chars xc seqs st n).1.length = st.1.length ∧ (layN chars xc seqs st n).2.length = st.2.length
 | 0 => ⟨rfl, rfl⟩
 | n + 1 => by
  rw [layN]
  split
  ·rw [(layK_length _ _ _ _ _).1, (layK_length _ _ _ _ _).2]; exact layN_length chars xc seqs st n
  ·exact layN_length chars xc seqs st n
theorem fillN_length (first : List Int) (base : Int) (l : List Int) : ∀ k, (fillN first base l k).length = l.length
 | 0 => rfl
 | k + 1 => by
  rw [fillN]
  split
  ·rw [List.length_set]; exact fillN_length first base l k
  ·exact fillN_length first base l k
def PlaceIs (chars xc : List Int) (seqs : List Sq) (q : Nat) (v e : Int) : Prop :=
 ∃ s ∈ seqs, ∃ k, k < s.pl.length ∧ (s.pl.getD k 0).toNat = q ∧ e = (seqE chars xc s).getD k 0 ∧ v = nLevelI e s.lev
theorem layK_at (lev : Int) (at_ es : List Int) (st : List Int × List Int) (hl : st.1.length = st.2.length) (q : Nat) (hq : q < st.1.length) : ∀ k, k ≤ at_.length →
 ((layK lev at_ es st k).1.getD q 0 = st.1.getD q 0 ∧ (layK lev at_ es st k).2.getD q 0 = st.2.getD q 0 ∧ ∀ j, j < k → (at_.getD j 0).toNat ≠ q) ∨
 ∃ j, j < k ∧ (at_.getD j 0).toNat = q ∧ (layK lev at_ es st k).2.getD q 0 = es.getD j 0 ∧ (layK lev at_ es st k).1.getD q 0 = nLevelI (es.getD j 0) lev
 | 0, _ => .inl ⟨rfl, rfl, fun j h => by omega⟩
 | k + 1, hk => by
  obtain ⟨l1, l2⟩ := layK_length lev at_ es st k
  rw [layK, getD_set, getD_set]
  by_cases h : (at_.getD k 0).toNat = q
  ·right
   refine ⟨k, by omega, h, ?_, ?_⟩
   ·rw [if_pos ⟨h, by omega⟩]
   ·rw [if_pos ⟨h, by omega⟩]
  ·rw [if_neg (fun x => h x.1), if_neg (fun x => h x.1)]
   rcases layK_at lev at_ es st hl q hq k (by omega) with ⟨h1, h2, h3⟩ | ⟨j, j1, j2, j3, j4⟩
   ·left
    refine ⟨h1, h2, fun j hj => ?_⟩
    by_cases hjk : j = k
    ·subst hjk; exact h
    ·exact h3 j (by omega)
   ·exact .inr ⟨j, by omega, j2, j3, j4⟩
theorem layN_at (chars xc : List Int) (seqs : List Sq) (st : List Int × List Int) (hl : st.1.length = st.2.length) (q : Nat) (hq : q < st.1.length) : ∀ n, n ≤ seqs.length →
 ((layN chars xc seqs st n).1.getD q 0 = st.1.getD q 0 ∧ (layN chars xc seqs st n).2.getD q 0 = st.2.getD q 0 ∧ ∀ m (h : m < seqs.length), m < n → ∀ j, j < seqs[m].pl.length → (seqs[m].pl.getD j 0).toNat ≠ q) ∨
 PlaceIs chars xc seqs q ((layN chars xc seqs st n).1.getD q 0) ((layN chars xc seqs st n).2.getD q 0)
 | 0, _ => .inl ⟨rfl, rfl, fun m _ h => by omega⟩
 | n + 1, hn => by
  obtain ⟨l1, l2⟩ := layN_length chars xc seqs st n
  have hs : seqs[n]? = some (seqs[n]'(by omega)) := List.getElem?_eq_getElem (by omega)
  rw [layN, hs]
  simp only
  obtain ⟨s, hsn⟩ : ∃ s, seqs[n]'(by omega) = s := ⟨_, rfl⟩
  rw [hsn]
  rcases layK_at s.lev s.pl (seqE chars xc s) (layN chars xc seqs st n) (by omega) q (by omega) s.pl.length (Nat.le_refl _) with ⟨h1, h2, h3⟩ | ⟨j, j1, j2, j3, j4⟩
  ·rw [h1, h2]
   rcases layN_at chars xc seqs st hl q hq n (by omega) with ⟨g1, g2, g3⟩ | hp
   ·left
    refine ⟨g1, g2, fun m hm hmn j hj => ?_⟩
    by_cases hmm : m = n
    ·subst hmm
     rw [hsn] at hj ⊢
     exact h3 j hj
    ·exact g3 m hm (by omega) j hj
   ·exact .inr hp
  ·right
   rw [j3, j4]
   exact ⟨s, hsn ▸ List.getElem_mem _, j, j1, j2, rfl, rfl⟩
theorem place_in {cl lv : List Int} (he : cl.length = lv.length) (base : Int) {s : Sq} (hs : s ∈ seqsI cl lv base) {k : Nat} (hk : k < s.pl.length) :
 ∃ q : Nat, s.pl.getD k 0 = (q : Int) ∧ q < cl.length ∧ isOut (cl.getD q 0) = false := by
 have hm : s.pl.getD k 0 ∈ ((seqsI cl lv base).map (·.pl)).flatten := List.mem_flatten.2 ⟨_, List.mem_map.2 ⟨_, hs, rfl⟩, by rw [getD_at hk]; exact List.getElem_mem hk⟩
 have := (seqs_perm he base).mem_iff.1 hm
 rw [seenI_eq] at this
 obtain ⟨q, hq, he2⟩ := List.mem_map.1 this
 obtain ⟨h1, h2⟩ := (seenQ_mem cl q).1 hq
 exact ⟨q, he2.symm, h1, h2⟩
theorem place_of {cl lv : List Int} (he : cl.length = lv.length) (base : Int) {q : Nat} (hq : q < cl.length) (ho : isOut (cl.getD q 0) = false) :
 ∃ (m : Nat) (h : m < (seqsI cl lv base).length) (j : Nat), j < (seqsI cl lv base)[m].pl.length ∧ ((seqsI cl lv base)[m].pl.getD j 0) = (q : Int) := by
 have hm : (q : Int) ∈ seenI cl := by
  rw [seenI_eq]
  exact List.mem_map.2 ⟨q, (seenQ_mem cl q).2 ⟨hq, ho⟩, rfl⟩
 have := (seqs_perm he base).mem_iff.2 hm
 obtain ⟨pl, hpl, hq2⟩ := List.mem_flatten.1 this
 obtain ⟨s, hs, rfl⟩ := List.mem_map.1 hpl
 obtain ⟨m, hm1, rfl⟩ := List.mem_iff_getElem.1 hs
 obtain ⟨j, hj, he2⟩ := List.mem_iff_getElem.1 hq2
 exact ⟨m, hm1, j, hj, by rw [getD_at hj]; exact he2⟩
theorem seq_lev {cl lv : List Int} (base : Int) {s : Sq} (hs : s ∈ seqsI cl lv base) : s.lev = lv.getD (headI s.pl).toNat 0 := by
 rw [seqsI, seqsN_eq] at hs
 obtain ⟨i, _, rfl⟩ := List.mem_map.1 hs
 rfl
end Go.Proofs.YtcbaahlahohfmaaGreatDoor
namespace Go.Proofs.YtcbaahlahohfmaaGreatDoor
open Go.RowKit Reckon
abbrev outs : List Int := [9, 14, 15, 16, 17, 18]
theorem out_iff (k : Int) : isOut k = true ↔ k ∈ outs := by
 simp [isOut, outs]
 omega
theorem freeO_w1 : ∀ (p : Int) (l : List Int), Free outs l → 0 ≤ p ∧ p ≤ 22 ∧ p ∉ outs → Free outs (rW1 p l)
 | _, [], _, _ => fun x hx => by simp [rW1] at hx
 | p, k :: l, h, hp => by
  obtain ⟨h1, h2⟩ := h.tail
  have hk : 0 ≤ (if k = 8 then (if isOpens p ∨ p = 22 then 13 else p) else k) ∧ (if k = 8 then (if isOpens p ∨ p = 22 then 13 else p) else k) ≤ 22 ∧ (if k = 8 then (if isOpens p ∨ p = 22 then 13 else p) else k) ∉ outs := by
   split
   ·split
    ·decide
    ·exact hp
   ·exact h1
  rw [rW1]
  exact Free.cons hk (freeO_w1 _ l h2 hk)
theorem freeO_w3 {l : List Int} (h : Free outs l) : Free outs (rW3 l) := fun x hx => by
 obtain ⟨k, hk, rfl⟩ := List.mem_map.1 hx
 split
 ·decide
 ·exact h k hk
theorem freeO_w4 : ∀ (p : Int) (l : List Int), Free outs l → Free outs (rW4 p l)
 | _, [], _ => fun x hx => by simp [rW4] at hx
 | p, k :: l, h => by
  obtain ⟨h1, h2⟩ := h.tail
  rw [rW4]
  refine Free.cons ?_ (freeO_w4 _ l h2)
  split
  ·rename_i hc
   rcases hc with ⟨_, rfl, _⟩ | ⟨_, rfl | rfl, _⟩ <;> decide
  ·exact h1
theorem freeO_w5 : ∀ (b : Bool) (l : List Int), Free outs l → Free outs (rW5 b l)
 | _, [], _ => fun x hx => by simp [rW5] at hx
 | b, k :: l, h => by
  obtain ⟨h1, h2⟩ := h.tail
  rw [rW5]
  refine Free.cons ?_ (freeO_w5 _ l h2)
  split
  ·decide
  ·exact h1
theorem freeO_w6 {l : List Int} (h : Free outs l) : Free outs (rW6 l) := fun x hx => by
 obtain ⟨k, hk, rfl⟩ := List.mem_map.1 hx
 split
 ·decide
 ·exact h k hk
theorem freeO_of {l : List Int} (sos : Int) (h : Free outs l) : Free outs (ofI l sos) := by
 have hs : 0 ≤ sideK sos ∧ sideK sos ≤ 22 ∧ sideK sos ∉ outs := by rcases sideK_two sos with e | e <;> rw [e] <;> decide
 rw [(ofI_eq l sos).1, plainL_of h]
 exact free_wS (by decide) _ _ (freeO_w6 (freeO_w5 _ _ (freeO_w4 _ _ (freeO_w3 (free_wS (by decide) _ _ (freeO_w1 _ _ h hs))))))
def Mid (k : Int) : Prop := k = 0 ∨ k = 1 ∨ k = 3 ∨ k = 6 ∨ isNeutral k = true
theorem mid_of {l : List Int} (sos : Int) (h : Free outs l) : ∀ k ∈ ofI l sos, Mid k := fun k hk => by
 obtain ⟨h1, h2, h3⟩ := freeO_of sos h k hk
 obtain ⟨_, _, h4⟩ := (ofI_eq l sos).2 k hk
 simp only [outs, List.mem_cons, List.mem_nil_iff, or_false] at h3 h4
 unfold Mid
 have : isNeutral k = true ↔ (k = 10 ∨ k = 11 ∨ k = 12 ∨ k = 13 ∨ k = 19 ∨ k = 20 ∨ k = 21 ∨ k = 22) := by simp [isNeutral]
 rw [this]
 omega
def Fin (k : Int) : Prop := k = 0 ∨ k = 1 ∨ k = 3 ∨ k = 6
theorem pick_length (l at_ : List Int) : (pickL l at_).length = at_.length := by simp [pickL]
theorem seqE_length (chars xc : List Int) (s : Sq) : (seqE chars xc s).length = s.pl.length := by
 rw [seqE, nofI_length, (ofB_keeps _ _ _ _ _).1, ofI_length, pick_length]
theorem seqE_fin {chars xc : List Int} {s : Sq} (h : Free outs (pickL xc s.pl)) {k : Nat} (hk : k < s.pl.length) : Fin ((seqE chars xc s).getD k 0) := by
 obtain ⟨b, hb⟩ : ∃ b, ofB (pickL chars s.pl) (ofI (pickL xc s.pl) s.sos) (pickL xc s.pl) s.lev s.sos = b := ⟨_, rfl⟩
 have hbl : b.length = s.pl.length := by rw [← hb, (ofB_keeps _ _ _ _ _).1, ofI_length, pick_length]
 have hkb : k < b.length := by omega
 have hko : k < (ofI (pickL xc s.pl) s.sos).length := by rw [ofI_length, pick_length]; exact hk
 have hm : Mid b[k] := by
  have hw := mid_of s.sos h _ (List.getElem_mem hko)
  have := ((ofB_keeps (pickL chars s.pl) (ofI (pickL xc s.pl) s.sos) (pickL xc s.pl) s.lev s.sos).2 k hko (by rw [hb]; exact hkb)).2
  simp only [hb] at this
  rcases this with e | e | e
  ·rw [e]; exact hw
  ·rw [e]; exact .inl rfl
  ·rw [e]; exact .inr (.inl rfl)
 rw [seqE, hb, List.getD_eq_getElem?_getD, nofI_at _ _ _ _ hkb, Option.getD_some, outAt, getD_at hkb]
 cases hn : isNeutral b[k] with
 | true =>
  rw [if_pos rfl]
  rcases to_two b s.lev s.sos s.eos k with e | e <;> rw [e]
  ·exact .inl rfl
  ·exact .inr (.inl rfl)
 | false =>
  rw [if_neg (by simp)]
  rcases hm with e | e | e | e | e
  ·exact .inl e
  ·exact .inr (.inl e)
  ·exact .inr (.inr (.inl e))
  ·exact .inr (.inr (.inr e))
  ·rw [hn] at e; cases e
structure Emb (first : List Int) (base : Int) (lv xc : List Int) : Prop where
 ll : lv.length = first.length
 lc : xc.length = first.length
 lev : ∀ q, q < first.length → base ≤ lv.getD q 0 ∧ lv.getD q 0 ≤ 125
 out : ∀ q, q < first.length → isOut (xc.getD q 0) = isOut (first.getD q 0)
 rng : ∀ q, q < first.length → 0 ≤ xc.getD q 0 ∧ xc.getD q 0 ≤ 22
theorem over_range {e : Ent} (ho : e.over = -1 ∨ e.over = 0 ∨ e.over = 1) {c : Int} (hc : 0 ≤ c ∧ c ≤ 22) : 0 ≤ overE e c ∧ overE e c ≤ 22 := by
 unfold overE
 split
 ·exact hc
 ·omega
theorem tell_range {x : X6} {k : Nat} (hw : Wf x k) (ho : OvOk x) {c : Int} (hc : 0 ≤ c ∧ c ≤ 22) : 0 ≤ (tellP x.core c).2 ∧ (tellP x.core c).2 ≤ 22 := by
 obtain ⟨e, st, hst⟩ := hw.top
 obtain ⟨⟨e2, st2, he2⟩, _⟩ := wf_end (c := c) hw
 have hov := ho e (by rw [hst]; simp)
 have hov2 := ov_end ho e2 (by rw [he2]; simp)
 have hes : (endP x.core).st = e2 :: st2 := by rw [← core_end x c, endX, core_put]; exact he2
 have hcs : x.core.st = e :: st := hst
 have hkn : 0 ≤ knownI c ∧ knownI c ≤ 22 := by unfold knownI; split <;> omega
 unfold tellP
 rw [hcs]
 simp only [hes]
 split
 ·exact hc
 ·split
  ·exact hc
  ·split
   ·exact over_range hov hc
   ·split
    ·exact over_range hov2 hc
    ·exact over_range hov hkn
theorem emb_of {first : List Int} (hf : ∀ k ∈ first, 0 ≤ k ∧ k ≤ 22) {base : Int} (hb : base = 0 ∨ base = 1) : Emb first base (lvs first base) (xcls first base) := by
 have l1 : (lvs first base).length = first.length := (wf_run first base first.length).levels
 have l2 : (xcls first base).length = first.length := (wf_run first base first.length).classes
 have hbb : ∀ k, (runX first base k).base = base := fun k => by
  rw [base_run]
  rcases hb with rfl | rfl <;> rfl
 refine ⟨l1, l2, fun q hq => ?_, fun q hq => ?_, fun q hq => ?_⟩
 ·obtain ⟨h1, h2, -, -⟩ := tell_facts (wf_run first base q) (ov_run first base q) first[q]
  rw [getD_at (by omega), lvs_at first base q hq (by omega)]
  rw [hbb q] at h1
  exact ⟨h1, h2⟩
 ·obtain ⟨-, -, h3, -⟩ := tell_facts (wf_run first base q) (ov_run first base q) first[q]
  rw [getD_at (by omega), xcls_at first base q hq (by omega), h3, getD_at hq]
 ·rw [getD_at (by omega), xcls_at first base q hq (by omega)]
  exact tell_range (wf_run first base q) (ov_run first base q) (hf _ (List.getElem_mem hq))
theorem seq_free {first lv xc : List Int} {base : Int} (h : Emb first base lv xc) {s : Sq} (hs : s ∈ seqsI first lv base) : Free outs (pickL xc s.pl) := fun x hx => by
 obtain ⟨p, hp, rfl⟩ := List.mem_map.1 hx
 obtain ⟨k, hk, rfl⟩ := List.mem_iff_getElem.1 hp
 obtain ⟨q, h1, h2, h3⟩ := place_in h.ll.symm base hs hk
 rw [getD_at hk] at h1
 rw [h1, Int.toNat_natCast]
 have h4 := h.rng q h2
 refine ⟨h4.1, h4.2, fun hm => ?_⟩
 have := (out_iff _).2 hm
 rw [h.out q h2, h3] at this
 cases this
theorem seq_level {first lv xc : List Int} {base : Int} (h : Emb first base lv xc) {s : Sq} (hs : s ∈ seqsI first lv base) {k : Nat} (hk : k < s.pl.length) : base ≤ s.lev ∧ s.lev ≤ 125 := by
 obtain ⟨q, h1, h2, -⟩ := place_in h.ll.symm base hs (show 0 < s.pl.length by omega)
 rw [seq_lev base hs, headI, h1, Int.toNat_natCast]
 exact h.lev q h2
structure Due (base v e : Int) : Prop where
 fin : Fin e
 low : base ≤ v
 high : v ≤ 126
 left : e = 0 → v % 2 = 0
 right : e = 1 → v % 2 = 1
 num : e = 3 ∨ e = 6 → v % 2 = 0
theorem due_of {base lev e : Int} (h0 : 0 ≤ base) (h1 : base ≤ lev) (h2 : lev ≤ 125) (hf : Fin e) : Due base (nLevelI e lev) e := by
 have w1 : wrap64 (lev + 1) = lev + 1 := IntWalk.wrap64_in _ (by omega)
 have w2 : wrap64 (lev + 2) = lev + 2 := IntWalk.wrap64_in _ (by omega)
 have hd : (dirL lev = 0 ∧ lev % 2 = 0) ∨ (dirL lev = 1 ∧ lev % 2 = 1) := by
  unfold dirL
  split
  ·exact .inl ⟨rfl, by assumption⟩
  ·exact .inr ⟨rfl, by omega⟩
 have key : base ≤ nLevelI e lev ∧ nLevelI e lev ≤ 126 ∧ (e = 0 → nLevelI e lev % 2 = 0) ∧ (e = 1 → nLevelI e lev % 2 = 1) ∧ (e = 3 ∨ e = 6 → nLevelI e lev % 2 = 0) := by
  unfold Fin at hf
  unfold nLevelI
  rw [w1, w2]
  rcases hd with ⟨hd, hp⟩ | ⟨hd, hp⟩
  ·rw [hd]
   rcases hf with rfl | rfl | rfl | rfl <;> simp <;> omega
  ·rw [hd]
   rcases hf with rfl | rfl | rfl | rfl <;> simp <;> omega
 exact ⟨hf, key.1, key.2.1, key.2.2.1, key.2.2.2.1, key.2.2.2.2⟩
theorem clsL_range (chars : List Int) : ∀ k ∈ clsL chars, 0 ≤ k ∧ k ≤ 22 := fun k hk => by
 obtain ⟨c, _, rfl⟩ := List.mem_map.1 hk
 exact cls_range c
theorem clsL_length (chars : List Int) : (clsL chars).length = chars.length := by simp [clsL]
theorem laid_at (chars : List Int) (dir : Int) {q : Nat} (hq : q < chars.length) :
 (isOut ((clsL chars).getD q 0) = false → Due (baseI chars dir) ((laidI chars dir).1.getD q 0) ((laidI chars dir).2.getD q 0)) ∧
 (isOut ((clsL chars).getD q 0) = true → (laidI chars dir).1.getD q 0 = (lvs (clsL chars) (baseI chars dir)).getD q 0 ∧ (laidI chars dir).2.getD q 0 = (xcls (clsL chars) (baseI chars dir)).getD q 0) := by
 obtain ⟨f, hf⟩ : ∃ f, clsL chars = f := ⟨_, rfl⟩
 obtain ⟨b, hb⟩ : ∃ b, baseI chars dir = b := ⟨_, rfl⟩
 have hb2 : b = 0 ∨ b = 1 := hb ▸ base_two chars dir
 have hE : Emb f b (lvs f b) (xcls f b) := emb_of (hf ▸ clsL_range chars) hb2
 have hfl : f.length = chars.length := by rw [← hf, clsL_length]
 unfold laidI
 rw [hf, hb]
 have hst : (lvs f b, xcls f b).1.length = (lvs f b, xcls f b).2.length := hE.ll.trans hE.lc.symm
 have hq1 : q < (lvs f b, xcls f b).1.length := by show q < (lvs f b).length; rw [hE.ll]; omega
 rcases layN_at chars (xcls f b) (seqsI f (lvs f b) b) (lvs f b, xcls f b) hst q hq1 _ (Nat.le_refl _) with ⟨h1, h2, h3⟩ | ⟨s, hs, k, hk, hp, he, hv⟩
 ·refine ⟨fun ho => ?_, fun _ => ⟨h1, h2⟩⟩
  obtain ⟨m, hm, j, hj, hpl⟩ := place_of hE.ll.symm b (by omega) ho
  exact absurd (by rw [hpl]; simp) (h3 m hm hm j hj)
 ·obtain ⟨q', h4, h5, h6⟩ := place_in hE.ll.symm b hs hk
  have hqq : q' = q := by rw [h4] at hp; simpa using hp
  subst hqq
  refine ⟨fun _ => ?_, fun ho => by rw [h6] at ho; cases ho⟩
  rw [hv, he]
  have hl := seq_level hE hs hk
  exact due_of (by omega) hl.1 hl.2 (seqE_fin (seq_free hE hs) hk)
theorem fill_at (first : List Int) (base : Int) (l : List Int) (hl : l.length = first.length) (hb : base ≤ 126) (hbd : ∀ q, q < first.length → base ≤ l.getD q 0 ∧ l.getD q 0 ≤ 126) : ∀ k, k ≤ first.length → ∀ q, q < first.length →
 (base ≤ (fillN first base l k).getD q 0 ∧ (fillN first base l k).getD q 0 ≤ 126) ∧ (isOut (first.getD q 0) = false → (fillN first base l k).getD q 0 = l.getD q 0)
 | 0, _, q, hq => ⟨hbd q hq, fun _ => rfl⟩
 | k + 1, hk, q, hq => by
  have ih := fill_at first base l hl hb hbd k (by omega)
  rw [fillN]
  split
  ·rename_i ho
   rw [getD_set, fillN_length]
   by_cases he : k = q
   ·subst he
    rw [if_pos ⟨rfl, by omega⟩]
    refine ⟨?_, fun hn => by rw [ho] at hn; cases hn⟩
    split
    ·omega
    ·exact (ih (k - 1) (by omega)).1
   ·rw [if_neg (fun x => he x.1)]
    exact ih q hq
  ·exact ih q hq
theorem xcls_out (chars : List Int) (dir : Int) {q : Nat} (hq : q < chars.length) : isOut ((xcls (clsL chars) (baseI chars dir)).getD q 0) = isOut ((clsL chars).getD q 0) :=
 (emb_of (clsL_range chars) (base_two chars dir)).out q (by rw [clsL_length]; exact hq)
theorem laid_length (chars : List Int) (dir : Int) : (laidI chars dir).1.length = chars.length ∧ (laidI chars dir).2.length = chars.length := by
 have hE := emb_of (clsL_range chars) (base_two chars dir)
 unfold laidI
 rw [(layN_length _ _ _ _ _).1, (layN_length _ _ _ _ _).2]
 exact ⟨hE.ll.trans (clsL_length chars), hE.lc.trans (clsL_length chars)⟩
theorem levI_length (chars : List Int) (dir : Int) : (levI chars dir).length = chars.length := by rw [levI, fillN_length, (laid_length chars dir).1]
theorem lclsI_length (chars : List Int) (dir : Int) : (lclsI chars dir).length = chars.length := (laid_length chars dir).2
theorem level_bounds (chars : List Int) (dir : Int) {q : Nat} (hq : q < chars.length) :
 (baseI chars dir ≤ (levI chars dir).getD q 0 ∧ (levI chars dir).getD q 0 ≤ 126) ∧ isOut ((lclsI chars dir).getD q 0) = isOut ((clsL chars).getD q 0) ∧
 (isOut ((clsL chars).getD q 0) = false → Due (baseI chars dir) ((levI chars dir).getD q 0) ((lclsI chars dir).getD q 0)) := by
 have hb := base_two chars dir
 have hcl := clsL_length chars
 have hE := emb_of (clsL_range chars) hb
 have hbd : ∀ q, q < (clsL chars).length → baseI chars dir ≤ (laidI chars dir).1.getD q 0 ∧ (laidI chars dir).1.getD q 0 ≤ 126 := fun q hq => by
  obtain ⟨h1, h2⟩ := laid_at chars dir (show q < chars.length by omega)
  cases ho : isOut ((clsL chars).getD q 0) with
  | false => exact ⟨(h1 ho).low, (h1 ho).high⟩
  | true =>
   rw [(h2 ho).1]
   have := hE.lev q hq
   omega
 obtain ⟨f1, f2⟩ := fill_at (clsL chars) (baseI chars dir) (laidI chars dir).1 (by rw [(laid_length chars dir).1, hcl]) (by omega) hbd chars.length (by omega) q (by omega)
 obtain ⟨h1, h2⟩ := laid_at chars dir hq
 refine ⟨f1, ?_, fun ho => ?_⟩
 ·cases ho : isOut ((clsL chars).getD q 0) with
  | true =>
   rw [lclsI, (h2 ho).2, xcls_out chars dir hq, ho]
  | false =>
   have := (h1 ho).fin
   rw [lclsI]
   rcases this with e | e | e | e <;> rw [e] <;> decide
 ·rw [levI, f2 ho]
  exact h1 ho
end Go.Proofs.YtcbaahlahohfmaaGreatDoor
namespace Go.Proofs.YtcbaahlahohfmaaGreatDoor
open Go.RowKit Reckon
def putN (l at_ told : List Int) : Nat → List Int
 | 0 => l
 | k + 1 => (putN l at_ told k).set (at_.getD k 0).toNat (told.getD k 0)
theorem putN_length (l at_ told : List Int) : ∀ k, (putN l at_ told k).length = l.length
 | 0 => rfl
 | k + 1 => by rw [putN, List.length_set]; exact putN_length l at_ told k
theorem nLevelsI_length (l : List Int) (lev : Int) : (nLevelsI l lev).length = l.length := by simp [nLevelsI]
theorem layK_put (lev : Int) (at_ es : List Int) (st : List Int × List Int) : ∀ k, k ≤ es.length → layK lev at_ es st k = (putN st.1 at_ (nLevelsI es lev) k, putN st.2 at_ es k)
 | 0, _ => rfl
 | k + 1, h => by
  have e : (nLevelsI es lev).getD k 0 = nLevelI (es.getD k 0) lev := by
   simp [nLevelsI, List.getD_eq_getElem?_getD, List.getElem?_eq_getElem (show k < es.length by omega)]
  rw [layK, layK_put lev at_ es st k (by omega), putN, putN, e]
theorem fillN_congr (f g : List Int) (base : Int) (l : List Int) : ∀ k, (∀ q, q < k → isOut (f.getD q 0) = isOut (g.getD q 0)) → fillN f base l k = fillN g base l k
 | 0, _ => rfl
 | k + 1, h => by rw [fillN, fillN, fillN_congr f g base l k fun q hq => h q (by omega), h k (by omega)]
theorem flat_le {α : Type} (x : List α) : ∀ L : List (List α), x ∈ L → x.length ≤ L.flatten.length
 | [], h => by cases h
 | y :: L, h => by
  rw [List.flatten_cons, List.length_append]
  rcases List.mem_cons.1 h with rfl | h
  ·omega
  ·have := flat_le x L h; omega
theorem seq_le {cl lv : List Int} (he : cl.length = lv.length) (base : Int) : ∀ s ∈ seqsI cl lv base, s.pl.length ≤ cl.length := fun s hs => by
 have h1 := flat_le s.pl ((seqsI cl lv base).map (·.pl)) (List.mem_map.2 ⟨s, hs, rfl⟩)
 have h2 := (seqs_perm he base).length_eq
 have h3 : (seenI cl).length ≤ cl.length := seenN_le cl cl.length
 omega
theorem seqs_count (cl lv : List Int) (base : Int) : (seqsI cl lv base).length ≤ cl.length := Nat.le_trans (seqsN_le _ _ _ _ _ _) (listsI_le cl lv).1
def aheadF (cl : List Int) (base : Int) (l : List Int) (k : Nat) : Int := if k = 0 then base else (fillN cl base l k).getD (k - 1) 0
theorem aheadF_next (cl : List Int) (base : Int) (l : List Int) (k : Nat) : aheadF cl base l (k + 1) = (fillN cl base l (k + 1)).getD k 0 := by rw [aheadF, if_neg (by omega)]; rfl
theorem fillN_out {cl : List Int} {base : Int} {l : List Int} {k : Nat} (h : isOut (cl.getD k 0) = true) : fillN cl base l (k + 1) = (fillN cl base l k).set k (aheadF cl base l k) := by rw [fillN, if_pos h]; rfl
theorem fillN_in {cl : List Int} {base : Int} {l : List Int} {k : Nat} (h : isOut (cl.getD k 0) = false) : fillN cl base l (k + 1) = fillN cl base l k := by rw [fillN, if_neg (by rw [h]; exact Bool.false_ne_true)]
theorem most_succ (l : List Int) {k : Nat} (h0 : 0 < k) (h : k < l.length) : mostI (l.take (k + 1)) = max (mostI (l.take k)) l[k] := by
 cases l with
 | nil => simp at h
 | cons a l =>
  obtain ⟨j, rfl⟩ : ∃ j, k = j + 1 := ⟨k - 1, by omega⟩
  have hj : j < l.length := by simpa using h
  rw [List.take_succ_cons, List.take_succ_cons, mostI, mostI, take_snoc l j hj, List.foldl_append]
  rfl
theorem whole_take (l : List Int) (h : ∀ j (hj : j < l.length), l[j] = l[0]'(by omega)) : wholeI l = true := by
 rw [wholeI, List.all_eq_true]
 intro x hx
 obtain ⟨j, hj, rfl⟩ := List.mem_iff_getElem.1 hx
 rw [h j hj]
 cases l with
 | nil => simp at hj
 | cons a l => simp
theorem whole_not (l : List Int) {j : Nat} (hj : j < l.length) (h : l[j] ≠ l[0]'(by omega)) : wholeI l = false := by
 cases l with
 | nil => simp at hj
 | cons a l =>
  cases hw : wholeI (a :: l) with
  | false => rfl
  | true =>
   rw [wholeI, List.all_eq_true] at hw
   have := hw _ (List.getElem_mem hj)
   simp only [List.headD_cons, beq_iff_eq] at this
   exact absurd this h
theorem layK_not (lev : Int) (at_ es : List Int) (st : List Int × List Int) (q : Nat) : ∀ k, (∀ j, j < k → (at_.getD j 0).toNat ≠ q) → (layK lev at_ es st k).2.getD q 0 = st.2.getD q 0
 | 0, _ => rfl
 | k + 1, h => by
  rw [layK, getD_set, if_neg (fun x => h k (by omega) x.1)]
  exact layK_not lev at_ es st q k fun j hj => h j (by omega)
theorem layN_not (chars xc : List Int) (seqs : List Sq) (st : List Int × List Int) (q : Nat) : ∀ n, n ≤ seqs.length → (∀ m (h : m < seqs.length), m < n → ∀ j, j < seqs[m].pl.length → (seqs[m].pl.getD j 0).toNat ≠ q) →
 (layN chars xc seqs st n).2.getD q 0 = st.2.getD q 0
 | 0, _, _ => rfl
 | n + 1, hn, h => by
  have hs : seqs[n]? = some (seqs[n]'(by omega)) := List.getElem?_eq_getElem (by omega)
  rw [layN, hs]
  simp only
  rw [layK_not _ _ _ _ q _ (h n (by omega) (by omega))]
  exact layN_not chars xc seqs st q n (by omega) fun m hm hmn => h m hm (by omega)
theorem layN_next (chars xc : List Int) {seqs : List Sq} (st : List Int × List Int) {n : Nat} (h : n < seqs.length) : layN chars xc seqs st (n + 1) = layK seqs[n].lev seqs[n].pl (seqE chars xc seqs[n]) (layN chars xc seqs st n) seqs[n].pl.length := by
 rw [layN, List.getElem?_eq_getElem h]
theorem seen_once (cl : List Int) : (seenI cl).Nodup := by
 unfold List.Nodup
 rw [seenI, seenN, List.pairwise_map]
 exact (List.pairwise_lt_range.filter _).imp fun h e => by omega
theorem seqs_apart {cl lv : List Int} (he : cl.length = lv.length) (base : Int) {m n : Nat} (hm : m < (seqsI cl lv base).length) (hn : n < (seqsI cl lv base).length) (hmn : m < n) : ∀ x ∈ (seqsI cl lv base)[m].pl, ∀ y ∈ (seqsI cl lv base)[n].pl, x ≠ y := by
 have h1 : (((seqsI cl lv base).map (·.pl)).flatten).Nodup := (seqs_perm he base).nodup_iff.2 (seen_once cl)
 have h2 := (List.pairwise_flatten.1 h1).2
 rw [List.pairwise_map] at h2
 exact List.pairwise_iff_getElem.1 h2 m n hm hn hmn
theorem pick_later {cl lv : List Int} (he : cl.length = lv.length) (base : Int) (chars xc : List Int) (st : List Int) {n : Nat} (hn : n < (seqsI cl lv base).length) :
 pickL (layN chars xc (seqsI cl lv base) (st, xc) n).2 (seqsI cl lv base)[n].pl = pickL xc (seqsI cl lv base)[n].pl := by
 unfold pickL
 refine List.map_congr_left fun p hp => ?_
 refine layN_not chars xc _ (st, xc) p.toNat n (by omega) fun m hm hmn j hj => ?_
 have hx := List.getElem_mem hj
 have h1 := seqs_apart he base hm hn hmn _ hx p hp
 obtain ⟨q, h2, -, -⟩ := place_in he base (List.getElem_mem hm) hj
 obtain ⟨i, hi, hpi⟩ := List.mem_iff_getElem.1 hp
 obtain ⟨q', h3, -, -⟩ := place_in he base (List.getElem_mem hn) hi
 rw [getD_at hj] at h2
 rw [getD_at hi, hpi] at h3
 rw [getD_at hj, h2, h3]
 intro e
 exact h1 (by rw [h2, h3]; omega)
end Go.Proofs.YtcbaahlahohfmaaGreatDoor
namespace Go.Proofs.YtcbaahlahohfmaaGreatDoor
open Go.RowKit
theorem grown_of_below {w w' : World} (h : Below w.heap.size w w') (row : Option Nat) : w.grownBy w' row := ⟨h.os, h.tape, h.output, h.size, fun k hk _ => h.block k hk⟩
theorem lies_grown {w w' : World} {g B : Nat} {A : Option Addr} {xs : List Value} (h : Lies w B A xs) (hg : w.grownBy w' (some g)) (hB : B ≤ w.heap.size) (hne : ∀ p, A = some p → p.block ≠ g) : Lies w' B A xs := fun hn => by
 obtain ⟨p, hA, hp, hc⟩ := h hn
 refine ⟨p, hA, hp, fun i u hu => ?_⟩
 rw [World.cell?_of_block (hg.block _ (by rw [add_block]; omega) (by rw [add_block]; exact fun e => hne p hA (Option.some.inj e)))]
 exact hc i u hu
end Go.Proofs.YtcbaahlahohfmaaGreatDoor
