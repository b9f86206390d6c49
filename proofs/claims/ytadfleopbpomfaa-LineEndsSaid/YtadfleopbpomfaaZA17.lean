/- Shared texts, shaken for one claim. -/
import Derived.Maps.RangeWalk
import Derived.Maps.Ext
import Derived.OwnWalk
import Derived.Test.YtadfleopbpomfaaZA1
import Derived.Test.YtadfleopbpomfaaZA3
import Derived.Test.YtadfleopbpomfaaZA4
import Derived.Test.YtadfleopbpomfaaZA7
import Derived.Test.YtadfleopbpomfaaZA13
import Derived.Test.YtadfleopbpomfaaZA15
import Derived.Test.YtadfleopbpomfaaZA16
namespace Go.Proofs.Ytadfleopbpomfaa
open Go.RowKit
theorem split_I {cl lv : List Int} (h : cl.length = lv.length) : ∃ u, Split cl lv (seenI cl) (seenQ cl).length (listsI cl lv) u := by
 obtain ⟨u, hu⟩ := split_lists cl lv (seenI cl) (seenI cl).length
 refine ⟨u, ?_⟩
 rw [listsI, if_pos h, ← seenI_length]
 exact hu
theorem lists_none {cl lv : List Int} (h : cl.length ≠ lv.length) : listsI cl lv = [] := by rw [listsI, if_neg h]
section
variable {cl lv : List Int} {L : List (List Int)} {u : Nat → Nat}
theorem Split.inS (h : Split cl lv (seenI cl) (seenQ cl).length L u) {j : Nat} (hj : j < L.length) {t : Nat} (ht : t < L[j].length) : u j + t < (seenQ cl).length := by
 have h1 := h.len j hj
 have h2 := h.mono (i := j + 1) (j := L.length) (by omega) (Nat.le_refl _)
 rw [h.top] at h2
 omega
theorem Split.elem (h : Split cl lv (seenI cl) (seenQ cl).length L u) {j : Nat} (hj : j < L.length) {t : Nat} (ht : t < L[j].length) : L[j][t] = ((seenQ cl)[u j + t]'(h.inS hj ht) : Nat) := by
 rw [h.cell j hj t ht, seenI_getD]
 congr 1
 simp [h.inS hj ht]
theorem Split.head (h : Split cl lv (seenI cl) (seenQ cl).length L u) {j : Nat} (hj : j < L.length) : ∃ hx : u j < (seenQ cl).length, headI L[j] = ((seenQ cl)[u j] : Nat) := by
 have hp := h.pos j hj
 have h1 := h.inS hj hp
 refine ⟨by simpa using h1, ?_⟩
 have h2 := h.elem hj hp
 rw [headI, show L[j].getD 0 0 = L[j][0] by simp [hp], h2]
 simp
theorem Split.last (h : Split cl lv (seenI cl) (seenQ cl).length L u) {j : Nat} (hj : j < L.length) : ∃ hx : u (j + 1) - 1 < (seenQ cl).length, lastI L[j] = ((seenQ cl)[u (j + 1) - 1] : Nat) := by
 have hp := h.pos j hj
 have hl := h.len j hj
 have ht : L[j].length - 1 < L[j].length := by omega
 have h1 := h.inS hj ht
 have he : u j + (L[j].length - 1) = u (j + 1) - 1 := by omega
 have h2 := h.elem hj ht
 simp only [he] at h1 h2
 exact ⟨h1, by rw [lastI, show L[j].getD (L[j].length - 1) 0 = L[j][L[j].length - 1] by simp [List.getElem?_eq_getElem ht], h2]⟩
end
theorem within_I (cl lv : List Int) : Within (listsI cl lv) cl.length := by
 by_cases h : cl.length = lv.length
 ·obtain ⟨u, hu⟩ := split_I h
  intro r hr
  obtain ⟨j, hj, rfl⟩ := List.mem_iff_getElem.1 hr
  refine ⟨List.length_pos_iff.1 (hu.pos j hj), (listsI_le cl lv).2 _ hr, fun x hx => ?_⟩
  obtain ⟨t, ht, rfl⟩ := List.mem_iff_getElem.1 hx
  exact ⟨_, hu.elem hj ht, (seenQ_at cl (hu.inS hj ht)).1⟩
 ·rw [lists_none h]
  intro r hr; simp at hr
theorem mt_length (cl : List Int) : (mt cl).length = cl.length := by simp [mt]
theorem mt_at (cl : List Int) {q : Nat} (h : q < cl.length) : (mt cl).getD q 0 = mf cl q := by
 simp [mt, listOf, h]
theorem at0_getD (l : List Int) (q : Nat) : l.getD q 0 = at0 l q := rfl
theorem firstAt_range (L : List (List Int)) (x : Int) : firstAt L x = -1 ∨ ∃ k : Nat, firstAt L x = k ∧ ∃ h : k < L.length, headI L[k] = x := by
 unfold firstAt
 cases hf : (List.range L.length).find? (fun k => headI (L.getD k []) == x) with
 | none => exact .inl rfl
 | some k =>
  have h1 := List.mem_range.1 (List.mem_of_find?_eq_some hf)
  have h2 := List.find?_some hf
  exact .inr ⟨k, rfl, h1, by simpa [h1] using h2⟩
structure Goes (cl : List Int) (L : List (List Int)) (i k p q : Nat) : Prop where
 il : i < L.length
 kl : k < L.length
 ik : i < k
 last : lastI (L.getD i []) = p
 head : headI (L.getD k []) = q
 pl : p < cl.length
 op : isOpens (at0 cl p) = true
 mate : Mate cl (mrun cl cl.length).1 (mf cl) cl.length p q
theorem next_goes {cl lv : List Int} {u : Nat → Nat} {L : List (List Int)} (h : Split cl lv (seenI cl) (seenQ cl).length L u) {i : Nat} (hi : i < L.length) :
 nextI cl (mt cl) L i = -1 ∨ ∃ k p q : Nat, nextI cl (mt cl) L i = k ∧ Goes cl L i k p q := by
 obtain ⟨hx, hl⟩ := h.last hi
 have hg : L.getD i [] = L[i] := by simp [hi]
 have hp := (seenQ_at cl hx).1
 unfold nextI
 rw [hg, hl, Int.toNat_natCast, at0_getD, mt_at cl hp]
 split
 ·exact .inl rfl
 ·rename_i hn
  rcases firstAt_range L (mf cl (seenQ cl)[u (i + 1) - 1]) with h1 | ⟨k, hk, hkl, he⟩
  ·exact .inl h1
  ·have ho : isOpens (at0 cl (seenQ cl)[u (i + 1) - 1]) = true := by
    cases hh : isOpens (at0 cl (seenQ cl)[u (i + 1) - 1]) with
    | true => rfl
    | false => exact absurd (.inl hh) hn
   have hm : ¬ mf cl (seenQ cl)[u (i + 1) - 1] < 0 := fun hh => hn (.inr hh)
   rcases (minv cl cl.length (Nat.le_refl _)).op _ hp ho with h2 | ⟨b, hb⟩
   ·exact absurd (by rw [show mf cl _ = -1 from h2]; decide) hm
   ·have hfa : mf cl (seenQ cl)[u (i + 1) - 1] = (b : Int) := hb.fa
    obtain ⟨hy, hh⟩ := h.head hkl
    rw [hh, hfa] at he
    have he' : (seenQ cl)[u k] = b := by omega
    have hlt : u (i + 1) - 1 < u k := seenQ_lt cl hx hy (by rw [he']; exact hb.lt)
    have hik : i < k := by
     apply Classical.byContradiction
     intro hc
     have h3 := h.mono (i := k) (j := i) (by omega) (by omega)
     have h4 := h.lt (i := i) (j := i + 1) (by omega) (by omega)
     omega
    refine .inr ⟨k, (seenQ cl)[u (i + 1) - 1], b, hk, hi, hkl, hik, by rw [hg, hl], ?_, hp, ho, hb⟩
    rw [show L.getD k [] = L[k] by simp [hkl], hh, he']
def chainN (cl m : List Int) (L : List (List Int)) : Nat → Int → List Int
 | 0, _ => []
 | f + 1, k => if k < 0 then [] else L.getD k.toNat [] ++ chainN cl m L f (nextI cl m L k.toNat)
def Onward (cl m : List Int) (L : List (List Int)) : Prop := ∀ i, i < L.length → nextI cl m L i = -1 ∨ ∃ k : Nat, nextI cl m L i = k ∧ i < k ∧ k < L.length
theorem onward_I (cl lv : List Int) : Onward cl (mt cl) (listsI cl lv) := by
 intro i hi
 by_cases h : cl.length = lv.length
 ·obtain ⟨u, hu⟩ := split_I h
  rcases next_goes hu hi with h1 | ⟨k, p, q, h1, h2⟩
  ·exact .inl h1
  ·exact .inr ⟨k, h1, h2.ik, h2.kl⟩
 ·rw [lists_none h] at hi; simp at hi
theorem chainN_none (cl m : List Int) (L : List (List Int)) (f : Nat) : chainN cl m L f (-1) = [] := by cases f <;> rfl
theorem chainN_more {cl m : List Int} {L : List (List Int)} (h : Onward cl m L) : ∀ (f g k : Nat), k < L.length → L.length ≤ k + f → L.length ≤ k + g → chainN cl m L f k = chainN cl m L g k := by
 intro f
 induction f with
 | zero => intro g k hk hf; omega
 | succ f ih =>
  intro g k hk hf hg
  cases g with
  | zero => omega
  | succ g =>
   simp only [chainN]
   rw [if_neg (by omega), if_neg (by omega), Int.toNat_natCast]
   rcases h k hk with h1 | ⟨k', h1, h2, h3⟩
   ·rw [h1, chainN_none, chainN_none]
   ·rw [h1, ih g k' h3 (by omega) (by omega)]
def chainI (cl m : List Int) (L : List (List Int)) (k : Nat) : List Int := chainN cl m L L.length k
theorem chainI_step {cl m : List Int} {L : List (List Int)} (h : Onward cl m L) {k : Nat} (hk : k < L.length) :
 (nextI cl m L k = -1 ∧ chainI cl m L k = L.getD k []) ∨ ∃ k' : Nat, nextI cl m L k = k' ∧ k < k' ∧ k' < L.length ∧ chainI cl m L k = L.getD k [] ++ chainI cl m L k' := by
 obtain ⟨n, hn⟩ : ∃ n, L.length = n + 1 := ⟨L.length - 1, by omega⟩
 have hc : chainI cl m L k = L.getD k [] ++ chainN cl m L n (nextI cl m L k) := by
  rw [chainI, hn, chainN, if_neg (by omega), Int.toNat_natCast]
 rcases h k hk with h1 | ⟨k', h1, h2, h3⟩
 ·exact .inl ⟨h1, by rw [hc, h1, chainN_none, List.append_nil]⟩
 ·refine .inr ⟨k', h1, h2, h3, ?_⟩
  rw [hc, h1, chainI, chainN_more h n L.length k' h3 (by omega) (by omega)]
theorem chainI_len {cl m : List Int} {L : List (List Int)} (h : Onward cl m L) {B : Nat} (hB : ∀ r ∈ L, r.length ≤ B) : ∀ d k, k < L.length → L.length - k ≤ d → (chainI cl m L k).length ≤ d * B := by
 intro d
 induction d with
 | zero => intro k hk hd; omega
 | succ d ih =>
  intro k hk hd
  have h1 : (L.getD k []).length ≤ B := by
   rw [show L.getD k [] = L[k] by simp [hk]]; exact hB _ (List.getElem_mem hk)
  have h2 : (d + 1) * B = d * B + B := by rw [Nat.add_mul, Nat.one_mul]
  rcases chainI_step h hk with ⟨_, e⟩ | ⟨k', _, hlt, hkl, e⟩
  ·rw [e]; omega
  ·rw [e, List.length_append]
   have := ih k' hkl (by omega)
   omega
structure Sq where
 pl : List Int
 lev : Int
 sos : Int
 eos : Int
 deriving DecidableEq
def goneN (cl m : List Int) (L : List (List Int)) (k j : Nat) : Bool := (List.range k).any fun i => nextI cl m L i == (j : Int)
theorem goneN_succ (cl m : List Int) (L : List (List Int)) (k j : Nat) : goneN cl m L (k + 1) j = (goneN cl m L k j || nextI cl m L k == (j : Int)) := by
 unfold goneN
 rw [List.range_succ, List.any_append]
 simp
def sqOf (cl lv : List Int) (base : Int) (pl : List Int) : Sq := ⟨pl, lv.getD (headI pl).toNat 0, sosI cl lv pl (lv.getD (headI pl).toNat 0) base, eosI cl lv pl base⟩
def seqsN (cl lv m : List Int) (base : Int) (L : List (List Int)) : Nat → List Sq
 | 0 => []
 | k + 1 => if goneN cl m L L.length k then seqsN cl lv m base L k else seqsN cl lv m base L k ++ [sqOf cl lv base (chainI cl m L k)]
def seqsI (cl lv : List Int) (base : Int) : List Sq := seqsN cl lv (mt cl) base (listsI cl lv) (listsI cl lv).length
theorem seqsN_le (cl lv m : List Int) (base : Int) (L : List (List Int)) : ∀ k, (seqsN cl lv m base L k).length ≤ k := by
 intro k
 induction k with
 | zero => exact Nat.le_refl _
 | succ k ih =>
  rw [seqsN]
  split
  ·omega
  ·rw [List.length_append, List.length_singleton]; omega
end Go.Proofs.Ytadfleopbpomfaa
namespace Go.Proofs.Ytadfleopbpomfaa
open Go.RowKit
def sdB (k : Int) : Int := if k = 0 then 0 else if k = 1 ∨ k = 3 ∨ k = 6 then 1 else -1
theorem rside10_any (k : Int) (w : World) : Calls Try.prog 60 #[.int .i64 k] w fun e w' => e = .returned (.int .i64 (sdB k)) ∧ w = w' := by
 obtain ⟨z, hz⟩ : ∃ z, sdB k = z := ⟨_, rfl⟩
 have HZ := Lib.hid hz
 rw [hz]
 clear hz
 rcases e0 : (k == 0) with _ | _
 ·rcases e1 : (k == 1) with _ | _
  ·rcases e3 : (k == 3) with _ | _
   ·rcases e6 : (k == 6) with _ | _
    ·have HF : Hid (z = -1) := Lib.hid (by rw [← HZ.out, sdB, if_neg (by simpa using e0), if_neg (by simp at e1 e3 e6; omega)])
     go_enter Try.func60, Try.ntmps60
     go_wp2
     go_ret
     exact ⟨ret_int HF.out.symm, rfl⟩
    ·have HF : Hid (z = 1) := Lib.hid (by rw [← HZ.out, sdB, if_neg (by simpa using e0), if_pos (by simp at e1 e3 e6; omega)])
     go_enter Try.func60, Try.ntmps60
     go_wp2
     go_ret
     exact ⟨ret_int HF.out.symm, rfl⟩
   ·have HF : Hid (z = 1) := Lib.hid (by rw [← HZ.out, sdB, if_neg (by simpa using e0), if_pos (by simp at e1 e3; omega)])
    go_enter Try.func60, Try.ntmps60
    go_wp2
    go_ret
    exact ⟨ret_int HF.out.symm, rfl⟩
  ·have HF : Hid (z = 1) := Lib.hid (by rw [← HZ.out, sdB, if_neg (by simpa using e0), if_pos (by simp at e1; omega)])
   go_enter Try.func60, Try.ntmps60
   go_wp2
   go_ret
   exact ⟨ret_int HF.out.symm, rfl⟩
 ·have HF : Hid (z = 0) := Lib.hid (by rw [← HZ.out, sdB, if_pos (by simpa using e0)])
  go_enter Try.func60, Try.ntmps60
  go_wp2
  go_ret
  exact ⟨ret_int HF.out.symm, rfl⟩
def hasS (s : Int) (l : List Int) (a b : Nat) : Bool := ((l.take b).drop a).any fun c => sdB c == s
theorem hasS_begin (s : Int) (l : List Int) (a : Nat) : hasS s l a a = false := by
 unfold hasS
 rw [List.drop_of_length_le (by simp; omega)]; rfl
theorem hasS_none (s : Int) (l : List Int) {a b : Nat} (h : b ≤ a) : hasS s l a b = false := by
 unfold hasS
 rw [List.drop_of_length_le (by simp; omega)]; rfl
theorem hasS_next (s : Int) (l : List Int) (a b : Nat) (h : a ≤ b) (hb : b < l.length) : hasS s l a (b + 1) = (hasS s l a b || sdB l[b] == s) := by
 unfold hasS
 rw [List.take_succ_eq_append_getElem hb, List.drop_append_of_le_length (by simp; omega), List.any_append]
 simp
def lowB (f : Int) : Nat := (max 0 f).toNat
def highB (l : List Int) (t : Int) : Nat := (min t l.length).toNat
def hasL (l : List Int) (f t : Int) : Bool := hasS 0 l (lowB f) (highB l t)
def hasR (l : List Int) (f t : Int) : Bool := hasS 1 l (lowB f) (highB l t)
set_option maxHeartbeats 4000000 in
theorem rsides10_any (A : Option Addr) (l : List Int) (c : Nat) (f t : Int) (w : World) (h : Lies w w.heap.size A (ints .i64 l)) (hl : l.length ≤ 1000000) (hf : -9223372036854775808 ≤ f ∧ f ≤ 9223372036854775807) :
 Calls Try.prog 59 #[.slice A l.length c, .int .i64 f, .int .i64 t] w fun e w' => e = .returned (.tuple #[.bool (hasL l f t), .bool (hasR l f t)]) ∧ w = w' := by
 have H := Lib.hid h
 obtain ⟨z0, hz0⟩ : ∃ z, hasL l f t = z := ⟨_, rfl⟩
 obtain ⟨z1, hz1⟩ : ∃ z, hasR l f t = z := ⟨_, rfl⟩
 have Z0 := Lib.hid hz0
 have Z1 := Lib.hid hz1
 rw [hz0, hz1]
 obtain ⟨a, ha⟩ : ∃ a, lowB f = a := ⟨_, rfl⟩
 have HA := Lib.hid ha
 have haf : (a : Int) = max 0 f := by rw [← ha, lowB]; omega
 clear h hz0 hz1 ha
 rcases Decidable.em (0 < f) with h1 | h1
 ·rcases Decidable.em ((l.length : Int) < t) with h2 | h2
  ·have TT := trivial
   go_enter Try.func59, Try.ntmps59
   go_wp2_with fail
   go_loopw [10, 8, 9] (fun iv lv rv wr => ∃ i : Nat, (a = i ∨ i ≤ highB l t) ∧ a ≤ i ∧ iv = .int .i64 i ∧ lv = .bool (hasS 0 l a i) ∧ rv = .bool (hasS 1 l a i) ∧ wr = w) (fun iv _ _ _ => l.length - (intOf iv).toNat)
   case atStart => exact ⟨a, .inl rfl, Nat.le_refl _, by rw [show (a : Int) = f by omega], by rw [hasS_begin], by rw [hasS_begin], rfl⟩
   case round =>
    obtain ⟨i, hi, hia, rfl, rfl, rfl, rfl⟩ := hrel
    obtain ⟨lb, hlb⟩ : ∃ z, hasS 0 l a i = z := ⟨_, rfl⟩
    obtain ⟨rb, hrb⟩ : ∃ z, hasS 1 l a i = z := ⟨_, rfl⟩
    rw [hlb, hrb]
    have HLB := Lib.hid hlb
    have HRB := Lib.hid hrb
    clear hlb hrb
    by_cases hlt : (i : Int) < (l.length : Int)
    ·have hil : i < l.length := by omega
     obtain ⟨p, hp, _, hc⟩ := H.out.int hil
     subst hp
     obtain ⟨x, hx⟩ : ∃ x, l[i] = x := ⟨_, rfl⟩
     rw [hx] at hc
     have HX := Lib.hid hx
     have HL := Lib.hid (hasS_next 0 l a i hia hil)
     have HR := Lib.hid (hasS_next 1 l a i hia hil)
     have b0 : (0 : Int) ≤ (i : Int) := by omega
     have b1 : (i : Int) < (l.length : Int) := by omega
     have hdd : decide ((i : Int) < (l.length : Int)) = true := by simpa using hlt
     clear hx
     rcases lb with _ | _
     ·rcases rb with _ | _
      ·have TT := trivial
       go_wp2_with fail
       refine (rside10_any x _).mono ?_
       rintro e wq ⟨rfl, rfl⟩
       go_wp2_with fail
       refine (rside10_any x _).mono ?_
       rintro e wq ⟨rfl, rfl⟩
       go_wp2_with fail
       go_roundw
       case rel => exact ⟨i + 1, by first | exact .inr (by unfold highB; omega) | omega, by omega, by go_num, by rw [HL.out, HLB.out, HX.out]; first | rfl | simp, by rw [HR.out, HRB.out, HX.out]; first | rfl | simp, by first | rfl | trivial⟩
       case measure => simp [intOf]; omega
      ·have TT := trivial
       go_wp2_with fail
       refine (rside10_any x _).mono ?_
       rintro e wq ⟨rfl, rfl⟩
       go_wp2_with fail
       go_roundw
       case rel => exact ⟨i + 1, by first | exact .inr (by unfold highB; omega) | omega, by omega, by go_num, by rw [HL.out, HLB.out, HX.out]; first | rfl | simp, by rw [HR.out, HRB.out, HX.out]; first | rfl | simp, by first | rfl | trivial⟩
       case measure => simp [intOf]; omega
     ·rcases rb with _ | _
      ·have TT := trivial
       go_wp2_with fail
       refine (rside10_any x _).mono ?_
       rintro e wq ⟨rfl, rfl⟩
       go_wp2_with fail
       go_roundw
       case rel => exact ⟨i + 1, by first | exact .inr (by unfold highB; omega) | omega, by omega, by go_num, by rw [HL.out, HLB.out, HX.out]; first | rfl | simp, by rw [HR.out, HRB.out, HX.out]; first | rfl | simp, by first | rfl | trivial⟩
       case measure => simp [intOf]; omega
      ·have TT := trivial
       go_wp2_with fail
       go_roundw
       case rel => exact ⟨i + 1, by first | exact .inr (by unfold highB; omega) | omega, by omega, by go_num, by rw [HL.out, HLB.out, HX.out]; first | rfl | simp, by rw [HR.out, HRB.out, HX.out]; first | rfl | simp, by first | rfl | trivial⟩
       case measure => simp [intOf]; omega
    ·have hdd : decide ((i : Int) < (l.length : Int)) = false := by simpa using hlt
     have HEND : Hid (lb = z0 ∧ rb = z1) := Lib.hid (by
      rw [← HLB.out, ← HRB.out, ← Z0.out, ← Z1.out, hasL, hasR]
      by_cases hab : a ≤ highB l t
      ·have : i = highB l t := by unfold highB at *; omega
       rw [this, HA.out]; exact ⟨rfl, rfl⟩
      ·rw [hasS_none 0 l (by omega), hasS_none 1 l (by omega), hasS_none 0 l (by rw [HA.out]; omega), hasS_none 1 l (by rw [HA.out]; omega)]; exact ⟨rfl, rfl⟩)
     go_wp2_with fail
     go_ret2
     exact ⟨by rw [HEND.out.1, HEND.out.2]; rfl, rfl⟩
  ·have TT := trivial
   go_enter Try.func59, Try.ntmps59
   go_wp2_with fail
   go_loopw [10, 8, 9] (fun iv lv rv wr => ∃ i : Nat, (a = i ∨ i ≤ highB l t) ∧ a ≤ i ∧ iv = .int .i64 i ∧ lv = .bool (hasS 0 l a i) ∧ rv = .bool (hasS 1 l a i) ∧ wr = w) (fun iv _ _ _ => l.length - (intOf iv).toNat)
   case atStart => exact ⟨a, .inl rfl, Nat.le_refl _, by rw [show (a : Int) = f by omega], by rw [hasS_begin], by rw [hasS_begin], rfl⟩
   case round =>
    obtain ⟨i, hi, hia, rfl, rfl, rfl, rfl⟩ := hrel
    obtain ⟨lb, hlb⟩ : ∃ z, hasS 0 l a i = z := ⟨_, rfl⟩
    obtain ⟨rb, hrb⟩ : ∃ z, hasS 1 l a i = z := ⟨_, rfl⟩
    rw [hlb, hrb]
    have HLB := Lib.hid hlb
    have HRB := Lib.hid hrb
    clear hlb hrb
    by_cases hlt : (i : Int) < t
    ·have hil : i < l.length := by omega
     obtain ⟨p, hp, _, hc⟩ := H.out.int hil
     subst hp
     obtain ⟨x, hx⟩ : ∃ x, l[i] = x := ⟨_, rfl⟩
     rw [hx] at hc
     have HX := Lib.hid hx
     have HL := Lib.hid (hasS_next 0 l a i hia hil)
     have HR := Lib.hid (hasS_next 1 l a i hia hil)
     have b0 : (0 : Int) ≤ (i : Int) := by omega
     have b1 : (i : Int) < (l.length : Int) := by omega
     have hdd : decide ((i : Int) < t) = true := by simpa using hlt
     clear hx
     rcases lb with _ | _
     ·rcases rb with _ | _
      ·have TT := trivial
       go_wp2_with fail
       refine (rside10_any x _).mono ?_
       rintro e wq ⟨rfl, rfl⟩
       go_wp2_with fail
       refine (rside10_any x _).mono ?_
       rintro e wq ⟨rfl, rfl⟩
       go_wp2_with fail
       go_roundw
       case rel => exact ⟨i + 1, by first | exact .inr (by unfold highB; omega) | omega, by omega, by go_num, by rw [HL.out, HLB.out, HX.out]; first | rfl | simp, by rw [HR.out, HRB.out, HX.out]; first | rfl | simp, by first | rfl | trivial⟩
       case measure => simp [intOf]; omega
      ·have TT := trivial
       go_wp2_with fail
       refine (rside10_any x _).mono ?_
       rintro e wq ⟨rfl, rfl⟩
       go_wp2_with fail
       go_roundw
       case rel => exact ⟨i + 1, by first | exact .inr (by unfold highB; omega) | omega, by omega, by go_num, by rw [HL.out, HLB.out, HX.out]; first | rfl | simp, by rw [HR.out, HRB.out, HX.out]; first | rfl | simp, by first | rfl | trivial⟩
       case measure => simp [intOf]; omega
     ·rcases rb with _ | _
      ·have TT := trivial
       go_wp2_with fail
       refine (rside10_any x _).mono ?_
       rintro e wq ⟨rfl, rfl⟩
       go_wp2_with fail
       go_roundw
       case rel => exact ⟨i + 1, by first | exact .inr (by unfold highB; omega) | omega, by omega, by go_num, by rw [HL.out, HLB.out, HX.out]; first | rfl | simp, by rw [HR.out, HRB.out, HX.out]; first | rfl | simp, by first | rfl | trivial⟩
       case measure => simp [intOf]; omega
      ·have TT := trivial
       go_wp2_with fail
       go_roundw
       case rel => exact ⟨i + 1, by first | exact .inr (by unfold highB; omega) | omega, by omega, by go_num, by rw [HL.out, HLB.out, HX.out]; first | rfl | simp, by rw [HR.out, HRB.out, HX.out]; first | rfl | simp, by first | rfl | trivial⟩
       case measure => simp [intOf]; omega
    ·have hdd : decide ((i : Int) < t) = false := by simpa using hlt
     have HEND : Hid (lb = z0 ∧ rb = z1) := Lib.hid (by
      rw [← HLB.out, ← HRB.out, ← Z0.out, ← Z1.out, hasL, hasR]
      by_cases hab : a ≤ highB l t
      ·have : i = highB l t := by unfold highB at *; omega
       rw [this, HA.out]; exact ⟨rfl, rfl⟩
      ·rw [hasS_none 0 l (by omega), hasS_none 1 l (by omega), hasS_none 0 l (by rw [HA.out]; omega), hasS_none 1 l (by rw [HA.out]; omega)]; exact ⟨rfl, rfl⟩)
     go_wp2_with fail
     go_ret2
     exact ⟨by rw [HEND.out.1, HEND.out.2]; rfl, rfl⟩
 ·rcases Decidable.em ((l.length : Int) < t) with h2 | h2
  ·have TT := trivial
   go_enter Try.func59, Try.ntmps59
   go_wp2_with fail
   go_loopw [10, 8, 9] (fun iv lv rv wr => ∃ i : Nat, (a = i ∨ i ≤ highB l t) ∧ a ≤ i ∧ iv = .int .i64 i ∧ lv = .bool (hasS 0 l a i) ∧ rv = .bool (hasS 1 l a i) ∧ wr = w) (fun iv _ _ _ => l.length - (intOf iv).toNat)
   case atStart => exact ⟨a, .inl rfl, Nat.le_refl _, by rw [show (a : Int) = 0 by omega], by rw [hasS_begin], by rw [hasS_begin], rfl⟩
   case round =>
    obtain ⟨i, hi, hia, rfl, rfl, rfl, rfl⟩ := hrel
    obtain ⟨lb, hlb⟩ : ∃ z, hasS 0 l a i = z := ⟨_, rfl⟩
    obtain ⟨rb, hrb⟩ : ∃ z, hasS 1 l a i = z := ⟨_, rfl⟩
    rw [hlb, hrb]
    have HLB := Lib.hid hlb
    have HRB := Lib.hid hrb
    clear hlb hrb
    by_cases hlt : (i : Int) < (l.length : Int)
    ·have hil : i < l.length := by omega
     obtain ⟨p, hp, _, hc⟩ := H.out.int hil
     subst hp
     obtain ⟨x, hx⟩ : ∃ x, l[i] = x := ⟨_, rfl⟩
     rw [hx] at hc
     have HX := Lib.hid hx
     have HL := Lib.hid (hasS_next 0 l a i hia hil)
     have HR := Lib.hid (hasS_next 1 l a i hia hil)
     have b0 : (0 : Int) ≤ (i : Int) := by omega
     have b1 : (i : Int) < (l.length : Int) := by omega
     have hdd : decide ((i : Int) < (l.length : Int)) = true := by simpa using hlt
     clear hx
     rcases lb with _ | _
     ·rcases rb with _ | _
      ·have TT := trivial
       go_wp2_with fail
       refine (rside10_any x _).mono ?_
       rintro e wq ⟨rfl, rfl⟩
       go_wp2_with fail
       refine (rside10_any x _).mono ?_
       rintro e wq ⟨rfl, rfl⟩
       go_wp2_with fail
       go_roundw
       case rel => exact ⟨i + 1, by first | exact .inr (by unfold highB; omega) | omega, by omega, by go_num, by rw [HL.out, HLB.out, HX.out]; first | rfl | simp, by rw [HR.out, HRB.out, HX.out]; first | rfl | simp, by first | rfl | trivial⟩
       case measure => simp [intOf]; omega
      ·have TT := trivial
       go_wp2_with fail
       refine (rside10_any x _).mono ?_
       rintro e wq ⟨rfl, rfl⟩
       go_wp2_with fail
       go_roundw
       case rel => exact ⟨i + 1, by first | exact .inr (by unfold highB; omega) | omega, by omega, by go_num, by rw [HL.out, HLB.out, HX.out]; first | rfl | simp, by rw [HR.out, HRB.out, HX.out]; first | rfl | simp, by first | rfl | trivial⟩
       case measure => simp [intOf]; omega
     ·rcases rb with _ | _
      ·have TT := trivial
       go_wp2_with fail
       refine (rside10_any x _).mono ?_
       rintro e wq ⟨rfl, rfl⟩
       go_wp2_with fail
       go_roundw
       case rel => exact ⟨i + 1, by first | exact .inr (by unfold highB; omega) | omega, by omega, by go_num, by rw [HL.out, HLB.out, HX.out]; first | rfl | simp, by rw [HR.out, HRB.out, HX.out]; first | rfl | simp, by first | rfl | trivial⟩
       case measure => simp [intOf]; omega
      ·have TT := trivial
       go_wp2_with fail
       go_roundw
       case rel => exact ⟨i + 1, by first | exact .inr (by unfold highB; omega) | omega, by omega, by go_num, by rw [HL.out, HLB.out, HX.out]; first | rfl | simp, by rw [HR.out, HRB.out, HX.out]; first | rfl | simp, by first | rfl | trivial⟩
       case measure => simp [intOf]; omega
    ·have hdd : decide ((i : Int) < (l.length : Int)) = false := by simpa using hlt
     have HEND : Hid (lb = z0 ∧ rb = z1) := Lib.hid (by
      rw [← HLB.out, ← HRB.out, ← Z0.out, ← Z1.out, hasL, hasR]
      by_cases hab : a ≤ highB l t
      ·have : i = highB l t := by unfold highB at *; omega
       rw [this, HA.out]; exact ⟨rfl, rfl⟩
      ·rw [hasS_none 0 l (by omega), hasS_none 1 l (by omega), hasS_none 0 l (by rw [HA.out]; omega), hasS_none 1 l (by rw [HA.out]; omega)]; exact ⟨rfl, rfl⟩)
     go_wp2_with fail
     go_ret2
     exact ⟨by rw [HEND.out.1, HEND.out.2]; rfl, rfl⟩
  ·have TT := trivial
   go_enter Try.func59, Try.ntmps59
   go_wp2_with fail
   go_loopw [10, 8, 9] (fun iv lv rv wr => ∃ i : Nat, (a = i ∨ i ≤ highB l t) ∧ a ≤ i ∧ iv = .int .i64 i ∧ lv = .bool (hasS 0 l a i) ∧ rv = .bool (hasS 1 l a i) ∧ wr = w) (fun iv _ _ _ => l.length - (intOf iv).toNat)
   case atStart => exact ⟨a, .inl rfl, Nat.le_refl _, by rw [show (a : Int) = 0 by omega], by rw [hasS_begin], by rw [hasS_begin], rfl⟩
   case round =>
    obtain ⟨i, hi, hia, rfl, rfl, rfl, rfl⟩ := hrel
    obtain ⟨lb, hlb⟩ : ∃ z, hasS 0 l a i = z := ⟨_, rfl⟩
    obtain ⟨rb, hrb⟩ : ∃ z, hasS 1 l a i = z := ⟨_, rfl⟩
    rw [hlb, hrb]
    have HLB := Lib.hid hlb
    have HRB := Lib.hid hrb
    clear hlb hrb
    by_cases hlt : (i : Int) < t
    ·have hil : i < l.length := by omega
     obtain ⟨p, hp, _, hc⟩ := H.out.int hil
     subst hp
     obtain ⟨x, hx⟩ : ∃ x, l[i] = x := ⟨_, rfl⟩
     rw [hx] at hc
     have HX := Lib.hid hx
     have HL := Lib.hid (hasS_next 0 l a i hia hil)
     have HR := Lib.hid (hasS_next 1 l a i hia hil)
     have b0 : (0 : Int) ≤ (i : Int) := by omega
     have b1 : (i : Int) < (l.length : Int) := by omega
     have hdd : decide ((i : Int) < t) = true := by simpa using hlt
     clear hx
     rcases lb with _ | _
     ·rcases rb with _ | _
      ·have TT := trivial
       go_wp2_with fail
       refine (rside10_any x _).mono ?_
       rintro e wq ⟨rfl, rfl⟩
       go_wp2_with fail
       refine (rside10_any x _).mono ?_
       rintro e wq ⟨rfl, rfl⟩
       go_wp2_with fail
       go_roundw
       case rel => exact ⟨i + 1, by first | exact .inr (by unfold highB; omega) | omega, by omega, by go_num, by rw [HL.out, HLB.out, HX.out]; first | rfl | simp, by rw [HR.out, HRB.out, HX.out]; first | rfl | simp, by first | rfl | trivial⟩
       case measure => simp [intOf]; omega
      ·have TT := trivial
       go_wp2_with fail
       refine (rside10_any x _).mono ?_
       rintro e wq ⟨rfl, rfl⟩
       go_wp2_with fail
       go_roundw
       case rel => exact ⟨i + 1, by first | exact .inr (by unfold highB; omega) | omega, by omega, by go_num, by rw [HL.out, HLB.out, HX.out]; first | rfl | simp, by rw [HR.out, HRB.out, HX.out]; first | rfl | simp, by first | rfl | trivial⟩
       case measure => simp [intOf]; omega
     ·rcases rb with _ | _
      ·have TT := trivial
       go_wp2_with fail
       refine (rside10_any x _).mono ?_
       rintro e wq ⟨rfl, rfl⟩
       go_wp2_with fail
       go_roundw
       case rel => exact ⟨i + 1, by first | exact .inr (by unfold highB; omega) | omega, by omega, by go_num, by rw [HL.out, HLB.out, HX.out]; first | rfl | simp, by rw [HR.out, HRB.out, HX.out]; first | rfl | simp, by first | rfl | trivial⟩
       case measure => simp [intOf]; omega
      ·have TT := trivial
       go_wp2_with fail
       go_roundw
       case rel => exact ⟨i + 1, by first | exact .inr (by unfold highB; omega) | omega, by omega, by go_num, by rw [HL.out, HLB.out, HX.out]; first | rfl | simp, by rw [HR.out, HRB.out, HX.out]; first | rfl | simp, by first | rfl | trivial⟩
       case measure => simp [intOf]; omega
    ·have hdd : decide ((i : Int) < t) = false := by simpa using hlt
     have HEND : Hid (lb = z0 ∧ rb = z1) := Lib.hid (by
      rw [← HLB.out, ← HRB.out, ← Z0.out, ← Z1.out, hasL, hasR]
      by_cases hab : a ≤ highB l t
      ·have : i = highB l t := by unfold highB at *; omega
       rw [this, HA.out]; exact ⟨rfl, rfl⟩
      ·rw [hasS_none 0 l (by omega), hasS_none 1 l (by omega), hasS_none 0 l (by rw [HA.out]; omega), hasS_none 1 l (by rw [HA.out]; omega)]; exact ⟨rfl, rfl⟩)
     go_wp2_with fail
     go_ret2
     exact ⟨by rw [HEND.out.1, HEND.out.2]; rfl, rfl⟩
end Go.Proofs.Ytadfleopbpomfaa
namespace Go.Proofs.Ytadfleopbpomfaa
open Go.RowKit Go.Maps
def Reads (D : DataW Unit) (M : Int → Option Int) : Prop :=
 IsMap D ∧ ∀ x, match M x with
  | some y => ∀ z, D.atKey (.int .i64 x) z = .lit (.int .i64 y)
  | none => has D (.int .i64 x) = false
theorem Reads.has {D : DataW Unit} {M : Int → Option Int} (h : Reads D M) {x y : Int} (e : M x = some y) : Maps.has D (.int .i64 x) = true := by
 have := h.2 x
 rw [e] at this
 exact has_true_of_atKey this
def MapAt (w : World) (b n : Nat) (M : Int → Option Int) : Prop := ∃ D : DataW Unit, w.ownsMap Try.prog 3 (plainElem Try.prog 3) b n D ∧ Reads D M
section
variable {w w' : World} {b n : Nat} {M M' : Int → Option Int}
theorem MapAt.lt (h : MapAt w b n M) : b < w.heap.size := h.elim fun _ h => h.1.lt
theorem MapAt.kept {row : Option Nat} (h : MapAt w b n M) (hg : w.grownBy w' row) (hb : some b ≠ row) : MapAt w' b n M := h.elim fun D h => ⟨D, h.1.kept hg hb, h.2⟩
theorem MapAt.alloc (h : MapAt w b n M) (o : Obj) : MapAt (w.alloc o) b n M := h.elim fun D h => ⟨D, h.1.alloc o, h.2⟩
theorem MapAt.below (h : MapAt w b n M) {B : Nat} (hb : Below B w w') (_hB : b < B) (hB' : w.heap.size ≤ B) : MapAt w' b n M := by
 refine h.kept (row := none) ⟨hb.os, hb.tape, hb.output, hb.size, fun k hk _ => hb.block k (by omega)⟩ (by simp)
variable {ops : Array Oper} {rest : List Oper} {o : Oper} {a : Act} {Q : Exit → Act → World → Prop}
def Ranging (w : World) (b r n : Nat) (M : Int → Option Int) (left : Int → Bool) (cnt : Nat) : Prop :=
 ∃ (D : DataW Unit) (lf : Lit → Bool), w.ranges Try.prog 3 (plainElem Try.prog 3) b r n D lf cnt ∧ Reads D M ∧ ∀ x, left x = lf (.int .i64 x)
theorem Ranging.kept {r cnt : Nat} {left : Int → Bool} {row : Option Nat} (h : Ranging w b r n M left cnt) (hg : w.grownBy w' row) (hb : some b ≠ row) (hr : some r ≠ row) : Ranging w' b r n M left cnt := by
 obtain ⟨D, lf, h1, h2, h3⟩ := h
 exact ⟨D, lf, h1.kept hg hb hr, h2, h3⟩
theorem Ranging.map {r cnt : Nat} {left : Int → Bool} (h : Ranging w b r n M left cnt) : MapAt w b n M := h.elim fun D ⟨_, h, hR, _⟩ => ⟨D, h.owns, hR⟩
end
end Go.Proofs.Ytadfleopbpomfaa
namespace Go.Proofs.Ytadfleopbpomfaa
open Go.RowKit Go.Maps
def othL : List (Int × Int) → Int → Int × Bool × Bool
 | [], _ => (0, false, false)
 | (a, b) :: r, c => if c = a then (b, true, true) else if c = b then (a, false, true) else othL r c
theorem othL_none : ∀ (l : List (Int × Int)) (c : Int), (∀ p ∈ l, c ≠ p.1 ∧ c ≠ p.2) → othL l c = (0, false, false)
 | [], _, _ => rfl
 | (a, b) :: r, c, h => by
  have h0 := h (a, b) (by simp)
  simp only [othL, if_neg h0.1, if_neg h0.2]
  exact othL_none r c fun p hp => h p (by simp [hp])
def brs : List (Int × Int) := [(40, 41), (91, 93), (123, 125), (9001, 9002), (12296, 12297), (12298, 12299), (12300, 12301), (12302, 12303), (12304, 12305)]
def sgn : List (Int × Int) := [(60, 62), (171, 187), (8804, 8805), (8810, 8811)]
def mrs : List (Int × Int) := brs ++ sgn
theorem ret_3 {a b : Int × Bool × Bool} (h : a = b) : Ending.returned (.tuple #[.int .i64 a.1, .bool a.2.1, .bool a.2.2]) = .returned (.tuple #[.int .i64 b.1, .bool b.2.1, .bool b.2.2]) := by rw [h]
end Go.Proofs.Ytadfleopbpomfaa
namespace Go.Proofs.Ytadfleopbpomfaa
open Go.RowKit Go.Maps
def oth (c : Int) : Int × Bool × Bool := othL brs c
def asB (c : Int) : Int := if c = 9001 then 12296 else if c = 9002 then 12297 else c
theorem rasB_any (c : Int) (w : World) : Calls Try.prog 94 #[.int .i64 c] w fun e w' => e = .returned (.int .i64 (asB c)) ∧ w = w' := by
 by_cases h1 : c = 9001
 ·subst h1
  go_enter Try.func94, Try.ntmps94
  go_wp2
  go_ret
  exact ⟨rfl, rfl⟩
 have d1 : (c == 9001) = false := by simp [h1]
 by_cases h2 : c = 9002
 ·subst h2
  go_enter Try.func94, Try.ntmps94
  go_wp2
  go_ret
  exact ⟨rfl, rfl⟩
 have d2 : (c == 9002) = false := by simp [h2]
 have H1 := Lib.hid h1
 have H2 := Lib.hid h2
 clear h1 h2
 go_enter Try.func94, Try.ntmps94
 go_wp2
 go_ret
 exact ⟨ret_int (by rw [asB, if_neg H1.out, if_neg H2.out]), rfl⟩
def isB (c : Int) : Bool := (oth c).2.2
def sameB (a b : Int) : Bool := isB a && (asB a == asB b)
def othM (c : Int) : Int × Bool × Bool := othL mrs c
def mir (c : Int) : Int := if (othM c).2.2 then (othM c).1 else c
end Go.Proofs.Ytadfleopbpomfaa
namespace Go.Proofs.Ytadfleopbpomfaa
open Go.RowKit Go.Maps
def flat : List (Int × Int) → List Int
 | [] => []
 | (a, b) :: r => a :: b :: flat r
theorem flat_at : ∀ (l : List (Int × Int)) (j : Nat) (h : j < l.length), (flat l)[2 * j]? = some l[j].1 ∧ (flat l)[2 * j + 1]? = some l[j].2
 | (a, b) :: r, 0, _ => ⟨rfl, rfl⟩
 | (a, b) :: r, j + 1, h => by
  have := flat_at r j (by simpa using h)
  rw [show 2 * (j + 1) = 2 * j + 1 + 1 by omega]
  simpa [flat] using this
theorem othL_drop (l : List (Int × Int)) (j : Nat) (h : j < l.length) (c : Int) : othL (l.drop j) c = if c = l[j].1 then (l[j].2, true, true) else if c = l[j].2 then (l[j].1, false, true) else othL (l.drop (j + 1)) c := by
 rw [List.drop_eq_getElem_cons h]
 rfl
theorem rbrackets_any (w : World) : Calls Try.prog 93 #[] w (Rowed w w.heap.size 3 (ints .i64 (flat brs))) := by
 go_enter Try.func93, Try.ntmps93
 go_wp2
 go_ret
 exact rowed_ret (Own.ofLit (w := w) (B := w.heap.size) (e := 3) _ (Nat.le_refl _) (by simp [maxLen])) (below_alloc _ _) (by simp [ints, flat, brs])
def Stands (l : List (Int × Int)) (c : Int) (k : Nat) : Prop := ∃ j, j ≤ l.length ∧ k = 2 * j ∧ othL (l.drop j) c = othL l c
theorem Stands.step {l : List (Int × Int)} {c : Int} {k : Nat} (h : Stands l c k) (hk : k < 2 * l.length) :
 ∃ a b, (flat l)[k]? = some a ∧ (flat l)[k + 1]? = some b ∧ k + 2 ≤ 2 * l.length ∧ othL l c = if c = a then (b, true, true) else if c = b then (a, false, true) else othL (l.drop (k / 2 + 1)) c := by
 obtain ⟨j, _, rfl, hd⟩ := h
 have hj : j < l.length := by omega
 obtain ⟨f1, f2⟩ := flat_at l j hj
 refine ⟨_, _, f1, f2, by omega, ?_⟩
 rw [← hd, othL_drop l j hj c, show 2 * j / 2 + 1 = j + 1 by omega]
theorem Stands.next {l : List (Int × Int)} {c a b : Int} {k : Nat} (h : Stands l c k) (hk : k < 2 * l.length) (e : othL l c = if c = a then (b, true, true) else if c = b then (a, false, true) else othL (l.drop (k / 2 + 1)) c) (h1 : c ≠ a) (h2 : c ≠ b) : Stands l c (k + 2) := by
 obtain ⟨j, _, rfl, hd⟩ := h
 rw [if_neg h1, if_neg h2, show 2 * j / 2 + 1 = j + 1 by omega] at e
 exact ⟨j + 1, by omega, by omega, e.symm⟩
theorem Stands.done {l : List (Int × Int)} {c : Int} {k : Nat} (h : Stands l c k) (hk : ¬ k < 2 * l.length) : othL l c = (0, false, false) := by
 obtain ⟨j, hj, rfl, hd⟩ := h
 rw [← hd, List.drop_of_length_le (by omega)]
 rfl
theorem cells_of {w : World} {B : Nat} {A : Option Addr} {l : List Int} (h : Lies w B A (ints .i64 l)) {i : Nat} {x y : Int} (e : l[i]? = some x) (e' : l[i + 1]? = some y) :
 ∃ b off, A = some ⟨b, off, none⟩ ∧ b < B ∧ w.cell? ⟨b, off + i, none⟩ = some (.int .i64 x) ∧ w.cell? ⟨b, off + (i + 1), none⟩ = some (.int .i64 y) := by
 obtain ⟨hi, rfl⟩ := List.getElem?_eq_some_iff.1 e
 obtain ⟨hi', rfl⟩ := List.getElem?_eq_some_iff.1 e'
 obtain ⟨b, off, hA, hb, hc⟩ := h.plainInts (by omega)
 exact ⟨b, off, hA, hb, hc i hi, hc (i + 1) hi'⟩
set_option maxRecDepth 20000 in
set_option maxHeartbeats 1000000 in
theorem rother_any (c : Int) (w : World) : Calls Try.prog 81 #[.int .i64 c] w fun e w' => e = .returned (.tuple #[.int .i64 (oth c).1, .bool (oth c).2.1, .bool (oth c).2.2]) ∧ Below w.heap.size w w' := by
 go_enter Try.func81, Try.ntmps81
 go_wp2_with fail
 refine (rbrackets_any w).mono ?_
 rintro e w1 ⟨v1, rfl, o1, b1⟩
 obtain ⟨A1, c1, rfl, l1, _, _⟩ := o1.form
 have L1 := Lib.hid l1
 have B1 := Lib.hid b1
 have hlen : (ints .i64 (flat brs)).length = 18 := by decide
 rw [hlen]
 clear o1 l1 b1 hlen
 go_wp2
 go_loopw [6] (fun i wr => ∃ (k : Nat), k ≤ 18 ∧ i = .int .i64 k ∧ Stands brs c k ∧ wr = w1) (fun i _ => 18 - (intOf i).toNat)
 case atStart => exact ⟨0, by omega, rfl, ⟨0, by decide, rfl, rfl⟩, rfl⟩
 case round =>
  obtain ⟨k, hk, rfl, hst, rfl⟩ := hrel
  have HST := Lib.hid hst
  clear hst
  by_cases hlt : k < 18
  ·obtain ⟨a, b, f1, f2, hk2, hs⟩ := HST.out.step hlt
   obtain ⟨blk, off, rfl, _, hc1, hc2⟩ := cells_of L1.out f1 f2
   have HS := Lib.hid hs
   have hk3 : k + 2 ≤ 18 := hk2
   have b0 : (0 : Int) ≤ (k : Int) := by omega
   have b1 : (k : Int) < 18 := by omega
   have b2 : (k : Int) + 1 < 18 := by omega
   clear f1 f2 hs hk2
   by_cases e1 : c = a
   ·have hd : (a == c) = true := by simp [e1]
    have E1 := Lib.hid e1
    clear e1
    go_wp2
    go_ret3
    exact ⟨ret_3 (a := (b, true, true)) (by rw [oth, HS.out, if_pos E1.out]), B1.out⟩
   ·have hd : (a == c) = false := by simp [Ne.symm e1]
    by_cases e2 : c = b
    ·have hd2 : (b == c) = true := by simp [e2]
     have E1 := Lib.hid e1
     have E2 := Lib.hid e2
     clear e1 e2
     go_wp2
     go_ret3
     exact ⟨ret_3 (a := (a, false, true)) (by rw [oth, HS.out, if_neg E1.out, if_pos E2.out]), B1.out⟩
    ·have hd2 : (b == c) = false := by simp [Ne.symm e2]
     have E1 := Lib.hid e1
     have E2 := Lib.hid e2
     clear e1 e2
     go_wp2
     go_roundw
     case rel => exact ⟨k + 2, hk3, by go_num, HST.out.next hlt HS.out E1.out E2.out, by first | rfl | trivial⟩
     case measure => simp [intOf]; omega
  ·go_wp2
   go_ret3
   exact ⟨ret_3 (a := (0, false, false)) (HST.out.done hlt).symm, B1.out⟩
set_option maxRecDepth 20000 in
set_option maxHeartbeats 1000000 in
theorem rsame_any (a b : Int) (w : World) : Calls Try.prog 82 #[.int .i64 a, .int .i64 b] w fun e w' => e = .returned (.bool (isB a && isB b && (asB a == asB b))) ∧ Below w.heap.size w w' := by
 obtain ⟨o, ho⟩ : ∃ o, oth a = o := ⟨_, rfl⟩
 obtain ⟨x, p, k⟩ := o
 have HO := Lib.hid ho
 obtain ⟨o2, ho2⟩ : ∃ o, oth b = o := ⟨_, rfl⟩
 obtain ⟨y, q, m⟩ := o2
 have HO2 := Lib.hid ho2
 clear ho ho2
 obtain ⟨u, hu⟩ : ∃ u, asB a = u := ⟨_, rfl⟩
 obtain ⟨v, hv⟩ : ∃ v, asB b = v := ⟨_, rfl⟩
 have HU := Lib.hid hu
 have HV := Lib.hid hv
 clear hu hv
 go_enter Try.func82, Try.ntmps82
 go_wp2_with fail
 refine (rother_any a w).mono ?_
 rintro e w1 ⟨rfl, b1⟩
 rw [HO.out]
 have B1 := Lib.hid b1
 clear b1
 go_wp2_with fail
 refine (rother_any b w1).mono ?_
 rintro e w2 ⟨rfl, b2⟩
 rw [HO2.out]
 have B2 := Lib.hid (below_then B1.out b2)
 clear b2
 cases k <;> cases m
 all_goals
  go_wp2_with (first
   | (go_at_call 94; refine (rasB_any a _).mono ?_; rintro e w3 ⟨rfl, rfl⟩; rw [HU.out])
   | (go_at_call 94; refine (rasB_any b _).mono ?_; rintro e w3 ⟨rfl, rfl⟩; rw [HV.out]))
  go_ret
  exact ⟨ret_bool (by rw [isB, isB, HO.out, HO2.out, HU.out, HV.out]; simp), B2.out⟩
end Go.Proofs.Ytadfleopbpomfaa
namespace Go.Proofs.Ytadfleopbpomfaa
open Go.RowKit Go.Maps
theorem brs_or (c : Int) : othL brs c = (0, false, false) ∨ ∃ p ∈ brs, c = p.1 ∨ c = p.2 := by
 by_cases h : ∀ p ∈ brs, c ≠ p.1 ∧ c ≠ p.2
 ·exact .inl (othL_none _ _ h)
 ·refine .inr ?_
  false_or_by_contra
  rename_i hn
  exact h fun p hp => ⟨fun e => hn ⟨p, hp, .inl e⟩, fun e => hn ⟨p, hp, .inr e⟩⟩
theorem all_brs {Q : Int → Prop} (h0 : ∀ c, othL brs c = (0, false, false) → Q c) (h1 : ∀ p ∈ brs, Q p.1 ∧ Q p.2) (c : Int) : Q c := by
 rcases brs_or c with h | ⟨p, hp, rfl | rfl⟩
 ·exact h0 c h
 ·exact (h1 p hp).1
 ·exact (h1 p hp).2
theorem oth_facts (c : Int) (h : isB c = true) : (oth (oth c).1).2.2 = true ∧ (oth (oth c).1).1 = c ∧ ((oth c).2.1 != (oth (oth c).1).2.1) = true ∧ mir c = (oth c).1 ∧ sameB c c = true ∧ sameB c (oth c).1 = false := by
 revert h
 refine all_brs (Q := fun c => isB c = true → (oth (oth c).1).2.2 = true ∧ (oth (oth c).1).1 = c ∧ ((oth c).2.1 != (oth (oth c).1).2.1) = true ∧ mir c = (oth c).1 ∧ sameB c c = true ∧ sameB c (oth c).1 = false) (fun c h hb => ?_) (by decide +kernel) c
 rw [isB, oth, h] at hb
 cases hb
theorem isB_asB (c : Int) : isB (asB c) = isB c := by
 by_cases h1 : c = 9001
 ·subst h1; decide +kernel
 by_cases h2 : c = 9002
 ·subst h2; decide +kernel
 rw [asB, if_neg h1, if_neg h2]
theorem isB_of {a b : Int} (h : asB a = asB b) : isB a = isB b := by rw [← isB_asB a, ← isB_asB b, h]
theorem sameB_both (a b : Int) : (isB a && isB b && (asB a == asB b)) = sameB a b := by
 unfold sameB
 by_cases h : asB a = asB b
 ·rw [isB_of h]; simp
 ·have : (asB a == asB b) = false := by simp [h]
  rw [this]; simp
theorem sameB_iff {a b : Int} : sameB a b = true ↔ isB a = true ∧ asB a = asB b := by simp [sameB]
theorem same_facts : ∀ p ∈ brs, ∀ q ∈ brs, ∀ a ∈ [p.1, p.2], ∀ b ∈ [q.1, q.2], sameB a b = true → (oth a).2.1 = (oth b).2.1 ∧ sameB (oth a).1 (oth b).1 = true := by decide +kernel
theorem same_others {a b : Int} (h : sameB a b = true) : (oth a).2.1 = (oth b).2.1 ∧ sameB (oth a).1 (oth b).1 = true := by
 have ha := (sameB_iff.1 h).1
 have hb : isB b = true := by rw [← isB_of (sameB_iff.1 h).2]; exact ha
 rcases brs_or a with h0 | ⟨p, hp, h0⟩
 ·rw [isB, oth, h0] at ha; cases ha
 rcases brs_or b with h1 | ⟨q, hq, h1⟩
 ·rw [isB, oth, h1] at hb; cases hb
 exact same_facts p hp q hq a (by simpa using h0) b (by simpa using h1) h
end Go.Proofs.Ytadfleopbpomfaa
