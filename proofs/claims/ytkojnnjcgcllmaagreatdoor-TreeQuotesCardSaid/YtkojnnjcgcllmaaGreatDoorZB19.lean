/- Shared texts, shaken for one claim. -/
import Derived.Test.YtkojnnjcgcllmaaGreatDoorZB18
namespace Go.Proofs.YtkojnnjcgcllmaaGreatDoor
open Go.RowKit
def quoteT : Nat → List Int → List Tok
 | _, [] => []
 | k, c :: l => (⟨1, c, 0, 0, (k : Int)⟩ : Tok) :: quoteT (k + (if signI c = true then 2 else 1)) l
theorem quoteT_length : ∀ (l : List Int) (k : Nat), (quoteT k l).length = l.length
 | [], _ => rfl
 | c :: l, k => by simp [quoteT, quoteT_length l]
theorem esc_of {c : Int} (h : signI c = true) : escI c = some (c, false) := by
 have hx : ¬ c = 110 ∧ ¬ c = 116 ∧ ¬ (c = 100 ∨ c = 119 ∨ c = 115 ∨ c = 68 ∨ c = 87 ∨ c = 83) := by
  simp [signI] at h; omega
 unfold escI
 rw [if_neg hx.1, if_neg hx.2.1, if_neg hx.2.2, if_pos h]
theorem out_sign {L : List Int} {k : Nat} {c : Int} (h0 : L[k]? = some 92) (h1 : L[k + 1]? = some c) (hs : signI c = true) (r : Bool) : outT L r k = .ok (⟨1, c, 0, 0, (k : Int)⟩, k + 2) := by
 simp [outT, outB, nxT, h0, h1, escT, esc_of hs, plT, chT]
theorem out_plain {L : List Int} {k : Nat} {c : Int} (h0 : L[k]? = some c) (hs : signI c = false) (r : Bool) : outT L r k = .ok (⟨1, c, 0, 0, (k : Int)⟩, k + 1) := by
 have hx : ¬ (c = 63 ∨ c = 42 ∨ c = 43) ∧ ¬ c = 123 ∧ ¬ c = 91 ∧ ¬ c = 92 ∧ ¬ c = 46 ∧ ¬ c = 40 ∧ ¬ c = 41 ∧ ¬ c = 124 ∧ ¬ c = 94 ∧ ¬ c = 36 := by
  simp [signI] at hs; omega
 obtain ⟨x0, x1, x2, x3, x4, x5, x6, x7, x8, x9⟩ := hx
 simp only [outT, outB, nxT, h0]
 rw [if_neg x0, if_neg x1, if_neg x2, if_neg x3]
 simp [aloT, x4, x5, x6, x7, x8, x9, plT, chT]
theorem read_quote (L : List Int) : ∀ (l : List Int) (n k : Nat) (T : List Tok), L.drop k = quoteI l → k ≤ L.length → L.length - k < n → readT L n false k T = .ok (T ++ quoteT k l)
 | [], n, k, T, hd, hk, hn => by
  obtain ⟨n, rfl⟩ : ∃ m, n = m + 1 := ⟨n - 1, by omega⟩
  have hkl : k = L.length := by
   have : L.drop k = [] := hd
   have := List.drop_eq_nil_iff.1 this; omega
  subst hkl
  rw [readT_end, quoteT, List.append_nil]
 | c :: l, n, k, T, hd, hk, hn => by
  obtain ⟨n, rfl⟩ : ∃ m, n = m + 1 := ⟨n - 1, by omega⟩
  have e : quoteI (c :: l) = (if signI c = true then [92, c] else [c]) ++ quoteI l := rfl
  rw [e] at hd
  have hget : ∀ i, L[k + i]? = ((if signI c = true then [92, c] else [c]) ++ quoteI l)[i]? := fun i => by rw [← hd, List.getElem?_drop]
  have hlen : L.length - k = ((if signI c = true then [92, c] else [c]) ++ quoteI l).length := by rw [← hd, List.length_drop]
  rcases hs : signI c with _ | _
  ·rw [hs] at hd hget hlen
   simp only [Bool.false_eq_true, if_false, List.singleton_append, List.length_cons] at hd hget hlen
   have h0 : L[k]? = some c := by simpa using hget 0
   have hkl : k < L.length := (List.getElem?_eq_some_iff.1 h0).1
   rw [readT_out (by omega), out_plain h0 hs]
   simp only
   have hd' : L.drop (k + 1) = quoteI l := by rw [← List.drop_drop, hd]; rfl
   have := read_quote L l n (k + 1) (T ++ [⟨1, c, 0, 0, (k : Int)⟩]) hd' (by omega) (by omega)
   rw [show ((1 : Int) == 7) = false from rfl, this, quoteT, hs]
   simp
  ·rw [hs] at hd hget hlen
   simp only [if_true, List.cons_append, List.nil_append, List.length_cons] at hd hget hlen
   have h0 : L[k]? = some 92 := by simpa using hget 0
   have h1 : L[k + 1]? = some c := by simpa using hget 1
   have hkl : k + 1 < L.length := (List.getElem?_eq_some_iff.1 h1).1
   rw [readT_out (by omega), out_sign h0 h1 hs]
   simp only
   have hd' : L.drop (k + 2) = quoteI l := by rw [← List.drop_drop, hd]; rfl
   have := read_quote L l n (k + 2) (T ++ [⟨1, c, 0, 0, (k : Int)⟩]) hd' (by omega) (by omega)
   rw [show ((1 : Int) == 7) = false from rfl, this, quoteT, hs]
   simp
theorem of_quote (l : List Int) (hl : l.length ≤ 100) : ofT (quoteI l) = .ok (quoteT 0 l) := by
 unfold ofT
 rw [if_neg (by have := quoteI_length l; omega), read_quote (quoteI l) l _ 0 [] rfl (by omega) (by omega)]
 rfl
theorem kindIs_quote {l : List Int} {p : Nat} {ks : List Int} (h : ks.contains (1 : Int) = false) : kindIs (quoteT p l) ks = false := by
 rcases l with _ | ⟨c, l⟩
 ·rfl
 ·exact h
theorem dropIs_quote {l : List Int} {p : Nat} {ks : List Int} (h : ks.contains (1 : Int) = false) : dropIs (quoteT p l) ks = quoteT p l := by
 unfold dropIs
 rw [kindIs_quote h]
 rfl
theorem fault_quote (e : Nat) : ∀ (l : List Int) (p : Nat) (a : Int), faultT e (quoteT p l) 0 a = (0, 0)
 | [], _, _ => by simp [quoteT, faultT]
 | c :: l, p, a => by
  rw [quoteT, faultT, if_neg (by simp), if_neg (by simp), if_neg (by simp), if_neg (by simp), if_neg (by simp)]
  exact fault_quote e l _ _
theorem rpT_quote (pat : List Tok → PR) (c : Int) (l : List Int) (p : Nat) : rpT pat 0 (quoteT p (c :: l)) = some (chN c, quoteT (p + (if signI c = true then 2 else 1)) l) := by
 rw [quoteT]
 unfold rpT oneT
 simp only
 rw [if_neg (by decide), if_pos trivial]
 simp only
 rcases l with _ | ⟨d, l⟩
 ·rfl
 ·rw [quoteT]
  simp only
  rw [if_neg (by decide)]
  unfold lazyT
  show some (chN c, dropIs (quoteT (p + (if signI c = true then 2 else 1)) (d :: l)) [13]) = some (chN c, quoteT (p + (if signI c = true then 2 else 1)) (d :: l))
  rw [dropIs_quote rfl]
theorem joinL_quote (pat : List Tok → PR) : ∀ (l : List Int) (p k : Nat), l.length < k → joinL pat 0 k (quoteT p l) = some (l.map chN, [])
 | [], p, k, hk => by
  obtain ⟨k, rfl⟩ : ∃ m, k = m + 1 := ⟨k - 1, by simp at hk; omega⟩
  rw [joinL, if_pos (.inl rfl)]
  rfl
 | c :: l, p, k, hk => by
  obtain ⟨k, rfl⟩ : ∃ m, k = m + 1 := ⟨k - 1, by simp at hk; omega⟩
  rw [joinL, if_neg (fun h => by
   rcases h with h | h
   ·cases h
   ·rw [kindIs_quote rfl] at h; cases h), rpT_quote]
  simp only
  rw [joinL_quote pat l _ k (by simp at hk; omega)]
  rfl
def quoteN (l : List Int) : Nd := togT 3 (l.map chN)
theorem pat_quote (l : List Int) : patT 0 (l.length + 1) 1 (quoteT 0 l) = some (quoteN l, []) := by
 rw [patT]
 unfold joinT
 rw [joinL_quote _ l 0 _ (by omega)]
 simp only
 rw [orL, if_neg (by decide)]
 rfl
theorem sizeI_ch (c : Int) : sizeI (chN c) = 1 := by
 simp [chN, sizeI, sumI, finI, timesI]
 decide
theorem sumI_ch : ∀ l : List Int, sumI (l.map chN) = l.length
 | [] => by simp [sumI]
 | c :: l => by rw [List.map_cons, sumI, sizeI_ch, sumI_ch l]; simp; omega
theorem size_quote (l : List Int) (hl : l.length ≤ 100) : sizeI (quoteN l) ≤ 400 := by
 unfold quoteN
 rcases l with _ | ⟨c, _ | ⟨d, l⟩⟩
 ·simp [togT, sizeI, sumI, finI, timesI]
  decide
 ·show sizeI (chN c) ≤ 400
  rw [sizeI_ch]; omega
 ·show sizeI (.mk 3 0 0 [] ((c :: d :: l).map chN)) ≤ 400
  rw [sizeI, sumI_ch]
  have : timesI 3 0 0 = 1 := by simp [timesI]
  rw [this]
  unfold finI
  simp only [List.length_cons] at hl ⊢
  rw [if_neg (by omega), show min (1 : Int) 1000000 = 1 by decide]
  omega
def rsL (c : Int) : List (Int × Int) := if insB c = true then [(c, c)] else []
theorem ch_ranges (c : Int) : behR (flag1 0) (flag2 0) [(c, c)] = rsL c := by
 have h : addQ [(c, c)] (flag1 0) (flag2 0) [(c, c)] = [] := by
  rw [show flag1 0 = false by decide, show flag2 0 = false by decide]
  simp [addQ, addW, toldI, addC]
 unfold behR
 rw [h, List.append_nil]
 unfold rsL
 by_cases hc : insB c = true
 ·rw [if_pos hc]
  simp [insB] at hc
  exact setP_is (by simp [Canon]; omega) fun _ _ _ => rfl
 ·rw [if_neg hc]
  refine setP_is trivial fun d h0 h1 => ?_
  have : ¬ (c = d) := fun e => hc (by subst e; simp [insB, h0, h1])
  simp [hasR, inR]
  omega
theorem rsL_has (c : Int) : hasR (rsL c) c = insB c := by
 unfold rsL
 by_cases hc : insB c = true
 ·rw [if_pos hc, hc]; simp [hasR, inR]
 ·rw [if_neg hc]
  have : insB c = false := by simpa using hc
  rw [this]; rfl
end Go.Proofs.YtkojnnjcgcllmaaGreatDoor
namespace Go.Proofs.YtkojnnjcgcllmaaGreatDoor
open Go.RowKit
def signs15 : List Int := [46, 40, 41, 124, 94, 36, 63, 42, 43, 123, 125, 91, 93, 45, 47, 92]
theorem signs_in {c : Int} (h : c ∈ signs15) : signI c = true := by
 simp only [signs15, List.mem_cons, List.mem_nil_iff, or_false] at h
 simp [signI]
 omega
theorem signs_not {c : Int} (h : ∀ s ∈ signs15, s ≠ c) : signI c = false := by
 simp only [signs15, List.mem_cons, List.mem_nil_iff, or_false, forall_eq_or_imp, forall_eq] at h
 simp [signI]
 omega
set_option maxRecDepth 20000 in
set_option maxHeartbeats 8000000 in
theorem among16_any (c : Int) (w : World) : Calls Tryz.prog 49 #[.int .i64 c, (.string { data := #[46, 40, 41, 124, 94, 36, 63, 42, 43, 123, 125, 91, 93, 45, 47, 92] })] w fun e w' => e = .returned (.bool (signI c)) ∧ w = w' := by
 obtain ⟨Z, hZ⟩ : ∃ Z, signI c = Z := ⟨_, rfl⟩
 have HY : Hid (c ∈ signs15 → Z = true) := Lib.hid fun h => hZ ▸ signs_in h
 have HNO : Hid ((∀ s ∈ signs15.take 16, s ≠ c) → Z = false) := Lib.hid fun h => hZ ▸ signs_not h
 rw [hZ]
 clear hZ
 go_enter Tryz.func49, Tryz.ntmps49
 go_wp2_with fail
 go_loopw [5] (fun iv wr => ∃ k : Nat, k ≤ 16 ∧ iv = .int .i64 k ∧ Hid (∀ s ∈ signs15.take k, s ≠ c) ∧ wr = w) (fun iv _ => 16 - (intOf iv).toNat)
 case atStart => exact ⟨0, by omega, rfl, Lib.hid (by simp), rfl⟩
 case round =>
  obtain ⟨k, hk, rfl, HN, rfl⟩ := hrel
  have hc : k = 16 ∨ k = 0 ∨ k = 1 ∨ k = 2 ∨ k = 3 ∨ k = 4 ∨ k = 5 ∨ k = 6 ∨ k = 7 ∨ k = 8 ∨ k = 9 ∨ k = 10 ∨ k = 11 ∨ k = 12 ∨ k = 13 ∨ k = 14 ∨ k = 15 := by omega
  rcases hc with rfl | rfl | rfl | rfl | rfl | rfl | rfl | rfl | rfl | rfl | rfl | rfl | rfl | rfl | rfl | rfl | rfl
  ·have hz := HNO.out HN.out
   subst hz
   go_wp2_with fail
   go_ret
   exact ⟨rfl, rfl⟩
  ·have e0 : (({ data := #[46, 40, 41, 124, 94, 36, 63, 42, 43, 123, 125, 91, 93, 45, 47, 92] } : ByteArray)[0]'(by decide)).toNat = 46 := rfl
   rcases hz : ((46 : Int) == c) with _ | _
   ·have HN2 : Hid (∀ s ∈ signs15.take 1, s ≠ c) := Lib.hid fun s hs => by
     rw [show signs15.take 1 = signs15.take 0 ++ [46] from rfl, List.mem_append, List.mem_singleton] at hs
     rcases hs with hs | rfl
     ·exact HN.out s hs
     ·simpa using hz
    go_wp2_with fail
    go_roundw
    case rel => exact ⟨1, by omega, by go_num, HN2, trivial⟩
    case measure => simp [intOf]
   ·have hzt := HY.out (by rw [← show (46 : Int) = c by simpa using hz]; decide)
    subst hzt
    go_wp2_with fail
    go_ret
    exact ⟨rfl, rfl⟩
  ·have e0 : (({ data := #[46, 40, 41, 124, 94, 36, 63, 42, 43, 123, 125, 91, 93, 45, 47, 92] } : ByteArray)[1]'(by decide)).toNat = 40 := rfl
   rcases hz : ((40 : Int) == c) with _ | _
   ·have HN2 : Hid (∀ s ∈ signs15.take 2, s ≠ c) := Lib.hid fun s hs => by
     rw [show signs15.take 2 = signs15.take 1 ++ [40] from rfl, List.mem_append, List.mem_singleton] at hs
     rcases hs with hs | rfl
     ·exact HN.out s hs
     ·simpa using hz
    go_wp2_with fail
    go_roundw
    case rel => exact ⟨2, by omega, by go_num, HN2, trivial⟩
    case measure => simp [intOf]
   ·have hzt := HY.out (by rw [← show (40 : Int) = c by simpa using hz]; decide)
    subst hzt
    go_wp2_with fail
    go_ret
    exact ⟨rfl, rfl⟩
  ·have e0 : (({ data := #[46, 40, 41, 124, 94, 36, 63, 42, 43, 123, 125, 91, 93, 45, 47, 92] } : ByteArray)[2]'(by decide)).toNat = 41 := rfl
   rcases hz : ((41 : Int) == c) with _ | _
   ·have HN2 : Hid (∀ s ∈ signs15.take 3, s ≠ c) := Lib.hid fun s hs => by
     rw [show signs15.take 3 = signs15.take 2 ++ [41] from rfl, List.mem_append, List.mem_singleton] at hs
     rcases hs with hs | rfl
     ·exact HN.out s hs
     ·simpa using hz
    go_wp2_with fail
    go_roundw
    case rel => exact ⟨3, by omega, by go_num, HN2, trivial⟩
    case measure => simp [intOf]
   ·have hzt := HY.out (by rw [← show (41 : Int) = c by simpa using hz]; decide)
    subst hzt
    go_wp2_with fail
    go_ret
    exact ⟨rfl, rfl⟩
  ·have e0 : (({ data := #[46, 40, 41, 124, 94, 36, 63, 42, 43, 123, 125, 91, 93, 45, 47, 92] } : ByteArray)[3]'(by decide)).toNat = 124 := rfl
   rcases hz : ((124 : Int) == c) with _ | _
   ·have HN2 : Hid (∀ s ∈ signs15.take 4, s ≠ c) := Lib.hid fun s hs => by
     rw [show signs15.take 4 = signs15.take 3 ++ [124] from rfl, List.mem_append, List.mem_singleton] at hs
     rcases hs with hs | rfl
     ·exact HN.out s hs
     ·simpa using hz
    go_wp2_with fail
    go_roundw
    case rel => exact ⟨4, by omega, by go_num, HN2, trivial⟩
    case measure => simp [intOf]
   ·have hzt := HY.out (by rw [← show (124 : Int) = c by simpa using hz]; decide)
    subst hzt
    go_wp2_with fail
    go_ret
    exact ⟨rfl, rfl⟩
  ·have e0 : (({ data := #[46, 40, 41, 124, 94, 36, 63, 42, 43, 123, 125, 91, 93, 45, 47, 92] } : ByteArray)[4]'(by decide)).toNat = 94 := rfl
   rcases hz : ((94 : Int) == c) with _ | _
   ·have HN2 : Hid (∀ s ∈ signs15.take 5, s ≠ c) := Lib.hid fun s hs => by
     rw [show signs15.take 5 = signs15.take 4 ++ [94] from rfl, List.mem_append, List.mem_singleton] at hs
     rcases hs with hs | rfl
     ·exact HN.out s hs
     ·simpa using hz
    go_wp2_with fail
    go_roundw
    case rel => exact ⟨5, by omega, by go_num, HN2, trivial⟩
    case measure => simp [intOf]
   ·have hzt := HY.out (by rw [← show (94 : Int) = c by simpa using hz]; decide)
    subst hzt
    go_wp2_with fail
    go_ret
    exact ⟨rfl, rfl⟩
  ·have e0 : (({ data := #[46, 40, 41, 124, 94, 36, 63, 42, 43, 123, 125, 91, 93, 45, 47, 92] } : ByteArray)[5]'(by decide)).toNat = 36 := rfl
   rcases hz : ((36 : Int) == c) with _ | _
   ·have HN2 : Hid (∀ s ∈ signs15.take 6, s ≠ c) := Lib.hid fun s hs => by
     rw [show signs15.take 6 = signs15.take 5 ++ [36] from rfl, List.mem_append, List.mem_singleton] at hs
     rcases hs with hs | rfl
     ·exact HN.out s hs
     ·simpa using hz
    go_wp2_with fail
    go_roundw
    case rel => exact ⟨6, by omega, by go_num, HN2, trivial⟩
    case measure => simp [intOf]
   ·have hzt := HY.out (by rw [← show (36 : Int) = c by simpa using hz]; decide)
    subst hzt
    go_wp2_with fail
    go_ret
    exact ⟨rfl, rfl⟩
  ·have e0 : (({ data := #[46, 40, 41, 124, 94, 36, 63, 42, 43, 123, 125, 91, 93, 45, 47, 92] } : ByteArray)[6]'(by decide)).toNat = 63 := rfl
   rcases hz : ((63 : Int) == c) with _ | _
   ·have HN2 : Hid (∀ s ∈ signs15.take 7, s ≠ c) := Lib.hid fun s hs => by
     rw [show signs15.take 7 = signs15.take 6 ++ [63] from rfl, List.mem_append, List.mem_singleton] at hs
     rcases hs with hs | rfl
     ·exact HN.out s hs
     ·simpa using hz
    go_wp2_with fail
    go_roundw
    case rel => exact ⟨7, by omega, by go_num, HN2, trivial⟩
    case measure => simp [intOf]
   ·have hzt := HY.out (by rw [← show (63 : Int) = c by simpa using hz]; decide)
    subst hzt
    go_wp2_with fail
    go_ret
    exact ⟨rfl, rfl⟩
  ·have e0 : (({ data := #[46, 40, 41, 124, 94, 36, 63, 42, 43, 123, 125, 91, 93, 45, 47, 92] } : ByteArray)[7]'(by decide)).toNat = 42 := rfl
   rcases hz : ((42 : Int) == c) with _ | _
   ·have HN2 : Hid (∀ s ∈ signs15.take 8, s ≠ c) := Lib.hid fun s hs => by
     rw [show signs15.take 8 = signs15.take 7 ++ [42] from rfl, List.mem_append, List.mem_singleton] at hs
     rcases hs with hs | rfl
     ·exact HN.out s hs
     ·simpa using hz
    go_wp2_with fail
    go_roundw
    case rel => exact ⟨8, by omega, by go_num, HN2, trivial⟩
    case measure => simp [intOf]
   ·have hzt := HY.out (by rw [← show (42 : Int) = c by simpa using hz]; decide)
    subst hzt
    go_wp2_with fail
    go_ret
    exact ⟨rfl, rfl⟩
  ·have e0 : (({ data := #[46, 40, 41, 124, 94, 36, 63, 42, 43, 123, 125, 91, 93, 45, 47, 92] } : ByteArray)[8]'(by decide)).toNat = 43 := rfl
   rcases hz : ((43 : Int) == c) with _ | _
   ·have HN2 : Hid (∀ s ∈ signs15.take 9, s ≠ c) := Lib.hid fun s hs => by
     rw [show signs15.take 9 = signs15.take 8 ++ [43] from rfl, List.mem_append, List.mem_singleton] at hs
     rcases hs with hs | rfl
     ·exact HN.out s hs
     ·simpa using hz
    go_wp2_with fail
    go_roundw
    case rel => exact ⟨9, by omega, by go_num, HN2, trivial⟩
    case measure => simp [intOf]
   ·have hzt := HY.out (by rw [← show (43 : Int) = c by simpa using hz]; decide)
    subst hzt
    go_wp2_with fail
    go_ret
    exact ⟨rfl, rfl⟩
  ·have e0 : (({ data := #[46, 40, 41, 124, 94, 36, 63, 42, 43, 123, 125, 91, 93, 45, 47, 92] } : ByteArray)[9]'(by decide)).toNat = 123 := rfl
   rcases hz : ((123 : Int) == c) with _ | _
   ·have HN2 : Hid (∀ s ∈ signs15.take 10, s ≠ c) := Lib.hid fun s hs => by
     rw [show signs15.take 10 = signs15.take 9 ++ [123] from rfl, List.mem_append, List.mem_singleton] at hs
     rcases hs with hs | rfl
     ·exact HN.out s hs
     ·simpa using hz
    go_wp2_with fail
    go_roundw
    case rel => exact ⟨10, by omega, by go_num, HN2, trivial⟩
    case measure => simp [intOf]
   ·have hzt := HY.out (by rw [← show (123 : Int) = c by simpa using hz]; decide)
    subst hzt
    go_wp2_with fail
    go_ret
    exact ⟨rfl, rfl⟩
  ·have e0 : (({ data := #[46, 40, 41, 124, 94, 36, 63, 42, 43, 123, 125, 91, 93, 45, 47, 92] } : ByteArray)[10]'(by decide)).toNat = 125 := rfl
   rcases hz : ((125 : Int) == c) with _ | _
   ·have HN2 : Hid (∀ s ∈ signs15.take 11, s ≠ c) := Lib.hid fun s hs => by
     rw [show signs15.take 11 = signs15.take 10 ++ [125] from rfl, List.mem_append, List.mem_singleton] at hs
     rcases hs with hs | rfl
     ·exact HN.out s hs
     ·simpa using hz
    go_wp2_with fail
    go_roundw
    case rel => exact ⟨11, by omega, by go_num, HN2, trivial⟩
    case measure => simp [intOf]
   ·have hzt := HY.out (by rw [← show (125 : Int) = c by simpa using hz]; decide)
    subst hzt
    go_wp2_with fail
    go_ret
    exact ⟨rfl, rfl⟩
  ·have e0 : (({ data := #[46, 40, 41, 124, 94, 36, 63, 42, 43, 123, 125, 91, 93, 45, 47, 92] } : ByteArray)[11]'(by decide)).toNat = 91 := rfl
   rcases hz : ((91 : Int) == c) with _ | _
   ·have HN2 : Hid (∀ s ∈ signs15.take 12, s ≠ c) := Lib.hid fun s hs => by
     rw [show signs15.take 12 = signs15.take 11 ++ [91] from rfl, List.mem_append, List.mem_singleton] at hs
     rcases hs with hs | rfl
     ·exact HN.out s hs
     ·simpa using hz
    go_wp2_with fail
    go_roundw
    case rel => exact ⟨12, by omega, by go_num, HN2, trivial⟩
    case measure => simp [intOf]
   ·have hzt := HY.out (by rw [← show (91 : Int) = c by simpa using hz]; decide)
    subst hzt
    go_wp2_with fail
    go_ret
    exact ⟨rfl, rfl⟩
  ·have e0 : (({ data := #[46, 40, 41, 124, 94, 36, 63, 42, 43, 123, 125, 91, 93, 45, 47, 92] } : ByteArray)[12]'(by decide)).toNat = 93 := rfl
   rcases hz : ((93 : Int) == c) with _ | _
   ·have HN2 : Hid (∀ s ∈ signs15.take 13, s ≠ c) := Lib.hid fun s hs => by
     rw [show signs15.take 13 = signs15.take 12 ++ [93] from rfl, List.mem_append, List.mem_singleton] at hs
     rcases hs with hs | rfl
     ·exact HN.out s hs
     ·simpa using hz
    go_wp2_with fail
    go_roundw
    case rel => exact ⟨13, by omega, by go_num, HN2, trivial⟩
    case measure => simp [intOf]
   ·have hzt := HY.out (by rw [← show (93 : Int) = c by simpa using hz]; decide)
    subst hzt
    go_wp2_with fail
    go_ret
    exact ⟨rfl, rfl⟩
  ·have e0 : (({ data := #[46, 40, 41, 124, 94, 36, 63, 42, 43, 123, 125, 91, 93, 45, 47, 92] } : ByteArray)[13]'(by decide)).toNat = 45 := rfl
   rcases hz : ((45 : Int) == c) with _ | _
   ·have HN2 : Hid (∀ s ∈ signs15.take 14, s ≠ c) := Lib.hid fun s hs => by
     rw [show signs15.take 14 = signs15.take 13 ++ [45] from rfl, List.mem_append, List.mem_singleton] at hs
     rcases hs with hs | rfl
     ·exact HN.out s hs
     ·simpa using hz
    go_wp2_with fail
    go_roundw
    case rel => exact ⟨14, by omega, by go_num, HN2, trivial⟩
    case measure => simp [intOf]
   ·have hzt := HY.out (by rw [← show (45 : Int) = c by simpa using hz]; decide)
    subst hzt
    go_wp2_with fail
    go_ret
    exact ⟨rfl, rfl⟩
  ·have e0 : (({ data := #[46, 40, 41, 124, 94, 36, 63, 42, 43, 123, 125, 91, 93, 45, 47, 92] } : ByteArray)[14]'(by decide)).toNat = 47 := rfl
   rcases hz : ((47 : Int) == c) with _ | _
   ·have HN2 : Hid (∀ s ∈ signs15.take 15, s ≠ c) := Lib.hid fun s hs => by
     rw [show signs15.take 15 = signs15.take 14 ++ [47] from rfl, List.mem_append, List.mem_singleton] at hs
     rcases hs with hs | rfl
     ·exact HN.out s hs
     ·simpa using hz
    go_wp2_with fail
    go_roundw
    case rel => exact ⟨15, by omega, by go_num, HN2, trivial⟩
    case measure => simp [intOf]
   ·have hzt := HY.out (by rw [← show (47 : Int) = c by simpa using hz]; decide)
    subst hzt
    go_wp2_with fail
    go_ret
    exact ⟨rfl, rfl⟩
  ·have e0 : (({ data := #[46, 40, 41, 124, 94, 36, 63, 42, 43, 123, 125, 91, 93, 45, 47, 92] } : ByteArray)[15]'(by decide)).toNat = 92 := rfl
   rcases hz : ((92 : Int) == c) with _ | _
   ·have HN2 : Hid (∀ s ∈ signs15.take 16, s ≠ c) := Lib.hid fun s hs => by
     rw [show signs15.take 16 = signs15.take 15 ++ [92] from rfl, List.mem_append, List.mem_singleton] at hs
     rcases hs with hs | rfl
     ·exact HN.out s hs
     ·simpa using hz
    go_wp2_with fail
    go_roundw
    case rel => exact ⟨16, by omega, by go_num, HN2, trivial⟩
    case measure => simp [intOf]
   ·have hzt := HY.out (by rw [← show (92 : Int) = c by simpa using hz]; decide)
    subst hzt
    go_wp2_with fail
    go_ret
    exact ⟨rfl, rfl⟩
set_option maxRecDepth 20000 in
theorem rsign15_any (c : Int) (w : World) : Calls Tryz.prog 36 #[.int .i64 c] w fun e w' => e = .returned (.bool (signI c)) ∧ w = w' := by
 have H := Lib.hid (among16_any c w)
 obtain ⟨Z, hZ⟩ : ∃ Z, signI c = Z := ⟨_, rfl⟩
 rw [hZ] at H ⊢
 clear hZ
 go_enter Tryz.func36, Tryz.ntmps36
 go_wp2_with fail
 refine H.out.mono ?_
 rintro e wq ⟨rfl, rfl⟩
 go_wp2_with fail
 go_ret
 exact ⟨rfl, rfl⟩
set_option maxRecDepth 20000 in
set_option maxHeartbeats 2000000 in
theorem rquote15_any (w : World) (A : Option Addr) (l : List Int) (c : Nat) (h : Lies w w.heap.size A (ints .i64 l)) (hl : l.length ≤ 1000) :
 Calls Tryz.prog 21 #[.slice A l.length c] w (Rowed w w.heap.size 3 (ints .i64 (quoteI l))) := by
 have HL := Lib.hid h
 have HQ : Hid (∀ k, (quoteI (l.take k)).length ≤ 2000) := Lib.hid (fun k => quoteI_take_le l k hl)
 clear h
 go_enter Tryz.func21, Tryz.ntmps21
 go_wp2_with fail
 go_loopw [4, 3] (fun iv ov wr => ∃ k : Nat, k ≤ l.length ∧ iv = .int .i64 k ∧ Hid (Own wr w.heap.size 3 ov (ints .i64 (quoteI (l.take k)))) ∧ Hid (Below w.heap.size w wr)) (fun iv _ _ => l.length - (intOf iv).toNat)
 case atStart => exact ⟨0, by omega, rfl, Lib.hid (Own.empty _ _ _), Lib.hid (Below.refl _ _)⟩
 case round =>
  obtain ⟨k, hk, rfl, HO, HB⟩ := hrel
  by_cases hlt : k < l.length
  ·obtain ⟨p, rfl, -, hc⟩ := (Lies.up HL.out HB.out).int hlt
   have HT := Lib.hid (quoteI_take hlt)
   obtain ⟨x, hx⟩ : ∃ x, l[k] = x := ⟨_, rfl⟩
   rw [hx] at hc HT
   have HLC : Hid (∀ u, Below w.heap.size w u → u.cell? (p.add k) = some (.int .i64 x)) := Lib.hid fun u hu => by
    obtain ⟨p', hp', -, hc'⟩ := (Lies.up HL.out hu).int hlt
    injection hp' with hp'
    subst hp'
    rw [hc', hx]
   have k0 : (0 : Int) ≤ (k : Int) := by omega
   have k1 : (k : Int) < (l.length : Int) := by omega
   have HS := Lib.hid (rsign15_any x wr)
   clear hx
   rcases hs : signI x with _ | _
   ·have HT2 : Hid (ints .i64 (quoteI (l.take k)) ++ [Value.int .i64 x] = ints .i64 (quoteI (l.take (k + 1)))) := Lib.hid (by rw [HT.out, hs]; simp [ints])
    rw [hs] at HS
    clear hs
    go_wp2_with fail
    refine HS.out.mono ?_
    rintro e wq ⟨rfl, rfl⟩
    go_wp2_with (first
     | (at_builtin; refine app_lit intsT w wr w.heap.size _ _ #[.int .i64 x] 1 _ (ints .i64 (quoteI (l.take k))) rfl rfl rfl rfl HO.out (by simp [Value.oneCell']) HB.out HB.out.size (by have := HQ.out k; unfold maxLen; simp; omega) (by have := HQ.out k; simp; omega) ?_; intro v2 w2 o2 b2 _ _; have O2 : Hid (Own w2 w.heap.size 3 v2 (ints .i64 (quoteI (l.take (k + 1))))) := Lib.hid (by rw [← HT2.out]; exact o2); have B2 := Lib.hid b2; clear o2 b2)
     | fail)
    go_roundw
    case rel => exact ⟨k + 1, by omega, by go_num, O2, B2⟩
    case measure => simp [intOf]; omega
   ·have HT2 : Hid ((ints .i64 (quoteI (l.take k)) ++ [Value.int .i64 92]) ++ [Value.int .i64 x] = ints .i64 (quoteI (l.take (k + 1)))) := Lib.hid (by rw [HT.out, hs]; simp [ints])
    rw [hs] at HS
    clear hs
    go_wp2_with fail
    refine HS.out.mono ?_
    rintro e wq ⟨rfl, rfl⟩
    go_wp2_with (first
     | (at_builtin; refine app_lit intsT w wr w.heap.size _ _ #[.int .i64 92] 1 _ (ints .i64 (quoteI (l.take k))) rfl rfl rfl rfl HO.out (by simp [Value.oneCell']) HB.out HB.out.size (by have := HQ.out k; unfold maxLen; simp; omega) (by have := HQ.out k; simp; omega) ?_; intro v2 w2 o2 b2 _ _; have O2 := Lib.hid o2; have B2 := Lib.hid b2; have hc2 : w2.cell? (p.add k) = some (.int .i64 x) := HLC.out w2 b2; clear o2 b2 HO)
     | (at_builtin; refine app_lit intsT w w2 w.heap.size _ _ #[.int .i64 x] 1 _ (ints .i64 (quoteI (l.take k)) ++ [Value.int .i64 92]) rfl rfl rfl rfl O2.out (by simp [Value.oneCell']) B2.out B2.out.size (by have := HQ.out k; unfold maxLen; simp; omega) (by have := HQ.out k; simp; omega) ?_; intro v3 w3 o3 b3 _ _; have O3 : Hid (Own w3 w.heap.size 3 v3 (ints .i64 (quoteI (l.take (k + 1))))) := Lib.hid (by rw [← HT2.out]; exact o3); have B3 := Lib.hid b3; clear o3 b3)
     | fail)
    go_roundw
    case rel => exact ⟨k + 1, by omega, by go_num, O3, B3⟩
    case measure => simp [intOf]; omega
  ·obtain rfl : k = l.length := by omega
   have HO2 := HO.out
   rw [List.take_length] at HO2
   have O2 := Lib.hid HO2
   clear HO2
   go_wp2_with fail
   go_ret
   exact rowed_ret O2.out HB.out rfl
end Go.Proofs.YtkojnnjcgcllmaaGreatDoor
