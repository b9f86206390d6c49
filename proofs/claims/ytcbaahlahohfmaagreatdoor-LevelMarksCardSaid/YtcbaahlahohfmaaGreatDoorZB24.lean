/- Shared texts, shaken for one claim. -/
import Derived.Test.YtcbaahlahohfmaaGreatDoorZB3
import Derived.Test.YtcbaahlahohfmaaGreatDoorZB7
import Derived.Test.YtcbaahlahohfmaaGreatDoorZB10
import Derived.Test.YtcbaahlahohfmaaGreatDoorZB18
import Derived.Test.YtcbaahlahohfmaaGreatDoorZB23
namespace Go.Proofs.YtcbaahlahohfmaaGreatDoor
open Go.RowKit Reckon
theorem sh_ind {k n : Nat} (_ : k ≤ n) (P : Nat → Nat → Prop) (h0 : P 0 0) (hs : ∀ i, i < n → P i (sh k i) → P (i + 1) (sh k i + 1)) (h9 : P k k → P k (k + 1)) : ∀ i, i ≤ n → P i (sh k i)
 | 0, _ => by
  by_cases h : 0 < k
  ·rw [sh_lt h]; exact h0
  ·obtain rfl : k = 0 := by omega
   rw [sh_ge (Nat.le_refl _)]
   exact h9 h0
 | i + 1, hi => by
  have ih := hs i (by omega) (sh_ind (by assumption) P h0 hs h9 i (by omega))
  by_cases h1 : i + 1 < k
  ·rw [sh_lt (by omega)] at ih
   rw [sh_lt h1]; exact ih
  ·by_cases h2 : i + 1 = k
   ·subst h2
    rw [sh_lt (by omega)] at ih
    rw [sh_ge (Nat.le_refl _)]
    exact h9 ih
   ·rw [sh_ge (by omega)] at ih
    rw [sh_ge (by omega)]; exact ih
theorem sh_less {k n q : Nat} (_ : k ≤ n) (hq : q < n) : sh k q < n + 1 := by unfold sh; split <;> omega
theorem seen_ins {l : List Int} {k : Nat} (hk : k ≤ l.length) : seenI (ins l k 9) = (seenI l).map (shI k) := by
 have hl := ins_length hk 9
 have h := sh_ind hk (fun i j => j ≤ l.length + 1 ∧ seenN (ins l k 9) j = (seenN l i).map (shI k)) ⟨Nat.zero_le _, rfl⟩ (fun i hi ⟨_, ih⟩ => by
  have hj : sh k i < l.length + 1 := sh_less hk hi
  have hj' : sh k i < (ins l k 9).length := by rw [hl]; exact hj
  refine ⟨by omega, ?_⟩
  have e : (ins l k 9)[sh k i] = l[i] := by
   have := ins_getD hk 9 i
   rwa [getD_at hj', getD_at hi] at this
  rw [seenN_succ _ _ hj', seenN_succ _ _ hi, e, ih]
  split
  ·rfl
  ·rw [List.map_append, List.map_cons, List.map_nil, shI_nat]) (fun ⟨_, ih⟩ => by
  have hj' : k < (ins l k 9).length := by omega
  refine ⟨by omega, ?_⟩
  have e : (ins l k 9)[k] = 9 := by
   have := ins_new hk 9
   rwa [getD_at hj'] at this
  rw [seenN_succ _ _ hj', e, if_pos (by decide), ih]) l.length (Nat.le_refl _)
 rw [sh_ge hk] at h
 rw [seenI, seenI, hl]
 exact h.2
structure Moves (k n : Nat) (l l' : List Int) : Prop where
 at_ : ∀ q, q < n → l'.getD (sh k q) 0 = l.getD q 0
theorem Moves.get {k n : Nat} {l l' : List Int} (h : Moves k n l l') {x : Int} (hx : 0 ≤ x ∧ x < (n : Int)) : l'.getD (shI k x).toNat 0 = l.getD x.toNat 0 := by
 rw [shI_toNat k hx.1]
 exact h.at_ _ (by omega)
theorem map_getD (k : Nat) (s : List Int) {j : Nat} (h : j < s.length) : (s.map (shI k)).getD j 0 = shI k (s.getD j 0) := by
 rw [getD_at (by rw [List.length_map]; exact h), getD_at h, List.getElem_map]
theorem maps_getD (k : Nat) (L : List (List Int)) (j : Nat) : (L.map (List.map (shI k))).getD j [] = (L.getD j []).map (shI k) := by
 rw [List.getD_eq_getElem?_getD, List.getD_eq_getElem?_getD, List.getElem?_map]
 cases L[j]? <;> rfl
theorem maps_add (k : Nat) (L : List (List Int)) (p : Int) : addLast (L.map (List.map (shI k))) (shI k p) = (addLast L p).map (List.map (shI k)) := by
 unfold addLast
 rw [List.map_set, List.length_map, maps_getD, List.map_append]; rfl
section
variable {k n : Nat} {cl lv cl' lv' s : List Int}
theorem fresh_ins (hc : Moves k n cl cl') (hv : Moves k n lv lv') (hs : ∀ x ∈ s, 0 ≤ x ∧ x < (n : Int)) {j : Nat} (hj : j < s.length) : freshAt cl' lv' (s.map (shI k)) j = freshAt cl lv s j := by
 unfold freshAt
 have hm : ∀ i, i < s.length → 0 ≤ s.getD i 0 ∧ s.getD i 0 < (n : Int) := fun i hi => by rw [getD_at hi]; exact hs _ (List.getElem_mem hi)
 rw [map_getD k s hj, map_getD k s (show j - 1 < s.length by omega), hv.get (hm j hj), hv.get (hm (j - 1) (by omega)), hc.get (hm (j - 1) (by omega))]
theorem lists_ins (hc : Moves k n cl cl') (hv : Moves k n lv lv') (hs : ∀ x ∈ s, 0 ≤ x ∧ x < (n : Int)) : ∀ j, j ≤ s.length → listsN cl' lv' (s.map (shI k)) j = (listsN cl lv s j).map (List.map (shI k))
 | 0, _ => rfl
 | j + 1, hj => by
  have ih := lists_ins hc hv hs j (by omega)
  rw [listsN, listsN, fresh_ins hc hv hs (by omega), map_getD k s (by omega), ih, ← maps_add]
  split
  ·rw [List.map_append]; rfl
  ·rfl
end
theorem head_map (k : Nat) {r : List Int} (h : r ≠ []) : headI (r.map (shI k)) = shI k (headI r) := map_getD k r (List.length_pos_iff.2 h)
theorem last_map (k : Nat) {r : List Int} (h : r ≠ []) : lastI (r.map (shI k)) = shI k (lastI r) := by
 have := List.length_pos_iff.2 h
 unfold lastI
 rw [List.length_map]
 exact map_getD k r (by omega)
theorem find_like {α : Type} {p q : α → Bool} : ∀ l : List α, (∀ a ∈ l, p a = q a) → l.find? p = l.find? q
 | [], _ => rfl
 | a :: l, h => by
  rw [List.find?_cons, List.find?_cons, h a List.mem_cons_self, find_like l fun b hb => h b (List.mem_cons_of_mem _ hb)]
theorem firstAt_map (k : Nat) {L : List (List Int)} (hL : ∀ r ∈ L, r ≠ []) (x : Int) : firstAt (L.map (List.map (shI k))) (shI k x) = firstAt L x := by
 unfold firstAt
 rw [List.length_map, find_like (q := fun j => headI (L.getD j []) == x)]
 intro j hj
 have hj' := List.mem_range.1 hj
 have hg : L.getD j [] = L[j] := by rw [List.getD_eq_getElem?_getD, List.getElem?_eq_getElem hj', Option.getD_some]
 rw [maps_getD, hg, head_map k (hL _ (List.getElem_mem hj')), shI_eq]
section
variable {k n : Nat} {cl cl' m m' : List Int} {L : List (List Int)}
theorem Within.run (hW : Within L n) {i : Nat} (hi : i < L.length) : L.getD i [] ≠ [] ∧ (0 ≤ headI (L.getD i []) ∧ headI (L.getD i []) < (n : Int)) ∧ (0 ≤ lastI (L.getD i []) ∧ lastI (L.getD i []) < (n : Int)) := by
 have hg : L.getD i [] = L[i] := by rw [List.getD_eq_getElem?_getD, List.getElem?_eq_getElem hi, Option.getD_some]
 rw [hg]
 obtain ⟨h1, _, h2⟩ := hW _ (List.getElem_mem hi)
 have hp := List.length_pos_iff.2 h1
 refine ⟨h1, ?_, ?_⟩
 ·obtain ⟨q, h3, h4⟩ := h2 (headI L[i]) (by unfold headI; rw [getD_at hp]; exact List.getElem_mem _)
  omega
 ·obtain ⟨q, h3, h4⟩ := h2 (lastI L[i]) (by unfold lastI; rw [getD_at (by omega)]; exact List.getElem_mem _)
  omega
theorem next_ins (hc : Moves k n cl cl') (hm : ∀ q, q < n → m'.getD (sh k q) 0 = shI k (m.getD q 0)) (hW : Within L n) {i : Nat} (hi : i < L.length) : nextI cl' m' (L.map (List.map (shI k))) i = nextI cl m L i := by
 obtain ⟨h1, _, h2⟩ := hW.run hi
 have hmm : m'.getD (shI k (lastI (L.getD i []))).toNat 0 = shI k (m.getD (lastI (L.getD i [])).toNat 0) := by
  rw [shI_toNat k h2.1]; exact hm _ (by omega)
 have hneg : ∀ x : Int, (shI k x < 0) = (x < 0) := fun x => propext (by unfold shI; split <;> omega)
 unfold nextI
 rw [maps_getD, last_map k h1, hc.get h2, hmm, firstAt_map k (fun r hr => (hW r hr).1)]
 simp only [hneg]
theorem chain_ins (hc : Moves k n cl cl') (hm : ∀ q, q < n → m'.getD (sh k q) 0 = shI k (m.getD q 0)) (hW : Within L n) (hO : Onward cl m L) : ∀ (f : Nat) (i : Int), (i < 0 ∨ i < L.length) → chainN cl' m' (L.map (List.map (shI k))) f i = (chainN cl m L f i).map (shI k)
 | 0, _, _ => rfl
 | f + 1, i, hi => by
  rw [chainN, chainN]
  by_cases h : i < 0
  ·rw [if_pos h, if_pos h]; rfl
  ·have hi' : i.toNat < L.length := by omega
   rw [if_neg h, if_neg h, maps_getD, next_ins hc hm hW hi', List.map_append, chain_ins hc hm hW hO f]
   rcases hO i.toNat hi' with h1 | ⟨k', h1, _, h2⟩
   ·rw [h1]; exact .inl (by decide)
   ·rw [h1]; exact .inr (by omega)
theorem gone_ins (hc : Moves k n cl cl') (hm : ∀ q, q < n → m'.getD (sh k q) 0 = shI k (m.getD q 0)) (hW : Within L n) : ∀ t, t ≤ L.length → ∀ j, goneN cl' m' (L.map (List.map (shI k))) t j = goneN cl m L t j
 | 0, _, _ => rfl
 | t + 1, ht, j => by rw [goneN_succ, goneN_succ, gone_ins hc hm hW t (by omega) j, next_ins hc hm hW (by omega)]
end
section
variable {k n : Nat} {cl lv cl' lv' s : List Int} {base : Int}
theorem ahead_ins (hv : Moves k n lv lv') (hs : ∀ x ∈ s, 0 ≤ x ∧ x < (n : Int)) (x : Int) : ∀ j, j ≤ s.length → aheadN lv' (s.map (shI k)) base (shI k x) j = aheadN lv s base x j
 | 0, _ => rfl
 | j + 1, hj => by
  have hm : ∀ i, i < s.length → 0 ≤ s.getD i 0 ∧ s.getD i 0 < (n : Int) := fun i hi => by rw [getD_at hi]; exact hs _ (List.getElem_mem hi)
  rw [aheadN, aheadN, ahead_ins hv hs x j (by omega), map_getD k s (by omega), shI_eq, map_getD k s (show j - 1 < s.length by omega), hv.get (hm (j - 1) (by omega))]
theorem behind_ins (hc : Moves k n cl cl') (hv : Moves k n lv lv') (hs : ∀ x ∈ s, 0 ≤ x ∧ x < (n : Int)) {y : Int} (hy : 0 ≤ y ∧ y < (n : Int)) : ∀ j, j ≤ s.length → behindN cl' lv' (s.map (shI k)) base (shI k y) j = behindN cl lv s base y j
 | 0, _ => rfl
 | j + 1, hj => by
  have hm : ∀ i, i < s.length → 0 ≤ s.getD i 0 ∧ s.getD i 0 < (n : Int) := fun i hi => by rw [getD_at hi]; exact hs _ (List.getElem_mem hi)
  rw [behindN, behindN, behind_ins hc hv hs hy j (by omega), map_getD k s (by omega), shI_eq, hc.get hy, List.length_map]
  by_cases h : j + 1 < s.length
  ·rw [map_getD k s h, hv.get (hm (j + 1) h)]
  ·rw [decide_eq_false h]; simp
end
def mvS (k : Nat) (s : Sq) : Sq := { s with pl := s.pl.map (shI k) }
theorem seen_in (l : List Int) : ∀ x ∈ seenI l, 0 ≤ x ∧ x < (l.length : Int) := fun x hx => by
 rw [seenI_eq] at hx
 obtain ⟨q, hq, rfl⟩ := List.mem_map.1 hx
 have := ((seenQ_mem l q).1 hq).1
 omega
theorem sq_ins {cl lv lv' : List Int} {k : Nat} {base : Int} (hk : k ≤ cl.length) (hv : Moves k cl.length lv lv') {pl : List Int} (hp : pl ≠ []) (hin : ∀ x ∈ pl, 0 ≤ x ∧ x < (cl.length : Int)) :
 sqOf (ins cl k 9) lv' base (pl.map (shI k)) = mvS k (sqOf cl lv base pl) := by
 have hc : Moves k cl.length cl (ins cl k 9) := ⟨fun q _ => ins_getD hk 9 q⟩
 have hpl := List.length_pos_iff.2 hp
 have hh : 0 ≤ headI pl ∧ headI pl < (cl.length : Int) := hin _ (by unfold headI; rw [getD_at hpl]; exact List.getElem_mem _)
 have hl : 0 ≤ lastI pl ∧ lastI pl < (cl.length : Int) := hin _ (by unfold lastI; rw [getD_at (by omega)]; exact List.getElem_mem _)
 have hs := seen_in cl
 unfold sqOf mvS sosI eosI
 rw [head_map k hp, last_map k hp, hv.get hh, hv.get hl, seen_ins hk, List.length_map, ahead_ins hv hs _ _ (Nat.le_refl _), behind_ins hc hv hs hl _ (Nat.le_refl _)]
theorem seqs_ins {cl lv lv' : List Int} {k : Nat} {base : Int} (hk : k ≤ cl.length) (he : cl.length = lv.length) (he' : lv'.length = lv.length + 1) (hv : Moves k cl.length lv lv') : seqsI (ins cl k 9) lv' base = (seqsI cl lv base).map (mvS k) := by
 have hc : Moves k cl.length cl (ins cl k 9) := ⟨fun q _ => ins_getD hk 9 q⟩
 have hL : listsI (ins cl k 9) lv' = (listsI cl lv).map (List.map (shI k)) := by
  rw [listsI, listsI, if_pos (by rw [ins_length hk]; omega), if_pos he, seen_ins hk, List.length_map]
  exact lists_ins hc hv (seen_in cl) _ (Nat.le_refl _)
 have hW := within_I cl lv
 have hO := onward_I cl lv
 have hm : ∀ q, q < cl.length → (mt (ins cl k 9)).getD (sh k q) 0 = shI k ((mt cl).getD q 0) := fun q hq => mt_ins hk hq
 unfold seqsI
 rw [hL, List.length_map]
 have key : ∀ j, j ≤ (listsI cl lv).length → seqsN (ins cl k 9) lv' (mt (ins cl k 9)) base ((listsI cl lv).map (List.map (shI k))) j = (seqsN cl lv (mt cl) base (listsI cl lv) j).map (mvS k) := by
  intro j
  induction j with
  | zero => intro _; rfl
  | succ j ih =>
   intro hj
   rw [seqsN, seqsN, List.length_map, gone_ins hc hm hW _ (Nat.le_refl _), ih (by omega)]
   split
   ·rfl
   ·rw [List.map_append, List.map_cons, List.map_nil]
    have hch : chainI (ins cl k 9) (mt (ins cl k 9)) ((listsI cl lv).map (List.map (shI k))) j = (chainI cl (mt cl) (listsI cl lv) j).map (shI k) := by
     unfold chainI
     rw [List.length_map]
     exact chain_ins hc hm hW hO _ _ (.inr (by omega))
    have hne : chainI cl (mt cl) (listsI cl lv) j ≠ [] := by
     rcases chainI_step hO (k := j) (by omega) with ⟨_, e⟩ | ⟨_, _, _, _, e⟩
     ·rw [e]; exact (hW.run (by omega)).1
     ·rw [e]
      have := (hW.run (i := j) (by omega)).1
      exact fun h => this (List.append_eq_nil_iff.1 h).1
    rw [hch, sq_ins hk hv hne]
    intro x hx
    obtain ⟨q, rfl, hq⟩ := chainI_in hO hW _ j (by omega) (Nat.le_refl _) x hx
    exact ⟨by omega, by omega⟩
 exact key _ (Nat.le_refl _)
theorem pick_ins {l l' : List Int} {k n : Nat} (h : Moves k n l l') {at_ : List Int} (hin : ∀ x ∈ at_, 0 ≤ x ∧ x < (n : Int)) : pickL l' (at_.map (shI k)) = pickL l at_ := by
 unfold pickL
 rw [List.map_map]
 exact List.map_congr_left fun x hx => h.get (hin x hx)
theorem seqE_ins {chars chars' xc xc' : List Int} {k n : Nat} (hc : Moves k n chars chars') (hx : Moves k n xc xc') {s : Sq} (hin : ∀ x ∈ s.pl, 0 ≤ x ∧ x < (n : Int)) : seqE chars' xc' (mvS k s) = seqE chars xc s := by
 unfold seqE mvS
 rw [pick_ins hc hin, pick_ins hx hin]
structure MvL (k n : Nat) (st st' : List Int × List Int) : Prop where
 one : Moves k n st.1 st'.1
 l1 : st.1.length = n
 l1' : st'.1.length = n + 1
theorem lay_ins {k n : Nat} (hk : k ≤ n) {lev : Int} {at_ es : List Int} (hin : ∀ x ∈ at_, 0 ≤ x ∧ x < (n : Int)) {st st' : List Int × List Int} (h : MvL k n st st') : ∀ j, j ≤ at_.length → MvL k n (layK lev at_ es st j) (layK lev (at_.map (shI k)) es st' j)
 | 0, _ => h
 | j + 1, hj => by
  obtain ⟨h1, h2, h3⟩ := lay_ins hk hin h j (by omega)
  have hp : 0 ≤ at_.getD j 0 ∧ at_.getD j 0 < (n : Int) := by rw [getD_at (show j < at_.length by omega)]; exact hin _ (List.getElem_mem _)
  rw [layK, layK, map_getD k at_ (by omega), shI_toNat k hp.1]
  refine ⟨⟨fun q hq => ?_⟩, by simpa using h2, by simpa using h3⟩
  show ((layK lev (at_.map (shI k)) es st' j).1.set (sh k (at_.getD j 0).toNat) (nLevelI (es.getD j 0) lev)).getD (sh k q) 0 = ((layK lev at_ es st j).1.set (at_.getD j 0).toNat (nLevelI (es.getD j 0) lev)).getD q 0
  rw [getD_set, getD_set, h1.at_ q hq, h2, h3]
  by_cases e : (at_.getD j 0).toNat = q
  ·rw [if_pos ⟨by rw [e], sh_less hk hq⟩, if_pos ⟨e, hq⟩]
  ·rw [if_neg (fun x => e (sh_inj k x.1)), if_neg (fun x => e x.1)]
theorem layN_ins {k n : Nat} (hk : k ≤ n) {chars chars' xc xc' : List Int} (hc : Moves k n chars chars') (hx : Moves k n xc xc') {S : List Sq} (hin : ∀ s ∈ S, ∀ x ∈ s.pl, 0 ≤ x ∧ x < (n : Int)) {st st' : List Int × List Int} (h : MvL k n st st') : ∀ j, j ≤ S.length → MvL k n (layN chars xc S st j) (layN chars' xc' (S.map (mvS k)) st' j)
 | 0, _ => h
 | j + 1, hj => by
  have ih := layN_ins hk hc hx hin h j (by omega)
  have hm := hin _ (List.getElem_mem (show j < S.length by omega))
  rw [layN, layN, List.getElem?_map, List.getElem?_eq_getElem (show j < S.length by omega)]
  show MvL k n (layK S[j].lev S[j].pl (seqE chars xc S[j]) (layN chars xc S st j) S[j].pl.length) (layK S[j].lev (S[j].pl.map (shI k)) (seqE chars' xc' (mvS k S[j])) (layN chars' xc' (S.map (mvS k)) st' j) (S[j].pl.map (shI k)).length)
  rw [seqE_ins hc hx hm, List.length_map]
  exact lay_ins hk hm ih _ (Nat.le_refl _)
theorem fill_kept (first : List Int) (base : Int) (l : List Int) {q : Nat} (ho : isOut (first.getD q 0) = false) : ∀ k, (fillN first base l k).getD q 0 = l.getD q 0
 | 0 => rfl
 | k + 1 => by
  rw [fillN]
  split
  ·rename_i h
   rw [getD_set, if_neg (fun x => by rw [x.1, ho] at h; cases h)]
   exact fill_kept first base l ho k
  ·exact fill_kept first base l ho k
theorem cls_mark : cls 65279 = 9 := by decide +kernel
theorem base_ins (chars : List Int) (k : Nat) (dir : Int) : baseI (ins chars k 65279) dir = baseI chars dir := by
 unfold baseI clsL
 rw [map_ins, cls_mark, level_ins]
theorem lev_ins {chars : List Int} {k : Nat} (hk : k ≤ chars.length) (dir : Int) {q : Nat} (hq : q < chars.length) (ho : isOut ((clsL chars).getD q 0) = false) :
 (levI (ins chars k 65279) dir).getD (sh k q) 0 = (levI chars dir).getD q 0 := by
 have hcl : clsL (ins chars k 65279) = ins (clsL chars) k 9 := by unfold clsL; rw [map_ins, cls_mark]
 have hkc : k ≤ (clsL chars).length := by rw [clsL_length]; exact hk
 obtain ⟨b, hb⟩ : ∃ b, baseI chars dir = b := ⟨_, rfl⟩
 have hE := emb_of (clsL_range chars) (base_two chars dir)
 have hE' := emb_of (clsL_range (ins chars k 65279)) (base_two (ins chars k 65279) dir)
 rw [base_ins, hb, hcl] at hE'
 rw [hb] at hE
 obtain ⟨f, hf⟩ : ∃ f, clsL chars = f := ⟨_, rfl⟩
 have hfl : f.length = chars.length := by rw [← hf, clsL_length]
 rw [hf] at hcl hkc hE hE' ho
 have hil := ins_length hkc 9
 have hvm : Moves k f.length (lvs f b) (lvs (ins f k 9) b) := ⟨fun q hq => (told_ins hkc b hq).1⟩
 have hxm : Moves k f.length (xcls f b) (xcls (ins f k 9) b) := ⟨fun q hq => (told_ins hkc b hq).2⟩
 have hcm : Moves k f.length chars (ins chars k 65279) := ⟨fun q _ => ins_getD hk 65279 q⟩
 rw [levI, levI, base_ins, hb, hcl, hf, fill_kept _ _ _ (by rw [ins_getD hkc]; exact ho), fill_kept _ _ _ ho, laidI, laidI, base_ins, hb, hcl, hf,
  seqs_ins hkc hE.ll.symm (by rw [hE'.ll, hE.ll, hil]) hvm, List.length_map]
 have hst : MvL k f.length (lvs f b, xcls f b) (lvs (ins f k 9) b, xcls (ins f k 9) b) := ⟨hvm, hE.ll, by show (lvs (ins f k 9) b).length = _; rw [hE'.ll, hil]⟩
 have hin : ∀ s ∈ seqsI f (lvs f b) b, ∀ x ∈ s.pl, 0 ≤ x ∧ x < (f.length : Int) := fun s hs x hx => by
  obtain ⟨j, hj, rfl⟩ := List.mem_iff_getElem.1 hx
  obtain ⟨q', h4, h5, _⟩ := place_in hE.ll.symm b hs hj
  rw [getD_at hj] at h4
  omega
 exact (layN_ins hkc hcm hxm hin hst _ (Nat.le_refl _)).one.at_ q (by omega)
def keptL (chars : List Int) (dir : Int) : List Int := (seenI (clsL chars)).map fun p => (levI chars dir).getD p.toNat 0
theorem kept_ins {chars : List Int} {k : Nat} (hk : k ≤ chars.length) (dir : Int) : keptL (ins chars k 65279) dir = keptL chars dir := by
 have hkc : k ≤ (clsL chars).length := by rw [clsL_length]; exact hk
 have hcl : clsL (ins chars k 65279) = ins (clsL chars) k 9 := by unfold clsL; rw [map_ins, cls_mark]
 unfold keptL
 rw [hcl, seen_ins hkc, List.map_map]
 refine List.map_congr_left fun x hx => ?_
 rw [seenI_eq] at hx
 obtain ⟨q, hq, rfl⟩ := List.mem_map.1 hx
 obtain ⟨h1, h2⟩ := (seenQ_mem _ q).1 hq
 show (levI (ins chars k 65279) dir).getD (shI k (q : Int)).toNat 0 = _
 rw [shI_nat, Int.toNat_natCast, Int.toNat_natCast]
 exact lev_ins hk dir (by rw [clsL_length] at h1; exact h1) h2
end Go.Proofs.YtcbaahlahohfmaaGreatDoor
namespace Go.Proofs.YtcbaahlahohfmaaGreatDoor
open Go.RowKit
def outC (c : Int) : Bool := isOut (Go.Proofs.YtcbaahlahohfmaaGreatDoor.cls c)
def keptN (l : List Int) (k : Nat) : List Int := ((List.range k).filter fun i => !outC (l.getD i 0)).map fun (i : Nat) => (i : Int)
def keptI (l : List Int) : List Int := keptN l l.length
theorem keptN_succ (l : List Int) (k : Nat) (h : k < l.length) : keptN l (k + 1) = if outC l[k] then keptN l k else keptN l k ++ [(k : Int)] := by
 unfold keptN
 have hg : l.getD k 0 = l[k] := by simp [h]
 have hf : ([k].filter fun i => !outC (l.getD i 0)) = if outC l[k] then [] else [k] := by
  rw [List.filter_cons, hg]
  cases outC l[k] <;> rfl
 rw [List.range_succ, List.filter_append, List.map_append, hf]
 split
 ·simp
 ·rfl
theorem keptN_le (l : List Int) (k : Nat) : (keptN l k).length ≤ k := by
 unfold keptN
 rw [List.length_map]
 have := List.length_filter_le (fun i => !outC (l.getD i 0)) (List.range k)
 rw [List.length_range] at this
 exact this
theorem rout7_any (c : Int) (w : World) : Calls Tryz.prog 26 #[.int .i64 c] w fun e w' => e = .returned (.bool (outC c)) ∧ w = w' := by
 go_enter Tryz.func26, Tryz.ntmps26
 go_wp2_with fail
 refine (rof_any c w).mono ?_
 rintro e wq ⟨rfl, rfl⟩
 go_wp2_with fail
 refine (rout_any _ w).mono ?_
 rintro e wq ⟨rfl, rfl⟩
 go_wp2
 go_ret
 exact ⟨rfl, rfl⟩
set_option maxHeartbeats 2000000 in
theorem rkept_any (A : Option Addr) (l : List Int) (c : Nat) (w : World) (h : Lies w w.heap.size A (ints .i64 l)) (hl : l.length ≤ 1000000) :
 Calls Tryz.prog 20 #[.slice A l.length c] w fun ed w' => Rowed w w.heap.size 3 (ints .i64 (keptI l)) ed w' := by
 have H := Lib.hid h
 clear h
 go_enter Tryz.func20, Tryz.ntmps20
 go_wp2
 go_loopw [4, 3] (fun iv ov wr => ∃ k : Nat, k ≤ l.length ∧ iv = .int .i64 k ∧ Own wr w.heap.size 3 ov (ints .i64 (keptN l k)) ∧ Below w.heap.size w wr) (fun iv _ _ => l.length - (intOf iv).toNat)
 case atStart => exact ⟨0, by omega, rfl, Own.empty _ _ _, Below.refl _ _⟩
 case round =>
  obtain ⟨k, hk, rfl, ho, hb⟩ := hrel
  have HO := Lib.hid ho
  have HB := Lib.hid hb
  clear ho hb
  by_cases hlt : k < l.length
  ·obtain ⟨p, rfl, _, hcl⟩ := (H.out.below HB.out).int hlt
   obtain ⟨x, hx⟩ : ∃ x, l[k] = x := ⟨_, rfl⟩
   have HS := Lib.hid (keptN_succ l k hlt)
   rw [hx] at hcl HS
   have hle := keptN_le l k
   have b0 : (0 : Int) ≤ (k : Int) := by omega
   have b1 : (k : Int) < (l.length : Int) := by omega
   clear hx
   rcases hoc : outC x with _ | _
   ·have HOC := Lib.hid hoc
    clear hoc
    go_wp2_with fail
    refine (rout7_any x _).mono ?_
    rintro e wq ⟨rfl, rfl⟩
    rw [HOC.out]
    go_wp2_with (first
     | (at_builtin; refine app_lit intsT w wr w.heap.size _ _ #[.int .i64 (k : Int)] 1 _ _ rfl rfl rfl rfl HO.out (by simp [Value.oneCell']) HB.out HB.out.size (by unfold maxLen; simp; omega) (by simp; omega) ?_; intro v2 w2 o2 b2 _ _; have O2 := Lib.hid o2; have B2 := Lib.hid b2; clear o2 b2)
     | fail)
    go_roundw
    case rel => exact ⟨k + 1, by omega, by go_num, by rw [HS.out, HOC.out, if_neg (by simp)]; simpa [ints] using O2.out, B2.out⟩
    case measure => simp [intOf]; omega
   ·have HOC := Lib.hid hoc
    clear hoc
    go_wp2_with fail
    refine (rout7_any x _).mono ?_
    rintro e wq ⟨rfl, rfl⟩
    rw [HOC.out]
    go_wp2_with fail
    go_roundw
    case rel => exact ⟨k + 1, by omega, by go_num, by rw [HS.out, HOC.out, if_pos rfl]; exact HO.out, HB.out⟩
    case measure => simp [intOf]; omega
  ·obtain rfl : k = l.length := by omega
   go_wp2
   go_ret
   exact ⟨_, rfl, HO.out, HB.out⟩
end Go.Proofs.YtcbaahlahohfmaaGreatDoor
