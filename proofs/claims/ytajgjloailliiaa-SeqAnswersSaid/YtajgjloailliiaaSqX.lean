/- Layer 8: the program's Right. -/
import Derived.Test.YtajgjloailliiaaSqO
import Derived.Test.YtajgjloailliiaaMaps
import Derived.Maps.OwnSet
namespace Go.Proofs.Ytajgjloailliiaa
open Go.RowKit Go.Maps

/-- is each place in one of them at most, below n, and do they rise in each? -/
def GoodN (P : List (List Int)) (n : Int) : Prop := (∀ r ∈ P, r.Pairwise (· < ·)) ∧ P.flatten.Nodup ∧ ∀ x ∈ P.flatten, 0 ≤ x ∧ x < n
instance (P : List (List Int)) (n : Int) : Decidable (GoodN P n) := by unfold GoodN; exact inferInstance
def rightI (P : List (List Int)) (n : Int) : Bool := decide ((∀ r ∈ P, r.Pairwise (· < ·)) ∧ P.flatten.Nodup ∧ ∀ x ∈ P.flatten, 0 ≤ x ∧ x < n)
theorem rightI_true {P : List (List Int)} {n : Int} (h : GoodN P n) : rightI P n = true := decide_eq_true h
theorem rightI_false {P : List (List Int)} {n : Int} (h : ¬ GoodN P n) : rightI P n = false := decide_eq_false h
/-- the first j of them, and i places of the next one -/
def upTo (P : List (List Int)) (j i : Nat) : List (List Int) := P.take j ++ [(P.getD j []).take i]
theorem upTo_flatten (P : List (List Int)) (j i : Nat) : (upTo P j i).flatten = (P.take j).flatten ++ (P.getD j []).take i := by simp [upTo]
theorem upTo_good {P : List (List Int)} {n : Int} (h : GoodN P n) {j : Nat} (hj : j < P.length) (i : Nat) : GoodN (upTo P j i) n := by
  have hs : (upTo P j i).flatten.Sublist P.flatten := by
    have e : P = P.take j ++ P[j] :: P.drop (j + 1) := by rw [List.getElem_cons_drop, List.take_append_drop]
    rw [upTo_flatten, show P.getD j [] = P[j] by simp [hj]]
    conv => rhs; rw [e]
    rw [List.flatten_append, List.flatten_cons]
    exact List.Sublist.append (List.Sublist.refl _) ((List.take_sublist _ _).trans (List.sublist_append_left _ _))
  refine ⟨fun r hr => ?_, h.2.1.sublist hs, fun x hx => h.2.2 x (hs.subset hx)⟩
  rw [upTo] at hr
  rcases List.mem_append.1 hr with hr | hr
  · exact h.1 r (List.mem_of_mem_take hr)
  · rw [List.mem_singleton.1 hr, show P.getD j [] = P[j] by simp [hj]]
    exact (h.1 _ (List.getElem_mem hj)).sublist (List.take_sublist _ _)
section
variable {P : List (List Int)} {n : Int} {j i : Nat} {p : Int}
theorem upTo_more (hi : i < (P.getD j []).length) : (upTo P j (i + 1)).flatten = (upTo P j i).flatten ++ [(P.getD j [])[i]] := by
  rw [upTo_flatten, upTo_flatten, List.take_succ_eq_append_getElem hi, List.append_assoc]
theorem bad_again (hj : j < P.length) (hi : i < (P.getD j []).length) (hp : (P.getD j [])[i] = p) (hm : p ∈ (upTo P j i).flatten) : ¬ GoodN P n := fun h => by
  have h1 := (upTo_good h hj (i + 1)).2.1
  rw [upTo_more hi, hp, List.nodup_append] at h1
  exact h1.2.2 p hm p (by simp) rfl
theorem bad_out (hj : j < P.length) (hi : i < (P.getD j []).length) (hp : (P.getD j [])[i] = p) (hm : p < 0 ∨ n ≤ p) : ¬ GoodN P n := fun h => by
  have h1 := (upTo_good h hj (i + 1)).2.2 p (by rw [upTo_more hi, hp]; simp)
  omega
theorem bad_fall {q : Int} (hj : j < P.length) (hi : i < (P.getD j []).length) (hp : (P.getD j [])[i] = p) (h0 : 0 < i) (hq : (P.getD j []).getD (i - 1) 0 = q) (hm : p ≤ q) : ¬ GoodN P n := fun h => by
  have hg : P.getD j [] = P[j] := by simp [hj]
  simp only [hg] at hi hp hq
  rw [List.getD_eq_getElem?_getD, List.getElem?_eq_getElem (by omega), Option.getD_some] at hq
  have h1 := List.pairwise_iff_getElem.1 (h.1 _ (List.getElem_mem hj)) (i - 1) i (by omega) hi (by omega)
  omega
theorem good_more (h : GoodN (upTo P j i) n) (hi : i < (P.getD j []).length) (hp : (P.getD j [])[i] = p) (h1 : p ∉ (upTo P j i).flatten) (h2 : 0 ≤ p) (h3 : p < n) (h4 : 0 < i → (P.getD j []).getD (i - 1) 0 < p) : GoodN (upTo P j (i + 1)) n := by
  refine ⟨fun r hr => ?_, ?_, fun x hx => ?_⟩
  · rw [upTo] at hr
    rcases List.mem_append.1 hr with hr | hr
    · exact h.1 r (by rw [upTo]; exact List.mem_append_left _ hr)
    · rw [List.mem_singleton.1 hr, List.take_succ_eq_append_getElem hi, hp, List.pairwise_append]
      have hs := h.1 ((P.getD j []).take i) (by rw [upTo]; simp)
      refine ⟨hs, List.pairwise_singleton _ _, fun a ha b hb => ?_⟩
      rw [List.mem_singleton.1 hb]
      obtain ⟨t, ht, rfl⟩ := List.mem_iff_getElem.1 ha
      rw [List.length_take] at ht
      have h5 := h4 (by omega)
      rw [List.getD_eq_getElem?_getD, List.getElem?_eq_getElem (by omega), Option.getD_some] at h5
      rw [List.getElem_take]
      by_cases hti : t = i - 1
      · subst hti; exact h5
      · have h6 := List.pairwise_iff_getElem.1 hs t (i - 1) (by rw [List.length_take]; omega) (by rw [List.length_take]; omega) (by omega)
        rw [List.getElem_take, List.getElem_take] at h6
        omega
  · rw [upTo_more hi, hp, List.nodup_append]
    exact ⟨h.2.1, by simp, fun a ha b hb e => h1 (by rw [List.mem_singleton.1 hb] at e; rw [← e]; exact ha)⟩
  · rw [upTo_more hi, hp] at hx
    rcases List.mem_append.1 hx with hx | hx
    · exact h.2.2 x hx
    · rw [List.mem_singleton.1 hx]; exact ⟨h2, h3⟩
theorem good_next (h : GoodN (upTo P j (P.getD j []).length) n) (hj : j < P.length) : GoodN (P.take (j + 1)) n := by
  have e : upTo P j (P.getD j []).length = P.take (j + 1) := by
    rw [upTo, List.take_length, List.take_succ_eq_append_getElem hj, show P.getD j [] = P[j] by simp [hj]]
  rw [← e]; exact h
theorem good_begin (h : GoodN (P.take j) n) : GoodN (upTo P j 0) n := by
  refine ⟨fun r hr => ?_, by rw [upTo_flatten]; simpa using h.2.1, fun x hx => h.2.2 x (by rw [upTo_flatten] at hx; simpa using hx)⟩
  rw [upTo] at hr
  rcases List.mem_append.1 hr with hr | hr
  · exact h.1 r hr
  · rw [List.mem_singleton.1 hr]; simp
end

/-- block b is a set of numbers: those of P -/
def SetAt (w : World) (b n : Nat) (P : List Int) : Prop := ∃ D : DataW Unit, w.ownsMap Try.prog 3 (unitElem (H := Unit)) b n D ∧ ∀ x, Maps.has D (.int .i64 x) = decide (x ∈ P)
section
variable {w w' : World} {b n : Nat} {P : List Int}
theorem SetAt.kept {row : Option Nat} (h : SetAt w b n P) (hg : w.grownBy w' row) (hb : some b ≠ row) : SetAt w' b n P := h.elim fun D h => ⟨D, h.1.kept hg hb, h.2⟩
theorem SetAt.alloc (h : SetAt w b n P) (o : Obj) : SetAt (w.alloc o) b n P := h.elim fun D h => ⟨D, h.1.alloc o, h.2⟩
theorem SetAt.lt (h : SetAt w b n P) : b < w.heap.size := h.elim fun _ h => h.1.lt
theorem SetAt.wider {m : Nat} (h : SetAt w b n P) (hm : n ≤ m) : SetAt w b m P := h.elim fun D h => ⟨D, h.1.mono hm, h.2⟩
theorem setAt_made (w : World) : SetAt (w.alloc (.map #[] 0)) w.heap.size 0 [] := ⟨_, World.ownsMap_made _ _ _ _, fun _ => rfl⟩
variable {ops : Array Oper} {rest : List Oper} {o : Oper} {a : Act} {Q : Exit → Act → World → Prop}
theorem set_look (hg : o.guard = none) {t : TypeId} {m x : Operand} (hop : o.op = Op.lookup t m x true) (ht : Try.prog.underlying t = some (.map 3 58))
    (hm : a.eval m = .map (some b)) (h : SetAt w b n P) {k : Int} (hx : a.eval x = .int .i64 k) (hk : (Lit.int .i64 k).wf = true) {bb : Bool} (hbb : decide (k ∈ P) = bb)
    (hK : wpList Try.prog ops Q rest (a.put o.dst (.tuple #[.agg #[], .bool bb])) w) : wpList Try.prog ops Q (o :: rest) a w := by
  obtain ⟨D, hown, hR⟩ := h
  refine wpList_lookup_own_unit w hg m x t hop 3 58 keyI ht (by go_simp) b n D hm hown _ (.int .i64 k) hx (keyOf_int_mk Try.underlying3 hk) ?_
  rw [hR k, hbb]; exact hK
theorem set_put (hg : o.guard = none) {t : TypeId} {m x v : Operand} (hop : o.op = Op.mapUpdate t m x v) (ht : Try.prog.underlying t = some (.map 3 58))
    (hm : a.eval m = .map (some b)) (h : SetAt w b n P) (hn : n < maxLen) {k : Int} (hx : a.eval x = .int .i64 k) (hv : a.eval v = .agg #[]) (hk : (Lit.int .i64 k).wf = true)
    (hK : ∀ w', SetAt w' b (n + 1) (P ++ [k]) → w.grownBy w' (some b) → wpList Try.prog ops Q rest (a.put o.dst undef) w') :
    wpList Try.prog ops Q (o :: rest) a w := by
  obtain ⟨D, hown, hR⟩ := h
  refine wpList_mapUpdate_own w hg m x v t hop 3 58 keyI ht unitElem b n D hm hown hn _ _ (.int .i64 k) hx hv (keyOf_int_mk Try.underlying3 hk) _ [] unitElem_mk ?_
  intro w' h1 h2
  refine hK w' ⟨_, h1, fun y => ?_⟩ h2
  by_cases e : y = k
  · subst e
    rw [has_put_same hown.isMap (k := .int .i64 y) trivial]
    simp
  · rw [has_put_other (fun e2 => e (by injection e2)), hR y]
    simp [e]
end
theorem kept_cell {w w' : World} {b q i : Nat} {v : Value} (h : w.cell? ⟨q, i, none⟩ = some v) (hg : w.grownBy w' (some b)) (hb : q ≠ b) : w'.cell? ⟨q, i, none⟩ = some v :=
  hg.cell h (fun e => hb (Option.some.inj e))

set_option maxRecDepth 20000 in
set_option maxHeartbeats 4000000 in
theorem sright_any (A : Option Addr) (c : Nat) (L : List Sq) (vs : List Value) (n : Int) (w : World) (h : SeqsR w A L vs) (hl : L.length ≤ 1000000) (hp : ∀ s ∈ L, s.pl.length ≤ 1000000) (hq : ∀ s ∈ L, ∀ x ∈ s.pl, (Lit.int .i64 x).wf = true) :
    Calls Try.prog 16 #[.slice A L.length c, .int .i64 n] w fun ed w' => ed = .returned (.bool (rightI (L.map (·.pl)) n)) ∧ Below w.heap.size w w' := by
  have H := Lib.hid h
  have HP := Lib.hid hp
  have HQ := Lib.hid hq
  obtain ⟨P, hP⟩ : ∃ P, L.map (·.pl) = P := ⟨_, rfl⟩
  have HPP : Hid (P.length = L.length ∧ ∀ j (hj : j < L.length), P.getD j [] = L[j].pl) := Lib.hid (by subst hP; exact ⟨by simp, fun j hj => by simp [hj]⟩)
  rw [hP]
  clear h hp hq hP
  have hmm := @run_makeMap Try.prog
  go_enter Try.func16, Try.ntmps16
  go_wp2_with fail
  clear hmm
  go_loopw [15] (fun jv wr => ∃ j : Nat, j ≤ L.length ∧ jv = .int .i64 j ∧ SetAt wr w.heap.size (j * 1000000) (P.take j).flatten ∧ Hid (GoodN (P.take j) n) ∧ Below w.heap.size w wr) (fun jv _ => L.length - (intOf jv).toNat)
  case atStart => exact ⟨0, by omega, rfl, by simpa using setAt_made w, Lib.hid ⟨fun r hr => by simp at hr, by simp, fun x hx => by simp at hx⟩, below_alloc _ _⟩
  case round =>
    obtain ⟨j, hj, rfl, hset, HG, hb⟩ := hrel
    have HSE := Lib.hid hset
    have HB := Lib.hid hb
    clear hset hb
    by_cases hlt : j < L.length
    · obtain ⟨g, off, Aj, cj, hA, hg, ⟨p0, p1, p2, p3⟩, hli⟩ := (H.out.up HB.out).at' hlt
      obtain ⟨s, hs⟩ : ∃ s, L[j] = s := ⟨_, rfl⟩
      have hpl : s.pl.length ≤ 1000000 := by rw [← hs]; exact HP.out _ (List.getElem_mem hlt)
      have HWF : Hid (∀ x ∈ s.pl, (Lit.int .i64 x).wf = true) := Lib.hid (by rw [← hs]; exact HQ.out _ (List.getElem_mem hlt))
      have HPJ : Hid (P.getD j [] = s.pl) := Lib.hid (by rw [HPP.out.2 j hlt, hs])
      rw [hs] at p0 p1 p2 p3 hli
      subst hA
      obtain ⟨pl, lev, sos, eos⟩ := s
      simp only at p0 p1 p2 p3 hli hpl HWF HPJ
      have HLI : Hid (Lies w w.heap.size Aj (ints .i64 pl)) := Lib.hid (by
        obtain ⟨g', off', Aj', cj', hA', hg', ⟨q0, _, _, _⟩, hli'⟩ := H.out.at' hlt
        injection hA' with hA'
        injection hA' with h1 h2 _
        subst h1 h2
        rw [hs] at q0 hli'
        have h3 : wr.cell? ⟨g, off + j * 4, none⟩ = some (.slice Aj' pl.length cj') := by rw [HB.out.cell hg']; exact q0
        rw [p0] at h3
        injection h3 with h3
        injection h3 with h3 _ _
        subst h3
        exact hli')
      obtain ⟨np, hnp⟩ : ∃ x, pl.length = x := ⟨_, rfl⟩
      have HNP := Lib.hid hnp
      rw [hnp] at p0 hpl
      have b0 : (0 : Int) ≤ (j : Int) := by omega
      have b1 : (j : Int) < (L.length : Int) := by omega
      clear hs hli hnp
      go_wp2_with fail
      have hqbw : w.heap.size < wr.heap.size := HSE.out.lt
      obtain ⟨W, hW⟩ : ∃ W, wr.alloc (.cells #[.slice Aj np cj, .int .i64 lev, .int .i64 sos, .int .i64 eos] 36) = W := ⟨_, rfl⟩
      obtain ⟨qb, hqb⟩ : ∃ q, wr.heap.size = q := ⟨_, rfl⟩
      have START : Hid (SetAt W w.heap.size (j * 1000000 + 0) (upTo P j 0).flatten ∧ GoodN (upTo P j 0) n ∧ Below w.heap.size w W ∧ W.cell? ⟨qb, 0, none⟩ = some (.slice Aj np cj) ∧ qb < W.heap.size) := Lib.hid (by
        subst hW hqb
        exact ⟨by rw [upTo_flatten, List.take_zero, List.append_nil, Nat.add_zero]; exact HSE.out.alloc _, good_begin HG.out, HB.out.trans ((below_alloc wr _).mono HB.out.size), boxed (Below.refl _ _) rfl, by simp⟩)
      rw [hqb] at hqbw ⊢
      rw [hW]
      clear hW hqb p0 p1 p2 p3
      go_loopw [22] (fun iv wr => ∃ i : Nat, i ≤ np ∧ iv = .int .i64 i ∧ SetAt wr w.heap.size (j * 1000000 + i) (upTo P j i).flatten ∧ Hid (GoodN (upTo P j i) n) ∧ Below w.heap.size w wr ∧ wr.cell? ⟨qb, 0, none⟩ = some (.slice Aj np cj) ∧ qb < wr.heap.size) (fun iv _ => np - (intOf iv).toNat)
      case atStart => exact ⟨0, by omega, rfl, START.out.1, Lib.hid START.out.2.1, START.out.2.2.1, START.out.2.2.2.1, START.out.2.2.2.2⟩
      case round =>
        obtain ⟨i, hi, rfl, hset, HGi, hb, hbox, hbl⟩ := hrel
        have HSI := Lib.hid hset
        have HBi := Lib.hid hb
        have HBL := Lib.hid hbl
        have HBX := Lib.hid hbox
        clear hset hb hbl
        by_cases hilt : i < np
        · have hil : i < pl.length := by have := HNP.out; omega
          have hilg : i < (P.getD j []).length := by rw [HPJ.out]; exact hil
          have hjP : j < P.length := by have := HPP.out.1; omega
          obtain ⟨pa, hpa, _, hcp⟩ := (HLI.out.below HBi.out).int hil
          subst hpa
          obtain ⟨p, hp⟩ : ∃ x, pl[i] = x := ⟨_, rfl⟩
          have HPG : Hid ((P.getD j [])[i] = p) := Lib.hid (by simp only [HPJ.out]; exact hp)
          have hwf : (Lit.int .i64 p).wf = true := by rw [← hp]; exact HWF.out _ (List.getElem_mem hil)
          rw [hp] at hcp
          have HIL := Lib.hid hilg
          have c0 : (0 : Int) ≤ (i : Int) := by omega
          have c1 : (i : Int) < (np : Int) := by omega
          have HJP := Lib.hid hjP
          clear hp hjP
          rcases hag : decide (p ∈ (upTo P j i).flatten) with _ | _
          · have HAG := Lib.hid hag
            clear hag
            rcases hp0 : decide (p < 0) with _ | _
            · rcases hpn : decide (n ≤ p) with _ | _
              · rcases hi0 : decide (0 < i) with _ | _
                · have HI0 : Hid (¬ 0 < i) := Lib.hid (by simpa using hi0)
                  clear hbox hi0
                  go_upto_region 9 with (first
                    | (refine set_look rfl rfl Try.underlying57 rfl HSI.out rfl hwf HAG.out ?_)
                    | fail)
                  have hz2 : decide ((0 : Int) < (i : Int)) = false := by have := HI0.out; simp; omega
                  have hwz : IntKind.i64.wrap ((i : Int) + 1) = (i : Int) + 1 := by rw [IntWalk.i64_in _ (by omega)]
                  clear hcp c0 c1
                  generalize hiz : (i : Int) = iz at *
                  have HIZ := Lib.hid hiz
                  clear hiz
                  go_upto_region 11 with fail
                  go_wp2_with (first
                    | (refine set_put rfl rfl Try.underlying57 rfl (HSI.out.alloc _) (by unfold maxLen; omega) rfl rfl hwf ?_; intro w7 s7 g7; have S7 := Lib.hid s7; have G7 := Lib.hid g7; clear s7 g7)
                    | fail)
                  go_roundw
                  case rel =>
                    refine ⟨i + 1, by omega, by rw [← HIZ.out]; go_num, ?_, Lib.hid (good_more HGi.out HIL.out HPG.out (by simpa using HAG.out) (by simpa using hp0) (by simpa using hpn) (fun h0 => absurd h0 HI0.out)), ?_, ?_, ?_⟩
                    · rw [upTo_more HIL.out, HPG.out, ← Nat.add_assoc]; exact S7.out
                    · exact (HBi.out.trans ((below_alloc _ _).mono HBi.out.size)).grown G7.out (Nat.le_trans HBi.out.size (by simp)) (fun k hk => by cases hk; exact Nat.le_refl _)
                    · refine kept_cell ?_ G7.out (by omega)
                      rw [(below_alloc _ _).cell HBL.out]; exact HBX.out
                    · have := G7.out.size; have := HBL.out; simp at *; omega
                  case measure => rw [← HIZ.out]; simp [intOf]; omega
                · have HI0 : Hid (0 < i) := Lib.hid (by simpa using hi0)
                  obtain ⟨i', hi'⟩ : ∃ x, i - 1 = x := ⟨_, rfl⟩
                  have hil' : i' < pl.length := by have := HNP.out; omega
                  obtain ⟨pa', hpa', _, hcq⟩ := (HLI.out.below HBi.out).int hil'
                  injection hpa' with hpa'
                  subst hpa'
                  obtain ⟨q, hq⟩ : ∃ x, pl[i'] = x := ⟨_, rfl⟩
                  have HQG : Hid ((P.getD j []).getD (i - 1) 0 = q) := Lib.hid (by rw [HPJ.out, hi']; simp [hil', hq])
                  rw [hq] at hcq
                  have hcq2 : ∀ o : Obj, (World.alloc _ o).cell? (pa.add i') = some (.int .i64 q) := fun o => by rw [(below_alloc _ o).cell (World.block_lt_of_cell? _ _ hcq)]; exact hcq
                  have hbx2 : ∀ o : Obj, (World.alloc _ o).cell? ⟨qb, 0, none⟩ = some (.slice (some pa) np cj) := fun o => by rw [(below_alloc _ o).cell HBL.out]; exact HBX.out
                  have e0 : (0 : Int) ≤ (i' : Int) := by omega
                  have e1 : (i' : Int) < (np : Int) := by omega
                  have hwi : IntKind.i64.wrap ((i : Int) - 1) = (i' : Int) := by have := HI0.out; rw [IntWalk.i64_in _ (by omega)]; omega
                  clear hq hi' hbox
                  rcases hqp : decide (p ≤ q) with _ | _
                  · go_wp2_with (first
                      | (refine set_look rfl rfl Try.underlying57 rfl HSI.out rfl hwf HAG.out ?_)
                      | (refine set_put rfl rfl Try.underlying57 rfl (HSI.out.alloc _) (by unfold maxLen; omega) rfl rfl hwf ?_; intro w7 s7 g7; have S7 := Lib.hid s7; have G7 := Lib.hid g7; clear s7 g7)
                      | fail)
                    go_roundw
                    case rel =>
                      refine ⟨i + 1, by omega, by go_num, ?_, Lib.hid (good_more HGi.out HIL.out HPG.out (by simpa using HAG.out) (by simpa using hp0) (by simpa using hpn) (fun h0 => by rw [HQG.out]; simpa using hqp)), ?_, ?_, ?_⟩
                      · rw [upTo_more HIL.out, HPG.out, ← Nat.add_assoc]; exact S7.out
                      · exact (HBi.out.trans ((below_alloc _ _).mono HBi.out.size)).grown G7.out (Nat.le_trans HBi.out.size (by simp)) (fun k hk => by cases hk; exact Nat.le_refl _)
                      · refine kept_cell ?_ G7.out (by omega)
                        rw [(below_alloc _ _).cell HBL.out]; exact HBX.out
                      · have := G7.out.size; have := HBL.out; simp at *; omega
                    case measure => simp [intOf]; omega
                  · go_wp2_with (first
                      | (refine set_look rfl rfl Try.underlying57 rfl HSI.out rfl hwf HAG.out ?_)
                      | fail)
                    go_ret
                    exact ⟨ret_bool (rightI_false (bad_fall HJP.out HIL.out HPG.out HI0.out HQG.out (by simpa using hqp))).symm, by exact below_same (HBi.out.trans ((below_alloc _ _).mono HBi.out.size)) rfl rfl rfl rfl⟩
              · clear hbox
                go_wp2_with (first
                  | (refine set_look rfl rfl Try.underlying57 rfl HSI.out rfl hwf HAG.out ?_)
                  | fail)
                go_ret
                exact ⟨ret_bool (rightI_false (bad_out HJP.out HIL.out HPG.out (.inr (by simpa using hpn)))).symm, by exact below_same (HBi.out.trans ((below_alloc _ _).mono HBi.out.size)) rfl rfl rfl rfl⟩
            · clear hbox
              go_wp2_with (first
                | (refine set_look rfl rfl Try.underlying57 rfl HSI.out rfl hwf HAG.out ?_)
                | fail)
              go_ret
              exact ⟨ret_bool (rightI_false (bad_out HJP.out HIL.out HPG.out (.inl (by simpa using hp0)))).symm, by exact below_same (HBi.out.trans ((below_alloc _ _).mono HBi.out.size)) rfl rfl rfl rfl⟩
          · have HAG := Lib.hid hag
            clear hag hbox
            go_wp2_with (first
              | (refine set_look rfl rfl Try.underlying57 rfl HSI.out rfl hwf HAG.out ?_)
              | fail)
            go_ret
            exact ⟨ret_bool (rightI_false (bad_again HJP.out HIL.out HPG.out (by simpa using HAG.out))).symm, by exact below_same (HBi.out.trans ((below_alloc _ _).mono HBi.out.size)) rfl rfl rfl rfl⟩
        · obtain rfl : i = np := by omega
          clear hbox
          go_wp2_with fail
          go_roundw
          case rel =>
            have hjP : j < P.length := by have := HPP.out.1; omega
            refine ⟨j + 1, by omega, by go_num, ?_, Lib.hid (good_next (by rw [HPJ.out, HNP.out]; exact HGi.out) hjP), HBi.out⟩
            have h1 := HSI.out.wider (m := (j + 1) * 1000000) (by omega)
            rw [upTo_flatten, HPJ.out, show pl.take i = pl from List.take_of_length_le (by have := HNP.out; omega)] at h1
            rw [List.take_succ_eq_append_getElem hjP, List.flatten_append, show P[j] = pl by have := HPJ.out; simpa [hjP] using this]
            simpa using h1
          case measure => simp [intOf]; omega
    · obtain rfl : j = L.length := by omega
      go_wp2_with fail
      go_ret
      have h1 := HG.out
      rw [← HPP.out.1, List.take_length] at h1
      exact ⟨ret_bool (rightI_true h1).symm, HB.out⟩
end Go.Proofs.Ytajgjloailliiaa
