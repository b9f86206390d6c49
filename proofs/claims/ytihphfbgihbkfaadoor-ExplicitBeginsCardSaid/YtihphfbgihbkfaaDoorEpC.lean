/- Layer 6: the program's over, known, embed, isolate, endIsolate. -/
import Derived.Test.YtihphfbgihbkfaaDoorEpB
import Derived.Test.YtihphfbgihbkfaaDoorBsD
namespace Go.Proofs.YtihphfbgihbkfaaDoor
open Go.RowKit

/-- what stands below the call: the classes' names, the list -/
structure Ctx (w : World) (B : Nat) (A : Option Addr) (l : List Int) : Prop where
  tabs : ClsTabs w
  big : 0 < B
  list : Lies w B A (ints .i64 l)
theorem Ctx.below {w w' : World} {B : Nat} {A : Option Addr} {l : List Int} (h : Ctx w B A l) (hb : Below B w w') : Ctx w' B A l := ⟨h.tabs.below hb h.big, h.big, h.list.below hb⟩

/-- a class as an entry's override has it -/
def overE (e : Ent) (k : Int) : Int := if e.over = -1 then k else e.over
set_option maxHeartbeats 1000000 in
theorem over_any (e : Ent) (k : Int) (w : World) :
    Calls Tryd.prog 28 #[.agg #[.int .i64 e.lev, .int .i64 e.over, .bool e.iso], .int .i64 k] w fun ed w' => ed = .returned (.int .i64 (overE e k)) ∧ Below w.heap.size w w' := by
  rcases h : (e.over == -1) with _ | _
  · have hz : overE e k = e.over := by rw [overE, if_neg (by simpa using h)]
    rw [hz]
    go_enter Tryd.func28, Tryd.ntmps28
    go_wp2
    go_ret
    exact ⟨rfl, below_alloc _ _⟩
  · have hz : overE e k = k := by rw [overE, if_pos (by simpa using h)]
    rw [hz]
    go_enter Tryd.func28, Tryd.ntmps28
    go_wp2
    go_ret
    exact ⟨rfl, below_alloc _ _⟩

/-- what isn't a class counts as L -/
def knownI (k : Int) : Int := if k < 0 ∨ 22 < k then 0 else k
set_option maxHeartbeats 1000000 in
theorem known_any (k : Int) (w : World) (hT : ClsTabs w) : Calls Tryd.prog 30 #[.int .i64 k] w fun ed w' => ed = .returned (.int .i64 (knownI k)) ∧ w = w' := by
  have hw := wordOf_isEmpty k
  by_cases h : k < 0 ∨ 22 < k
  · rw [decide_eq_true h] at hw
    have hz : knownI k = 0 := by rw [knownI, if_pos h]
    rw [hz]
    clear h
    go_enter Tryd.func30, Tryd.ntmps30
    go_wp2_with fail
    refine (word_any k w hT).mono ?_
    rintro e wq ⟨rfl, rfl⟩
    go_wp2_with fail
    go_ret
    exact ⟨rfl, rfl⟩
  · rw [decide_eq_false h] at hw
    have hz : knownI k = k := by rw [knownI, if_neg h]
    rw [hz]
    clear h
    go_enter Tryd.func30, Tryd.ntmps30
    go_wp2_with fail
    refine (word_any k w hT).mono ?_
    rintro e wq ⟨rfl, rfl⟩
    go_wp2_with fail
    go_ret
    exact ⟨rfl, rfl⟩

/-- what is left out -/
def embedP (p : P6) (k : Int) : P6 := if k = 16 then beginP p 1 (-1) else if k = 14 then beginP p 0 (-1) else if k = 17 then beginP p 1 1 else if k = 15 then beginP p 0 0 else if k = 18 then backP p else p
set_option maxRecDepth 20000 in
set_option maxHeartbeats 2000000 in
theorem pembed_any (w : World) (B g : Nat) (p : P6) (lsl sv : Value) (k : Int) (e : Ent) (st : List Ent) (hst : p.st = e :: st) (hp : IsP w B g p lsl sv) (hs : p.Small) :
    Calls Tryd.prog 25 #[.pointer (some ⟨g, 0, none⟩), .int .i64 k] w fun ed w' => ed = .returned (.tuple #[]) ∧ Went w w' B g (embedP p k) lsl sv ∧ Below B w w' := by
  have HP := Lib.hid hp
  have BW : Hid (Below B w w) := Lib.hid (Below.refl _ _)
  clear hp
  rcases h1 : (k == 16) with _ | _
  · rcases h2 : (k == 14) with _ | _
    · rcases h3 : (k == 17) with _ | _
      · rcases h4 : (k == 15) with _ | _
        · rcases h5 : (k == 18) with _ | _
          · have HE : Hid (embedP p k = p) := Lib.hid (by rw [embedP, if_neg (by simpa using h1), if_neg (by simpa using h2), if_neg (by simpa using h3), if_neg (by simpa using h4), if_neg (by simpa using h5)])
            go_enter Tryd.func25, Tryd.ntmps25
            go_wp2_with fail
            (try simp only [Exit.inBlock, Exit.then])
            exact bodyPost_end (results_none rfl _ _ _) rfl ⟨rfl, by rw [HE.out]; exact ⟨_, HP.out, Frame.refl _ _ _⟩, BW.out⟩
          · have HE : Hid (embedP p k = backP p) := Lib.hid (by rw [embedP, if_neg (by simpa using h1), if_neg (by simpa using h2), if_neg (by simpa using h3), if_neg (by simpa using h4), if_pos (by simpa using h5)])
            go_enter Tryd.func25, Tryd.ntmps25
            go_wp2_with fail
            refine (endEmbed_any w B g p lsl sv e st hst HP.out hs).mono ?_
            rintro ed w1 ⟨rfl, x1, b1⟩
            have X1 := Lib.hid x1
            have B1 := Lib.hid b1
            clear x1 b1
            go_wp2_with fail
            (try simp only [Exit.inBlock, Exit.then])
            exact bodyPost_end (results_none rfl _ _ _) rfl ⟨rfl, by rw [HE.out]; exact X1.out, B1.out⟩
        · have HE : Hid (embedP p k = beginP p 0 0) := Lib.hid (by rw [embedP, if_neg (by simpa using h1), if_neg (by simpa using h2), if_neg (by simpa using h3), if_pos (by simpa using h4)])
          go_enter Tryd.func25, Tryd.ntmps25
          go_wp2_with fail
          refine (beginEmbed_any w B g p lsl sv 0 0 e st hst HP.out hs).mono ?_
          rintro ed w1 ⟨rfl, x1, b1⟩
          have X1 := Lib.hid x1
          have B1 := Lib.hid b1
          clear x1 b1
          go_wp2_with fail
          (try simp only [Exit.inBlock, Exit.then])
          exact bodyPost_end (results_none rfl _ _ _) rfl ⟨rfl, by rw [HE.out]; exact X1.out, B1.out⟩
      · have HE : Hid (embedP p k = beginP p 1 1) := Lib.hid (by rw [embedP, if_neg (by simpa using h1), if_neg (by simpa using h2), if_pos (by simpa using h3)])
        go_enter Tryd.func25, Tryd.ntmps25
        go_wp2_with fail
        refine (beginEmbed_any w B g p lsl sv 1 1 e st hst HP.out hs).mono ?_
        rintro ed w1 ⟨rfl, x1, b1⟩
        have X1 := Lib.hid x1
        have B1 := Lib.hid b1
        clear x1 b1
        go_wp2_with fail
        (try simp only [Exit.inBlock, Exit.then])
        exact bodyPost_end (results_none rfl _ _ _) rfl ⟨rfl, by rw [HE.out]; exact X1.out, B1.out⟩
    · have HE : Hid (embedP p k = beginP p 0 (-1)) := Lib.hid (by rw [embedP, if_neg (by simpa using h1), if_pos (by simpa using h2)])
      go_enter Tryd.func25, Tryd.ntmps25
      go_wp2_with fail
      refine (beginEmbed_any w B g p lsl sv 0 (-1) e st hst HP.out hs).mono ?_
      rintro ed w1 ⟨rfl, x1, b1⟩
      have X1 := Lib.hid x1
      have B1 := Lib.hid b1
      clear x1 b1
      go_wp2_with fail
      (try simp only [Exit.inBlock, Exit.then])
      exact bodyPost_end (results_none rfl _ _ _) rfl ⟨rfl, by rw [HE.out]; exact X1.out, B1.out⟩
  · have HE : Hid (embedP p k = beginP p 1 (-1)) := Lib.hid (by rw [embedP, if_pos (by simpa using h1)])
    go_enter Tryd.func25, Tryd.ntmps25
    go_wp2_with fail
    refine (beginEmbed_any w B g p lsl sv 1 (-1) e st hst HP.out hs).mono ?_
    rintro ed w1 ⟨rfl, x1, b1⟩
    have X1 := Lib.hid x1
    have B1 := Lib.hid b1
    clear x1 b1
    go_wp2_with fail
    (try simp only [Exit.inBlock, Exit.then])
    exact bodyPost_end (results_none rfl _ _ _) rfl ⟨rfl, by rw [HE.out]; exact X1.out, B1.out⟩

/-- a beginning of an isolate -/
def isolateP (p : P6) (l : List Int) (i : Int) : P6 := if (overP p || !fitP p (isolate l i)) = true then { p with isos := p.isos + 1 } else { pushP p (isolate l i) (-1) true with valid := p.valid + 1 }
set_option maxRecDepth 20000 in
set_option maxHeartbeats 4000000 in
theorem pisolate_any (w : World) (B g : Nat) (p : P6) (A : Option Addr) (l : List Int) (cap : Nat) (sv : Value) (i : Int) (e : Ent) (st : List Ent) (hst : p.st = e :: st) (hp : IsP w B g p (.slice A l.length cap) sv) (hs : p.Small) (hc : Ctx w B A l) (hl : l.length ≤ 1000000) (hcap : l.length ≤ cap) :
    Calls Tryd.prog 27 #[.pointer (some ⟨g, 0, none⟩), .int .i64 i] w fun ed w' => ed = .returned (.tuple #[]) ∧ Went w w' B g (isolateP p l i) (.slice A l.length cap) sv ∧ Below B w w' := by
  have HP := Lib.hid hp
  have HST := Lib.hid hst
  have HC := Lib.hid hc
  have hsm : p.st.length ≤ 1000000 := by have := hs.st; omega
  have hisos := hs.isos
  have hval := hs.valid
  obtain ⟨q, hq⟩ : ∃ q, isolateP p l i = q := ⟨_, rfl⟩
  have HQ := Lib.hid hq
  rw [hq]
  obtain ⟨d, hd⟩ : ∃ d, isolate l i = d := ⟨_, rfl⟩
  have HD := Lib.hid hd
  have hw1 : IntKind.i64.wrap ((p.isos : Int) + 1) = ((p.isos + 1 : Nat) : Int) := by rw [IntWalk.i64_in _ (by omega)]; omega
  have hw2 : IntKind.i64.wrap ((p.valid : Int) + 1) = ((p.valid + 1 : Nat) : Int) := by rw [IntWalk.i64_in _ (by omega)]; omega
  have h0 := hp.field 0 (by omega)
  simp only [P6.cells, List.getElem?_cons_zero] at h0
  clear hp hst hs hq hd hc
  rcases hO : overP p with _ | _
  · have HO := Lib.hid hO
    clear hO
    go_enter Tryd.func27, Tryd.ntmps27
    go_wp2_with fail
    refine (overflows_any w B g p _ ⟨_, HP.out⟩).mono ?_
    rintro e wq ⟨rfl, rfl⟩
    rw [HO.out]
    go_wp2_with fail
    refine (isolate_any A l cap i w HC.out.tabs (HC.out.list.wider HP.out.le) hl hcap).mono ?_
    rintro ed w1 ⟨rfl, b1⟩
    rw [HD.out]
    have X1 := Lib.hid (HP.out.below b1 (Nat.le_refl _))
    have F1 : Hid (Frame w w1 g sv sv) := Lib.hid (Frame.below b1)
    have B1 := Lib.hid (b1.mono HP.out.le)
    clear b1
    go_wp2_with fail
    refine (ppush_any w1 B g p _ sv d (-1) true e st HST.out X1.out hsm).mono ?_
    rintro ed w2 ⟨rfl, x2, b2⟩
    have X2 := Lib.hid x2
    have B2 := Lib.hid (B1.out.trans b2)
    clear x2 b2
    rcases hF : fitP p d with _ | _
    · have HU : Hid (pushP p d (-1) true = p) := Lib.hid (by unfold fitP at hF; unfold pushP; rw [HST.out] at hF ⊢; simp only [decide_eq_false_iff_not] at hF; simp only; rw [if_neg hF])
      have X3 : Hid (Went w1 w2 B g p (.slice A l.length cap) sv) := Lib.hid (HU.out ▸ X2.out)
      obtain ⟨sv2, h, fr⟩ := X3.out
      have h3 := h.field 3 (by omega)
      simp only [P6.cells, List.getElem?_cons_succ, List.getElem?_cons_zero] at h3
      have H := Lib.hid h
      have FR := Lib.hid (F1.out.trans fr)
      have HE : Hid ({ p with isos := p.isos + 1 } = q) := Lib.hid (by rw [← HQ.out, isolateP, HO.out, HD.out, hF, if_pos (by rfl)])
      clear h hF fr h0
      go_wp2_with (first
        | (refine store_cell w2 B _ _ g 3 6 (.int .i64 ((p.isos + 1 : Nat) : Int)) _ w2 rfl rfl rfl (by kernel_rfl) rfl rfl rfl H.out.row (by simp [P6.cells]) (Below.refl _ _) ?_; intro w3 r3 b3 g3; have X4 := Lib.hid (H.out.stored (p' := { p with isos := p.isos + 1 }) r3 g3 rfl rfl); have B3 := Lib.hid (B2.out.trans b3); have G3 := Lib.hid g3; clear r3 b3 g3)
        | fail)
      (try simp only [Exit.inBlock, Exit.then])
      exact bodyPost_ret (v := .tuple #[]) (results_none rfl _ _ _) rfl ⟨rfl, by rw [← HE.out]; exact ⟨_, X4.out, FR.out.trans (Frame.store G3.out)⟩, B3.out⟩
    · have HE : Hid ({ pushP p d (-1) true with valid := p.valid + 1 } = q) := Lib.hid (by rw [← HQ.out, isolateP, HO.out, HD.out, hF, if_neg (by simp)])
      obtain ⟨sv2, h, fr⟩ := X2.out
      have hv : (pushP p d (-1) true).valid = p.valid := by unfold pushP; split <;> (try split) <;> rfl
      have h3 := h.field 5 (by omega)
      simp only [P6.cells, List.getElem?_cons_succ, List.getElem?_cons_zero] at h3
      rw [hv] at h3
      have H := Lib.hid h
      have FR := Lib.hid (F1.out.trans fr)
      clear h hF fr h0 hv
      go_wp2_with (first
        | (refine store_cell w2 B _ _ g 5 6 (.int .i64 ((p.valid + 1 : Nat) : Int)) _ w2 rfl rfl rfl (by kernel_rfl) rfl rfl rfl H.out.row (by simp [P6.cells]) (Below.refl _ _) ?_; intro w3 r3 b3 g3; have X4 := Lib.hid (H.out.stored (p' := { pushP p d (-1) true with valid := p.valid + 1 }) r3 g3 rfl rfl); have B3 := Lib.hid (B2.out.trans b3); have G3 := Lib.hid g3; clear r3 b3 g3)
        | fail)
      (try simp only [Exit.inBlock, Exit.then])
      exact bodyPost_end (results_none rfl _ _ _) rfl ⟨rfl, by rw [← HE.out]; exact ⟨_, X4.out, FR.out.trans (Frame.store G3.out)⟩, B3.out⟩
  · have h3 := HP.out.field 3 (by omega)
    simp only [P6.cells, List.getElem?_cons_succ, List.getElem?_cons_zero] at h3
    have HO := Lib.hid hO
    have HE : Hid ({ p with isos := p.isos + 1 } = q) := Lib.hid (by rw [← HQ.out, isolateP, HO.out, if_pos (by rfl)])
    clear hO h0
    go_enter Tryd.func27, Tryd.ntmps27
    go_wp2_with fail
    refine (overflows_any w B g p _ ⟨_, HP.out⟩).mono ?_
    rintro e wq ⟨rfl, rfl⟩
    rw [HO.out]
    go_wp2_with (first
      | (refine store_cell w B _ _ g 3 6 (.int .i64 ((p.isos + 1 : Nat) : Int)) _ w rfl rfl rfl (by kernel_rfl) rfl rfl rfl HP.out.row (by simp [P6.cells]) (Below.refl _ _) ?_; intro w3 r3 b3 g3; have X4 := Lib.hid (HP.out.stored (p' := { p with isos := p.isos + 1 }) r3 g3 rfl rfl); have B3 := Lib.hid b3; have G3 := Lib.hid g3; clear r3 b3 g3)
      | fail)
    (try simp only [Exit.inBlock, Exit.then])
    exact bodyPost_ret (v := .tuple #[]) (results_none rfl _ _ _) rfl ⟨rfl, by rw [← HE.out]; exact ⟨_, X4.out, Frame.store G3.out⟩, B3.out⟩

/-- an isolate's end -/
def endP (p : P6) : P6 := if 0 < p.isos then { p with isos := p.isos - 1 } else if 0 < p.valid then { p with embeds := 0, st := unwind p.st, valid := p.valid - 1 } else p
set_option maxRecDepth 20000 in
set_option maxHeartbeats 4000000 in
theorem endIsolate_any (w : World) (B g : Nat) (p : P6) (lsl sv : Value) (e : Ent) (st : List Ent) (hst : (endP p).st = e :: st) (h : IsP w B g p lsl sv) (hs : p.Small) :
    Calls Tryd.prog 29 #[.pointer (some ⟨g, 0, none⟩)] w fun ed w' => ed = .returned (.tuple #[]) ∧ HasP w' B g (endP p) lsl ∧ Below B w w' := by
  have h2 := h.field 3 (by omega)
  have h4 := h.field 5 (by omega)
  simp only [P6.cells, List.getElem?_cons_succ, List.getElem?_cons_zero] at h2 h4
  have H := Lib.hid h
  have BW : Hid (Below B w w) := Lib.hid (Below.refl _ _)
  have hi := hs.isos
  have hv := hs.valid
  have HS := Lib.hid hs
  have hf2 := fun e : Ent => pfield2 e.lev e.over e.iso
  have HF2 := Lib.hid hf2
  rcases h0 : decide (0 < p.isos) with _ | _
  · have n0 : ¬ 0 < p.isos := by simp at h0; omega
    rcases h1 : decide (0 < p.valid) with _ | _
    · have n1 : ¬ 0 < p.valid := by simp at h1; omega
      have HZ : Hid (endP p = p) := Lib.hid (by rw [endP, if_neg n0, if_neg n1])
      clear h hst hs hf2 n0 n1
      go_enter Tryd.func29, Tryd.ntmps29
      go_wp2_with fail
      (try simp only [Exit.inBlock, Exit.then])
      exact bodyPost_end (results_none rfl _ _ _) rfl ⟨rfl, by rw [HZ.out]; exact ⟨_, H.out⟩, BW.out⟩
    · have n1 : 0 < p.valid := by simp at h1; omega
      have hyy : endP p = { p with embeds := 0, st := unwind p.st, valid := p.valid - 1 } := by rw [endP, if_neg n0, if_pos n1]
      have hun : unwind p.st = e :: st := by rw [hyy] at hst; exact hst
      have HZ : Hid (endP p = { p with embeds := 0, st := e :: st, valid := p.valid - 1 }) := Lib.hid (by rw [hyy, hun])
      have HUN := Lib.hid hun
      have hw1 : IntKind.i64.wrap ((p.valid : Int) - 1) = ((p.valid - 1 : Nat) : Int) := by rw [IntWalk.i64_in _ (by omega)]; omega
      clear h hst hs hf2 n0 hyy hun
      go_enter Tryd.func29, Tryd.ntmps29
      go_wp2_with (first
        | (refine store_cell w B _ _ g 4 6 (.int .i64 0) _ w rfl rfl rfl (by kernel_rfl) rfl rfl rfl H.out.row (by simp [P6.cells]) (Below.refl _ _) ?_; intro w1 r1 b1 g1; have X1 := Lib.hid (H.out.stored (p' := { p with embeds := 0 }) r1 g1 rfl rfl); have B1 := Lib.hid b1; clear r1 b1 g1)
        | fail)
      clear h2 h4
      go_loopg [] p.st.length (fun k wr => ∃ s sv', s.length = k ∧ s.length ≤ 100000 ∧ unwind s = e :: st ∧ IsP wr B g { p with embeds := 0, st := s } lsl sv' ∧ Below B w wr)
      case atStart => exact ⟨p.st, sv, rfl, HS.out.st, HUN.out, X1.out, B1.out⟩
      case round =>
        obtain ⟨s, sv', hsk, hsl, hsu, hx, hb⟩ := hrel
        cases s with
        | nil => simp [unwind] at hsu
        | cons e1 s1 =>
          have X2 := Lib.hid hx
          have B2 := Lib.hid hb
          have hf := HF2.out e1
          have hsl' : (e1 :: s1).length ≤ 1000000 := by omega
          rcases hio : e1.iso with _ | _
          · have HU := Lib.hid ((unwind_skip hio).symm.trans hsu)
            have HIO := Lib.hid hio
            rw [hio] at hf
            clear hsu hx hb hio
            go_wp2_with fail
            refine (plast_any wr B g { p with embeds := 0, st := e1 :: s1 } lsl e1 s1 rfl ⟨_, X2.out⟩ hsl').mono ?_
            rintro ed w3 ⟨rfl, b3⟩
            rw [HIO.out]
            have X3 := Lib.hid (X2.out.below b3 (Nat.le_refl _))
            have B3 := Lib.hid (B2.out.trans (b3.mono X2.out.le))
            clear b3
            go_wp2_with fail
            refine (ppop_any w3 B g { p with embeds := 0, st := e1 :: s1 } lsl sv' e1 s1 rfl X3.out hsl').mono ?_
            rintro ed w4 ⟨rfl, ⟨sv4, x4, _⟩, b4⟩
            have X4 := Lib.hid x4
            have B4 := Lib.hid (B3.out.trans b4)
            clear x4 b4
            go_wp2_with fail
            go_roundg s1.length
            case measure => simp at hsk; omega
            case rel => exact ⟨s1, sv4, rfl, by simp at hsl; omega, HU.out, X4.out, B4.out⟩
          · have HU := Lib.hid ((unwind_hit hio).symm.trans hsu)
            have HIO := Lib.hid hio
            rw [hio] at hf
            clear hsu hx hb hio
            go_wp2_with fail
            refine (plast_any wr B g { p with embeds := 0, st := e1 :: s1 } lsl e1 s1 rfl ⟨_, X2.out⟩ hsl').mono ?_
            rintro ed w3 ⟨rfl, b3⟩
            rw [HIO.out]
            have X3 := Lib.hid (X2.out.below b3 (Nat.le_refl _))
            have B3 := Lib.hid (B2.out.trans (b3.mono X2.out.le))
            clear b3
            go_wp2_with fail
            refine (ppop_any w3 B g { p with embeds := 0, st := e1 :: s1 } lsl sv' e1 s1 rfl X3.out hsl').mono ?_
            rintro ed w4 ⟨rfl, ⟨sv4, x4, _⟩, b4⟩
            have X4 := Lib.hid x4
            have B4 := Lib.hid (B3.out.trans b4)
            have h4 := x4.field 5 (by omega)
            simp only [P6.cells, List.getElem?_cons_succ, List.getElem?_cons_zero] at h4
            clear x4 b4
            go_wp2_with (first
              | (refine store_cell w4 B _ _ g 5 6 (.int .i64 ((p.valid - 1 : Nat) : Int)) _ w4 rfl rfl rfl (by kernel_rfl) rfl rfl rfl X4.out.row (by simp [P6.cells]) (Below.refl _ _) ?_; intro w5 r5 b5 g5; have X5 := Lib.hid (X4.out.stored (p' := { p with embeds := 0, st := s1, valid := p.valid - 1 }) r5 g5 rfl rfl); have B5 := Lib.hid (B4.out.trans b5); clear r5 b5 g5)
              | fail)
            (try simp only [Exit.inBlock, Exit.then])
            exact bodyPost_end (results_none rfl _ _ _) rfl ⟨rfl, by rw [HZ.out, ← HU.out]; exact ⟨_, X5.out⟩, B5.out⟩
  · have n0 : 0 < p.isos := by simp at h0; omega
    have HZ : Hid (endP p = { p with isos := p.isos - 1 }) := Lib.hid (by rw [endP, if_pos n0])
    have hw1 : IntKind.i64.wrap ((p.isos : Int) - 1) = ((p.isos - 1 : Nat) : Int) := by rw [IntWalk.i64_in _ (by omega)]; omega
    clear h hst hs hf2
    go_enter Tryd.func29, Tryd.ntmps29
    go_wp2_with (first
      | (refine store_cell w B _ _ g 3 6 (.int .i64 ((p.isos - 1 : Nat) : Int)) _ w rfl rfl rfl (by kernel_rfl) rfl rfl rfl H.out.row (by simp [P6.cells]) (Below.refl _ _) ?_; intro w5 r5 b5 g5; have X5 := Lib.hid (H.out.stored (p' := { p with isos := p.isos - 1 }) r5 g5 rfl rfl); have B5 := Lib.hid b5; clear r5 b5 g5)
      | fail)
    (try simp only [Exit.inBlock, Exit.then])
    exact bodyPost_end (results_none rfl _ _ _) rfl ⟨rfl, by rw [HZ.out]; exact ⟨_, X5.out⟩, B5.out⟩
end Go.Proofs.YtihphfbgihbkfaaDoor
