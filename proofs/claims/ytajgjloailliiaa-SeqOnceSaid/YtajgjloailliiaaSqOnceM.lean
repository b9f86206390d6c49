/- SeqOnce: for every list of numbers, with the levels that are told of it, each place that isn't left out is in one sequence, and all of a sequence have one level. Conditions: none. -/
import Derived.Test.YtajgjloailliiaaSqRm
import Derived.Test.YtajgjloailliiaaLaw
import Derived.Test.YtajgjloailliiaaRows
namespace Go.Proofs.Ytajgjloailliiaa.lawOnce
open Go.ChangeShapes Go.WideShapes Go.ChangeAt Go.RowKit

/-- how many places the first k sequences have -/
def placesN (S : List Sq) (k : Nat) : Nat := ((S.take k).map fun s => s.pl.length).sum
theorem placesN_succ (S : List Sq) (k : Nat) (h : k < S.length) : placesN S (k + 1) = placesN S k + S[k].pl.length := by
  unfold placesN
  rw [List.take_succ_eq_append_getElem h, List.map_append, List.sum_append]
  simp
/-- how many of the first k are kept -/
def keptN8 (l : List Int) (k : Nat) : Nat := ((l.take k).filter fun c => !isOut c).length
theorem keptN8_succ (l : List Int) (k : Nat) (h : k < l.length) : keptN8 l (k + 1) = if isOut l[k] then keptN8 l k else keptN8 l k + 1 := by
  unfold keptN8
  rw [List.take_succ_eq_append_getElem h, List.filter_append]
  cases ho : isOut l[k] <;> simp [ho]

set_option maxRecDepth 20000 in
set_option maxHeartbeats 8000000 in
theorem walk_ok (w : World) (A : Option Addr) (l : List Int) (c : Nat) (hl : l.length ≤ 300) (h : Lies w w.heap.size A (ints .i64 l)) (b : Bool) :
    Calls Try.prog 4 #[.slice A l.length c, .bool b] w fun e w' => e = .returned (.bool true) ∧ Below w.heap.size w w' := by
  have hl' : l.length ≤ 1000000 := by omega
  have H := Lib.hid h
  obtain ⟨n, hn⟩ : ∃ n : Int, (if b then 1 else 0) = n := ⟨_, rfl⟩
  have HN := Lib.hid hn
  obtain ⟨lv, hlv⟩ : ∃ x, lvs l n = x := ⟨_, rfl⟩
  obtain ⟨xc, hxc⟩ : ∃ x, xcls l n = x := ⟨_, rfl⟩
  obtain ⟨S, hS⟩ : ∃ x, seqsI l lv n = x := ⟨_, rfl⟩
  have HO : Hid (OnceOk l lv xc n S) := Lib.hid (by rw [← hS, ← hlv, ← hxc]; exact once_ok l n)
  have HLL : Hid (lv.length = l.length ∧ xc.length = l.length) := Lib.hid ⟨by rw [← hlv, lvs_length], by rw [← hxc, xcls_length]⟩
  have HSM : Hid (S.length ≤ 1000000 ∧ ∀ s ∈ S, s.pl.length ≤ 1000000) := Lib.hid (hS ▸ seqs_small300 hl)
  have HSW : Hid (∀ s ∈ S, ∀ x ∈ s.pl, (Lit.int .i64 x).wf = true) := Lib.hid (hS ▸ seqs_wf hl)
  have hlv6 : lv.length ≤ 1000000 := by have := HLL.out.1; omega
  have hS6 : S.length ≤ 1000000 := HSM.out.1
  have HLV := Lib.hid hlv
  have HXC := Lib.hid hxc
  have HS := Lib.hid hS
  clear h hlv hxc hS hn
  go_enter Try.func4, Try.ntmps4
  go_wp2_with fail
  refine (qalive_any w).mono ?_
  rintro e w1 ⟨rfl, b1⟩
  have B1 := Lib.hid b1
  have D1 := Lib.hid b1
  clear b1
  have H1 := Lib.hid (H.out.up B1.out)
  go_upto_if 20 with fail
  go_cut [1, 5] (fun v1 v wx => v1 = .bool b ∧ v = .int .i64 n ∧ wx = w1)
  case first =>
    rcases b with _ | _
    · have HF : Hid (n = 0) := Lib.hid (by rw [← HN.out]; rfl)
      go_wp2_with fail
      go_meet
      exact ⟨rfl, by rw [HF.out], rfl⟩
    · have HF : Hid (n = 1) := Lib.hid (by rw [← HN.out]; rfl)
      go_wp2_with fail
      go_meet
      exact ⟨rfl, by rw [HF.out], rfl⟩
  case rest =>
    obtain ⟨rfl, rfl, rfl⟩ := hcut
    go_wp2_with fail
    refine (rxof_any A l c n wc H1.out hl').mono ?_
    rintro e w3 ⟨v3, v4, rfl, o1, o2, b3⟩
    rw [HLV.out] at o1
    rw [HXC.out] at o2
    obtain ⟨A3, c3, rfl, l3, _, _⟩ := o1.form
    obtain ⟨A4, c4, rfl, l4, _, _⟩ := o2.form
    have B3 := Lib.hid (below_then B1.out b3)
    have L3 := Lib.hid l3
    have L4 := Lib.hid l4
    simp only [ints, List.length_map]
    clear o1 o2 l3 l4 b3
    go_wp2_with fail
    refine (sof_any A l c A3 lv c3 n w3 (H.out.up B3.out) L3.out hl' hlv6).mono ?_
    rintro e w4 ⟨A5, c5, vs, rfl, s4, b4⟩
    rw [HS.out] at s4 ⊢
    have B4 := Lib.hid (below_then B3.out b4)
    have S4 := Lib.hid s4
    have L3b := Lib.hid (L3.out.up b4)
    have L4b := Lib.hid (L4.out.up b4)
    clear s4 b4
    go_wp2_with fail
    refine (sright_any A5 c5 S vs (l.length : Int) w4 S4.out HSM.out.1 HSM.out.2 HSW.out).mono ?_
    rintro e w5 ⟨rfl, b5⟩
    rw [HO.out.right]
    have B5 := Lib.hid (below_then B4.out b5)
    have S5 := Lib.hid (S4.out.up b5)
    have L3c := Lib.hid (L3b.out.up b5)
    have L4c := Lib.hid (L4b.out.up b5)
    clear b5
    go_wp2_with fail
    go_loopw [10, 9] (fun iv pv wr => ∃ k : Nat, k ≤ S.length ∧ iv = .int .i64 k ∧ pv = .int .i64 ((placesN S k : Nat) : Int) ∧ placesN S k ≤ k * 1000000 ∧ Below w5.heap.size w5 wr) (fun iv _ _ => S.length - (intOf iv).toNat)
    case atStart => exact ⟨0, by omega, rfl, rfl, by simp [placesN], Below.refl _ _⟩
    case round =>
      obtain ⟨k, hk, rfl, rfl, hpl, hb⟩ := hrel
      have HB := Lib.hid hb
      clear hb
      obtain ⟨pn, hpn⟩ : ∃ x, placesN S k = x := ⟨_, rfl⟩
      rw [hpn] at hpl ⊢
      have HPN := Lib.hid hpn
      clear hpn
      by_cases hlt : k < S.length
      · obtain ⟨g, off, Ak, ck, hA5, hg, hcl, hlk⟩ := (S5.out.up HB.out).at' hlt
        subst hA5
        have hne := HO.out.ne _ (List.getElem_mem hlt)
        have hm6 := HSM.out.2 _ (List.getElem_mem hlt)
        have hpc := HO.out.places _ (List.getElem_mem hlt)
        have hpsu := placesN_succ S k hlt
        have hkE : S[k] = S[k] := rfl
        obtain ⟨sk, hsk⟩ : ∃ x, S[k] = x := ⟨_, rfl⟩
        rw [hsk] at hcl hlk hne hm6 hpc hpsu
        have HSK := Lib.hid hsk
        obtain ⟨m, hm⟩ : ∃ x, sk.pl.length = x := ⟨_, rfl⟩
        rw [hm] at hcl hm6 hpsu
        have hm0 : 0 < m := by rw [← hm]; exact List.length_pos_iff.2 hne
        have HM := Lib.hid hm
        obtain ⟨ba, oa, hAk, hba, hcs⟩ := hlk.plainInts (by omega)
        subst hAk
        have hx0 := hcs 0 (by omega)
        obtain ⟨x, hx⟩ : ∃ x, headI sk.pl = x := ⟨_, rfl⟩
        rw [show sk.pl[0]'(by omega) = x by rw [← hx, headI]; simp [show 0 < sk.pl.length by omega]] at hx0
        simp only [Nat.add_zero] at hx0
        have HX := Lib.hid hx
        obtain ⟨pl, lev, sos, eos⟩ := sk
        simp only at hcl hm hpc hcs hx HM HX
        obtain ⟨z0, z1, z2, _⟩ := hcl
        have HPC := Lib.hid hpc
        have HSOS : Hid (k = 0 → x = 0 → sos = dirL (max lev n)) := Lib.hid (fun h0 hx0 => by
          subst h0
          have h1 := HO.out.sos hlt
          rw [HSK.out] at h1
          exact h1 (by rw [HX.out, hx0]))
        have HPS := Lib.hid hpsu
        have HCS : Hid (∀ i (hi : i < pl.length), wr.cell? ⟨ba, oa + i, none⟩ = some (.int .i64 pl[i])) := Lib.hid hcs
        have SK : Hid (∀ w', Below wr.heap.size wr w' → w'.cell? ⟨g, off + k * 4, none⟩ = some (.slice (some ⟨ba, oa, none⟩) m ck) ∧ w'.cell? ⟨g, off + k * 4 + 1, none⟩ = some (.int .i64 lev) ∧ w'.cell? ⟨g, off + k * 4 + 2, none⟩ = some (.int .i64 sos) ∧ w'.cell? ⟨ba, oa, none⟩ = some (.int .i64 x)) :=
          Lib.hid fun w' h => ⟨by rw [h.cell hg]; exact z0, by rw [h.cell hg]; exact z1, by rw [h.cell hg]; exact z2, by rw [h.cell hba]; exact hx0⟩
        have k0 : (0 : Int) ≤ (k : Int) := by omega
        have k1 : (k : Int) < (S.length : Int) := by omega
        have m0 : (0 : Int) < (m : Int) := by omega
        have mz : ((m : Int) == 0) = false := by simp; omega
        clear hkE hsk hm hx hcs hpc hpsu hne hlk z0 z1 z2 hx0
        go_upto_region 16 with fail
        go_cut [70] (fun v wx => v = .bool false ∧ Below wr.heap.size wr wx)
        case first =>
          rcases Nat.eq_zero_or_pos k with h0 | h0
          · have kz : decide (0 < k) = false := by simp; omega
            clear h0
            have hk1 := (SK.out wr.drew (by exact below_same (Below.refl _ _) rfl rfl rfl rfl)).1
            go_wp2_with fail
            refine wp_region_E (S := fun w' => w'.cell? ⟨g, off + k * 4, none⟩ = some (.slice (some ⟨ba, oa, none⟩) m ck)) [] (by kernel_rfl) (hk1) (fun hHeld hClosed => ?_)
            refine' wpAnyE_take (i := 0) (v := _) rfl (by kernel_rfl) (by kernel_rfl) (by kernel_rfl) (by kernel_rfl) (fun _ _ _ h => h) (Or.inl ⟨by rfl, fun u hu => ?_⟩) hHeld hClosed (fun hNext => ?_)
            rotate_left
            · (try dsimp only at hu)
              go_simp
              try with_reducible rfl
            clear hClosed
            have hClosed := hNext
            clear hNext
            try simp only [Act.put, List.getElem_toArray, List.getElem_cons_zero, List.setIfInBounds_toArray, List.set_cons_zero, List.set_cons_succ]
            refine' wpAnyE_take (i := 1) (v := _) rfl (by kernel_rfl) (by kernel_rfl) (by kernel_rfl) (by kernel_rfl) (fun _ _ _ h => h) (Or.inl ⟨by rfl, fun u hu => ?_⟩) hHeld hClosed (fun hNext => ?_)
            rotate_left
            · (try dsimp only at hu)
              go_simp
              try with_reducible rfl
            clear hClosed
            have hClosed := hNext
            clear hNext
            try simp only [Act.put, List.getElem_toArray, List.getElem_cons_zero, List.getElem_cons_succ, List.setIfInBounds_toArray, List.set_cons_zero, List.set_cons_succ]
            refine' wpAnyE_take (i := 2) (v := _) rfl (by kernel_rfl) (by kernel_rfl) (by kernel_rfl) (by kernel_rfl) (fun _ _ _ h => h) (Or.inl ⟨by rfl, fun u hu => ?_⟩) hHeld hClosed (fun hNext => ?_)
            rotate_left
            · (try dsimp only at hu)
              go_simp
              try with_reducible rfl
            clear hClosed
            have hClosed := hNext
            clear hNext
            try simp only [Act.put, List.getElem_toArray, List.getElem_cons_zero, List.getElem_cons_succ, List.setIfInBounds_toArray, List.set_cons_zero, List.set_cons_succ]
            refine' wpAnyE_take (i := 3) (v := _) rfl (by kernel_rfl) (by kernel_rfl) (by kernel_rfl) (by kernel_rfl) (fun _ _ _ h => h) (Or.inl ⟨by rfl, fun u hu => ?_⟩) hHeld hClosed (fun hNext => ?_)
            rotate_left
            · (try dsimp only at hu)
              go_simp
              try with_reducible rfl
            clear hClosed
            have hClosed := hNext
            clear hNext
            try simp only [Act.put, List.getElem_toArray, List.getElem_cons_zero, List.getElem_cons_succ, List.setIfInBounds_toArray, List.set_cons_zero, List.set_cons_succ]
            refine' wpAnyE_take (i := 4) (v := _) rfl (by kernel_rfl) (by kernel_rfl) (by kernel_rfl) (by kernel_rfl) (fun _ _ _ h => h) (Or.inl ⟨by rfl, fun u hu => ?_⟩) hHeld hClosed (fun hNext => ?_)
            rotate_left
            · (try dsimp only at hu)
              go_simp
              try with_reducible rfl
            clear hClosed
            have hClosed := hNext
            clear hNext
            try simp only [Act.put, List.getElem_toArray, List.getElem_cons_zero, List.getElem_cons_succ, List.setIfInBounds_toArray, List.set_cons_zero, List.set_cons_succ]
            refine' wpAnyE_take (i := 5) (v := _) rfl (by kernel_rfl) (by kernel_rfl) (by kernel_rfl) (by kernel_rfl) (fun _ _ _ h => h) (Or.inl ⟨by rfl, fun u hu => ?_⟩) hHeld hClosed (fun hNext => ?_)
            rotate_left
            · (try dsimp only at hu)
              go_simp
              try with_reducible rfl
            clear hClosed
            have hClosed := hNext
            clear hNext
            try simp only [Act.put, List.getElem_toArray, List.getElem_cons_zero, List.getElem_cons_succ, List.setIfInBounds_toArray, List.set_cons_zero, List.set_cons_succ]
            refine' wpAnyE_take (i := 6) (v := _) rfl (by kernel_rfl) (by kernel_rfl) (by kernel_rfl) (by kernel_rfl) (fun _ _ _ h => h) (Or.inl ⟨by rfl, fun u hu => ?_⟩) hHeld hClosed (fun hNext => ?_)
            rotate_left
            · (try dsimp only at hu)
              go_simp
              try with_reducible rfl
            clear hClosed
            have hClosed := hNext
            clear hNext
            try simp only [Act.put, List.getElem_toArray, List.getElem_cons_zero, List.getElem_cons_succ, List.setIfInBounds_toArray, List.set_cons_zero, List.set_cons_succ]
            refine' wpAnyE_take (i := 7) (v := _) rfl (by kernel_rfl) (by kernel_rfl) (by kernel_rfl) (by kernel_rfl) (fun _ _ _ h => h) (Or.inl ⟨by rfl, fun u hu => ?_⟩) hHeld hClosed (fun hNext => ?_)
            rotate_left
            · (try dsimp only at hu)
              go_simp
              try with_reducible rfl
            clear hClosed
            have hClosed := hNext
            clear hNext
            try simp only [Act.put, List.getElem_toArray, List.getElem_cons_zero, List.getElem_cons_succ, List.setIfInBounds_toArray, List.set_cons_zero, List.set_cons_succ]
            refine' wpAnyE_take (i := 8) (v := _) rfl (by kernel_rfl) (by kernel_rfl) (by kernel_rfl) (by kernel_rfl) (fun _ _ _ h => h) (Or.inl ⟨by rfl, fun u hu => ?_⟩) hHeld hClosed (fun hNext => ?_)
            rotate_left
            · (try dsimp only at hu)
              go_simp
              try with_reducible rfl
            clear hClosed
            have hClosed := hNext
            clear hNext
            try simp only [Act.put, List.getElem_toArray, List.getElem_cons_zero, List.getElem_cons_succ, List.setIfInBounds_toArray, List.set_cons_zero, List.set_cons_succ]
            refine' wpAnyE_take (i := 9) (v := _) rfl (by kernel_rfl) (by kernel_rfl) (by kernel_rfl) (by kernel_rfl) (fun _ _ _ h => h) (Or.inl ⟨by rfl, fun u hu => ?_⟩) hHeld hClosed (fun hNext => ?_)
            rotate_left
            · (try dsimp only at hu)
              go_simp
              try with_reducible rfl
            clear hClosed
            have hClosed := hNext
            clear hNext
            try simp only [Act.put, List.getElem_toArray, List.getElem_cons_zero, List.getElem_cons_succ, List.setIfInBounds_toArray, List.set_cons_zero, List.set_cons_succ]
            refine' wpAnyE_take (i := 10) (v := _) rfl (by kernel_rfl) (by kernel_rfl) (by kernel_rfl) (by kernel_rfl) (fun _ _ _ h => h) (Or.inl ⟨by rfl, fun u hu => ?_⟩) hHeld hClosed (fun hNext => ?_)
            rotate_left
            · (try dsimp only at hu)
              go_simp
              try with_reducible rfl
            clear hClosed
            have hClosed := hNext
            clear hNext
            try simp only [Act.put, List.getElem_toArray, List.getElem_cons_zero, List.getElem_cons_succ, List.setIfInBounds_toArray, List.set_cons_zero, List.set_cons_succ]
            refine' wpAnyE_take (i := 11) (v := _) rfl (by kernel_rfl) (by kernel_rfl) (by kernel_rfl) (by kernel_rfl) (fun _ _ _ h => h) (Or.inr ⟨by rfl, rfl⟩) hHeld hClosed (fun hNext => ?_)
            clear hClosed
            have hClosed := hNext
            clear hNext
            try simp only [Act.put, List.getElem_toArray, List.getElem_cons_zero, List.getElem_cons_succ, List.setIfInBounds_toArray, List.set_cons_zero, List.set_cons_succ]
            refine' wpAnyE_take (i := 12) (v := _) rfl (by kernel_rfl) (by kernel_rfl) (by kernel_rfl) (by kernel_rfl) (fun _ _ _ h => h) (Or.inr ⟨by rfl, rfl⟩) hHeld hClosed (fun hNext => ?_)
            clear hClosed
            have hClosed := hNext
            clear hNext
            try simp only [Act.put, List.getElem_toArray, List.getElem_cons_zero, List.getElem_cons_succ, List.setIfInBounds_toArray, List.set_cons_zero, List.set_cons_succ]
            refine' wpAnyE_take (i := 13) (v := _) rfl (by kernel_rfl) (by kernel_rfl) (by kernel_rfl) (by kernel_rfl) (fun _ _ _ h => h) (Or.inr ⟨by rfl, rfl⟩) hHeld hClosed (fun hNext => ?_)
            clear hClosed
            have hClosed := hNext
            clear hNext
            try simp only [Act.put, List.getElem_toArray, List.getElem_cons_zero, List.getElem_cons_succ, List.setIfInBounds_toArray, List.set_cons_zero, List.set_cons_succ]
            refine' wpAnyE_take (i := 14) (v := _) rfl (by kernel_rfl) (by kernel_rfl) (by kernel_rfl) (by kernel_rfl) (fun _ _ _ h => h) (Or.inr ⟨by rfl, rfl⟩) hHeld hClosed (fun hNext => ?_)
            clear hClosed
            have hClosed := hNext
            clear hNext
            try simp only [Act.put, List.getElem_toArray, List.getElem_cons_zero, List.getElem_cons_succ, List.setIfInBounds_toArray, List.set_cons_zero, List.set_cons_succ]
            refine' wpAnyE_take (i := 15) (v := _) rfl (by kernel_rfl) (by kernel_rfl) (by kernel_rfl) (by kernel_rfl) (fun _ _ _ h => h) (Or.inr ⟨by rfl, rfl⟩) hHeld hClosed (fun hNext => ?_)
            clear hClosed
            have hClosed := hNext
            clear hNext
            try simp only [Act.put, List.getElem_toArray, List.getElem_cons_zero, List.getElem_cons_succ, List.setIfInBounds_toArray, List.set_cons_zero, List.set_cons_succ]
            refine' wpAnyE_take (i := 16) (v := _) rfl (by kernel_rfl) (by kernel_rfl) (by kernel_rfl) (by kernel_rfl) (fun _ _ _ h => h) (Or.inr ⟨by rfl, rfl⟩) hHeld hClosed (fun hNext => ?_)
            clear hClosed
            have hClosed := hNext
            clear hNext
            try simp only [Act.put, List.getElem_toArray, List.getElem_cons_zero, List.getElem_cons_succ, List.setIfInBounds_toArray, List.set_cons_zero, List.set_cons_succ]
            refine' wpAnyE_take (i := 17) (v := _) rfl (by kernel_rfl) (by kernel_rfl) (by kernel_rfl) (by kernel_rfl) (fun _ _ _ h => h) (Or.inr ⟨by rfl, rfl⟩) hHeld hClosed (fun hNext => ?_)
            clear hClosed
            have hClosed := hNext
            clear hNext
            try simp only [Act.put, List.getElem_toArray, List.getElem_cons_zero, List.getElem_cons_succ, List.setIfInBounds_toArray, List.set_cons_zero, List.set_cons_succ]
            refine' wpAnyE_take (i := 18) (v := _) rfl (by kernel_rfl) (by kernel_rfl) (by kernel_rfl) (by kernel_rfl) (fun _ _ _ h => h) (Or.inr ⟨by rfl, rfl⟩) hHeld hClosed (fun hNext => ?_)
            clear hClosed
            have hClosed := hNext
            clear hNext
            try simp only [Act.put, List.getElem_toArray, List.getElem_cons_zero, List.getElem_cons_succ, List.setIfInBounds_toArray, List.set_cons_zero, List.set_cons_succ]
            refine' wpAnyE_take (i := 19) (v := _) rfl (by kernel_rfl) (by kernel_rfl) (by kernel_rfl) (by kernel_rfl) (fun _ _ _ h => h) (Or.inr ⟨by rfl, rfl⟩) hHeld hClosed (fun hNext => ?_)
            clear hClosed
            have hClosed := hNext
            clear hNext
            try simp only [Act.put, List.getElem_toArray, List.getElem_cons_zero, List.getElem_cons_succ, List.setIfInBounds_toArray, List.set_cons_zero, List.set_cons_succ]
            refine' wpAnyE_take (i := 20) (v := _) rfl (by kernel_rfl) (by kernel_rfl) (by kernel_rfl) (by kernel_rfl) (fun _ _ _ h => h) (Or.inr ⟨by rfl, rfl⟩) hHeld hClosed (fun hNext => ?_)
            clear hClosed
            have hClosed := hNext
            clear hNext
            try simp only [Act.put, List.getElem_toArray, List.getElem_cons_zero, List.getElem_cons_succ, List.setIfInBounds_toArray, List.set_cons_zero, List.set_cons_succ]
            refine' wpAnyE_take (i := 21) (v := _) rfl (by kernel_rfl) (by kernel_rfl) (by kernel_rfl) (by kernel_rfl) (fun _ _ _ h => h) (Or.inr ⟨by rfl, rfl⟩) hHeld hClosed (fun hNext => ?_)
            clear hClosed
            have hClosed := hNext
            clear hNext
            try simp only [Act.put, List.getElem_toArray, List.getElem_cons_zero, List.getElem_cons_succ, List.setIfInBounds_toArray, List.set_cons_zero, List.set_cons_succ]
            refine' wpAnyE_take (i := 22) (v := _) rfl (by kernel_rfl) (by kernel_rfl) (by kernel_rfl) (by kernel_rfl) (fun _ _ _ h => h) (Or.inr ⟨by rfl, rfl⟩) hHeld hClosed (fun hNext => ?_)
            clear hClosed
            have hClosed := hNext
            clear hNext
            try simp only [Act.put, List.getElem_toArray, List.getElem_cons_zero, List.getElem_cons_succ, List.setIfInBounds_toArray, List.set_cons_zero, List.set_cons_succ]
            refine' wpAnyE_take (i := 23) (v := _) rfl (by kernel_rfl) (by kernel_rfl) (by kernel_rfl) (by kernel_rfl) (fun _ _ _ h => h) (Or.inr ⟨by rfl, rfl⟩) hHeld hClosed (fun hNext => ?_)
            clear hClosed
            have hClosed := hNext
            clear hNext
            try simp only [Act.put, List.getElem_toArray, List.getElem_cons_zero, List.getElem_cons_succ, List.setIfInBounds_toArray, List.set_cons_zero, List.set_cons_succ]
            refine' wpAnyE_take (i := 24) (v := _) rfl (by kernel_rfl) (by kernel_rfl) (by kernel_rfl) (by kernel_rfl) (fun _ _ _ h => h) (Or.inr ⟨by rfl, rfl⟩) hHeld hClosed (fun hNext => ?_)
            clear hClosed
            have hClosed := hNext
            clear hNext
            try simp only [Act.put, List.getElem_toArray, List.getElem_cons_zero, List.getElem_cons_succ, List.setIfInBounds_toArray, List.set_cons_zero, List.set_cons_succ]
            refine' wpAnyE_take (i := 25) (v := _) rfl (by kernel_rfl) (by kernel_rfl) (by kernel_rfl) (by kernel_rfl) (fun _ _ _ h => h) (Or.inr ⟨by rfl, rfl⟩) hHeld hClosed (fun hNext => ?_)
            clear hClosed
            have hClosed := hNext
            clear hNext
            try simp only [Act.put, List.getElem_toArray, List.getElem_cons_zero, List.getElem_cons_succ, List.setIfInBounds_toArray, List.set_cons_zero, List.set_cons_succ]
            refine' wpAnyE_take (i := 26) (v := _) rfl (by kernel_rfl) (by kernel_rfl) (by kernel_rfl) (by kernel_rfl) (fun _ _ _ h => h) (Or.inr ⟨by rfl, rfl⟩) hHeld hClosed (fun hNext => ?_)
            clear hClosed
            have hClosed := hNext
            clear hNext
            try simp only [Act.put, List.getElem_toArray, List.getElem_cons_zero, List.getElem_cons_succ, List.setIfInBounds_toArray, List.set_cons_zero, List.set_cons_succ]
            refine' wpAnyE_take (i := 27) (v := _) rfl (by kernel_rfl) (by kernel_rfl) (by kernel_rfl) (by kernel_rfl) (fun _ _ _ h => h) (Or.inl ⟨by rfl, fun u hu => ?_⟩) hHeld hClosed (fun hNext => ?_)
            rotate_left
            · (try dsimp only at hu)
              go_simp
              try with_reducible rfl
            clear hClosed
            have hClosed := hNext
            clear hNext
            try simp only [Act.put, List.getElem_toArray, List.getElem_cons_zero, List.getElem_cons_succ, List.setIfInBounds_toArray, List.set_cons_zero, List.set_cons_succ]
            refine' wpAnyE_take (i := 28) (v := _) rfl (by kernel_rfl) (by kernel_rfl) (by kernel_rfl) (by kernel_rfl) (fun _ _ _ h => h) (Or.inl ⟨by rfl, fun u hu => ?_⟩) hHeld hClosed (fun hNext => ?_)
            rotate_left
            · (try dsimp only at hu)
              go_simp
              try with_reducible rfl
            clear hClosed
            have hClosed := hNext
            clear hNext
            try simp only [Act.put, List.getElem_toArray, List.getElem_cons_zero, List.getElem_cons_succ, List.setIfInBounds_toArray, List.set_cons_zero, List.set_cons_succ]
            refine wpAnyE_done (by kernel_rfl) ?_ _
            clear hClosed
            go_wp2_with fail
            go_meet
            exact ⟨rfl, by exact below_same (Below.refl _ _) rfl rfl rfl rfl⟩
          · have kz : decide (0 < k) = true := by simpa using h0
            obtain ⟨k', hk'⟩ : ∃ k', k - 1 = k' := ⟨_, rfl⟩
            have hk'l : k' < S.length := by omega
            have hw1 : IntKind.i64.wrap ((k : Int) - 1) = (k' : Int) := by rw [IntWalk.i64_in _ (by omega)]; omega
            obtain ⟨g', off', Al, cl, hA5, hg', hcl', hll⟩ := (S5.out.up HB.out).at' hk'l
            injection hA5 with hA5
            injection hA5 with e1 e2 _
            subst e1 e2
            have hhd := HO.out.heads k' (by omega)
            simp only [show k' + 1 = k by omega, HSK.out, HX.out] at hhd
            have hne' := HO.out.ne _ (List.getElem_mem hk'l)
            obtain ⟨s', hs'⟩ : ∃ x, S[k'] = x := ⟨_, rfl⟩
            rw [hs'] at hcl' hll hhd hne'
            have hm0' : 0 < s'.pl.length := List.length_pos_iff.2 hne'
            obtain ⟨bb, ob, hAl, hbb, hcs'⟩ := hll.plainInts hm0'
            subst hAl
            have hy0 := hcs' 0 hm0'
            obtain ⟨y, hy⟩ : ∃ x, headI s'.pl = x := ⟨_, rfl⟩
            rw [show s'.pl[0]'hm0' = y by rw [← hy, headI]; simp [hm0']] at hy0
            simp only [Nat.add_zero] at hy0
            rw [hy] at hhd
            obtain ⟨m', hm'⟩ : ∃ x, s'.pl.length = x := ⟨_, rfl⟩
            obtain ⟨y0, _, _, _⟩ := hcl'
            rw [hm'] at y0 hm0'
            have hge : decide (x ≤ y) = false := by simp; omega
            have n0 : (0 : Int) < (m' : Int) := by omega
            have c0 : (0 : Int) ≤ (k' : Int) := by omega
            have c1 : (k' : Int) < (S.length : Int) := by omega
            obtain ⟨j0, _, _, j3⟩ := SK.out wr.drew (by exact below_same (Below.refl _ _) rfl rfl rfl rfl)
            have hk1 : wr.drew.cell? ⟨g, off + k * 4, none⟩ = some (.slice (some ⟨ba, oa, none⟩) m ck) ∧ wr.drew.cell? ⟨ba, oa, none⟩ = some (.int .i64 x) ∧ wr.drew.cell? ⟨g, off + k' * 4, none⟩ = some (.slice (some ⟨bb, ob, none⟩) m' cl) ∧ wr.drew.cell? ⟨bb, ob, none⟩ = some (.int .i64 y) := ⟨j0, j3, y0, hy0⟩
            clear hk' hs' hcs' hy hm' y0 hy0 hhd hne' j0 j3 hll
            go_wp2_with fail
            refine wp_region_E (S := fun w' => w'.cell? ⟨g, off + k * 4, none⟩ = some (.slice (some ⟨ba, oa, none⟩) m ck) ∧ w'.cell? ⟨ba, oa, none⟩ = some (.int .i64 x) ∧ w'.cell? ⟨g, off + k' * 4, none⟩ = some (.slice (some ⟨bb, ob, none⟩) m' cl) ∧ w'.cell? ⟨bb, ob, none⟩ = some (.int .i64 y)) [] (by kernel_rfl) (hk1) (fun hHeld hClosed => ?_)
            refine' wpAnyE_take (i := 0) (v := _) rfl (by kernel_rfl) (by kernel_rfl) (by kernel_rfl) (by kernel_rfl) (fun _ _ _ h => h) (Or.inl ⟨by rfl, fun u hu => ?_⟩) hHeld hClosed (fun hNext => ?_)
            rotate_left
            · (try dsimp only at hu)
              go_simp
              try with_reducible rfl
            clear hClosed
            have hClosed := hNext
            clear hNext
            try simp only [Act.put, List.getElem_toArray, List.getElem_cons_zero, List.setIfInBounds_toArray, List.set_cons_zero, List.set_cons_succ]
            refine' wpAnyE_take (i := 1) (v := _) rfl (by kernel_rfl) (by kernel_rfl) (by kernel_rfl) (by kernel_rfl) (fun _ _ _ h => h) (Or.inl ⟨by rfl, fun u hu => ?_⟩) hHeld hClosed (fun hNext => ?_)
            rotate_left
            · (try dsimp only at hu)
              go_simp
              try with_reducible rfl
            clear hClosed
            have hClosed := hNext
            clear hNext
            try simp only [Act.put, List.getElem_toArray, List.getElem_cons_zero, List.getElem_cons_succ, List.setIfInBounds_toArray, List.set_cons_zero, List.set_cons_succ]
            refine' wpAnyE_take (i := 2) (v := _) rfl (by kernel_rfl) (by kernel_rfl) (by kernel_rfl) (by kernel_rfl) (fun _ _ _ h => h) (Or.inl ⟨by rfl, fun u hu => ?_⟩) hHeld hClosed (fun hNext => ?_)
            rotate_left
            · (try dsimp only at hu)
              go_simp
              try with_reducible rfl
            clear hClosed
            have hClosed := hNext
            clear hNext
            try simp only [Act.put, List.getElem_toArray, List.getElem_cons_zero, List.getElem_cons_succ, List.setIfInBounds_toArray, List.set_cons_zero, List.set_cons_succ]
            refine' wpAnyE_take (i := 3) (v := _) rfl (by kernel_rfl) (by kernel_rfl) (by kernel_rfl) (by kernel_rfl) (fun _ _ _ h => h) (Or.inl ⟨by rfl, fun u hu => ?_⟩) hHeld hClosed (fun hNext => ?_)
            rotate_left
            · (try dsimp only at hu)
              go_simp
              try with_reducible rfl
            clear hClosed
            have hClosed := hNext
            clear hNext
            try simp only [Act.put, List.getElem_toArray, List.getElem_cons_zero, List.getElem_cons_succ, List.setIfInBounds_toArray, List.set_cons_zero, List.set_cons_succ]
            refine' wpAnyE_take (i := 4) (v := _) rfl (by kernel_rfl) (by kernel_rfl) (by kernel_rfl) (by kernel_rfl) (fun _ _ _ h => h) (Or.inl ⟨by rfl, fun u hu => ?_⟩) hHeld hClosed (fun hNext => ?_)
            rotate_left
            · (try dsimp only at hu)
              go_simp
              try with_reducible rfl
            clear hClosed
            have hClosed := hNext
            clear hNext
            try simp only [Act.put, List.getElem_toArray, List.getElem_cons_zero, List.getElem_cons_succ, List.setIfInBounds_toArray, List.set_cons_zero, List.set_cons_succ]
            refine' wpAnyE_take (i := 5) (v := _) rfl (by kernel_rfl) (by kernel_rfl) (by kernel_rfl) (by kernel_rfl) (fun _ _ _ h => h) (Or.inl ⟨by rfl, fun u hu => ?_⟩) hHeld hClosed (fun hNext => ?_)
            rotate_left
            · (try dsimp only at hu)
              go_simp
              try with_reducible rfl
            clear hClosed
            have hClosed := hNext
            clear hNext
            try simp only [Act.put, List.getElem_toArray, List.getElem_cons_zero, List.getElem_cons_succ, List.setIfInBounds_toArray, List.set_cons_zero, List.set_cons_succ]
            refine' wpAnyE_take (i := 6) (v := _) rfl (by kernel_rfl) (by kernel_rfl) (by kernel_rfl) (by kernel_rfl) (fun _ _ _ h => h) (Or.inl ⟨by rfl, fun u hu => ?_⟩) hHeld hClosed (fun hNext => ?_)
            rotate_left
            · (try dsimp only at hu)
              go_simp
              try with_reducible rfl
            clear hClosed
            have hClosed := hNext
            clear hNext
            try simp only [Act.put, List.getElem_toArray, List.getElem_cons_zero, List.getElem_cons_succ, List.setIfInBounds_toArray, List.set_cons_zero, List.set_cons_succ]
            refine' wpAnyE_take (i := 7) (v := _) rfl (by kernel_rfl) (by kernel_rfl) (by kernel_rfl) (by kernel_rfl) (fun _ _ _ h => h) (Or.inl ⟨by rfl, fun u hu => ?_⟩) hHeld hClosed (fun hNext => ?_)
            rotate_left
            · (try dsimp only at hu)
              go_simp
              try with_reducible rfl
            clear hClosed
            have hClosed := hNext
            clear hNext
            try simp only [Act.put, List.getElem_toArray, List.getElem_cons_zero, List.getElem_cons_succ, List.setIfInBounds_toArray, List.set_cons_zero, List.set_cons_succ]
            refine' wpAnyE_take (i := 8) (v := _) rfl (by kernel_rfl) (by kernel_rfl) (by kernel_rfl) (by kernel_rfl) (fun _ _ _ h => h) (Or.inl ⟨by rfl, fun u hu => ?_⟩) hHeld hClosed (fun hNext => ?_)
            rotate_left
            · (try dsimp only at hu)
              go_simp
              try with_reducible rfl
            clear hClosed
            have hClosed := hNext
            clear hNext
            try simp only [Act.put, List.getElem_toArray, List.getElem_cons_zero, List.getElem_cons_succ, List.setIfInBounds_toArray, List.set_cons_zero, List.set_cons_succ]
            refine' wpAnyE_take (i := 9) (v := _) rfl (by kernel_rfl) (by kernel_rfl) (by kernel_rfl) (by kernel_rfl) (fun _ _ _ h => h) (Or.inl ⟨by rfl, fun u hu => ?_⟩) hHeld hClosed (fun hNext => ?_)
            rotate_left
            · (try dsimp only at hu)
              go_simp
              try with_reducible rfl
            clear hClosed
            have hClosed := hNext
            clear hNext
            try simp only [Act.put, List.getElem_toArray, List.getElem_cons_zero, List.getElem_cons_succ, List.setIfInBounds_toArray, List.set_cons_zero, List.set_cons_succ]
            refine' wpAnyE_take (i := 10) (v := _) rfl (by kernel_rfl) (by kernel_rfl) (by kernel_rfl) (by kernel_rfl) (fun _ _ _ h => h) (Or.inl ⟨by rfl, fun u hu => ?_⟩) hHeld hClosed (fun hNext => ?_)
            rotate_left
            · (try dsimp only at hu)
              go_simp
              try with_reducible rfl
            clear hClosed
            have hClosed := hNext
            clear hNext
            try simp only [Act.put, List.getElem_toArray, List.getElem_cons_zero, List.getElem_cons_succ, List.setIfInBounds_toArray, List.set_cons_zero, List.set_cons_succ]
            refine' wpAnyE_take (i := 11) (v := _) rfl (by kernel_rfl) (by kernel_rfl) (by kernel_rfl) (by kernel_rfl) (fun _ _ _ h => h) (Or.inl ⟨by rfl, fun u hu => ?_⟩) hHeld hClosed (fun hNext => ?_)
            rotate_left
            · (try dsimp only at hu)
              go_simp
              try with_reducible rfl
            clear hClosed
            have hClosed := hNext
            clear hNext
            try simp only [Act.put, List.getElem_toArray, List.getElem_cons_zero, List.getElem_cons_succ, List.setIfInBounds_toArray, List.set_cons_zero, List.set_cons_succ]
            refine' wpAnyE_take (i := 12) (v := _) rfl (by kernel_rfl) (by kernel_rfl) (by kernel_rfl) (by kernel_rfl) (fun _ _ _ h => h) (Or.inl ⟨by rfl, fun u hu => ?_⟩) hHeld hClosed (fun hNext => ?_)
            rotate_left
            · (try dsimp only at hu)
              go_simp
              try with_reducible rfl
            clear hClosed
            have hClosed := hNext
            clear hNext
            try simp only [Act.put, List.getElem_toArray, List.getElem_cons_zero, List.getElem_cons_succ, List.setIfInBounds_toArray, List.set_cons_zero, List.set_cons_succ]
            refine' wpAnyE_take (i := 13) (v := _) rfl (by kernel_rfl) (by kernel_rfl) (by kernel_rfl) (by kernel_rfl) (fun _ _ _ h => h) (Or.inl ⟨by rfl, fun u hu => ?_⟩) hHeld hClosed (fun hNext => ?_)
            rotate_left
            · (try dsimp only at hu)
              go_simp
              try with_reducible rfl
            clear hClosed
            have hClosed := hNext
            clear hNext
            try simp only [Act.put, List.getElem_toArray, List.getElem_cons_zero, List.getElem_cons_succ, List.setIfInBounds_toArray, List.set_cons_zero, List.set_cons_succ]
            refine' wpAnyE_take (i := 14) (v := _) rfl (by kernel_rfl) (by kernel_rfl) (by kernel_rfl) (by kernel_rfl) (fun _ _ _ h => h) (Or.inl ⟨by rfl, fun u hu => ?_⟩) hHeld hClosed (fun hNext => ?_)
            rotate_left
            · (try dsimp only at hu)
              go_simp
              try with_reducible rfl
            clear hClosed
            have hClosed := hNext
            clear hNext
            try simp only [Act.put, List.getElem_toArray, List.getElem_cons_zero, List.getElem_cons_succ, List.setIfInBounds_toArray, List.set_cons_zero, List.set_cons_succ]
            refine' wpAnyE_take (i := 15) (v := _) rfl (by kernel_rfl) (by kernel_rfl) (by kernel_rfl) (by kernel_rfl) (fun _ _ _ h => h) (Or.inl ⟨by rfl, fun u hu => ?_⟩) hHeld hClosed (fun hNext => ?_)
            rotate_left
            · (try dsimp only at hu)
              go_simp
              try with_reducible rfl
            clear hClosed
            have hClosed := hNext
            clear hNext
            try simp only [Act.put, List.getElem_toArray, List.getElem_cons_zero, List.getElem_cons_succ, List.setIfInBounds_toArray, List.set_cons_zero, List.set_cons_succ]
            refine' wpAnyE_take (i := 16) (v := _) rfl (by kernel_rfl) (by kernel_rfl) (by kernel_rfl) (by kernel_rfl) (fun _ _ _ h => h) (Or.inl ⟨by rfl, fun u hu => ?_⟩) hHeld hClosed (fun hNext => ?_)
            rotate_left
            · (try dsimp only at hu)
              go_simp
              try with_reducible rfl
            clear hClosed
            have hClosed := hNext
            clear hNext
            try simp only [Act.put, List.getElem_toArray, List.getElem_cons_zero, List.getElem_cons_succ, List.setIfInBounds_toArray, List.set_cons_zero, List.set_cons_succ]
            refine' wpAnyE_take (i := 17) (v := _) rfl (by kernel_rfl) (by kernel_rfl) (by kernel_rfl) (by kernel_rfl) (fun _ _ _ h => h) (Or.inl ⟨by rfl, fun u hu => ?_⟩) hHeld hClosed (fun hNext => ?_)
            rotate_left
            · (try dsimp only at hu)
              go_simp
              try with_reducible rfl
            clear hClosed
            have hClosed := hNext
            clear hNext
            try simp only [Act.put, List.getElem_toArray, List.getElem_cons_zero, List.getElem_cons_succ, List.setIfInBounds_toArray, List.set_cons_zero, List.set_cons_succ]
            refine' wpAnyE_take (i := 18) (v := _) rfl (by kernel_rfl) (by kernel_rfl) (by kernel_rfl) (by kernel_rfl) (fun _ _ _ h => h) (Or.inl ⟨by rfl, fun u hu => ?_⟩) hHeld hClosed (fun hNext => ?_)
            rotate_left
            · (try dsimp only at hu)
              go_simp
              try with_reducible rfl
            clear hClosed
            have hClosed := hNext
            clear hNext
            try simp only [Act.put, List.getElem_toArray, List.getElem_cons_zero, List.getElem_cons_succ, List.setIfInBounds_toArray, List.set_cons_zero, List.set_cons_succ]
            refine' wpAnyE_take (i := 19) (v := _) rfl (by kernel_rfl) (by kernel_rfl) (by kernel_rfl) (by kernel_rfl) (fun _ _ _ h => h) (Or.inl ⟨by rfl, fun u hu => ?_⟩) hHeld hClosed (fun hNext => ?_)
            rotate_left
            · (try dsimp only at hu)
              go_simp
              try with_reducible rfl
            clear hClosed
            have hClosed := hNext
            clear hNext
            try simp only [Act.put, List.getElem_toArray, List.getElem_cons_zero, List.getElem_cons_succ, List.setIfInBounds_toArray, List.set_cons_zero, List.set_cons_succ]
            refine' wpAnyE_take (i := 20) (v := _) rfl (by kernel_rfl) (by kernel_rfl) (by kernel_rfl) (by kernel_rfl) (fun _ _ _ h => h) (Or.inl ⟨by rfl, fun u hu => ?_⟩) hHeld hClosed (fun hNext => ?_)
            rotate_left
            · (try dsimp only at hu)
              go_simp
              try with_reducible rfl
            clear hClosed
            have hClosed := hNext
            clear hNext
            try simp only [Act.put, List.getElem_toArray, List.getElem_cons_zero, List.getElem_cons_succ, List.setIfInBounds_toArray, List.set_cons_zero, List.set_cons_succ]
            refine' wpAnyE_take (i := 21) (v := _) rfl (by kernel_rfl) (by kernel_rfl) (by kernel_rfl) (by kernel_rfl) (fun _ _ _ h => h) (Or.inl ⟨by rfl, fun u hu => ?_⟩) hHeld hClosed (fun hNext => ?_)
            rotate_left
            · (try dsimp only at hu)
              go_simp
              try with_reducible rfl
            clear hClosed
            have hClosed := hNext
            clear hNext
            try simp only [Act.put, List.getElem_toArray, List.getElem_cons_zero, List.getElem_cons_succ, List.setIfInBounds_toArray, List.set_cons_zero, List.set_cons_succ]
            refine' wpAnyE_take (i := 22) (v := _) rfl (by kernel_rfl) (by kernel_rfl) (by kernel_rfl) (by kernel_rfl) (fun _ _ _ h => h) (Or.inl ⟨by rfl, fun u hu => ?_⟩) hHeld hClosed (fun hNext => ?_)
            rotate_left
            · (try dsimp only at hu)
              go_simp
              try with_reducible rfl
            clear hClosed
            have hClosed := hNext
            clear hNext
            try simp only [Act.put, List.getElem_toArray, List.getElem_cons_zero, List.getElem_cons_succ, List.setIfInBounds_toArray, List.set_cons_zero, List.set_cons_succ]
            refine' wpAnyE_take (i := 23) (v := _) rfl (by kernel_rfl) (by kernel_rfl) (by kernel_rfl) (by kernel_rfl) (fun _ _ _ h => h) (Or.inl ⟨by rfl, fun u hu => ?_⟩) hHeld hClosed (fun hNext => ?_)
            rotate_left
            · (try dsimp only at hu)
              go_simp
              try with_reducible rfl
            clear hClosed
            have hClosed := hNext
            clear hNext
            try simp only [Act.put, List.getElem_toArray, List.getElem_cons_zero, List.getElem_cons_succ, List.setIfInBounds_toArray, List.set_cons_zero, List.set_cons_succ]
            refine' wpAnyE_take (i := 24) (v := _) rfl (by kernel_rfl) (by kernel_rfl) (by kernel_rfl) (by kernel_rfl) (fun _ _ _ h => h) (Or.inl ⟨by rfl, fun u hu => ?_⟩) hHeld hClosed (fun hNext => ?_)
            rotate_left
            · (try dsimp only at hu)
              go_simp
              try with_reducible rfl
            clear hClosed
            have hClosed := hNext
            clear hNext
            try simp only [Act.put, List.getElem_toArray, List.getElem_cons_zero, List.getElem_cons_succ, List.setIfInBounds_toArray, List.set_cons_zero, List.set_cons_succ]
            refine' wpAnyE_take (i := 25) (v := _) rfl (by kernel_rfl) (by kernel_rfl) (by kernel_rfl) (by kernel_rfl) (fun _ _ _ h => h) (Or.inl ⟨by rfl, fun u hu => ?_⟩) hHeld hClosed (fun hNext => ?_)
            rotate_left
            · (try dsimp only at hu)
              go_simp
              try with_reducible rfl
            clear hClosed
            have hClosed := hNext
            clear hNext
            try simp only [Act.put, List.getElem_toArray, List.getElem_cons_zero, List.getElem_cons_succ, List.setIfInBounds_toArray, List.set_cons_zero, List.set_cons_succ]
            refine' wpAnyE_take (i := 26) (v := _) rfl (by kernel_rfl) (by kernel_rfl) (by kernel_rfl) (by kernel_rfl) (fun _ _ _ h => h) (Or.inl ⟨by rfl, fun u hu => ?_⟩) hHeld hClosed (fun hNext => ?_)
            rotate_left
            · (try dsimp only at hu)
              go_simp
              try with_reducible rfl
            clear hClosed
            have hClosed := hNext
            clear hNext
            try simp only [Act.put, List.getElem_toArray, List.getElem_cons_zero, List.getElem_cons_succ, List.setIfInBounds_toArray, List.set_cons_zero, List.set_cons_succ]
            refine' wpAnyE_take (i := 27) (v := _) rfl (by kernel_rfl) (by kernel_rfl) (by kernel_rfl) (by kernel_rfl) (fun _ _ _ h => h) (Or.inl ⟨by rfl, fun u hu => ?_⟩) hHeld hClosed (fun hNext => ?_)
            rotate_left
            · (try dsimp only at hu)
              go_simp
              try with_reducible rfl
            clear hClosed
            have hClosed := hNext
            clear hNext
            try simp only [Act.put, List.getElem_toArray, List.getElem_cons_zero, List.getElem_cons_succ, List.setIfInBounds_toArray, List.set_cons_zero, List.set_cons_succ]
            refine' wpAnyE_take (i := 28) (v := _) rfl (by kernel_rfl) (by kernel_rfl) (by kernel_rfl) (by kernel_rfl) (fun _ _ _ h => h) (Or.inl ⟨by rfl, fun u hu => ?_⟩) hHeld hClosed (fun hNext => ?_)
            rotate_left
            · (try dsimp only at hu)
              go_simp
              try with_reducible rfl
            clear hClosed
            have hClosed := hNext
            clear hNext
            try simp only [Act.put, List.getElem_toArray, List.getElem_cons_zero, List.getElem_cons_succ, List.setIfInBounds_toArray, List.set_cons_zero, List.set_cons_succ]
            refine wpAnyE_done (by kernel_rfl) ?_ _
            clear hClosed
            go_wp2_with fail
            go_meet
            exact ⟨rfl, by exact below_same (Below.refl _ _) rfl rfl rfl rfl⟩
        case rest =>
          obtain ⟨rfl, hbx⟩ := hcut
          have BX := Lib.hid hbx
          clear hbx
          rename World => wx
          have BXw : Hid (Below w5.heap.size w5 wx) := Lib.hid (HB.out.trans (BX.out.mono HB.out.size))
          go_wp2_with fail
          go_loopw [11, 9] (fun jv pv wr => ∃ j : Nat, j ≤ m ∧ jv = .int .i64 j ∧ pv = .int .i64 ((pn + j : Nat) : Int) ∧ Below wx.heap.size wx wr) (fun jv _ _ => m - (intOf jv).toNat)
          case atStart => exact ⟨0, by omega, rfl, by first | rfl | simp, Below.refl _ _⟩
          case round =>
            obtain ⟨j, hj, rfl, rfl, hb⟩ := hrel
            have HBy := Lib.hid hb
            have B0y := Lib.hid (BX.out.trans (hb.mono BX.out.size))
            have B5y := Lib.hid (BXw.out.trans (hb.mono BXw.out.size))
            clear hb
            obtain ⟨z, hz⟩ : ∃ z, pn + j = z := ⟨_, rfl⟩
            rw [hz]
            have HZ := Lib.hid hz
            have hz6 : z ≤ 1000000000000 + 1000000 := by omega
            clear hz
            by_cases hjm : j < m
            · have hjl : j < pl.length := by have := HM.out; omega
              obtain ⟨q, hq, hqn, hql, hqo⟩ := HPC.out _ (List.getElem_mem hjl)
              obtain ⟨s0, s1, _, _⟩ := SK.out wr B0y.out
              have hcj : wr.cell? ⟨ba, oa + j, none⟩ = some (.int .i64 q) := by rw [B0y.out.cell hba, HCS.out j hjl, hq]
              have hqlv : q < lv.length := by have := HLL.out.1; omega
              have hqxc : q < xc.length := by have := HLL.out.2; omega
              obtain ⟨pa, hpa, _, hca⟩ := (L3c.out.below B5y.out).int hqlv
              obtain ⟨pb, hpb, _, hcb⟩ := (L4c.out.below B5y.out).int hqxc
              subst hpa hpb
              rw [at0_eq hqlv] at hql
              rw [at0_eq hqxc] at hqo
              rw [hql] at hca
              obtain ⟨cq, hcqE⟩ : ∃ x, xc[q] = x := ⟨_, rfl⟩
              rw [hcqE] at hcb hqo
              have HQO := Lib.hid hqo
              have x0 : (0 : Int) ≤ (j : Int) := by omega
              have x1 : (j : Int) < (m : Int) := by omega
              have x2 : (0 : Int) ≤ (q : Int) := by omega
              have x3 : (q : Int) < (lv.length : Int) := by omega
              have x4 : (q : Int) < (xc.length : Int) := by omega
              have hk1 : wr.drew.cell? ⟨g, off + k * 4 + 1, none⟩ = some (.int .i64 lev) ∧ wr.drew.cell? (pa.add q) = some (.int .i64 lev) ∧ wr.drew.cell? (pb.add q) = some (.int .i64 cq) := ⟨s1, hca, hcb⟩
              have HK1 := Lib.hid hk1
              clear hq hql hqo hcqE hca hcb s1
              go_wp2_with fail
              refine wp_region_E (S := fun w' => w'.cell? ⟨g, off + k * 4 + 1, none⟩ = some (.int .i64 lev) ∧ w'.cell? (pa.add q) = some (.int .i64 lev) ∧ w'.cell? (pb.add q) = some (.int .i64 cq)) [] (by kernel_rfl) (hk1) (fun hHeld hClosed => ?_)
              refine' wpAnyE_take (i := 0) (v := _) rfl (by kernel_rfl) (by kernel_rfl) (by kernel_rfl) (by kernel_rfl) (fun _ _ _ h => h) (Or.inl ⟨by rfl, fun u hu => ?_⟩) hHeld hClosed (fun hNext => ?_)
              rotate_left
              · (try dsimp only at hu)
                go_simp
                try with_reducible rfl
              clear hClosed
              have hClosed := hNext
              clear hNext
              try simp only [Act.put, List.getElem_toArray, List.getElem_cons_zero, List.setIfInBounds_toArray, List.set_cons_zero, List.set_cons_succ]
              refine' wpAnyE_take (i := 1) (v := _) rfl (by kernel_rfl) (by kernel_rfl) (by kernel_rfl) (by kernel_rfl) (fun _ _ _ h => h) (Or.inl ⟨by rfl, fun u hu => ?_⟩) hHeld hClosed (fun hNext => ?_)
              rotate_left
              · (try dsimp only at hu)
                go_simp
                try with_reducible rfl
              clear hClosed
              have hClosed := hNext
              clear hNext
              try simp only [Act.put, List.getElem_toArray, List.getElem_cons_zero, List.getElem_cons_succ, List.setIfInBounds_toArray, List.set_cons_zero, List.set_cons_succ]
              refine' wpAnyE_take (i := 2) (v := _) rfl (by kernel_rfl) (by kernel_rfl) (by kernel_rfl) (by kernel_rfl) (fun _ _ _ h => h) (Or.inl ⟨by rfl, fun u hu => ?_⟩) hHeld hClosed (fun hNext => ?_)
              rotate_left
              · (try dsimp only at hu)
                go_simp
                try with_reducible rfl
              clear hClosed
              have hClosed := hNext
              clear hNext
              try simp only [Act.put, List.getElem_toArray, List.getElem_cons_zero, List.getElem_cons_succ, List.setIfInBounds_toArray, List.set_cons_zero, List.set_cons_succ]
              refine' wpAnyE_take (i := 3) (v := _) rfl (by kernel_rfl) (by kernel_rfl) (by kernel_rfl) (by kernel_rfl) (fun _ _ _ h => h) (Or.inl ⟨by rfl, fun u hu => ?_⟩) hHeld hClosed (fun hNext => ?_)
              rotate_left
              · (try dsimp only at hu)
                go_simp
                try with_reducible rfl
              clear hClosed
              have hClosed := hNext
              clear hNext
              try simp only [Act.put, List.getElem_toArray, List.getElem_cons_zero, List.getElem_cons_succ, List.setIfInBounds_toArray, List.set_cons_zero, List.set_cons_succ]
              refine' wpAnyE_take (i := 4) (v := _) rfl (by kernel_rfl) (by kernel_rfl) (by kernel_rfl) (by kernel_rfl) (fun _ _ _ h => h) (Or.inl ⟨by rfl, fun u hu => ?_⟩) hHeld hClosed (fun hNext => ?_)
              rotate_left
              · (try dsimp only at hu)
                go_simp
                try with_reducible rfl
              clear hClosed
              have hClosed := hNext
              clear hNext
              try simp only [Act.put, List.getElem_toArray, List.getElem_cons_zero, List.getElem_cons_succ, List.setIfInBounds_toArray, List.set_cons_zero, List.set_cons_succ]
              refine' wpAnyE_take (i := 5) (v := _) rfl (by kernel_rfl) (by kernel_rfl) (by kernel_rfl) (by kernel_rfl) (fun _ _ _ h => h) (Or.inl ⟨by rfl, fun u hu => ?_⟩) hHeld hClosed (fun hNext => ?_)
              rotate_left
              · (try dsimp only at hu)
                go_simp
                try with_reducible rfl
              clear hClosed
              have hClosed := hNext
              clear hNext
              try simp only [Act.put, List.getElem_toArray, List.getElem_cons_zero, List.getElem_cons_succ, List.setIfInBounds_toArray, List.set_cons_zero, List.set_cons_succ]
              refine' wpAnyE_take (i := 6) (v := _) rfl (by kernel_rfl) (by kernel_rfl) (by kernel_rfl) (by kernel_rfl) (fun _ _ _ h => h) (Or.inl ⟨by rfl, fun u hu => ?_⟩) hHeld hClosed (fun hNext => ?_)
              rotate_left
              · (try dsimp only at hu)
                go_simp
                try with_reducible rfl
              clear hClosed
              have hClosed := hNext
              clear hNext
              try simp only [Act.put, List.getElem_toArray, List.getElem_cons_zero, List.getElem_cons_succ, List.setIfInBounds_toArray, List.set_cons_zero, List.set_cons_succ]
              refine' wpAnyE_take (i := 7) (v := _) rfl (by kernel_rfl) (by kernel_rfl) (by kernel_rfl) (by kernel_rfl) (fun _ _ _ h => h) (Or.inl ⟨by rfl, fun u hu => ?_⟩) hHeld hClosed (fun hNext => ?_)
              rotate_left
              · (try dsimp only at hu)
                go_simp
                try with_reducible rfl
              clear hClosed
              have hClosed := hNext
              clear hNext
              try simp only [Act.put, List.getElem_toArray, List.getElem_cons_zero, List.getElem_cons_succ, List.setIfInBounds_toArray, List.set_cons_zero, List.set_cons_succ]
              refine' wpAnyE_take (i := 8) (v := _) rfl (by kernel_rfl) (by kernel_rfl) (by kernel_rfl) (by kernel_rfl) (fun _ _ _ h => h) (Or.inl ⟨by rfl, fun u hu => ?_⟩) hHeld hClosed (fun hNext => ?_)
              rotate_left
              · (try dsimp only at hu)
                go_simp
                try with_reducible rfl
              clear hClosed
              have hClosed := hNext
              clear hNext
              try simp only [Act.put, List.getElem_toArray, List.getElem_cons_zero, List.getElem_cons_succ, List.setIfInBounds_toArray, List.set_cons_zero, List.set_cons_succ]
              refine' wpAnyE_take (i := 9) (v := _) rfl (by kernel_rfl) (by kernel_rfl) (by kernel_rfl) (by kernel_rfl) (fun _ _ _ h => h) (Or.inl ⟨by rfl, fun u hu => ?_⟩) hHeld hClosed (fun hNext => ?_)
              rotate_left
              · (try dsimp only at hu)
                go_simp
                try with_reducible rfl
              clear hClosed
              have hClosed := hNext
              clear hNext
              try simp only [Act.put, List.getElem_toArray, List.getElem_cons_zero, List.getElem_cons_succ, List.setIfInBounds_toArray, List.set_cons_zero, List.set_cons_succ]
              refine' wpAnyE_take (i := 10) (v := _) rfl (by kernel_rfl) (by kernel_rfl) (by kernel_rfl) (by kernel_rfl) (fun _ _ _ h => h) (Or.inl ⟨by rfl, fun u hu => ?_⟩) hHeld hClosed (fun hNext => ?_)
              rotate_left
              · (try dsimp only at hu)
                go_simp
                try with_reducible rfl
              clear hClosed
              have hClosed := hNext
              clear hNext
              try simp only [Act.put, List.getElem_toArray, List.getElem_cons_zero, List.getElem_cons_succ, List.setIfInBounds_toArray, List.set_cons_zero, List.set_cons_succ]
              refine' wpAnyE_take (i := 11) (v := _) rfl (by kernel_rfl) (by kernel_rfl) (by kernel_rfl) (by kernel_rfl) (fun _ _ _ h => h) (Or.inl ⟨by rfl, fun u hu => ?_⟩) hHeld hClosed (fun hNext => ?_)
              rotate_left
              · (try dsimp only at hu)
                go_simp
                try with_reducible rfl
              clear hClosed
              have hClosed := hNext
              clear hNext
              try simp only [Act.put, List.getElem_toArray, List.getElem_cons_zero, List.getElem_cons_succ, List.setIfInBounds_toArray, List.set_cons_zero, List.set_cons_succ]
              refine' wpAnyE_take (i := 12) (v := _) rfl (by kernel_rfl) (by kernel_rfl) (by kernel_rfl) (by kernel_rfl) (fun _ _ _ h => h) (Or.inl ⟨by rfl, fun u hu => ?_⟩) hHeld hClosed (fun hNext => ?_)
              rotate_left
              · (try dsimp only at hu)
                go_simp
                try with_reducible rfl
              clear hClosed
              have hClosed := hNext
              clear hNext
              try simp only [Act.put, List.getElem_toArray, List.getElem_cons_zero, List.getElem_cons_succ, List.setIfInBounds_toArray, List.set_cons_zero, List.set_cons_succ]
              refine' wpAnyE_take (i := 13) (v := _) rfl (by kernel_rfl) (by kernel_rfl) (by kernel_rfl) (by kernel_rfl) (fun _ _ _ h => h) (Or.inl ⟨by rfl, fun u hu => ?_⟩) hHeld hClosed (fun hNext => ?_)
              rotate_left
              · (try dsimp only at hu)
                go_simp
                try with_reducible rfl
              clear hClosed
              have hClosed := hNext
              clear hNext
              try simp only [Act.put, List.getElem_toArray, List.getElem_cons_zero, List.getElem_cons_succ, List.setIfInBounds_toArray, List.set_cons_zero, List.set_cons_succ]
              refine' wpAnyE_take (i := 14) (v := _) rfl (by kernel_rfl) (by kernel_rfl) (by kernel_rfl) (by kernel_rfl) (fun _ _ _ h => h) (Or.inl ⟨by rfl, fun u hu => ?_⟩) hHeld hClosed (fun hNext => ?_)
              rotate_left
              · (try dsimp only at hu)
                go_simp
                try with_reducible rfl
              clear hClosed
              have hClosed := hNext
              clear hNext
              try simp only [Act.put, List.getElem_toArray, List.getElem_cons_zero, List.getElem_cons_succ, List.setIfInBounds_toArray, List.set_cons_zero, List.set_cons_succ]
              refine wpAnyE_ready (rs := [15]) (by kernel_rfl) (by simp) ?_
              refine AllReadyE.cons rfl (fun K hK => ?_) AllReadyE.nil
              all_goals simp only [List.getElem_toArray, List.getElem_cons_zero, List.getElem_cons_succ]
              all_goals go_simp
              refine (rout_any cq _).mono ?_
              rintro e wq ⟨rfl, rfl⟩
              rw [HQO.out]
              refine hK.out _ _ (fun _ => HK1.out) (fun hHeld => ?_) (fun hX => (by first | cases hX | simp at hX))
              replace hClosed := hClosed.step 15 (by kernel_rfl)
              clear hK K
              try simp only [Act.put, List.getElem_toArray, List.getElem_cons_zero, List.getElem_cons_succ, List.setIfInBounds_toArray, List.set_cons_zero, List.set_cons_succ]
              refine' wpAnyE_take (i := 16) (v := _) rfl (by kernel_rfl) (by kernel_rfl) (by kernel_rfl) (by kernel_rfl) (fun _ _ _ h => h) (Or.inl ⟨by rfl, fun u hu => ?_⟩) hHeld hClosed (fun hNext => ?_)
              rotate_left
              · (try dsimp only at hu)
                go_simp
                try with_reducible rfl
              clear hClosed
              have hClosed := hNext
              clear hNext
              try simp only [Act.put, List.getElem_toArray, List.getElem_cons_zero, List.getElem_cons_succ, List.setIfInBounds_toArray, List.set_cons_zero, List.set_cons_succ]
              refine wpAnyE_done (by kernel_rfl) ?_ _
              clear hClosed
              go_wp2_with fail
              go_roundw
              case rel => exact ⟨j + 1, by omega, by go_num, by have := HZ.out; rw [show pn + (j + 1) = z + 1 by omega]; go_num, by exact below_same HBy.out rfl rfl rfl rfl⟩
              case measure => simp [intOf]; omega
            · obtain rfl : m = j := by omega
              obtain ⟨s0, s1, s2, s3⟩ := SK.out wr B0y.out
              have hk1 := SK.out wr.drew (by exact below_same B0y.out rfl rfl rfl rfl)
              have HK1 := Lib.hid hk1
              rcases Nat.eq_zero_or_pos k with h0 | h0
              · have kz : ((k : Int) == 0) = true := by simp; omega
                have HSS := Lib.hid (HSOS.out h0)
                clear h0
                rcases hx0 : (x == 0) with _ | _
                · clear s1 s2 s3
                  go_wp2_with fail
                  refine wp_region_E (S := fun w' => w'.cell? ⟨g, off + k * 4, none⟩ = some (.slice (some ⟨ba, oa, none⟩) m ck) ∧ w'.cell? ⟨g, off + k * 4 + 1, none⟩ = some (.int .i64 lev) ∧ w'.cell? ⟨g, off + k * 4 + 2, none⟩ = some (.int .i64 sos) ∧ w'.cell? ⟨ba, oa, none⟩ = some (.int .i64 x)) [] (by kernel_rfl) (hk1) (fun hHeld hClosed => ?_)
                  refine' wpAnyE_take (i := 0) (v := _) rfl (by kernel_rfl) (by kernel_rfl) (by kernel_rfl) (by kernel_rfl) (fun _ _ _ h => h) (Or.inl ⟨by rfl, fun u hu => ?_⟩) hHeld hClosed (fun hNext => ?_)
                  rotate_left
                  · (try dsimp only at hu)
                    go_simp
                    try with_reducible rfl
                  clear hClosed
                  have hClosed := hNext
                  clear hNext
                  try simp only [Act.put, List.getElem_toArray, List.getElem_cons_zero, List.setIfInBounds_toArray, List.set_cons_zero, List.set_cons_succ]
                  refine' wpAnyE_take (i := 1) (v := _) rfl (by kernel_rfl) (by kernel_rfl) (by kernel_rfl) (by kernel_rfl) (fun _ _ _ h => h) (Or.inl ⟨by rfl, fun u hu => ?_⟩) hHeld hClosed (fun hNext => ?_)
                  rotate_left
                  · (try dsimp only at hu)
                    go_simp
                    try with_reducible rfl
                  clear hClosed
                  have hClosed := hNext
                  clear hNext
                  try simp only [Act.put, List.getElem_toArray, List.getElem_cons_zero, List.getElem_cons_succ, List.setIfInBounds_toArray, List.set_cons_zero, List.set_cons_succ]
                  refine' wpAnyE_take (i := 2) (v := _) rfl (by kernel_rfl) (by kernel_rfl) (by kernel_rfl) (by kernel_rfl) (fun _ _ _ h => h) (Or.inl ⟨by rfl, fun u hu => ?_⟩) hHeld hClosed (fun hNext => ?_)
                  rotate_left
                  · (try dsimp only at hu)
                    go_simp
                    try with_reducible rfl
                  clear hClosed
                  have hClosed := hNext
                  clear hNext
                  try simp only [Act.put, List.getElem_toArray, List.getElem_cons_zero, List.getElem_cons_succ, List.setIfInBounds_toArray, List.set_cons_zero, List.set_cons_succ]
                  refine' wpAnyE_take (i := 3) (v := _) rfl (by kernel_rfl) (by kernel_rfl) (by kernel_rfl) (by kernel_rfl) (fun _ _ _ h => h) (Or.inl ⟨by rfl, fun u hu => ?_⟩) hHeld hClosed (fun hNext => ?_)
                  rotate_left
                  · (try dsimp only at hu)
                    go_simp
                    try with_reducible rfl
                  clear hClosed
                  have hClosed := hNext
                  clear hNext
                  try simp only [Act.put, List.getElem_toArray, List.getElem_cons_zero, List.getElem_cons_succ, List.setIfInBounds_toArray, List.set_cons_zero, List.set_cons_succ]
                  refine' wpAnyE_take (i := 4) (v := _) rfl (by kernel_rfl) (by kernel_rfl) (by kernel_rfl) (by kernel_rfl) (fun _ _ _ h => h) (Or.inl ⟨by rfl, fun u hu => ?_⟩) hHeld hClosed (fun hNext => ?_)
                  rotate_left
                  · (try dsimp only at hu)
                    go_simp
                    try with_reducible rfl
                  clear hClosed
                  have hClosed := hNext
                  clear hNext
                  try simp only [Act.put, List.getElem_toArray, List.getElem_cons_zero, List.getElem_cons_succ, List.setIfInBounds_toArray, List.set_cons_zero, List.set_cons_succ]
                  refine' wpAnyE_take (i := 5) (v := _) rfl (by kernel_rfl) (by kernel_rfl) (by kernel_rfl) (by kernel_rfl) (fun _ _ _ h => h) (Or.inl ⟨by rfl, fun u hu => ?_⟩) hHeld hClosed (fun hNext => ?_)
                  rotate_left
                  · (try dsimp only at hu)
                    go_simp
                    try with_reducible rfl
                  clear hClosed
                  have hClosed := hNext
                  clear hNext
                  try simp only [Act.put, List.getElem_toArray, List.getElem_cons_zero, List.getElem_cons_succ, List.setIfInBounds_toArray, List.set_cons_zero, List.set_cons_succ]
                  refine' wpAnyE_take (i := 6) (v := _) rfl (by kernel_rfl) (by kernel_rfl) (by kernel_rfl) (by kernel_rfl) (fun _ _ _ h => h) (Or.inl ⟨by rfl, fun u hu => ?_⟩) hHeld hClosed (fun hNext => ?_)
                  rotate_left
                  · (try dsimp only at hu)
                    go_simp
                    try with_reducible rfl
                  clear hClosed
                  have hClosed := hNext
                  clear hNext
                  try simp only [Act.put, List.getElem_toArray, List.getElem_cons_zero, List.getElem_cons_succ, List.setIfInBounds_toArray, List.set_cons_zero, List.set_cons_succ]
                  refine' wpAnyE_take (i := 7) (v := _) rfl (by kernel_rfl) (by kernel_rfl) (by kernel_rfl) (by kernel_rfl) (fun _ _ _ h => h) (Or.inl ⟨by rfl, fun u hu => ?_⟩) hHeld hClosed (fun hNext => ?_)
                  rotate_left
                  · (try dsimp only at hu)
                    go_simp
                    try with_reducible rfl
                  clear hClosed
                  have hClosed := hNext
                  clear hNext
                  try simp only [Act.put, List.getElem_toArray, List.getElem_cons_zero, List.getElem_cons_succ, List.setIfInBounds_toArray, List.set_cons_zero, List.set_cons_succ]
                  refine' wpAnyE_take (i := 8) (v := _) rfl (by kernel_rfl) (by kernel_rfl) (by kernel_rfl) (by kernel_rfl) (fun _ _ _ h => h) (Or.inl ⟨by rfl, fun u hu => ?_⟩) hHeld hClosed (fun hNext => ?_)
                  rotate_left
                  · (try dsimp only at hu)
                    go_simp
                    try with_reducible rfl
                  clear hClosed
                  have hClosed := hNext
                  clear hNext
                  try simp only [Act.put, List.getElem_toArray, List.getElem_cons_zero, List.getElem_cons_succ, List.setIfInBounds_toArray, List.set_cons_zero, List.set_cons_succ]
                  refine' wpAnyE_take (i := 9) (v := _) rfl (by kernel_rfl) (by kernel_rfl) (by kernel_rfl) (by kernel_rfl) (fun _ _ _ h => h) (Or.inl ⟨by rfl, fun u hu => ?_⟩) hHeld hClosed (fun hNext => ?_)
                  rotate_left
                  · (try dsimp only at hu)
                    go_simp
                    try with_reducible rfl
                  clear hClosed
                  have hClosed := hNext
                  clear hNext
                  try simp only [Act.put, List.getElem_toArray, List.getElem_cons_zero, List.getElem_cons_succ, List.setIfInBounds_toArray, List.set_cons_zero, List.set_cons_succ]
                  refine' wpAnyE_take (i := 10) (v := _) rfl (by kernel_rfl) (by kernel_rfl) (by kernel_rfl) (by kernel_rfl) (fun _ _ _ h => h) (Or.inl ⟨by rfl, fun u hu => ?_⟩) hHeld hClosed (fun hNext => ?_)
                  rotate_left
                  · (try dsimp only at hu)
                    go_simp
                    try with_reducible rfl
                  clear hClosed
                  have hClosed := hNext
                  clear hNext
                  try simp only [Act.put, List.getElem_toArray, List.getElem_cons_zero, List.getElem_cons_succ, List.setIfInBounds_toArray, List.set_cons_zero, List.set_cons_succ]
                  refine' wpAnyE_take (i := 11) (v := _) rfl (by kernel_rfl) (by kernel_rfl) (by kernel_rfl) (by kernel_rfl) (fun _ _ _ h => h) (Or.inl ⟨by rfl, fun u hu => ?_⟩) hHeld hClosed (fun hNext => ?_)
                  rotate_left
                  · (try dsimp only at hu)
                    go_simp
                    try with_reducible rfl
                  clear hClosed
                  have hClosed := hNext
                  clear hNext
                  try simp only [Act.put, List.getElem_toArray, List.getElem_cons_zero, List.getElem_cons_succ, List.setIfInBounds_toArray, List.set_cons_zero, List.set_cons_succ]
                  refine' wpAnyE_take (i := 12) (v := _) rfl (by kernel_rfl) (by kernel_rfl) (by kernel_rfl) (by kernel_rfl) (fun _ _ _ h => h) (Or.inl ⟨by rfl, fun u hu => ?_⟩) hHeld hClosed (fun hNext => ?_)
                  rotate_left
                  · (try dsimp only at hu)
                    go_simp
                    try with_reducible rfl
                  clear hClosed
                  have hClosed := hNext
                  clear hNext
                  try simp only [Act.put, List.getElem_toArray, List.getElem_cons_zero, List.getElem_cons_succ, List.setIfInBounds_toArray, List.set_cons_zero, List.set_cons_succ]
                  refine' wpAnyE_take (i := 13) (v := _) rfl (by kernel_rfl) (by kernel_rfl) (by kernel_rfl) (by kernel_rfl) (fun _ _ _ h => h) (Or.inr ⟨by rfl, rfl⟩) hHeld hClosed (fun hNext => ?_)
                  clear hClosed
                  have hClosed := hNext
                  clear hNext
                  try simp only [Act.put, List.getElem_toArray, List.getElem_cons_zero, List.getElem_cons_succ, List.setIfInBounds_toArray, List.set_cons_zero, List.set_cons_succ]
                  refine' wpAnyE_take (i := 14) (v := _) rfl (by kernel_rfl) (by kernel_rfl) (by kernel_rfl) (by kernel_rfl) (fun _ _ _ h => h) (Or.inr ⟨by rfl, rfl⟩) hHeld hClosed (fun hNext => ?_)
                  clear hClosed
                  have hClosed := hNext
                  clear hNext
                  try simp only [Act.put, List.getElem_toArray, List.getElem_cons_zero, List.getElem_cons_succ, List.setIfInBounds_toArray, List.set_cons_zero, List.set_cons_succ]
                  refine' wpAnyE_take (i := 15) (v := _) rfl (by kernel_rfl) (by kernel_rfl) (by kernel_rfl) (by kernel_rfl) (fun _ _ _ h => h) (Or.inr ⟨by rfl, rfl⟩) hHeld hClosed (fun hNext => ?_)
                  clear hClosed
                  have hClosed := hNext
                  clear hNext
                  try simp only [Act.put, List.getElem_toArray, List.getElem_cons_zero, List.getElem_cons_succ, List.setIfInBounds_toArray, List.set_cons_zero, List.set_cons_succ]
                  refine' wpAnyE_take (i := 16) (v := _) rfl (by kernel_rfl) (by kernel_rfl) (by kernel_rfl) (by kernel_rfl) (fun _ _ _ h => h) (Or.inr ⟨by rfl, rfl⟩) hHeld hClosed (fun hNext => ?_)
                  clear hClosed
                  have hClosed := hNext
                  clear hNext
                  try simp only [Act.put, List.getElem_toArray, List.getElem_cons_zero, List.getElem_cons_succ, List.setIfInBounds_toArray, List.set_cons_zero, List.set_cons_succ]
                  refine' wpAnyE_take (i := 17) (v := _) rfl (by kernel_rfl) (by kernel_rfl) (by kernel_rfl) (by kernel_rfl) (fun _ _ _ h => h) (Or.inr ⟨by rfl, rfl⟩) hHeld hClosed (fun hNext => ?_)
                  clear hClosed
                  have hClosed := hNext
                  clear hNext
                  try simp only [Act.put, List.getElem_toArray, List.getElem_cons_zero, List.getElem_cons_succ, List.setIfInBounds_toArray, List.set_cons_zero, List.set_cons_succ]
                  refine' wpAnyE_take (i := 18) (v := _) rfl (by kernel_rfl) (by kernel_rfl) (by kernel_rfl) (by kernel_rfl) (fun _ _ _ h => h) (Or.inr ⟨by rfl, rfl⟩) hHeld hClosed (fun hNext => ?_)
                  clear hClosed
                  have hClosed := hNext
                  clear hNext
                  try simp only [Act.put, List.getElem_toArray, List.getElem_cons_zero, List.getElem_cons_succ, List.setIfInBounds_toArray, List.set_cons_zero, List.set_cons_succ]
                  refine' wpAnyE_take (i := 19) (v := _) rfl (by kernel_rfl) (by kernel_rfl) (by kernel_rfl) (by kernel_rfl) (fun _ _ _ h => h) (Or.inr ⟨by rfl, rfl⟩) hHeld hClosed (fun hNext => ?_)
                  clear hClosed
                  have hClosed := hNext
                  clear hNext
                  try simp only [Act.put, List.getElem_toArray, List.getElem_cons_zero, List.getElem_cons_succ, List.setIfInBounds_toArray, List.set_cons_zero, List.set_cons_succ]
                  refine' wpAnyE_take (i := 20) (v := _) rfl (by kernel_rfl) (by kernel_rfl) (by kernel_rfl) (by kernel_rfl) (fun _ _ _ h => h) (Or.inr ⟨by rfl, rfl⟩) hHeld hClosed (fun hNext => ?_)
                  clear hClosed
                  have hClosed := hNext
                  clear hNext
                  try simp only [Act.put, List.getElem_toArray, List.getElem_cons_zero, List.getElem_cons_succ, List.setIfInBounds_toArray, List.set_cons_zero, List.set_cons_succ]
                  refine' wpAnyE_take (i := 21) (v := _) rfl (by kernel_rfl) (by kernel_rfl) (by kernel_rfl) (by kernel_rfl) (fun _ _ _ h => h) (Or.inr ⟨by rfl, rfl⟩) hHeld hClosed (fun hNext => ?_)
                  clear hClosed
                  have hClosed := hNext
                  clear hNext
                  try simp only [Act.put, List.getElem_toArray, List.getElem_cons_zero, List.getElem_cons_succ, List.setIfInBounds_toArray, List.set_cons_zero, List.set_cons_succ]
                  refine' wpAnyE_take (i := 22) (v := _) rfl (by kernel_rfl) (by kernel_rfl) (by kernel_rfl) (by kernel_rfl) (fun _ _ _ h => h) (Or.inr ⟨by rfl, rfl⟩) hHeld hClosed (fun hNext => ?_)
                  clear hClosed
                  have hClosed := hNext
                  clear hNext
                  try simp only [Act.put, List.getElem_toArray, List.getElem_cons_zero, List.getElem_cons_succ, List.setIfInBounds_toArray, List.set_cons_zero, List.set_cons_succ]
                  refine' wpAnyE_take (i := 23) (v := _) rfl (by kernel_rfl) (by kernel_rfl) (by kernel_rfl) (by kernel_rfl) (fun _ _ _ h => h) (Or.inr ⟨by rfl, rfl⟩) hHeld hClosed (fun hNext => ?_)
                  clear hClosed
                  have hClosed := hNext
                  clear hNext
                  try simp only [Act.put, List.getElem_toArray, List.getElem_cons_zero, List.getElem_cons_succ, List.setIfInBounds_toArray, List.set_cons_zero, List.set_cons_succ]
                  refine' wpAnyE_take (i := 24) (v := _) rfl (by kernel_rfl) (by kernel_rfl) (by kernel_rfl) (by kernel_rfl) (fun _ _ _ h => h) (Or.inr ⟨by rfl, rfl⟩) hHeld hClosed (fun hNext => ?_)
                  clear hClosed
                  have hClosed := hNext
                  clear hNext
                  try simp only [Act.put, List.getElem_toArray, List.getElem_cons_zero, List.getElem_cons_succ, List.setIfInBounds_toArray, List.set_cons_zero, List.set_cons_succ]
                  refine' wpAnyE_take (i := 25) (v := _) rfl (by kernel_rfl) (by kernel_rfl) (by kernel_rfl) (by kernel_rfl) (fun _ _ _ h => h) (Or.inr ⟨by rfl, rfl⟩) hHeld hClosed (fun hNext => ?_)
                  clear hClosed
                  have hClosed := hNext
                  clear hNext
                  try simp only [Act.put, List.getElem_toArray, List.getElem_cons_zero, List.getElem_cons_succ, List.setIfInBounds_toArray, List.set_cons_zero, List.set_cons_succ]
                  refine' wpAnyE_take (i := 26) (v := _) rfl (by kernel_rfl) (by kernel_rfl) (by kernel_rfl) (by kernel_rfl) (fun _ _ _ h => h) (Or.inr ⟨by rfl, rfl⟩) hHeld hClosed (fun hNext => ?_)
                  clear hClosed
                  have hClosed := hNext
                  clear hNext
                  try simp only [Act.put, List.getElem_toArray, List.getElem_cons_zero, List.getElem_cons_succ, List.setIfInBounds_toArray, List.set_cons_zero, List.set_cons_succ]
                  refine' wpAnyE_take (i := 27) (v := _) rfl (by kernel_rfl) (by kernel_rfl) (by kernel_rfl) (by kernel_rfl) (fun _ _ _ h => h) (Or.inl ⟨by rfl, fun u hu => ?_⟩) hHeld hClosed (fun hNext => ?_)
                  rotate_left
                  · (try dsimp only at hu)
                    go_simp
                    try with_reducible rfl
                  clear hClosed
                  have hClosed := hNext
                  clear hNext
                  try simp only [Act.put, List.getElem_toArray, List.getElem_cons_zero, List.getElem_cons_succ, List.setIfInBounds_toArray, List.set_cons_zero, List.set_cons_succ]
                  refine wpAnyE_done (by kernel_rfl) ?_ _
                  clear hClosed
                  go_wp2_with fail
                  go_roundw
                  case rel => exact ⟨k + 1, by omega, by go_num, by rw [HPS.out, HPN.out, HZ.out], by rw [HPS.out, HPN.out]; omega, by exact below_same B5y.out rfl rfl rfl rfl⟩
                  case measure => simp [intOf]; omega
                · have HSE : Hid (sos = dirL (max lev n)) := Lib.hid (HSS.out (by simpa using hx0))
                  clear s1 s2 s3
                  rcases Decidable.em (lev < n) with ma | ma
                  · have HD : Hid (dirL n = sos) := Lib.hid (by rw [HSE.out]; congr 1; omega)
                    have hss : (sos != sos) = false := by simp
                    go_wp2_with fail
                    refine wp_region_E (S := fun w' => w'.cell? ⟨g, off + k * 4, none⟩ = some (.slice (some ⟨ba, oa, none⟩) m ck) ∧ w'.cell? ⟨g, off + k * 4 + 1, none⟩ = some (.int .i64 lev) ∧ w'.cell? ⟨g, off + k * 4 + 2, none⟩ = some (.int .i64 sos) ∧ w'.cell? ⟨ba, oa, none⟩ = some (.int .i64 x)) [] (by kernel_rfl) (hk1) (fun hHeld hClosed => ?_)
                    refine' wpAnyE_take (i := 0) (v := _) rfl (by kernel_rfl) (by kernel_rfl) (by kernel_rfl) (by kernel_rfl) (fun _ _ _ h => h) (Or.inl ⟨by rfl, fun u hu => ?_⟩) hHeld hClosed (fun hNext => ?_)
                    rotate_left
                    · (try dsimp only at hu)
                      go_simp
                      try with_reducible rfl
                    clear hClosed
                    have hClosed := hNext
                    clear hNext
                    try simp only [Act.put, List.getElem_toArray, List.getElem_cons_zero, List.setIfInBounds_toArray, List.set_cons_zero, List.set_cons_succ]
                    refine' wpAnyE_take (i := 1) (v := _) rfl (by kernel_rfl) (by kernel_rfl) (by kernel_rfl) (by kernel_rfl) (fun _ _ _ h => h) (Or.inl ⟨by rfl, fun u hu => ?_⟩) hHeld hClosed (fun hNext => ?_)
                    rotate_left
                    · (try dsimp only at hu)
                      go_simp
                      try with_reducible rfl
                    clear hClosed
                    have hClosed := hNext
                    clear hNext
                    try simp only [Act.put, List.getElem_toArray, List.getElem_cons_zero, List.getElem_cons_succ, List.setIfInBounds_toArray, List.set_cons_zero, List.set_cons_succ]
                    refine' wpAnyE_take (i := 2) (v := _) rfl (by kernel_rfl) (by kernel_rfl) (by kernel_rfl) (by kernel_rfl) (fun _ _ _ h => h) (Or.inl ⟨by rfl, fun u hu => ?_⟩) hHeld hClosed (fun hNext => ?_)
                    rotate_left
                    · (try dsimp only at hu)
                      go_simp
                      try with_reducible rfl
                    clear hClosed
                    have hClosed := hNext
                    clear hNext
                    try simp only [Act.put, List.getElem_toArray, List.getElem_cons_zero, List.getElem_cons_succ, List.setIfInBounds_toArray, List.set_cons_zero, List.set_cons_succ]
                    refine' wpAnyE_take (i := 3) (v := _) rfl (by kernel_rfl) (by kernel_rfl) (by kernel_rfl) (by kernel_rfl) (fun _ _ _ h => h) (Or.inl ⟨by rfl, fun u hu => ?_⟩) hHeld hClosed (fun hNext => ?_)
                    rotate_left
                    · (try dsimp only at hu)
                      go_simp
                      try with_reducible rfl
                    clear hClosed
                    have hClosed := hNext
                    clear hNext
                    try simp only [Act.put, List.getElem_toArray, List.getElem_cons_zero, List.getElem_cons_succ, List.setIfInBounds_toArray, List.set_cons_zero, List.set_cons_succ]
                    refine' wpAnyE_take (i := 4) (v := _) rfl (by kernel_rfl) (by kernel_rfl) (by kernel_rfl) (by kernel_rfl) (fun _ _ _ h => h) (Or.inl ⟨by rfl, fun u hu => ?_⟩) hHeld hClosed (fun hNext => ?_)
                    rotate_left
                    · (try dsimp only at hu)
                      go_simp
                      try with_reducible rfl
                    clear hClosed
                    have hClosed := hNext
                    clear hNext
                    try simp only [Act.put, List.getElem_toArray, List.getElem_cons_zero, List.getElem_cons_succ, List.setIfInBounds_toArray, List.set_cons_zero, List.set_cons_succ]
                    refine' wpAnyE_take (i := 5) (v := _) rfl (by kernel_rfl) (by kernel_rfl) (by kernel_rfl) (by kernel_rfl) (fun _ _ _ h => h) (Or.inl ⟨by rfl, fun u hu => ?_⟩) hHeld hClosed (fun hNext => ?_)
                    rotate_left
                    · (try dsimp only at hu)
                      go_simp
                      try with_reducible rfl
                    clear hClosed
                    have hClosed := hNext
                    clear hNext
                    try simp only [Act.put, List.getElem_toArray, List.getElem_cons_zero, List.getElem_cons_succ, List.setIfInBounds_toArray, List.set_cons_zero, List.set_cons_succ]
                    refine' wpAnyE_take (i := 6) (v := _) rfl (by kernel_rfl) (by kernel_rfl) (by kernel_rfl) (by kernel_rfl) (fun _ _ _ h => h) (Or.inl ⟨by rfl, fun u hu => ?_⟩) hHeld hClosed (fun hNext => ?_)
                    rotate_left
                    · (try dsimp only at hu)
                      go_simp
                      try with_reducible rfl
                    clear hClosed
                    have hClosed := hNext
                    clear hNext
                    try simp only [Act.put, List.getElem_toArray, List.getElem_cons_zero, List.getElem_cons_succ, List.setIfInBounds_toArray, List.set_cons_zero, List.set_cons_succ]
                    refine' wpAnyE_take (i := 7) (v := _) rfl (by kernel_rfl) (by kernel_rfl) (by kernel_rfl) (by kernel_rfl) (fun _ _ _ h => h) (Or.inl ⟨by rfl, fun u hu => ?_⟩) hHeld hClosed (fun hNext => ?_)
                    rotate_left
                    · (try dsimp only at hu)
                      go_simp
                      try with_reducible rfl
                    clear hClosed
                    have hClosed := hNext
                    clear hNext
                    try simp only [Act.put, List.getElem_toArray, List.getElem_cons_zero, List.getElem_cons_succ, List.setIfInBounds_toArray, List.set_cons_zero, List.set_cons_succ]
                    refine' wpAnyE_take (i := 8) (v := _) rfl (by kernel_rfl) (by kernel_rfl) (by kernel_rfl) (by kernel_rfl) (fun _ _ _ h => h) (Or.inl ⟨by rfl, fun u hu => ?_⟩) hHeld hClosed (fun hNext => ?_)
                    rotate_left
                    · (try dsimp only at hu)
                      go_simp
                      try with_reducible rfl
                    clear hClosed
                    have hClosed := hNext
                    clear hNext
                    try simp only [Act.put, List.getElem_toArray, List.getElem_cons_zero, List.getElem_cons_succ, List.setIfInBounds_toArray, List.set_cons_zero, List.set_cons_succ]
                    refine' wpAnyE_take (i := 9) (v := _) rfl (by kernel_rfl) (by kernel_rfl) (by kernel_rfl) (by kernel_rfl) (fun _ _ _ h => h) (Or.inl ⟨by rfl, fun u hu => ?_⟩) hHeld hClosed (fun hNext => ?_)
                    rotate_left
                    · (try dsimp only at hu)
                      go_simp
                      try with_reducible rfl
                    clear hClosed
                    have hClosed := hNext
                    clear hNext
                    try simp only [Act.put, List.getElem_toArray, List.getElem_cons_zero, List.getElem_cons_succ, List.setIfInBounds_toArray, List.set_cons_zero, List.set_cons_succ]
                    refine' wpAnyE_take (i := 10) (v := _) rfl (by kernel_rfl) (by kernel_rfl) (by kernel_rfl) (by kernel_rfl) (fun _ _ _ h => h) (Or.inl ⟨by rfl, fun u hu => ?_⟩) hHeld hClosed (fun hNext => ?_)
                    rotate_left
                    · (try dsimp only at hu)
                      go_simp
                      try with_reducible rfl
                    clear hClosed
                    have hClosed := hNext
                    clear hNext
                    try simp only [Act.put, List.getElem_toArray, List.getElem_cons_zero, List.getElem_cons_succ, List.setIfInBounds_toArray, List.set_cons_zero, List.set_cons_succ]
                    refine' wpAnyE_take (i := 11) (v := _) rfl (by kernel_rfl) (by kernel_rfl) (by kernel_rfl) (by kernel_rfl) (fun _ _ _ h => h) (Or.inl ⟨by rfl, fun u hu => ?_⟩) hHeld hClosed (fun hNext => ?_)
                    rotate_left
                    · (try dsimp only at hu)
                      go_simp
                      try with_reducible rfl
                    clear hClosed
                    have hClosed := hNext
                    clear hNext
                    try simp only [Act.put, List.getElem_toArray, List.getElem_cons_zero, List.getElem_cons_succ, List.setIfInBounds_toArray, List.set_cons_zero, List.set_cons_succ]
                    refine' wpAnyE_take (i := 12) (v := _) rfl (by kernel_rfl) (by kernel_rfl) (by kernel_rfl) (by kernel_rfl) (fun _ _ _ h => h) (Or.inl ⟨by rfl, fun u hu => ?_⟩) hHeld hClosed (fun hNext => ?_)
                    rotate_left
                    · (try dsimp only at hu)
                      go_simp
                      try with_reducible rfl
                    clear hClosed
                    have hClosed := hNext
                    clear hNext
                    try simp only [Act.put, List.getElem_toArray, List.getElem_cons_zero, List.getElem_cons_succ, List.setIfInBounds_toArray, List.set_cons_zero, List.set_cons_succ]
                    refine' wpAnyE_take (i := 13) (v := _) rfl (by kernel_rfl) (by kernel_rfl) (by kernel_rfl) (by kernel_rfl) (fun _ _ _ h => h) (Or.inl ⟨by rfl, fun u hu => ?_⟩) hHeld hClosed (fun hNext => ?_)
                    rotate_left
                    · (try dsimp only at hu)
                      go_simp
                      try with_reducible rfl
                    clear hClosed
                    have hClosed := hNext
                    clear hNext
                    try simp only [Act.put, List.getElem_toArray, List.getElem_cons_zero, List.getElem_cons_succ, List.setIfInBounds_toArray, List.set_cons_zero, List.set_cons_succ]
                    refine' wpAnyE_take (i := 14) (v := _) rfl (by kernel_rfl) (by kernel_rfl) (by kernel_rfl) (by kernel_rfl) (fun _ _ _ h => h) (Or.inl ⟨by rfl, fun u hu => ?_⟩) hHeld hClosed (fun hNext => ?_)
                    rotate_left
                    · (try dsimp only at hu)
                      go_simp
                      try with_reducible rfl
                    clear hClosed
                    have hClosed := hNext
                    clear hNext
                    try simp only [Act.put, List.getElem_toArray, List.getElem_cons_zero, List.getElem_cons_succ, List.setIfInBounds_toArray, List.set_cons_zero, List.set_cons_succ]
                    refine' wpAnyE_take (i := 15) (v := _) rfl (by kernel_rfl) (by kernel_rfl) (by kernel_rfl) (by kernel_rfl) (fun _ _ _ h => h) (Or.inl ⟨by rfl, fun u hu => ?_⟩) hHeld hClosed (fun hNext => ?_)
                    rotate_left
                    · (try dsimp only at hu)
                      go_simp
                      try with_reducible rfl
                    clear hClosed
                    have hClosed := hNext
                    clear hNext
                    try simp only [Act.put, List.getElem_toArray, List.getElem_cons_zero, List.getElem_cons_succ, List.setIfInBounds_toArray, List.set_cons_zero, List.set_cons_succ]
                    refine' wpAnyE_take (i := 16) (v := _) rfl (by kernel_rfl) (by kernel_rfl) (by kernel_rfl) (by kernel_rfl) (fun _ _ _ h => h) (Or.inl ⟨by rfl, fun u hu => ?_⟩) hHeld hClosed (fun hNext => ?_)
                    rotate_left
                    · (try dsimp only at hu)
                      go_simp
                      try with_reducible rfl
                    clear hClosed
                    have hClosed := hNext
                    clear hNext
                    try simp only [Act.put, List.getElem_toArray, List.getElem_cons_zero, List.getElem_cons_succ, List.setIfInBounds_toArray, List.set_cons_zero, List.set_cons_succ]
                    refine' wpAnyE_take (i := 17) (v := _) rfl (by kernel_rfl) (by kernel_rfl) (by kernel_rfl) (by kernel_rfl) (fun _ _ _ h => h) (Or.inl ⟨by rfl, fun u hu => ?_⟩) hHeld hClosed (fun hNext => ?_)
                    rotate_left
                    · (try dsimp only at hu)
                      go_simp
                      try with_reducible rfl
                    clear hClosed
                    have hClosed := hNext
                    clear hNext
                    try simp only [Act.put, List.getElem_toArray, List.getElem_cons_zero, List.getElem_cons_succ, List.setIfInBounds_toArray, List.set_cons_zero, List.set_cons_succ]
                    refine' wpAnyE_take (i := 18) (v := _) rfl (by kernel_rfl) (by kernel_rfl) (by kernel_rfl) (by kernel_rfl) (fun _ _ _ h => h) (Or.inl ⟨by rfl, fun u hu => ?_⟩) hHeld hClosed (fun hNext => ?_)
                    rotate_left
                    · (try dsimp only at hu)
                      go_simp
                      try with_reducible rfl
                    clear hClosed
                    have hClosed := hNext
                    clear hNext
                    try simp only [Act.put, List.getElem_toArray, List.getElem_cons_zero, List.getElem_cons_succ, List.setIfInBounds_toArray, List.set_cons_zero, List.set_cons_succ]
                    refine' wpAnyE_take (i := 19) (v := _) rfl (by kernel_rfl) (by kernel_rfl) (by kernel_rfl) (by kernel_rfl) (fun _ _ _ h => h) (Or.inl ⟨by rfl, fun u hu => ?_⟩) hHeld hClosed (fun hNext => ?_)
                    rotate_left
                    · (try dsimp only at hu)
                      go_simp
                      try with_reducible rfl
                    clear hClosed
                    have hClosed := hNext
                    clear hNext
                    try simp only [Act.put, List.getElem_toArray, List.getElem_cons_zero, List.getElem_cons_succ, List.setIfInBounds_toArray, List.set_cons_zero, List.set_cons_succ]
                    refine' wpAnyE_take (i := 20) (v := _) rfl (by kernel_rfl) (by kernel_rfl) (by kernel_rfl) (by kernel_rfl) (fun _ _ _ h => h) (Or.inl ⟨by rfl, fun u hu => ?_⟩) hHeld hClosed (fun hNext => ?_)
                    rotate_left
                    · (try dsimp only at hu)
                      go_simp
                      try with_reducible rfl
                    clear hClosed
                    have hClosed := hNext
                    clear hNext
                    try simp only [Act.put, List.getElem_toArray, List.getElem_cons_zero, List.getElem_cons_succ, List.setIfInBounds_toArray, List.set_cons_zero, List.set_cons_succ]
                    refine' wpAnyE_take (i := 21) (v := _) rfl (by kernel_rfl) (by kernel_rfl) (by kernel_rfl) (by kernel_rfl) (fun _ _ _ h => h) (Or.inl ⟨by rfl, fun u hu => ?_⟩) hHeld hClosed (fun hNext => ?_)
                    rotate_left
                    · (try dsimp only at hu)
                      go_simp
                      try with_reducible rfl
                    clear hClosed
                    have hClosed := hNext
                    clear hNext
                    try simp only [Act.put, List.getElem_toArray, List.getElem_cons_zero, List.getElem_cons_succ, List.setIfInBounds_toArray, List.set_cons_zero, List.set_cons_succ]
                    refine' wpAnyE_take (i := 22) (v := _) rfl (by kernel_rfl) (by kernel_rfl) (by kernel_rfl) (by kernel_rfl) (fun _ _ _ h => h) (Or.inl ⟨by rfl, fun u hu => ?_⟩) hHeld hClosed (fun hNext => ?_)
                    rotate_left
                    · (try dsimp only at hu)
                      go_simp
                      try with_reducible rfl
                    clear hClosed
                    have hClosed := hNext
                    clear hNext
                    try simp only [Act.put, List.getElem_toArray, List.getElem_cons_zero, List.getElem_cons_succ, List.setIfInBounds_toArray, List.set_cons_zero, List.set_cons_succ]
                    refine' wpAnyE_take (i := 23) (v := _) rfl (by kernel_rfl) (by kernel_rfl) (by kernel_rfl) (by kernel_rfl) (fun _ _ _ h => h) (Or.inl ⟨by rfl, fun u hu => ?_⟩) hHeld hClosed (fun hNext => ?_)
                    rotate_left
                    · (try dsimp only at hu)
                      go_simp
                      try with_reducible rfl
                    clear hClosed
                    have hClosed := hNext
                    clear hNext
                    try simp only [Act.put, List.getElem_toArray, List.getElem_cons_zero, List.getElem_cons_succ, List.setIfInBounds_toArray, List.set_cons_zero, List.set_cons_succ]
                    refine' wpAnyE_take (i := 24) (v := _) rfl (by kernel_rfl) (by kernel_rfl) (by kernel_rfl) (by kernel_rfl) (fun _ _ _ h => h) (Or.inl ⟨by rfl, fun u hu => ?_⟩) hHeld hClosed (fun hNext => ?_)
                    rotate_left
                    · (try dsimp only at hu)
                      go_simp
                      try with_reducible rfl
                    clear hClosed
                    have hClosed := hNext
                    clear hNext
                    try simp only [Act.put, List.getElem_toArray, List.getElem_cons_zero, List.getElem_cons_succ, List.setIfInBounds_toArray, List.set_cons_zero, List.set_cons_succ]
                    refine wpAnyE_ready (rs := [25]) (by kernel_rfl) (by simp) ?_
                    refine AllReadyE.cons rfl (fun K hK => ?_) AllReadyE.nil
                    all_goals simp only [List.getElem_toArray, List.getElem_cons_zero, List.getElem_cons_succ]
                    all_goals go_simp
                    refine (rdir8_any _ _).mono ?_
                    rintro e wq ⟨rfl, rfl⟩
                    (try rw [if_neg (show ¬ lev < n by omega)])
                    rw [HD.out]
                    refine hK.out _ _ (fun _ => HK1.out) (fun hHeld => ?_) (fun hX => (by first | cases hX | simp at hX))
                    replace hClosed := hClosed.step 25 (by kernel_rfl)
                    clear hK K
                    try simp only [Act.put, List.getElem_toArray, List.getElem_cons_zero, List.getElem_cons_succ, List.setIfInBounds_toArray, List.set_cons_zero, List.set_cons_succ]
                    refine' wpAnyE_take (i := 26) (v := _) rfl (by kernel_rfl) (by kernel_rfl) (by kernel_rfl) (by kernel_rfl) (fun _ _ _ h => h) (Or.inl ⟨by rfl, fun u hu => ?_⟩) hHeld hClosed (fun hNext => ?_)
                    rotate_left
                    · (try dsimp only at hu)
                      go_simp
                      try with_reducible rfl
                    clear hClosed
                    have hClosed := hNext
                    clear hNext
                    try simp only [Act.put, List.getElem_toArray, List.getElem_cons_zero, List.getElem_cons_succ, List.setIfInBounds_toArray, List.set_cons_zero, List.set_cons_succ]
                    refine' wpAnyE_take (i := 27) (v := _) rfl (by kernel_rfl) (by kernel_rfl) (by kernel_rfl) (by kernel_rfl) (fun _ _ _ h => h) (Or.inl ⟨by rfl, fun u hu => ?_⟩) hHeld hClosed (fun hNext => ?_)
                    rotate_left
                    · (try dsimp only at hu)
                      go_simp
                      try with_reducible rfl
                    clear hClosed
                    have hClosed := hNext
                    clear hNext
                    try simp only [Act.put, List.getElem_toArray, List.getElem_cons_zero, List.getElem_cons_succ, List.setIfInBounds_toArray, List.set_cons_zero, List.set_cons_succ]
                    refine wpAnyE_done (by kernel_rfl) ?_ _
                    clear hClosed
                    go_wp2_with fail
                    go_roundw
                    case rel => exact ⟨k + 1, by omega, by go_num, by rw [HPS.out, HPN.out, HZ.out], by rw [HPS.out, HPN.out]; omega, by exact below_same B5y.out rfl rfl rfl rfl⟩
                    case measure => simp [intOf]; omega
                  · have HD : Hid (dirL lev = sos) := Lib.hid (by rw [HSE.out]; congr 1; omega)
                    have hss : (sos != sos) = false := by simp
                    go_wp2_with fail
                    refine wp_region_E (S := fun w' => w'.cell? ⟨g, off + k * 4, none⟩ = some (.slice (some ⟨ba, oa, none⟩) m ck) ∧ w'.cell? ⟨g, off + k * 4 + 1, none⟩ = some (.int .i64 lev) ∧ w'.cell? ⟨g, off + k * 4 + 2, none⟩ = some (.int .i64 sos) ∧ w'.cell? ⟨ba, oa, none⟩ = some (.int .i64 x)) [] (by kernel_rfl) (hk1) (fun hHeld hClosed => ?_)
                    refine' wpAnyE_take (i := 0) (v := _) rfl (by kernel_rfl) (by kernel_rfl) (by kernel_rfl) (by kernel_rfl) (fun _ _ _ h => h) (Or.inl ⟨by rfl, fun u hu => ?_⟩) hHeld hClosed (fun hNext => ?_)
                    rotate_left
                    · (try dsimp only at hu)
                      go_simp
                      try with_reducible rfl
                    clear hClosed
                    have hClosed := hNext
                    clear hNext
                    try simp only [Act.put, List.getElem_toArray, List.getElem_cons_zero, List.setIfInBounds_toArray, List.set_cons_zero, List.set_cons_succ]
                    refine' wpAnyE_take (i := 1) (v := _) rfl (by kernel_rfl) (by kernel_rfl) (by kernel_rfl) (by kernel_rfl) (fun _ _ _ h => h) (Or.inl ⟨by rfl, fun u hu => ?_⟩) hHeld hClosed (fun hNext => ?_)
                    rotate_left
                    · (try dsimp only at hu)
                      go_simp
                      try with_reducible rfl
                    clear hClosed
                    have hClosed := hNext
                    clear hNext
                    try simp only [Act.put, List.getElem_toArray, List.getElem_cons_zero, List.getElem_cons_succ, List.setIfInBounds_toArray, List.set_cons_zero, List.set_cons_succ]
                    refine' wpAnyE_take (i := 2) (v := _) rfl (by kernel_rfl) (by kernel_rfl) (by kernel_rfl) (by kernel_rfl) (fun _ _ _ h => h) (Or.inl ⟨by rfl, fun u hu => ?_⟩) hHeld hClosed (fun hNext => ?_)
                    rotate_left
                    · (try dsimp only at hu)
                      go_simp
                      try with_reducible rfl
                    clear hClosed
                    have hClosed := hNext
                    clear hNext
                    try simp only [Act.put, List.getElem_toArray, List.getElem_cons_zero, List.getElem_cons_succ, List.setIfInBounds_toArray, List.set_cons_zero, List.set_cons_succ]
                    refine' wpAnyE_take (i := 3) (v := _) rfl (by kernel_rfl) (by kernel_rfl) (by kernel_rfl) (by kernel_rfl) (fun _ _ _ h => h) (Or.inl ⟨by rfl, fun u hu => ?_⟩) hHeld hClosed (fun hNext => ?_)
                    rotate_left
                    · (try dsimp only at hu)
                      go_simp
                      try with_reducible rfl
                    clear hClosed
                    have hClosed := hNext
                    clear hNext
                    try simp only [Act.put, List.getElem_toArray, List.getElem_cons_zero, List.getElem_cons_succ, List.setIfInBounds_toArray, List.set_cons_zero, List.set_cons_succ]
                    refine' wpAnyE_take (i := 4) (v := _) rfl (by kernel_rfl) (by kernel_rfl) (by kernel_rfl) (by kernel_rfl) (fun _ _ _ h => h) (Or.inl ⟨by rfl, fun u hu => ?_⟩) hHeld hClosed (fun hNext => ?_)
                    rotate_left
                    · (try dsimp only at hu)
                      go_simp
                      try with_reducible rfl
                    clear hClosed
                    have hClosed := hNext
                    clear hNext
                    try simp only [Act.put, List.getElem_toArray, List.getElem_cons_zero, List.getElem_cons_succ, List.setIfInBounds_toArray, List.set_cons_zero, List.set_cons_succ]
                    refine' wpAnyE_take (i := 5) (v := _) rfl (by kernel_rfl) (by kernel_rfl) (by kernel_rfl) (by kernel_rfl) (fun _ _ _ h => h) (Or.inl ⟨by rfl, fun u hu => ?_⟩) hHeld hClosed (fun hNext => ?_)
                    rotate_left
                    · (try dsimp only at hu)
                      go_simp
                      try with_reducible rfl
                    clear hClosed
                    have hClosed := hNext
                    clear hNext
                    try simp only [Act.put, List.getElem_toArray, List.getElem_cons_zero, List.getElem_cons_succ, List.setIfInBounds_toArray, List.set_cons_zero, List.set_cons_succ]
                    refine' wpAnyE_take (i := 6) (v := _) rfl (by kernel_rfl) (by kernel_rfl) (by kernel_rfl) (by kernel_rfl) (fun _ _ _ h => h) (Or.inl ⟨by rfl, fun u hu => ?_⟩) hHeld hClosed (fun hNext => ?_)
                    rotate_left
                    · (try dsimp only at hu)
                      go_simp
                      try with_reducible rfl
                    clear hClosed
                    have hClosed := hNext
                    clear hNext
                    try simp only [Act.put, List.getElem_toArray, List.getElem_cons_zero, List.getElem_cons_succ, List.setIfInBounds_toArray, List.set_cons_zero, List.set_cons_succ]
                    refine' wpAnyE_take (i := 7) (v := _) rfl (by kernel_rfl) (by kernel_rfl) (by kernel_rfl) (by kernel_rfl) (fun _ _ _ h => h) (Or.inl ⟨by rfl, fun u hu => ?_⟩) hHeld hClosed (fun hNext => ?_)
                    rotate_left
                    · (try dsimp only at hu)
                      go_simp
                      try with_reducible rfl
                    clear hClosed
                    have hClosed := hNext
                    clear hNext
                    try simp only [Act.put, List.getElem_toArray, List.getElem_cons_zero, List.getElem_cons_succ, List.setIfInBounds_toArray, List.set_cons_zero, List.set_cons_succ]
                    refine' wpAnyE_take (i := 8) (v := _) rfl (by kernel_rfl) (by kernel_rfl) (by kernel_rfl) (by kernel_rfl) (fun _ _ _ h => h) (Or.inl ⟨by rfl, fun u hu => ?_⟩) hHeld hClosed (fun hNext => ?_)
                    rotate_left
                    · (try dsimp only at hu)
                      go_simp
                      try with_reducible rfl
                    clear hClosed
                    have hClosed := hNext
                    clear hNext
                    try simp only [Act.put, List.getElem_toArray, List.getElem_cons_zero, List.getElem_cons_succ, List.setIfInBounds_toArray, List.set_cons_zero, List.set_cons_succ]
                    refine' wpAnyE_take (i := 9) (v := _) rfl (by kernel_rfl) (by kernel_rfl) (by kernel_rfl) (by kernel_rfl) (fun _ _ _ h => h) (Or.inl ⟨by rfl, fun u hu => ?_⟩) hHeld hClosed (fun hNext => ?_)
                    rotate_left
                    · (try dsimp only at hu)
                      go_simp
                      try with_reducible rfl
                    clear hClosed
                    have hClosed := hNext
                    clear hNext
                    try simp only [Act.put, List.getElem_toArray, List.getElem_cons_zero, List.getElem_cons_succ, List.setIfInBounds_toArray, List.set_cons_zero, List.set_cons_succ]
                    refine' wpAnyE_take (i := 10) (v := _) rfl (by kernel_rfl) (by kernel_rfl) (by kernel_rfl) (by kernel_rfl) (fun _ _ _ h => h) (Or.inl ⟨by rfl, fun u hu => ?_⟩) hHeld hClosed (fun hNext => ?_)
                    rotate_left
                    · (try dsimp only at hu)
                      go_simp
                      try with_reducible rfl
                    clear hClosed
                    have hClosed := hNext
                    clear hNext
                    try simp only [Act.put, List.getElem_toArray, List.getElem_cons_zero, List.getElem_cons_succ, List.setIfInBounds_toArray, List.set_cons_zero, List.set_cons_succ]
                    refine' wpAnyE_take (i := 11) (v := _) rfl (by kernel_rfl) (by kernel_rfl) (by kernel_rfl) (by kernel_rfl) (fun _ _ _ h => h) (Or.inl ⟨by rfl, fun u hu => ?_⟩) hHeld hClosed (fun hNext => ?_)
                    rotate_left
                    · (try dsimp only at hu)
                      go_simp
                      try with_reducible rfl
                    clear hClosed
                    have hClosed := hNext
                    clear hNext
                    try simp only [Act.put, List.getElem_toArray, List.getElem_cons_zero, List.getElem_cons_succ, List.setIfInBounds_toArray, List.set_cons_zero, List.set_cons_succ]
                    refine' wpAnyE_take (i := 12) (v := _) rfl (by kernel_rfl) (by kernel_rfl) (by kernel_rfl) (by kernel_rfl) (fun _ _ _ h => h) (Or.inl ⟨by rfl, fun u hu => ?_⟩) hHeld hClosed (fun hNext => ?_)
                    rotate_left
                    · (try dsimp only at hu)
                      go_simp
                      try with_reducible rfl
                    clear hClosed
                    have hClosed := hNext
                    clear hNext
                    try simp only [Act.put, List.getElem_toArray, List.getElem_cons_zero, List.getElem_cons_succ, List.setIfInBounds_toArray, List.set_cons_zero, List.set_cons_succ]
                    refine' wpAnyE_take (i := 13) (v := _) rfl (by kernel_rfl) (by kernel_rfl) (by kernel_rfl) (by kernel_rfl) (fun _ _ _ h => h) (Or.inl ⟨by rfl, fun u hu => ?_⟩) hHeld hClosed (fun hNext => ?_)
                    rotate_left
                    · (try dsimp only at hu)
                      go_simp
                      try with_reducible rfl
                    clear hClosed
                    have hClosed := hNext
                    clear hNext
                    try simp only [Act.put, List.getElem_toArray, List.getElem_cons_zero, List.getElem_cons_succ, List.setIfInBounds_toArray, List.set_cons_zero, List.set_cons_succ]
                    refine' wpAnyE_take (i := 14) (v := _) rfl (by kernel_rfl) (by kernel_rfl) (by kernel_rfl) (by kernel_rfl) (fun _ _ _ h => h) (Or.inl ⟨by rfl, fun u hu => ?_⟩) hHeld hClosed (fun hNext => ?_)
                    rotate_left
                    · (try dsimp only at hu)
                      go_simp
                      try with_reducible rfl
                    clear hClosed
                    have hClosed := hNext
                    clear hNext
                    try simp only [Act.put, List.getElem_toArray, List.getElem_cons_zero, List.getElem_cons_succ, List.setIfInBounds_toArray, List.set_cons_zero, List.set_cons_succ]
                    refine' wpAnyE_take (i := 15) (v := _) rfl (by kernel_rfl) (by kernel_rfl) (by kernel_rfl) (by kernel_rfl) (fun _ _ _ h => h) (Or.inl ⟨by rfl, fun u hu => ?_⟩) hHeld hClosed (fun hNext => ?_)
                    rotate_left
                    · (try dsimp only at hu)
                      go_simp
                      try with_reducible rfl
                    clear hClosed
                    have hClosed := hNext
                    clear hNext
                    try simp only [Act.put, List.getElem_toArray, List.getElem_cons_zero, List.getElem_cons_succ, List.setIfInBounds_toArray, List.set_cons_zero, List.set_cons_succ]
                    refine' wpAnyE_take (i := 16) (v := _) rfl (by kernel_rfl) (by kernel_rfl) (by kernel_rfl) (by kernel_rfl) (fun _ _ _ h => h) (Or.inl ⟨by rfl, fun u hu => ?_⟩) hHeld hClosed (fun hNext => ?_)
                    rotate_left
                    · (try dsimp only at hu)
                      go_simp
                      try with_reducible rfl
                    clear hClosed
                    have hClosed := hNext
                    clear hNext
                    try simp only [Act.put, List.getElem_toArray, List.getElem_cons_zero, List.getElem_cons_succ, List.setIfInBounds_toArray, List.set_cons_zero, List.set_cons_succ]
                    refine' wpAnyE_take (i := 17) (v := _) rfl (by kernel_rfl) (by kernel_rfl) (by kernel_rfl) (by kernel_rfl) (fun _ _ _ h => h) (Or.inl ⟨by rfl, fun u hu => ?_⟩) hHeld hClosed (fun hNext => ?_)
                    rotate_left
                    · (try dsimp only at hu)
                      go_simp
                      try with_reducible rfl
                    clear hClosed
                    have hClosed := hNext
                    clear hNext
                    try simp only [Act.put, List.getElem_toArray, List.getElem_cons_zero, List.getElem_cons_succ, List.setIfInBounds_toArray, List.set_cons_zero, List.set_cons_succ]
                    refine' wpAnyE_take (i := 18) (v := _) rfl (by kernel_rfl) (by kernel_rfl) (by kernel_rfl) (by kernel_rfl) (fun _ _ _ h => h) (Or.inl ⟨by rfl, fun u hu => ?_⟩) hHeld hClosed (fun hNext => ?_)
                    rotate_left
                    · (try dsimp only at hu)
                      go_simp
                      try with_reducible rfl
                    clear hClosed
                    have hClosed := hNext
                    clear hNext
                    try simp only [Act.put, List.getElem_toArray, List.getElem_cons_zero, List.getElem_cons_succ, List.setIfInBounds_toArray, List.set_cons_zero, List.set_cons_succ]
                    refine' wpAnyE_take (i := 19) (v := _) rfl (by kernel_rfl) (by kernel_rfl) (by kernel_rfl) (by kernel_rfl) (fun _ _ _ h => h) (Or.inl ⟨by rfl, fun u hu => ?_⟩) hHeld hClosed (fun hNext => ?_)
                    rotate_left
                    · (try dsimp only at hu)
                      go_simp
                      try with_reducible rfl
                    clear hClosed
                    have hClosed := hNext
                    clear hNext
                    try simp only [Act.put, List.getElem_toArray, List.getElem_cons_zero, List.getElem_cons_succ, List.setIfInBounds_toArray, List.set_cons_zero, List.set_cons_succ]
                    refine' wpAnyE_take (i := 20) (v := _) rfl (by kernel_rfl) (by kernel_rfl) (by kernel_rfl) (by kernel_rfl) (fun _ _ _ h => h) (Or.inl ⟨by rfl, fun u hu => ?_⟩) hHeld hClosed (fun hNext => ?_)
                    rotate_left
                    · (try dsimp only at hu)
                      go_simp
                      try with_reducible rfl
                    clear hClosed
                    have hClosed := hNext
                    clear hNext
                    try simp only [Act.put, List.getElem_toArray, List.getElem_cons_zero, List.getElem_cons_succ, List.setIfInBounds_toArray, List.set_cons_zero, List.set_cons_succ]
                    refine' wpAnyE_take (i := 21) (v := _) rfl (by kernel_rfl) (by kernel_rfl) (by kernel_rfl) (by kernel_rfl) (fun _ _ _ h => h) (Or.inl ⟨by rfl, fun u hu => ?_⟩) hHeld hClosed (fun hNext => ?_)
                    rotate_left
                    · (try dsimp only at hu)
                      go_simp
                      try with_reducible rfl
                    clear hClosed
                    have hClosed := hNext
                    clear hNext
                    try simp only [Act.put, List.getElem_toArray, List.getElem_cons_zero, List.getElem_cons_succ, List.setIfInBounds_toArray, List.set_cons_zero, List.set_cons_succ]
                    refine' wpAnyE_take (i := 22) (v := _) rfl (by kernel_rfl) (by kernel_rfl) (by kernel_rfl) (by kernel_rfl) (fun _ _ _ h => h) (Or.inl ⟨by rfl, fun u hu => ?_⟩) hHeld hClosed (fun hNext => ?_)
                    rotate_left
                    · (try dsimp only at hu)
                      go_simp
                      try with_reducible rfl
                    clear hClosed
                    have hClosed := hNext
                    clear hNext
                    try simp only [Act.put, List.getElem_toArray, List.getElem_cons_zero, List.getElem_cons_succ, List.setIfInBounds_toArray, List.set_cons_zero, List.set_cons_succ]
                    refine' wpAnyE_take (i := 23) (v := _) rfl (by kernel_rfl) (by kernel_rfl) (by kernel_rfl) (by kernel_rfl) (fun _ _ _ h => h) (Or.inl ⟨by rfl, fun u hu => ?_⟩) hHeld hClosed (fun hNext => ?_)
                    rotate_left
                    · (try dsimp only at hu)
                      go_simp
                      try with_reducible rfl
                    clear hClosed
                    have hClosed := hNext
                    clear hNext
                    try simp only [Act.put, List.getElem_toArray, List.getElem_cons_zero, List.getElem_cons_succ, List.setIfInBounds_toArray, List.set_cons_zero, List.set_cons_succ]
                    refine' wpAnyE_take (i := 24) (v := _) rfl (by kernel_rfl) (by kernel_rfl) (by kernel_rfl) (by kernel_rfl) (fun _ _ _ h => h) (Or.inl ⟨by rfl, fun u hu => ?_⟩) hHeld hClosed (fun hNext => ?_)
                    rotate_left
                    · (try dsimp only at hu)
                      go_simp
                      try with_reducible rfl
                    clear hClosed
                    have hClosed := hNext
                    clear hNext
                    try simp only [Act.put, List.getElem_toArray, List.getElem_cons_zero, List.getElem_cons_succ, List.setIfInBounds_toArray, List.set_cons_zero, List.set_cons_succ]
                    refine wpAnyE_ready (rs := [25]) (by kernel_rfl) (by simp) ?_
                    refine AllReadyE.cons rfl (fun K hK => ?_) AllReadyE.nil
                    all_goals simp only [List.getElem_toArray, List.getElem_cons_zero, List.getElem_cons_succ]
                    all_goals go_simp
                    refine (rdir8_any _ _).mono ?_
                    rintro e wq ⟨rfl, rfl⟩
                    (try rw [if_neg (show ¬ lev < n by omega)])
                    rw [HD.out]
                    refine hK.out _ _ (fun _ => HK1.out) (fun hHeld => ?_) (fun hX => (by first | cases hX | simp at hX))
                    replace hClosed := hClosed.step 25 (by kernel_rfl)
                    clear hK K
                    try simp only [Act.put, List.getElem_toArray, List.getElem_cons_zero, List.getElem_cons_succ, List.setIfInBounds_toArray, List.set_cons_zero, List.set_cons_succ]
                    refine' wpAnyE_take (i := 26) (v := _) rfl (by kernel_rfl) (by kernel_rfl) (by kernel_rfl) (by kernel_rfl) (fun _ _ _ h => h) (Or.inl ⟨by rfl, fun u hu => ?_⟩) hHeld hClosed (fun hNext => ?_)
                    rotate_left
                    · (try dsimp only at hu)
                      go_simp
                      try with_reducible rfl
                    clear hClosed
                    have hClosed := hNext
                    clear hNext
                    try simp only [Act.put, List.getElem_toArray, List.getElem_cons_zero, List.getElem_cons_succ, List.setIfInBounds_toArray, List.set_cons_zero, List.set_cons_succ]
                    refine' wpAnyE_take (i := 27) (v := _) rfl (by kernel_rfl) (by kernel_rfl) (by kernel_rfl) (by kernel_rfl) (fun _ _ _ h => h) (Or.inl ⟨by rfl, fun u hu => ?_⟩) hHeld hClosed (fun hNext => ?_)
                    rotate_left
                    · (try dsimp only at hu)
                      go_simp
                      try with_reducible rfl
                    clear hClosed
                    have hClosed := hNext
                    clear hNext
                    try simp only [Act.put, List.getElem_toArray, List.getElem_cons_zero, List.getElem_cons_succ, List.setIfInBounds_toArray, List.set_cons_zero, List.set_cons_succ]
                    refine wpAnyE_done (by kernel_rfl) ?_ _
                    clear hClosed
                    go_wp2_with fail
                    go_roundw
                    case rel => exact ⟨k + 1, by omega, by go_num, by rw [HPS.out, HPN.out, HZ.out], by rw [HPS.out, HPN.out]; omega, by exact below_same B5y.out rfl rfl rfl rfl⟩
                    case measure => simp [intOf]; omega
              · have kz : ((k : Int) == 0) = false := by simp; omega
                clear s1 s2 s3 hk1
                go_wp2_with fail
                refine wp_region_E (S := fun _ => True) [] (by kernel_rfl) (trivial) (fun hHeld hClosed => ?_)
                refine' wpAnyE_take (i := 0) (v := _) rfl (by kernel_rfl) (by kernel_rfl) (by kernel_rfl) (by kernel_rfl) (fun _ _ _ h => h) (Or.inl ⟨by rfl, fun u hu => ?_⟩) hHeld hClosed (fun hNext => ?_)
                rotate_left
                · (try dsimp only at hu)
                  go_simp
                  try with_reducible rfl
                clear hClosed
                have hClosed := hNext
                clear hNext
                try simp only [Act.put, List.getElem_toArray, List.getElem_cons_zero, List.setIfInBounds_toArray, List.set_cons_zero, List.set_cons_succ]
                refine' wpAnyE_take (i := 1) (v := _) rfl (by kernel_rfl) (by kernel_rfl) (by kernel_rfl) (by kernel_rfl) (fun _ _ _ h => h) (Or.inl ⟨by rfl, fun u hu => ?_⟩) hHeld hClosed (fun hNext => ?_)
                rotate_left
                · (try dsimp only at hu)
                  go_simp
                  try with_reducible rfl
                clear hClosed
                have hClosed := hNext
                clear hNext
                try simp only [Act.put, List.getElem_toArray, List.getElem_cons_zero, List.getElem_cons_succ, List.setIfInBounds_toArray, List.set_cons_zero, List.set_cons_succ]
                refine' wpAnyE_take (i := 2) (v := _) rfl (by kernel_rfl) (by kernel_rfl) (by kernel_rfl) (by kernel_rfl) (fun _ _ _ h => h) (Or.inl ⟨by rfl, fun u hu => ?_⟩) hHeld hClosed (fun hNext => ?_)
                rotate_left
                · (try dsimp only at hu)
                  go_simp
                  try with_reducible rfl
                clear hClosed
                have hClosed := hNext
                clear hNext
                try simp only [Act.put, List.getElem_toArray, List.getElem_cons_zero, List.getElem_cons_succ, List.setIfInBounds_toArray, List.set_cons_zero, List.set_cons_succ]
                refine' wpAnyE_take (i := 3) (v := _) rfl (by kernel_rfl) (by kernel_rfl) (by kernel_rfl) (by kernel_rfl) (fun _ _ _ h => h) (Or.inr ⟨by rfl, rfl⟩) hHeld hClosed (fun hNext => ?_)
                clear hClosed
                have hClosed := hNext
                clear hNext
                try simp only [Act.put, List.getElem_toArray, List.getElem_cons_zero, List.getElem_cons_succ, List.setIfInBounds_toArray, List.set_cons_zero, List.set_cons_succ]
                refine' wpAnyE_take (i := 4) (v := _) rfl (by kernel_rfl) (by kernel_rfl) (by kernel_rfl) (by kernel_rfl) (fun _ _ _ h => h) (Or.inr ⟨by rfl, rfl⟩) hHeld hClosed (fun hNext => ?_)
                clear hClosed
                have hClosed := hNext
                clear hNext
                try simp only [Act.put, List.getElem_toArray, List.getElem_cons_zero, List.getElem_cons_succ, List.setIfInBounds_toArray, List.set_cons_zero, List.set_cons_succ]
                refine' wpAnyE_take (i := 5) (v := _) rfl (by kernel_rfl) (by kernel_rfl) (by kernel_rfl) (by kernel_rfl) (fun _ _ _ h => h) (Or.inr ⟨by rfl, rfl⟩) hHeld hClosed (fun hNext => ?_)
                clear hClosed
                have hClosed := hNext
                clear hNext
                try simp only [Act.put, List.getElem_toArray, List.getElem_cons_zero, List.getElem_cons_succ, List.setIfInBounds_toArray, List.set_cons_zero, List.set_cons_succ]
                refine' wpAnyE_take (i := 6) (v := _) rfl (by kernel_rfl) (by kernel_rfl) (by kernel_rfl) (by kernel_rfl) (fun _ _ _ h => h) (Or.inr ⟨by rfl, rfl⟩) hHeld hClosed (fun hNext => ?_)
                clear hClosed
                have hClosed := hNext
                clear hNext
                try simp only [Act.put, List.getElem_toArray, List.getElem_cons_zero, List.getElem_cons_succ, List.setIfInBounds_toArray, List.set_cons_zero, List.set_cons_succ]
                refine' wpAnyE_take (i := 7) (v := _) rfl (by kernel_rfl) (by kernel_rfl) (by kernel_rfl) (by kernel_rfl) (fun _ _ _ h => h) (Or.inr ⟨by rfl, rfl⟩) hHeld hClosed (fun hNext => ?_)
                clear hClosed
                have hClosed := hNext
                clear hNext
                try simp only [Act.put, List.getElem_toArray, List.getElem_cons_zero, List.getElem_cons_succ, List.setIfInBounds_toArray, List.set_cons_zero, List.set_cons_succ]
                refine' wpAnyE_take (i := 8) (v := _) rfl (by kernel_rfl) (by kernel_rfl) (by kernel_rfl) (by kernel_rfl) (fun _ _ _ h => h) (Or.inr ⟨by rfl, rfl⟩) hHeld hClosed (fun hNext => ?_)
                clear hClosed
                have hClosed := hNext
                clear hNext
                try simp only [Act.put, List.getElem_toArray, List.getElem_cons_zero, List.getElem_cons_succ, List.setIfInBounds_toArray, List.set_cons_zero, List.set_cons_succ]
                refine' wpAnyE_take (i := 9) (v := _) rfl (by kernel_rfl) (by kernel_rfl) (by kernel_rfl) (by kernel_rfl) (fun _ _ _ h => h) (Or.inr ⟨by rfl, rfl⟩) hHeld hClosed (fun hNext => ?_)
                clear hClosed
                have hClosed := hNext
                clear hNext
                try simp only [Act.put, List.getElem_toArray, List.getElem_cons_zero, List.getElem_cons_succ, List.setIfInBounds_toArray, List.set_cons_zero, List.set_cons_succ]
                refine' wpAnyE_take (i := 10) (v := _) rfl (by kernel_rfl) (by kernel_rfl) (by kernel_rfl) (by kernel_rfl) (fun _ _ _ h => h) (Or.inr ⟨by rfl, rfl⟩) hHeld hClosed (fun hNext => ?_)
                clear hClosed
                have hClosed := hNext
                clear hNext
                try simp only [Act.put, List.getElem_toArray, List.getElem_cons_zero, List.getElem_cons_succ, List.setIfInBounds_toArray, List.set_cons_zero, List.set_cons_succ]
                refine' wpAnyE_take (i := 11) (v := _) rfl (by kernel_rfl) (by kernel_rfl) (by kernel_rfl) (by kernel_rfl) (fun _ _ _ h => h) (Or.inl ⟨by rfl, fun u hu => ?_⟩) hHeld hClosed (fun hNext => ?_)
                rotate_left
                · (try dsimp only at hu)
                  go_simp
                  try with_reducible rfl
                clear hClosed
                have hClosed := hNext
                clear hNext
                try simp only [Act.put, List.getElem_toArray, List.getElem_cons_zero, List.getElem_cons_succ, List.setIfInBounds_toArray, List.set_cons_zero, List.set_cons_succ]
                refine' wpAnyE_take (i := 12) (v := _) rfl (by kernel_rfl) (by kernel_rfl) (by kernel_rfl) (by kernel_rfl) (fun _ _ _ h => h) (Or.inl ⟨by rfl, fun u hu => ?_⟩) hHeld hClosed (fun hNext => ?_)
                rotate_left
                · (try dsimp only at hu)
                  go_simp
                  try with_reducible rfl
                clear hClosed
                have hClosed := hNext
                clear hNext
                try simp only [Act.put, List.getElem_toArray, List.getElem_cons_zero, List.getElem_cons_succ, List.setIfInBounds_toArray, List.set_cons_zero, List.set_cons_succ]
                refine' wpAnyE_take (i := 13) (v := _) rfl (by kernel_rfl) (by kernel_rfl) (by kernel_rfl) (by kernel_rfl) (fun _ _ _ h => h) (Or.inr ⟨by rfl, rfl⟩) hHeld hClosed (fun hNext => ?_)
                clear hClosed
                have hClosed := hNext
                clear hNext
                try simp only [Act.put, List.getElem_toArray, List.getElem_cons_zero, List.getElem_cons_succ, List.setIfInBounds_toArray, List.set_cons_zero, List.set_cons_succ]
                refine' wpAnyE_take (i := 14) (v := _) rfl (by kernel_rfl) (by kernel_rfl) (by kernel_rfl) (by kernel_rfl) (fun _ _ _ h => h) (Or.inr ⟨by rfl, rfl⟩) hHeld hClosed (fun hNext => ?_)
                clear hClosed
                have hClosed := hNext
                clear hNext
                try simp only [Act.put, List.getElem_toArray, List.getElem_cons_zero, List.getElem_cons_succ, List.setIfInBounds_toArray, List.set_cons_zero, List.set_cons_succ]
                refine' wpAnyE_take (i := 15) (v := _) rfl (by kernel_rfl) (by kernel_rfl) (by kernel_rfl) (by kernel_rfl) (fun _ _ _ h => h) (Or.inr ⟨by rfl, rfl⟩) hHeld hClosed (fun hNext => ?_)
                clear hClosed
                have hClosed := hNext
                clear hNext
                try simp only [Act.put, List.getElem_toArray, List.getElem_cons_zero, List.getElem_cons_succ, List.setIfInBounds_toArray, List.set_cons_zero, List.set_cons_succ]
                refine' wpAnyE_take (i := 16) (v := _) rfl (by kernel_rfl) (by kernel_rfl) (by kernel_rfl) (by kernel_rfl) (fun _ _ _ h => h) (Or.inr ⟨by rfl, rfl⟩) hHeld hClosed (fun hNext => ?_)
                clear hClosed
                have hClosed := hNext
                clear hNext
                try simp only [Act.put, List.getElem_toArray, List.getElem_cons_zero, List.getElem_cons_succ, List.setIfInBounds_toArray, List.set_cons_zero, List.set_cons_succ]
                refine' wpAnyE_take (i := 17) (v := _) rfl (by kernel_rfl) (by kernel_rfl) (by kernel_rfl) (by kernel_rfl) (fun _ _ _ h => h) (Or.inr ⟨by rfl, rfl⟩) hHeld hClosed (fun hNext => ?_)
                clear hClosed
                have hClosed := hNext
                clear hNext
                try simp only [Act.put, List.getElem_toArray, List.getElem_cons_zero, List.getElem_cons_succ, List.setIfInBounds_toArray, List.set_cons_zero, List.set_cons_succ]
                refine' wpAnyE_take (i := 18) (v := _) rfl (by kernel_rfl) (by kernel_rfl) (by kernel_rfl) (by kernel_rfl) (fun _ _ _ h => h) (Or.inr ⟨by rfl, rfl⟩) hHeld hClosed (fun hNext => ?_)
                clear hClosed
                have hClosed := hNext
                clear hNext
                try simp only [Act.put, List.getElem_toArray, List.getElem_cons_zero, List.getElem_cons_succ, List.setIfInBounds_toArray, List.set_cons_zero, List.set_cons_succ]
                refine' wpAnyE_take (i := 19) (v := _) rfl (by kernel_rfl) (by kernel_rfl) (by kernel_rfl) (by kernel_rfl) (fun _ _ _ h => h) (Or.inr ⟨by rfl, rfl⟩) hHeld hClosed (fun hNext => ?_)
                clear hClosed
                have hClosed := hNext
                clear hNext
                try simp only [Act.put, List.getElem_toArray, List.getElem_cons_zero, List.getElem_cons_succ, List.setIfInBounds_toArray, List.set_cons_zero, List.set_cons_succ]
                refine' wpAnyE_take (i := 20) (v := _) rfl (by kernel_rfl) (by kernel_rfl) (by kernel_rfl) (by kernel_rfl) (fun _ _ _ h => h) (Or.inr ⟨by rfl, rfl⟩) hHeld hClosed (fun hNext => ?_)
                clear hClosed
                have hClosed := hNext
                clear hNext
                try simp only [Act.put, List.getElem_toArray, List.getElem_cons_zero, List.getElem_cons_succ, List.setIfInBounds_toArray, List.set_cons_zero, List.set_cons_succ]
                refine' wpAnyE_take (i := 21) (v := _) rfl (by kernel_rfl) (by kernel_rfl) (by kernel_rfl) (by kernel_rfl) (fun _ _ _ h => h) (Or.inr ⟨by rfl, rfl⟩) hHeld hClosed (fun hNext => ?_)
                clear hClosed
                have hClosed := hNext
                clear hNext
                try simp only [Act.put, List.getElem_toArray, List.getElem_cons_zero, List.getElem_cons_succ, List.setIfInBounds_toArray, List.set_cons_zero, List.set_cons_succ]
                refine' wpAnyE_take (i := 22) (v := _) rfl (by kernel_rfl) (by kernel_rfl) (by kernel_rfl) (by kernel_rfl) (fun _ _ _ h => h) (Or.inr ⟨by rfl, rfl⟩) hHeld hClosed (fun hNext => ?_)
                clear hClosed
                have hClosed := hNext
                clear hNext
                try simp only [Act.put, List.getElem_toArray, List.getElem_cons_zero, List.getElem_cons_succ, List.setIfInBounds_toArray, List.set_cons_zero, List.set_cons_succ]
                refine' wpAnyE_take (i := 23) (v := _) rfl (by kernel_rfl) (by kernel_rfl) (by kernel_rfl) (by kernel_rfl) (fun _ _ _ h => h) (Or.inr ⟨by rfl, rfl⟩) hHeld hClosed (fun hNext => ?_)
                clear hClosed
                have hClosed := hNext
                clear hNext
                try simp only [Act.put, List.getElem_toArray, List.getElem_cons_zero, List.getElem_cons_succ, List.setIfInBounds_toArray, List.set_cons_zero, List.set_cons_succ]
                refine' wpAnyE_take (i := 24) (v := _) rfl (by kernel_rfl) (by kernel_rfl) (by kernel_rfl) (by kernel_rfl) (fun _ _ _ h => h) (Or.inr ⟨by rfl, rfl⟩) hHeld hClosed (fun hNext => ?_)
                clear hClosed
                have hClosed := hNext
                clear hNext
                try simp only [Act.put, List.getElem_toArray, List.getElem_cons_zero, List.getElem_cons_succ, List.setIfInBounds_toArray, List.set_cons_zero, List.set_cons_succ]
                refine' wpAnyE_take (i := 25) (v := _) rfl (by kernel_rfl) (by kernel_rfl) (by kernel_rfl) (by kernel_rfl) (fun _ _ _ h => h) (Or.inr ⟨by rfl, rfl⟩) hHeld hClosed (fun hNext => ?_)
                clear hClosed
                have hClosed := hNext
                clear hNext
                try simp only [Act.put, List.getElem_toArray, List.getElem_cons_zero, List.getElem_cons_succ, List.setIfInBounds_toArray, List.set_cons_zero, List.set_cons_succ]
                refine' wpAnyE_take (i := 26) (v := _) rfl (by kernel_rfl) (by kernel_rfl) (by kernel_rfl) (by kernel_rfl) (fun _ _ _ h => h) (Or.inr ⟨by rfl, rfl⟩) hHeld hClosed (fun hNext => ?_)
                clear hClosed
                have hClosed := hNext
                clear hNext
                try simp only [Act.put, List.getElem_toArray, List.getElem_cons_zero, List.getElem_cons_succ, List.setIfInBounds_toArray, List.set_cons_zero, List.set_cons_succ]
                refine' wpAnyE_take (i := 27) (v := _) rfl (by kernel_rfl) (by kernel_rfl) (by kernel_rfl) (by kernel_rfl) (fun _ _ _ h => h) (Or.inl ⟨by rfl, fun u hu => ?_⟩) hHeld hClosed (fun hNext => ?_)
                rotate_left
                · (try dsimp only at hu)
                  go_simp
                  try with_reducible rfl
                clear hClosed
                have hClosed := hNext
                clear hNext
                try simp only [Act.put, List.getElem_toArray, List.getElem_cons_zero, List.getElem_cons_succ, List.setIfInBounds_toArray, List.set_cons_zero, List.set_cons_succ]
                refine wpAnyE_done (by kernel_rfl) ?_ _
                clear hClosed
                go_wp2_with fail
                go_roundw
                case rel => exact ⟨k + 1, by omega, by go_num, by rw [HPS.out, HPN.out, HZ.out], by rw [HPS.out, HPN.out]; omega, by exact below_same B5y.out rfl rfl rfl rfl⟩
                case measure => simp [intOf]; omega
      · obtain rfl : S.length = k := by omega
        have HPT : Hid (pn = keptN8 l l.length) := Lib.hid (by
          rw [← HPN.out, placesN, List.take_length, HO.out.sum, keptN8, List.take_length])
        have hp6 : pn ≤ 300 := by
          rw [HPT.out, keptN8]
          have h1 := List.length_filter_le (fun c => !isOut c) (l.take l.length)
          rw [List.length_take] at h1
          omega
        rename World => wx
        go_wp2_with fail
        go_loopw [14, 13] (fun jv kv wr => ∃ j : Nat, j ≤ l.length ∧ jv = .int .i64 j ∧ kv = .int .i64 ((keptN8 l j : Nat) : Int) ∧ keptN8 l j ≤ j ∧ Below wx.heap.size wx wr) (fun jv _ _ => l.length - (intOf jv).toNat)
        case atStart => exact ⟨0, by omega, rfl, rfl, by simp [keptN8], Below.refl _ _⟩
        case round =>
          obtain ⟨j, hj, rfl, rfl, hkj, hb⟩ := hrel
          have HBy := Lib.hid hb
          clear hb
          by_cases hjl : j < l.length
          · have hks := keptN8_succ l j hjl
            obtain ⟨kn, hkn⟩ : ∃ x, keptN8 l j = x := ⟨_, rfl⟩
            rw [hkn] at hks hkj ⊢
            obtain ⟨pl, hpl', _, hcl⟩ := (((H.out.up B5.out).up HB.out).below HBy.out).int hjl
            subst hpl'
            obtain ⟨cj, hcj⟩ : ∃ x, l[j] = x := ⟨_, rfl⟩
            rw [hcj] at hcl hks
            have HKS := Lib.hid hks
            have x0 : (0 : Int) ≤ (j : Int) := by omega
            have x1 : (j : Int) < (l.length : Int) := by omega
            clear hks hkn hcj
            rcases ho : isOut cj with _ | _
            · have HQ := Lib.hid ho
              clear ho
              go_wp2_with fail
              refine (rout_any cj _).mono ?_
              rintro e wq ⟨rfl, rfl⟩
              rw [HQ.out]
              go_wp2_with fail
              go_roundw
              case rel => exact ⟨j + 1, by omega, by go_num, by rw [HKS.out, HQ.out, if_neg (by simp)]; go_num, by rw [HKS.out, HQ.out, if_neg (by simp)]; omega, HBy.out⟩
              case measure => simp [intOf]; omega
            · have HQ := Lib.hid ho
              clear ho
              go_wp2_with fail
              refine (rout_any cj _).mono ?_
              rintro e wq ⟨rfl, rfl⟩
              rw [HQ.out]
              go_wp2_with fail
              go_roundw
              case rel => exact ⟨j + 1, by omega, by go_num, by rw [HKS.out, HQ.out, if_pos rfl], by rw [HKS.out, HQ.out, if_pos rfl]; omega, HBy.out⟩
              case measure => simp [intOf]; omega
          · obtain rfl : l.length = j := by omega
            rw [← HPT.out]
            go_wp2_with fail
            go_ret
            exact ⟨rfl, (below_then B5.out HB.out).trans (HBy.out.mono (by have := B5.out.size; have := HB.out.size; omega))⟩

set_option maxHeartbeats 1000000 in
theorem walk_long (w : World) (A : Option Addr) (a : List Int) (c : Nat) (ha : a.length ≤ 9223372036854775807) (hh : 300 < a.length) (b : Bool) :
    Calls Try.prog 4 #[.slice A a.length c, .bool b] w fun e w' => e = .returned (.bool true) ∧ Below w.heap.size w w' := by
  go_enter Try.func4, Try.ntmps4
  go_wp2_with fail
  refine (qalive_any w).mono ?_
  rintro e w1 ⟨rfl, b1⟩
  have B1 := Lib.hid b1
  have D1 := Lib.hid b1
  clear b1
  go_wp2
  go_ret
  exact ⟨rfl, B1.out⟩

theorem walk (w : World) (A : Option Addr) (a : List Int) (c : Nat) (_ : a.length ≤ c) (hm : c ≤ maxLen) (h : Lies w w.heap.size A (ints .i64 a)) (_ : ∀ n ∈ a, (Lit.int .i64 n).wf = true) (b : Bool) :
    Calls Try.prog 4 #[.slice A a.length c, .bool b] w fun e w' => e = .returned (.bool true) ∧ Below w.heap.size w w' := by
  unfold maxLen at hm
  by_cases hh : 300 < a.length
  · exact walk_long w A a c (by omega) hh b
  · exact walk_ok w A a c (by omega) h b
-- WRAP
theorem spec : LawSpec Rows.seqOnceSpec 2 := ⟨rfl, fun H ds h => by
  match ds, h with
  | [d0, d1], _ => rfl⟩
theorem params_ok : ∀ t ∈ Try.f4.params.toList, Try.prog.readableRec t = true ∧ t < Try.prog.types.size := by
  rw [Try.params4]
  intro t ht
  simp only [List.mem_cons, List.mem_nil_iff, or_false] at ht
  rcases ht with rfl | rfl
  all_goals exact ⟨by kernel_rfl, of_decide_eq_true (by kernel_rfl)⟩

theorem contract (H : Type) (enc : TypeId × Value → H) (W : World) (base : Nat) (args : Array Value) (ds gs : List (DataW H)) (before : List MemPlace)
    (hval : ∀ (j : Nat) t v, Try.f4.params[j]? = some t → args[j]? = some v → Value.okWide Try.prog W .any base t v)
    (hW : DataW.Whole enc Try.prog Try.f4.params.toList Rows.seqOnceSpec.vars false W args.toList ds gs before) :
    Calls Try.prog 4 args W fun e W' => ∃ v, e = .returned v ∧ Rows.seqOnceSpec.post enc Try.prog Try.f4 false true false false W args v W' := by
  have hW' := hW
  obtain ⟨p, q, hA0, hV, rfl, hfz, hnd⟩ := hW
  have hA : DataW.TrodAll enc Try.prog W 0 (fun _ => true) true Try.f4.params.toList args.toList ds p := hA0
  rw [Try.params4] at hA hval
  obtain ⟨v0, vs0, d0, ds0, p0, q0, hargs, rfl, rfl, h0, r0⟩ := trodAll_cons hA
  obtain ⟨v1, vs1, d1, ds1, p1, q1, rfl, rfl, rfl, h1, r1⟩ := trodAll_cons r0
  obtain ⟨rfl, rfl, rfl⟩ := trodAll_nil r1
  obtain rfl : args = #[v0, v1] := by cases args; simp_all
  obtain ⟨A0, l0, c0, rfl, hc0, hm0, hl0, wf0⟩ := open_list Try.underlying22 Try.underlying3 (by kernel_rfl) (hval 0 22 v0 rfl rfl) h0
  obtain ⟨a1, rfl, rfl, rfl⟩ := open_bool Try.underlying4 (hval 1 4 v1 rfl rfl) h1
  exact (walk W A0 l0 c0 hc0 hm0 hl0 wf0 a1).mono fun e W' ⟨he, hg⟩ => ⟨_, he, law_post spec (by rw [Try.params4]; rfl) (by kernel_rfl) params_ok (by kernel_rfl) Try.underlying4 hW' hg⟩

theorem own : ownKnob Try.prog.godebug = none := by kernel_rfl
set_option maxRecDepth 100000 in
theorem lifted (os : Os) (started : os.Started) (H : Type) (enc : TypeId × Value → H) :
    ReturnsInHanded {} Try.checked os 4 .any (Rows.seqOnceSpec.pre6 enc Try.prog Try.f4 Rows.seqOnceRow.domain false) (Rows.seqOnceSpec.post enc Try.prog Try.f4 false true false false) := by
  refine returnsInHanded_of_change (C := Try.checked) own started (by kernel_rfl) Try.func4
    (ChangeSpec.witness6 (enc := enc) (C := Try.checked) false ⟨#[], #[.slice none 0 0, .bool false], []⟩ 8 (by kernel_rfl) (by kernel_rfl) (by kernel_rfl) (by kernel_rfl)) ?_
  intro W base args ds gs before hval hW _ _
  exact contract H enc W base args ds gs before hval hW
theorem said : Rows.SeqOnceSaid :=
  OpenClaim.holds_of_wide 4 Try.f4 rfl rfl rfl rfl rfl rfl rfl ⟨rfl, rfl, rfl, rfl, rfl⟩ rfl rfl rfl rfl rfl (by kernel_rfl) Try.func4 (by kernel_rfl)
    (of_decide_eq_true (by kernel_rfl)) (by unfold Func.isWrapper; first | (rw [if_pos (by decide +kernel)]; kernel_rfl) | (rw [if_neg (by decide +kernel)]; exact ⟨rfl, rfl⟩))
    (fun os started H enc _ => lifted os started H enc)
end Go.Proofs.Ytajgjloailliiaa.lawOnce
