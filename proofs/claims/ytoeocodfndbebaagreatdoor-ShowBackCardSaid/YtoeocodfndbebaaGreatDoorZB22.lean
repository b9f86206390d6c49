/- Shared texts, shaken for one claim. -/
import Derived.Test.YtoeocodfndbebaaGreatDoorZB13
import Derived.Test.YtoeocodfndbebaaGreatDoorZB21
set_option maxRecDepth 20000
set_option maxHeartbeats 16000000
namespace Go.Proofs.YtoeocodfndbebaaGreatDoor
section
open Go.RowKit
def nodeM (k lo hi:Int) (rs:List (Int×Int)) (m:Nat):Bool :=
 if k=1∨k=6∨k=7 then lo == 0 && hi == 0 && (rs.length == 0) && (m == 0)
 else if k=2 then lo == 0 && hi == 0 && decide (rs=setR rs) && (m == 0)
 else if k=3∨k=4 then lo == 0 && hi == 0 && (rs.length == 0) && decide (2≤m)
 else if k=5 then (decide (0≤lo) && decide (lo≤20) && (hi == -1 || (decide (lo≤hi) && decide (hi≤20)))) && (rs.length == 0) && (m == 1)
 else false
theorem nodeM_is (k lo hi:Int) (rs:List (Int×Int)) (ks:List Nd):nodeM k lo hi rs ks.length=nodeI (.mk k lo hi rs ks):=by
 by_cases h1:k=1
 ·subst h1;simp [nodeM,nodeI];grind
 by_cases h6:k=6
 ·subst h6;simp [nodeM,nodeI];grind
 by_cases h7:k=7
 ·subst h7;simp [nodeM,nodeI];grind
 by_cases h2:k=2
 ·subst h2;simp [nodeM,nodeI];grind
 by_cases h3:k=3
 ·subst h3;simp [nodeM,nodeI];grind
 by_cases h4:k=4
 ·subst h4;simp [nodeM,nodeI];grind
 by_cases h5:k=5
 ·subst h5;simp [nodeM,nodeI];grind
 simp [nodeM,nodeI,h1,h6,h7,h2,h3,h4,h5]
theorem fits_empty (w:World) (lo hi:Int) (A A':Option Addr) (rs:List (Int×Int)) (c m c':Nat) :
 Calls Tryz.prog 42 #[.agg #[.int .i64 1,.slice A rs.length c,.int .i64 lo,.int .i64 hi,.slice A' m c']] w fun e w'=>e=.returned (.bool ((lo == 0 && hi == 0) && (rs.length == 0) && (m == 0)))∧Below w.heap.size w w':=by
 have G0:Hid (w.grownBy (w.alloc (.cells #[.int .i64 1,.slice A rs.length c,.int .i64 lo,.int .i64 hi,.slice A' m c'] 25)) none):=qh (grown_new w _ none)
 have X0:Hid (Box (w.alloc (.cells #[.int .i64 1,.slice A rs.length c,.int .i64 lo,.int .i64 hi,.slice A' m c'] 25)) w.heap.size #[.int .i64 1,.slice A rs.length c,.int .i64 lo,.int .i64 hi,.slice A' m c'] 25):=qh (Box.new w _ _)
 obtain ⟨b,hb⟩:∃ b,(lo == 0 && hi == 0)=b:=⟨_,rfl⟩
 rw [hb]
 have HC:=qh (fun u=>shonce_any u 1 lo hi A A' rs.length c m c')
 rw [hb] at HC
 obtain ⟨n,hn⟩:∃ n,rs.length=n:=⟨_,rfl⟩
 rw [hn] at G0 X0 HC ⊢
 clear hb hn
 rcases b with _ | _
 ·go_enter Tryz.func42,Tryz.ntmps42
  go_wp2_with fail
  refine (HC.out _).mono ?_
  rintro e w1 ⟨rfl,g1⟩
  have G1:=qh (G0.out.trans g1)
  clear g1
  go_wp2_with fail
  go_ret
  exact ⟨rfl,below_row_none G1.out (Nat.le_refl _)⟩
 ·rcases hn:(n == 0) with _ | _
  ·have hn':((n:Int) == 0)=false:=by simp at hn ⊢;omega
   clear hn
   go_enter Tryz.func42,Tryz.ntmps42
   go_wp2_with fail
   refine (HC.out _).mono ?_
   rintro e w1 ⟨rfl,g1⟩
   have G1:=qh (G0.out.trans g1)
   have q1:w1.cell? ⟨w.heap.size,1,none⟩=some (.slice A n c):=(X0.out.kept g1 (by simp)).cell rfl
   clear g1
   go_wp2_with fail
   go_ret
   exact ⟨rfl,below_row_none G1.out (Nat.le_refl _)⟩
  ·have hn':((n:Int) == 0)=true:=by simpa using hn
   rcases hm:(m == 0) with _ | _
   ·have hm':((m:Int) == 0)=false:=by simp at hm ⊢;omega
    clear hn
    go_enter Tryz.func42,Tryz.ntmps42
    go_wp2_with fail
    refine (HC.out _).mono ?_
    rintro e w1 ⟨rfl,g1⟩
    have G1:=qh (G0.out.trans g1)
    have q1:w1.cell? ⟨w.heap.size,1,none⟩=some (.slice A n c):=(X0.out.kept g1 (by simp)).cell rfl
    clear g1
    go_wp2_with fail
    go_ret
    exact ⟨rfl,below_row_none G1.out (Nat.le_refl _)⟩
   ·have hm':((m:Int) == 0)=true:=by simpa using hm
    clear hn
    go_enter Tryz.func42,Tryz.ntmps42
    go_wp2_with fail
    refine (HC.out _).mono ?_
    rintro e w1 ⟨rfl,g1⟩
    have G1:=qh (G0.out.trans g1)
    have q1:w1.cell? ⟨w.heap.size,1,none⟩=some (.slice A n c):=(X0.out.kept g1 (by simp)).cell rfl
    clear g1
    go_wp2_with fail
    go_ret
    exact ⟨rfl,below_row_none G1.out (Nat.le_refl _)⟩
theorem fits_start (w:World) (lo hi:Int) (A A':Option Addr) (rs:List (Int×Int)) (c m c':Nat) :
 Calls Tryz.prog 42 #[.agg #[.int .i64 6,.slice A rs.length c,.int .i64 lo,.int .i64 hi,.slice A' m c']] w fun e w'=>e=.returned (.bool ((lo == 0 && hi == 0) && (rs.length == 0) && (m == 0)))∧Below w.heap.size w w':=by
 have G0:Hid (w.grownBy (w.alloc (.cells #[.int .i64 6,.slice A rs.length c,.int .i64 lo,.int .i64 hi,.slice A' m c'] 25)) none):=qh (grown_new w _ none)
 have X0:Hid (Box (w.alloc (.cells #[.int .i64 6,.slice A rs.length c,.int .i64 lo,.int .i64 hi,.slice A' m c'] 25)) w.heap.size #[.int .i64 6,.slice A rs.length c,.int .i64 lo,.int .i64 hi,.slice A' m c'] 25):=qh (Box.new w _ _)
 obtain ⟨b,hb⟩:∃ b,(lo == 0 && hi == 0)=b:=⟨_,rfl⟩
 rw [hb]
 have HC:=qh (fun u=>shonce_any u 6 lo hi A A' rs.length c m c')
 rw [hb] at HC
 obtain ⟨n,hn⟩:∃ n,rs.length=n:=⟨_,rfl⟩
 rw [hn] at G0 X0 HC ⊢
 clear hb hn
 rcases b with _ | _
 ·go_enter Tryz.func42,Tryz.ntmps42
  go_wp2_with fail
  refine (HC.out _).mono ?_
  rintro e w1 ⟨rfl,g1⟩
  have G1:=qh (G0.out.trans g1)
  clear g1
  go_wp2_with fail
  go_ret
  exact ⟨rfl,below_row_none G1.out (Nat.le_refl _)⟩
 ·rcases hn:(n == 0) with _ | _
  ·have hn':((n:Int) == 0)=false:=by simp at hn ⊢;omega
   clear hn
   go_enter Tryz.func42,Tryz.ntmps42
   go_wp2_with fail
   refine (HC.out _).mono ?_
   rintro e w1 ⟨rfl,g1⟩
   have G1:=qh (G0.out.trans g1)
   have q1:w1.cell? ⟨w.heap.size,1,none⟩=some (.slice A n c):=(X0.out.kept g1 (by simp)).cell rfl
   clear g1
   go_wp2_with fail
   go_ret
   exact ⟨rfl,below_row_none G1.out (Nat.le_refl _)⟩
  ·have hn':((n:Int) == 0)=true:=by simpa using hn
   rcases hm:(m == 0) with _ | _
   ·have hm':((m:Int) == 0)=false:=by simp at hm ⊢;omega
    clear hn
    go_enter Tryz.func42,Tryz.ntmps42
    go_wp2_with fail
    refine (HC.out _).mono ?_
    rintro e w1 ⟨rfl,g1⟩
    have G1:=qh (G0.out.trans g1)
    have q1:w1.cell? ⟨w.heap.size,1,none⟩=some (.slice A n c):=(X0.out.kept g1 (by simp)).cell rfl
    clear g1
    go_wp2_with fail
    go_ret
    exact ⟨rfl,below_row_none G1.out (Nat.le_refl _)⟩
   ·have hm':((m:Int) == 0)=true:=by simpa using hm
    clear hn
    go_enter Tryz.func42,Tryz.ntmps42
    go_wp2_with fail
    refine (HC.out _).mono ?_
    rintro e w1 ⟨rfl,g1⟩
    have G1:=qh (G0.out.trans g1)
    have q1:w1.cell? ⟨w.heap.size,1,none⟩=some (.slice A n c):=(X0.out.kept g1 (by simp)).cell rfl
    clear g1
    go_wp2_with fail
    go_ret
    exact ⟨rfl,below_row_none G1.out (Nat.le_refl _)⟩
theorem fits_stop (w:World) (lo hi:Int) (A A':Option Addr) (rs:List (Int×Int)) (c m c':Nat) :
 Calls Tryz.prog 42 #[.agg #[.int .i64 7,.slice A rs.length c,.int .i64 lo,.int .i64 hi,.slice A' m c']] w fun e w'=>e=.returned (.bool ((lo == 0 && hi == 0) && (rs.length == 0) && (m == 0)))∧Below w.heap.size w w':=by
 have G0:Hid (w.grownBy (w.alloc (.cells #[.int .i64 7,.slice A rs.length c,.int .i64 lo,.int .i64 hi,.slice A' m c'] 25)) none):=qh (grown_new w _ none)
 have X0:Hid (Box (w.alloc (.cells #[.int .i64 7,.slice A rs.length c,.int .i64 lo,.int .i64 hi,.slice A' m c'] 25)) w.heap.size #[.int .i64 7,.slice A rs.length c,.int .i64 lo,.int .i64 hi,.slice A' m c'] 25):=qh (Box.new w _ _)
 obtain ⟨b,hb⟩:∃ b,(lo == 0 && hi == 0)=b:=⟨_,rfl⟩
 rw [hb]
 have HC:=qh (fun u=>shonce_any u 7 lo hi A A' rs.length c m c')
 rw [hb] at HC
 obtain ⟨n,hn⟩:∃ n,rs.length=n:=⟨_,rfl⟩
 rw [hn] at G0 X0 HC ⊢
 clear hb hn
 rcases b with _ | _
 ·go_enter Tryz.func42,Tryz.ntmps42
  go_wp2_with fail
  refine (HC.out _).mono ?_
  rintro e w1 ⟨rfl,g1⟩
  have G1:=qh (G0.out.trans g1)
  clear g1
  go_wp2_with fail
  go_ret
  exact ⟨rfl,below_row_none G1.out (Nat.le_refl _)⟩
 ·rcases hn:(n == 0) with _ | _
  ·have hn':((n:Int) == 0)=false:=by simp at hn ⊢;omega
   clear hn
   go_enter Tryz.func42,Tryz.ntmps42
   go_wp2_with fail
   refine (HC.out _).mono ?_
   rintro e w1 ⟨rfl,g1⟩
   have G1:=qh (G0.out.trans g1)
   have q1:w1.cell? ⟨w.heap.size,1,none⟩=some (.slice A n c):=(X0.out.kept g1 (by simp)).cell rfl
   clear g1
   go_wp2_with fail
   go_ret
   exact ⟨rfl,below_row_none G1.out (Nat.le_refl _)⟩
  ·have hn':((n:Int) == 0)=true:=by simpa using hn
   rcases hm:(m == 0) with _ | _
   ·have hm':((m:Int) == 0)=false:=by simp at hm ⊢;omega
    clear hn
    go_enter Tryz.func42,Tryz.ntmps42
    go_wp2_with fail
    refine (HC.out _).mono ?_
    rintro e w1 ⟨rfl,g1⟩
    have G1:=qh (G0.out.trans g1)
    have q1:w1.cell? ⟨w.heap.size,1,none⟩=some (.slice A n c):=(X0.out.kept g1 (by simp)).cell rfl
    clear g1
    go_wp2_with fail
    go_ret
    exact ⟨rfl,below_row_none G1.out (Nat.le_refl _)⟩
   ·have hm':((m:Int) == 0)=true:=by simpa using hm
    clear hn
    go_enter Tryz.func42,Tryz.ntmps42
    go_wp2_with fail
    refine (HC.out _).mono ?_
    rintro e w1 ⟨rfl,g1⟩
    have G1:=qh (G0.out.trans g1)
    have q1:w1.cell? ⟨w.heap.size,1,none⟩=some (.slice A n c):=(X0.out.kept g1 (by simp)).cell rfl
    clear g1
    go_wp2_with fail
    go_ret
    exact ⟨rfl,below_row_none G1.out (Nat.le_refl _)⟩
theorem fits_join (w:World) (lo hi:Int) (A A':Option Addr) (rs:List (Int×Int)) (c m c':Nat) :
 Calls Tryz.prog 42 #[.agg #[.int .i64 3,.slice A rs.length c,.int .i64 lo,.int .i64 hi,.slice A' m c']] w fun e w'=>e=.returned (.bool ((lo == 0 && hi == 0) && (rs.length == 0) && decide (2≤m)))∧Below w.heap.size w w':=by
 have G0:Hid (w.grownBy (w.alloc (.cells #[.int .i64 3,.slice A rs.length c,.int .i64 lo,.int .i64 hi,.slice A' m c'] 25)) none):=qh (grown_new w _ none)
 have X0:Hid (Box (w.alloc (.cells #[.int .i64 3,.slice A rs.length c,.int .i64 lo,.int .i64 hi,.slice A' m c'] 25)) w.heap.size #[.int .i64 3,.slice A rs.length c,.int .i64 lo,.int .i64 hi,.slice A' m c'] 25):=qh (Box.new w _ _)
 obtain ⟨b,hb⟩:∃ b,(lo == 0 && hi == 0)=b:=⟨_,rfl⟩
 rw [hb]
 have HC:=qh (fun u=>shonce_any u 3 lo hi A A' rs.length c m c')
 rw [hb] at HC
 obtain ⟨n,hn⟩:∃ n,rs.length=n:=⟨_,rfl⟩
 rw [hn] at G0 X0 HC ⊢
 clear hb hn
 rcases b with _ | _
 ·go_enter Tryz.func42,Tryz.ntmps42
  go_wp2_with fail
  refine (HC.out _).mono ?_
  rintro e w1 ⟨rfl,g1⟩
  have G1:=qh (G0.out.trans g1)
  clear g1
  go_wp2_with fail
  go_ret
  exact ⟨rfl,below_row_none G1.out (Nat.le_refl _)⟩
 ·rcases hn:(n == 0) with _ | _
  ·have hn':((n:Int) == 0)=false:=by simp at hn ⊢;omega
   clear hn
   go_enter Tryz.func42,Tryz.ntmps42
   go_wp2_with fail
   refine (HC.out _).mono ?_
   rintro e w1 ⟨rfl,g1⟩
   have G1:=qh (G0.out.trans g1)
   have q1:w1.cell? ⟨w.heap.size,1,none⟩=some (.slice A n c):=(X0.out.kept g1 (by simp)).cell rfl
   clear g1
   go_wp2_with fail
   go_ret
   exact ⟨rfl,below_row_none G1.out (Nat.le_refl _)⟩
  ·have hn':((n:Int) == 0)=true:=by simpa using hn
   rcases hm:decide (2≤m) with _ | _
   ·have hm':decide ((2:Int)≤(m:Int))=false:=by simp at hm ⊢;omega
    clear hn
    go_enter Tryz.func42,Tryz.ntmps42
    go_wp2_with fail
    refine (HC.out _).mono ?_
    rintro e w1 ⟨rfl,g1⟩
    have G1:=qh (G0.out.trans g1)
    have q1:w1.cell? ⟨w.heap.size,1,none⟩=some (.slice A n c):=(X0.out.kept g1 (by simp)).cell rfl
    clear g1
    go_wp2_with fail
    go_ret
    exact ⟨rfl,below_row_none G1.out (Nat.le_refl _)⟩
   ·have hm':decide ((2:Int)≤(m:Int))=true:=by simp at hm ⊢;omega
    clear hn
    go_enter Tryz.func42,Tryz.ntmps42
    go_wp2_with fail
    refine (HC.out _).mono ?_
    rintro e w1 ⟨rfl,g1⟩
    have G1:=qh (G0.out.trans g1)
    have q1:w1.cell? ⟨w.heap.size,1,none⟩=some (.slice A n c):=(X0.out.kept g1 (by simp)).cell rfl
    clear g1
    go_wp2_with fail
    go_ret
    exact ⟨rfl,below_row_none G1.out (Nat.le_refl _)⟩
theorem fits_or (w:World) (lo hi:Int) (A A':Option Addr) (rs:List (Int×Int)) (c m c':Nat) :
 Calls Tryz.prog 42 #[.agg #[.int .i64 4,.slice A rs.length c,.int .i64 lo,.int .i64 hi,.slice A' m c']] w fun e w'=>e=.returned (.bool ((lo == 0 && hi == 0) && (rs.length == 0) && decide (2≤m)))∧Below w.heap.size w w':=by
 have G0:Hid (w.grownBy (w.alloc (.cells #[.int .i64 4,.slice A rs.length c,.int .i64 lo,.int .i64 hi,.slice A' m c'] 25)) none):=qh (grown_new w _ none)
 have X0:Hid (Box (w.alloc (.cells #[.int .i64 4,.slice A rs.length c,.int .i64 lo,.int .i64 hi,.slice A' m c'] 25)) w.heap.size #[.int .i64 4,.slice A rs.length c,.int .i64 lo,.int .i64 hi,.slice A' m c'] 25):=qh (Box.new w _ _)
 obtain ⟨b,hb⟩:∃ b,(lo == 0 && hi == 0)=b:=⟨_,rfl⟩
 rw [hb]
 have HC:=qh (fun u=>shonce_any u 4 lo hi A A' rs.length c m c')
 rw [hb] at HC
 obtain ⟨n,hn⟩:∃ n,rs.length=n:=⟨_,rfl⟩
 rw [hn] at G0 X0 HC ⊢
 clear hb hn
 rcases b with _ | _
 ·go_enter Tryz.func42,Tryz.ntmps42
  go_wp2_with fail
  refine (HC.out _).mono ?_
  rintro e w1 ⟨rfl,g1⟩
  have G1:=qh (G0.out.trans g1)
  clear g1
  go_wp2_with fail
  go_ret
  exact ⟨rfl,below_row_none G1.out (Nat.le_refl _)⟩
 ·rcases hn:(n == 0) with _ | _
  ·have hn':((n:Int) == 0)=false:=by simp at hn ⊢;omega
   clear hn
   go_enter Tryz.func42,Tryz.ntmps42
   go_wp2_with fail
   refine (HC.out _).mono ?_
   rintro e w1 ⟨rfl,g1⟩
   have G1:=qh (G0.out.trans g1)
   have q1:w1.cell? ⟨w.heap.size,1,none⟩=some (.slice A n c):=(X0.out.kept g1 (by simp)).cell rfl
   clear g1
   go_wp2_with fail
   go_ret
   exact ⟨rfl,below_row_none G1.out (Nat.le_refl _)⟩
  ·have hn':((n:Int) == 0)=true:=by simpa using hn
   rcases hm:decide (2≤m) with _ | _
   ·have hm':decide ((2:Int)≤(m:Int))=false:=by simp at hm ⊢;omega
    clear hn
    go_enter Tryz.func42,Tryz.ntmps42
    go_wp2_with fail
    refine (HC.out _).mono ?_
    rintro e w1 ⟨rfl,g1⟩
    have G1:=qh (G0.out.trans g1)
    have q1:w1.cell? ⟨w.heap.size,1,none⟩=some (.slice A n c):=(X0.out.kept g1 (by simp)).cell rfl
    clear g1
    go_wp2_with fail
    go_ret
    exact ⟨rfl,below_row_none G1.out (Nat.le_refl _)⟩
   ·have hm':decide ((2:Int)≤(m:Int))=true:=by simp at hm ⊢;omega
    clear hn
    go_enter Tryz.func42,Tryz.ntmps42
    go_wp2_with fail
    refine (HC.out _).mono ?_
    rintro e w1 ⟨rfl,g1⟩
    have G1:=qh (G0.out.trans g1)
    have q1:w1.cell? ⟨w.heap.size,1,none⟩=some (.slice A n c):=(X0.out.kept g1 (by simp)).cell rfl
    clear g1
    go_wp2_with fail
    go_ret
    exact ⟨rfl,below_row_none G1.out (Nat.le_refl _)⟩
theorem fits_repeat (w:World) (lo hi:Int) (A A':Option Addr) (rs:List (Int×Int)) (c m c':Nat) :
 Calls Tryz.prog 42 #[.agg #[.int .i64 5,.slice A rs.length c,.int .i64 lo,.int .i64 hi,.slice A' m c']] w fun e w'=>e=.returned (.bool ((decide (0≤lo) && decide (lo≤20) && (hi == -1 || (decide (lo≤hi) && decide (hi≤20)))) && (rs.length == 0) && (m == 1)))∧Below w.heap.size w w':=by
 have G0:Hid (w.grownBy (w.alloc (.cells #[.int .i64 5,.slice A rs.length c,.int .i64 lo,.int .i64 hi,.slice A' m c'] 25)) none):=qh (grown_new w _ none)
 have X0:Hid (Box (w.alloc (.cells #[.int .i64 5,.slice A rs.length c,.int .i64 lo,.int .i64 hi,.slice A' m c'] 25)) w.heap.size #[.int .i64 5,.slice A rs.length c,.int .i64 lo,.int .i64 hi,.slice A' m c'] 25):=qh (Box.new w _ _)
 obtain ⟨b,hb⟩:∃ b,(decide (0≤lo) && decide (lo≤20) && (hi == -1 || (decide (lo≤hi) && decide (hi≤20))))=b:=⟨_,rfl⟩
 rw [hb]
 have HC:=qh (fun u=>shcounted_any u 5 lo hi A A' rs.length c m c')
 rw [hb] at HC
 obtain ⟨n,hn⟩:∃ n,rs.length=n:=⟨_,rfl⟩
 rw [hn] at G0 X0 HC ⊢
 clear hb hn
 rcases b with _ | _
 ·go_enter Tryz.func42,Tryz.ntmps42
  go_wp2_with fail
  refine (HC.out _).mono ?_
  rintro e w1 ⟨rfl,g1⟩
  have G1:=qh (G0.out.trans g1)
  clear g1
  go_wp2_with fail
  go_ret
  exact ⟨rfl,below_row_none G1.out (Nat.le_refl _)⟩
 ·rcases hn:(n == 0) with _ | _
  ·have hn':((n:Int) == 0)=false:=by simp at hn ⊢;omega
   clear hn
   go_enter Tryz.func42,Tryz.ntmps42
   go_wp2_with fail
   refine (HC.out _).mono ?_
   rintro e w1 ⟨rfl,g1⟩
   have G1:=qh (G0.out.trans g1)
   have q1:w1.cell? ⟨w.heap.size,1,none⟩=some (.slice A n c):=(X0.out.kept g1 (by simp)).cell rfl
   clear g1
   go_wp2_with fail
   go_ret
   exact ⟨rfl,below_row_none G1.out (Nat.le_refl _)⟩
  ·have hn':((n:Int) == 0)=true:=by simpa using hn
   rcases hm:(m == 1) with _ | _
   ·have hm':((m:Int) == 1)=false:=by simp at hm ⊢;omega
    clear hn
    go_enter Tryz.func42,Tryz.ntmps42
    go_wp2_with fail
    refine (HC.out _).mono ?_
    rintro e w1 ⟨rfl,g1⟩
    have G1:=qh (G0.out.trans g1)
    have q1:w1.cell? ⟨w.heap.size,1,none⟩=some (.slice A n c):=(X0.out.kept g1 (by simp)).cell rfl
    clear g1
    go_wp2_with fail
    go_ret
    exact ⟨rfl,below_row_none G1.out (Nat.le_refl _)⟩
   ·have hm':((m:Int) == 1)=true:=by simp at hm ⊢;omega
    clear hn
    go_enter Tryz.func42,Tryz.ntmps42
    go_wp2_with fail
    refine (HC.out _).mono ?_
    rintro e w1 ⟨rfl,g1⟩
    have G1:=qh (G0.out.trans g1)
    have q1:w1.cell? ⟨w.heap.size,1,none⟩=some (.slice A n c):=(X0.out.kept g1 (by simp)).cell rfl
    clear g1
    go_wp2_with fail
    go_ret
    exact ⟨rfl,below_row_none G1.out (Nat.le_refl _)⟩
theorem fits_none (w:World) (k:Int) (lo hi:Int) (A A':Option Addr) (rs:List (Int×Int)) (c m c':Nat) (h:¬ (k=1∨k=2∨k=3∨k=4∨k=5∨k=6∨k=7)) :
 Calls Tryz.prog 42 #[.agg #[.int .i64 k,.slice A rs.length c,.int .i64 lo,.int .i64 hi,.slice A' m c']] w fun e w'=>e=.returned (.bool false)∧Below w.heap.size w w':=by
 have G0:Hid (w.grownBy (w.alloc (.cells #[.int .i64 k,.slice A rs.length c,.int .i64 lo,.int .i64 hi,.slice A' m c'] 25)) none):=qh (grown_new w _ none)
 have X0:Hid (Box (w.alloc (.cells #[.int .i64 k,.slice A rs.length c,.int .i64 lo,.int .i64 hi,.slice A' m c'] 25)) w.heap.size #[.int .i64 k,.slice A rs.length c,.int .i64 lo,.int .i64 hi,.slice A' m c'] 25):=qh (Box.new w _ _)
 have e1:(k == 1)=false:=by simp;omega
 have e6:(k == 6)=false:=by simp;omega
 have e7:(k == 7)=false:=by simp;omega
 have e2:(k == 2)=false:=by simp;omega
 have e3:(k == 3)=false:=by simp;omega
 have e4:(k == 4)=false:=by simp;omega
 have e5:(k == 5)=false:=by simp;omega
 clear h X0
 go_enter Tryz.func42,Tryz.ntmps42
 go_wp2_with fail
 go_ret
 exact ⟨rfl,below_row_none G0.out (Nat.le_refl _)⟩
theorem fits_set (w:World) (lo hi:Int) (A A':Option Addr) (rs:List (Int×Int)) (c m c':Nat) (h:Lies w w.heap.size A (prC rs)) (hl:rs.length≤9223372036854775807) :
 Calls Tryz.prog 42 #[.agg #[.int .i64 2,.slice A rs.length c,.int .i64 lo,.int .i64 hi,.slice A' m c']] w fun e w'=>e=.returned (.bool ((lo == 0 && hi == 0) && decide (rs=setR rs) && (m == 0)))∧Below w.heap.size w w':=by
 have G0:Hid (w.grownBy (w.alloc (.cells #[.int .i64 2,.slice A rs.length c,.int .i64 lo,.int .i64 hi,.slice A' m c'] 25)) none):=qh (grown_new w _ none)
 have X0:Hid (Box (w.alloc (.cells #[.int .i64 2,.slice A rs.length c,.int .i64 lo,.int .i64 hi,.slice A' m c'] 25)) w.heap.size #[.int .i64 2,.slice A rs.length c,.int .i64 lo,.int .i64 hi,.slice A' m c'] 25):=qh (Box.new w _ _)
 have HLL:=qh hl
 obtain ⟨b,hb⟩:∃ b,(lo == 0 && hi == 0)=b:=⟨_,rfl⟩
 obtain ⟨r,hr⟩:∃ r,decide (rs=setR rs)=r:=⟨_,rfl⟩
 have HC:=qh (fun u=>shonce_any u 2 lo hi A A' rs.length c m c')
 rw [hb] at HC
 rw [hb,hr]
 have HR:=qh hr
 have HS:Hid (∀ u,Box u w.heap.size #[.int .i64 2,.slice A rs.length c,.int .i64 lo,.int .i64 hi,.slice A' m c'] 25→(fun w'=>w'.cell? ⟨w.heap.size,0,none⟩=some (.int .i64 2)∧w'.cell? ⟨w.heap.size,1,none⟩=some (.slice A rs.length c)∧w'.cell? ⟨w.heap.size,2,none⟩=some (.int .i64 lo)∧w'.cell? ⟨w.heap.size,3,none⟩=some (.int .i64 hi)∧w'.cell? ⟨w.heap.size,4,none⟩=some (.slice A' m c')) u):=qh fun u x=>⟨x.cell rfl,x.cell rfl,x.cell rfl,x.cell rfl,x.cell rfl⟩
 have h0:Hid (∀ u,w.grownBy u none→Lies u u.heap.size A (prC rs)):=qh fun u g=>h.up (below_row_none g (Nat.le_refl _))
 have h1:Hid (∀ u,Below w.heap.size w u→Lies u u.heap.size A (prC rs)):=qh fun u g=>h.up g
 clear hb hr h hl
 rcases b with _ | _
 ·go_enter Tryz.func42,Tryz.ntmps42
  go_wp2_with fail
  refine wp_region_held_drew (S:=fun w'=>w'.cell? ⟨w.heap.size,0,none⟩=some (.int .i64 2)∧w'.cell? ⟨w.heap.size,1,none⟩=some (.slice A rs.length c)∧w'.cell? ⟨w.heap.size,2,none⟩=some (.int .i64 lo)∧w'.cell? ⟨w.heap.size,3,none⟩=some (.int .i64 hi)∧w'.cell? ⟨w.heap.size,4,none⟩=some (.slice A' m c')) (by kernel_rfl) (HS.out _ (by exact X0.out.same rfl)) (fun hHeld=>?_)
  refine' hY 0 ?_
  try simp only [Act.put,ZA,ZB,ZD,ZE,ZF]
  refine hA 1 fun K hK=>?_
  go_simp
  refine (HC.out _).mono ?_
  rintro e w1 ⟨rfl,g1⟩
  have G1:Hid (w.grownBy w1 none):=qh (World.grownBy.trans (by exact grown_draw G0.out) g1)
  have X1:Hid (Box w1 w.heap.size #[.int .i64 2,.slice A rs.length c,.int .i64 lo,.int .i64 hi,.slice A' m c'] 25):=qh (Box.kept (by exact X0.out.same rfl) g1 (by simp))
  clear g1
  go_wp2_with fail
  refine hK.out _ _ (by exact HS.out _ (by exact X1.out.same rfl)) (fun hHeld=>?_)
  clear hK K
  try simp only [Act.put,ZA,ZB,ZC,ZD,ZE,ZF]
  refine' hY 2 ?_
  try simp only [Act.put,ZA,ZB,ZC,ZD,ZE,ZF]
  refine' hN 3 ?_
  try simp only [Act.put,ZA,ZB,ZC,ZD,ZE,ZF]
  refine' hN 4 ?_
  try simp only [Act.put,ZA,ZB,ZC,ZD,ZE,ZF]
  refine' hN 5 ?_
  try simp only [Act.put,ZA,ZB,ZC,ZD,ZE,ZF]
  refine' hN 6 ?_
  try simp only [Act.put,ZA,ZB,ZC,ZD,ZE,ZF]
  refine' hN 7 ?_
  try simp only [Act.put,ZA,ZB,ZC,ZD,ZE,ZF]
  refine' hN 8 ?_
  try simp only [Act.put,ZA,ZB,ZC,ZD,ZE,ZF]
  refine' hY 9 ?_
  try simp only [Act.put,ZA,ZB,ZC,ZD,ZE,ZF]
  refine' hY 10 ?_
  try simp only [Act.put,ZA,ZB,ZC,ZD,ZE,ZF]
  refine' hN 11 ?_
  try simp only [Act.put,ZA,ZB,ZC,ZD,ZE,ZF]
  refine' hN 12 ?_
  try simp only [Act.put,ZA,ZB,ZC,ZD,ZE,ZF]
  refine' hY 13 ?_
  try simp only [Act.put,ZA,ZB,ZC,ZD,ZE,ZF]
  refine' hY 14 ?_
  try simp only [Act.put,ZA,ZB,ZC,ZD,ZE,ZF]
  refine wpAnyH_done (by kernel_rfl) ?_ _
  go_wp2_with fail
  go_ret
  exact ⟨rfl,by exact below_row_none (G1.out) (Nat.le_refl _)⟩
 ·rcases hm:(m == 0) with _ | _
  ·have hm':((m:Int) == 0)=false:=by simp at hm ⊢;omega
   go_enter Tryz.func42,Tryz.ntmps42
   go_wp2_with fail
   refine wp_region_held_drew (S:=fun w'=>w'.cell? ⟨w.heap.size,0,none⟩=some (.int .i64 2)∧w'.cell? ⟨w.heap.size,1,none⟩=some (.slice A rs.length c)∧w'.cell? ⟨w.heap.size,2,none⟩=some (.int .i64 lo)∧w'.cell? ⟨w.heap.size,3,none⟩=some (.int .i64 hi)∧w'.cell? ⟨w.heap.size,4,none⟩=some (.slice A' m c')) (by kernel_rfl) (HS.out _ (by exact X0.out.same rfl)) (fun hHeld=>?_)
   refine' hY 0 ?_
   try simp only [Act.put,ZA,ZB,ZD,ZE,ZF]
   refine hA 1 fun K hK=>?_
   go_simp
   refine (HC.out _).mono ?_
   rintro e w1 ⟨rfl,g1⟩
   have G1:Hid (w.grownBy w1 none):=qh (World.grownBy.trans (by exact grown_draw G0.out) g1)
   have X1:Hid (Box w1 w.heap.size #[.int .i64 2,.slice A rs.length c,.int .i64 lo,.int .i64 hi,.slice A' m c'] 25):=qh (Box.kept (by exact X0.out.same rfl) g1 (by simp))
   clear g1
   go_wp2_with fail
   refine hK.out _ _ (by exact HS.out _ (by exact X1.out.same rfl)) (fun hHeld=>?_)
   clear hK K
   try simp only [Act.put,ZA,ZB,ZC,ZD,ZE,ZF]
   refine' hY 2 ?_
   try simp only [Act.put,ZA,ZB,ZC,ZD,ZE,ZF]
   refine' hY 3 ?_
   try simp only [Act.put,ZA,ZB,ZC,ZD,ZE,ZF]
   refine' hY 4 ?_
   try simp only [Act.put,ZA,ZB,ZC,ZD,ZE,ZF]
   refine' hY 5 ?_
   try simp only [Act.put,ZA,ZB,ZC,ZD,ZE,ZF]
   refine' hY 6 ?_
   try simp only [Act.put,ZA,ZB,ZC,ZD,ZE,ZF]
   refine hA 7 fun K hK=>?_
   go_simp
   refine (trset_any _ A rs c (by exact h0.out _ (G1.out))).mono ?_
   rintro e w2 ⟨v2,rfl,o2,b2⟩
   obtain ⟨A2,c2,rfl,l2,-,-⟩:=o2.form
   have B2:Hid (Below w.heap.size w w2):=qh (below_then (by exact below_row_none (G1.out) (Nat.le_refl _)) b2)
   have X2:Hid (Box w2 w.heap.size #[.int .i64 2,.slice A rs.length c,.int .i64 lo,.int .i64 hi,.slice A' m c'] 25):=qh (Box.below (by exact X1.out.same rfl) b2 (by exact X1.out.lt))
   have L2:=qh l2
   clear o2 b2 l2
   go_wp2_with fail
   refine hK.out _ _ (by exact HS.out _ (by exact X2.out.same rfl)) (fun hHeld=>?_)
   clear hK K
   try simp only [Act.put,ZA,ZB,ZC,ZD,ZE,ZF]
   refine hA 8 fun K hK=>?_
   go_simp
   refine (equalrg_any _ _ _ A A2 rs (setR rs) c c2 (by exact h1.out _ B2.out) (by exact L2.out) HLL.out).mono ?_
   rintro e w3 ⟨rfl,g3⟩
   rw [HR.out]
   have B3:Hid (Below w.heap.size w w3):=qh (below_then B2.out (by exact below_row_none g3 (Nat.le_refl _)))
   have X3:Hid (Box w3 w.heap.size #[.int .i64 2,.slice A rs.length c,.int .i64 lo,.int .i64 hi,.slice A' m c'] 25):=qh (Box.kept (by exact X2.out.same rfl) g3 (by simp))
   clear g3
   go_wp2_with fail
   refine hK.out _ _ (by exact HS.out _ (by exact X3.out.same rfl)) (fun hHeld=>?_)
   clear hK K
   try simp only [Act.put,ZA,ZB,ZC,ZD,ZE,ZF]
   rcases r with _ | _
   ·skip
    refine' hY 9 ?_
    try simp only [Act.put,ZA,ZB,ZC,ZD,ZE,ZF]
    refine' hY 10 ?_
    try simp only [Act.put,ZA,ZB,ZC,ZD,ZE,ZF]
    refine' hN 11 ?_
    try simp only [Act.put,ZA,ZB,ZC,ZD,ZE,ZF]
    refine' hN 12 ?_
    try simp only [Act.put,ZA,ZB,ZC,ZD,ZE,ZF]
    refine' hY 13 ?_
    try simp only [Act.put,ZA,ZB,ZC,ZD,ZE,ZF]
    refine' hY 14 ?_
    try simp only [Act.put,ZA,ZB,ZC,ZD,ZE,ZF]
    refine wpAnyH_done (by kernel_rfl) ?_ _
    go_wp2_with fail
    go_ret
    exact ⟨rfl,B3.out⟩
   ·skip
    refine' hY 9 ?_
    try simp only [Act.put,ZA,ZB,ZC,ZD,ZE,ZF]
    refine' hY 10 ?_
    try simp only [Act.put,ZA,ZB,ZC,ZD,ZE,ZF]
    refine' hY 11 ?_
    try simp only [Act.put,ZA,ZB,ZC,ZD,ZE,ZF]
    refine' hY 12 ?_
    try simp only [Act.put,ZA,ZB,ZC,ZD,ZE,ZF]
    refine' hY 13 ?_
    try simp only [Act.put,ZA,ZB,ZC,ZD,ZE,ZF]
    refine' hY 14 ?_
    try simp only [Act.put,ZA,ZB,ZC,ZD,ZE,ZF]
    refine wpAnyH_done (by kernel_rfl) ?_ _
    go_wp2_with fail
    go_ret
    exact ⟨rfl,B3.out⟩
  ·have hm':((m:Int) == 0)=true:=by simpa using hm
   go_enter Tryz.func42,Tryz.ntmps42
   go_wp2_with fail
   refine wp_region_held_drew (S:=fun w'=>w'.cell? ⟨w.heap.size,0,none⟩=some (.int .i64 2)∧w'.cell? ⟨w.heap.size,1,none⟩=some (.slice A rs.length c)∧w'.cell? ⟨w.heap.size,2,none⟩=some (.int .i64 lo)∧w'.cell? ⟨w.heap.size,3,none⟩=some (.int .i64 hi)∧w'.cell? ⟨w.heap.size,4,none⟩=some (.slice A' m c')) (by kernel_rfl) (HS.out _ (by exact X0.out.same rfl)) (fun hHeld=>?_)
   refine' hY 0 ?_
   try simp only [Act.put,ZA,ZB,ZD,ZE,ZF]
   refine hA 1 fun K hK=>?_
   go_simp
   refine (HC.out _).mono ?_
   rintro e w1 ⟨rfl,g1⟩
   have G1:Hid (w.grownBy w1 none):=qh (World.grownBy.trans (by exact grown_draw G0.out) g1)
   have X1:Hid (Box w1 w.heap.size #[.int .i64 2,.slice A rs.length c,.int .i64 lo,.int .i64 hi,.slice A' m c'] 25):=qh (Box.kept (by exact X0.out.same rfl) g1 (by simp))
   clear g1
   go_wp2_with fail
   refine hK.out _ _ (by exact HS.out _ (by exact X1.out.same rfl)) (fun hHeld=>?_)
   clear hK K
   try simp only [Act.put,ZA,ZB,ZC,ZD,ZE,ZF]
   refine' hY 2 ?_
   try simp only [Act.put,ZA,ZB,ZC,ZD,ZE,ZF]
   refine' hY 3 ?_
   try simp only [Act.put,ZA,ZB,ZC,ZD,ZE,ZF]
   refine' hY 4 ?_
   try simp only [Act.put,ZA,ZB,ZC,ZD,ZE,ZF]
   refine' hY 5 ?_
   try simp only [Act.put,ZA,ZB,ZC,ZD,ZE,ZF]
   refine' hY 6 ?_
   try simp only [Act.put,ZA,ZB,ZC,ZD,ZE,ZF]
   refine hA 7 fun K hK=>?_
   go_simp
   refine (trset_any _ A rs c (by exact h0.out _ (G1.out))).mono ?_
   rintro e w2 ⟨v2,rfl,o2,b2⟩
   obtain ⟨A2,c2,rfl,l2,-,-⟩:=o2.form
   have B2:Hid (Below w.heap.size w w2):=qh (below_then (by exact below_row_none (G1.out) (Nat.le_refl _)) b2)
   have X2:Hid (Box w2 w.heap.size #[.int .i64 2,.slice A rs.length c,.int .i64 lo,.int .i64 hi,.slice A' m c'] 25):=qh (Box.below (by exact X1.out.same rfl) b2 (by exact X1.out.lt))
   have L2:=qh l2
   clear o2 b2 l2
   go_wp2_with fail
   refine hK.out _ _ (by exact HS.out _ (by exact X2.out.same rfl)) (fun hHeld=>?_)
   clear hK K
   try simp only [Act.put,ZA,ZB,ZC,ZD,ZE,ZF]
   refine hA 8 fun K hK=>?_
   go_simp
   refine (equalrg_any _ _ _ A A2 rs (setR rs) c c2 (by exact h1.out _ B2.out) (by exact L2.out) HLL.out).mono ?_
   rintro e w3 ⟨rfl,g3⟩
   rw [HR.out]
   have B3:Hid (Below w.heap.size w w3):=qh (below_then B2.out (by exact below_row_none g3 (Nat.le_refl _)))
   have X3:Hid (Box w3 w.heap.size #[.int .i64 2,.slice A rs.length c,.int .i64 lo,.int .i64 hi,.slice A' m c'] 25):=qh (Box.kept (by exact X2.out.same rfl) g3 (by simp))
   clear g3
   go_wp2_with fail
   refine hK.out _ _ (by exact HS.out _ (by exact X3.out.same rfl)) (fun hHeld=>?_)
   clear hK K
   try simp only [Act.put,ZA,ZB,ZC,ZD,ZE,ZF]
   rcases r with _ | _
   ·skip
    refine' hY 9 ?_
    try simp only [Act.put,ZA,ZB,ZC,ZD,ZE,ZF]
    refine' hY 10 ?_
    try simp only [Act.put,ZA,ZB,ZC,ZD,ZE,ZF]
    refine' hN 11 ?_
    try simp only [Act.put,ZA,ZB,ZC,ZD,ZE,ZF]
    refine' hN 12 ?_
    try simp only [Act.put,ZA,ZB,ZC,ZD,ZE,ZF]
    refine' hY 13 ?_
    try simp only [Act.put,ZA,ZB,ZC,ZD,ZE,ZF]
    refine' hY 14 ?_
    try simp only [Act.put,ZA,ZB,ZC,ZD,ZE,ZF]
    refine wpAnyH_done (by kernel_rfl) ?_ _
    go_wp2_with fail
    go_ret
    exact ⟨rfl,B3.out⟩
   ·skip
    refine' hY 9 ?_
    try simp only [Act.put,ZA,ZB,ZC,ZD,ZE,ZF]
    refine' hY 10 ?_
    try simp only [Act.put,ZA,ZB,ZC,ZD,ZE,ZF]
    refine' hY 11 ?_
    try simp only [Act.put,ZA,ZB,ZC,ZD,ZE,ZF]
    refine' hY 12 ?_
    try simp only [Act.put,ZA,ZB,ZC,ZD,ZE,ZF]
    refine' hY 13 ?_
    try simp only [Act.put,ZA,ZB,ZC,ZD,ZE,ZF]
    refine' hY 14 ?_
    try simp only [Act.put,ZA,ZB,ZC,ZD,ZE,ZF]
    refine wpAnyH_done (by kernel_rfl) ?_ _
    go_wp2_with fail
    go_ret
    exact ⟨rfl,B3.out⟩
end
end Go.Proofs.YtoeocodfndbebaaGreatDoor
