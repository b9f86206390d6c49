/- Shared texts, shaken for one claim. -/
import Derived.Test.YtoeocodfndbebaaGreatDoorZC4
import Derived.Test.YtoeocodfndbebaaGreatDoorZC8
import Derived.Test.YtoeocodfndbebaaGreatDoorZC14
set_option maxRecDepth 20000
set_option maxHeartbeats 16000000
namespace Go.Proofs.YtoeocodfndbebaaGreatDoor
section
open Go.RowKit
def nodeM (k lo hi:Int) (rs:List (Int×Int)) (m:Nat):Bool :=
 if k=1∨k=6∨k=7 then lo == 0 && hi == 0 && (rs.length == 0) && (m == 0)
 else if k=2 then lo == 0 && hi == 0 && decide (rs=setR rs) && (m == 0)
 else if k=3∨k=4 then lo == 0 && hi == 0 && (rs.length == 0) && decide (2≤m)
 else if k=5 then (decide (0≤lo) && decide (lo≤20) && (hi == -1 || (decide (lo≤hi) && decide (hi≤20)))) && (rs.length == 0) && (m == 1)
 else false
theorem nodeM_is (k lo hi:Int) (rs:List (Int×Int)) (ks:List Nd):nodeM k lo hi rs ks.length=nodeI (.mk k lo hi rs ks):=by
 by_cases h1:k=1
 ·subst h1;simp [nodeM,nodeI];grind
 by_cases h6:k=6
 ·subst h6;simp [nodeM,nodeI];grind
 by_cases h7:k=7
 ·subst h7;simp [nodeM,nodeI];grind
 by_cases h2:k=2
 ·subst h2;simp [nodeM,nodeI];grind
 by_cases h3:k=3
 ·subst h3;simp [nodeM,nodeI];grind
 by_cases h4:k=4
 ·subst h4;simp [nodeM,nodeI];grind
 by_cases h5:k=5
 ·subst h5;simp [nodeM,nodeI];grind
 simp [nodeM,nodeI,h1,h6,h7,h2,h3,h4,h5]
theorem fits_empty (w:World) (lo hi:Int) (A A':Option Addr) (rs:List (Int×Int)) (c m c':Nat) :
 Calls Tryz.prog 42 #[.agg #[.int .i64 1,.slice A rs.length c,.int .i64 lo,.int .i64 hi,.slice A' m c']] w fun e w'=>e=.returned (.bool ((lo == 0 && hi == 0) && (rs.length == 0) && (m == 0)))∧Below w.heap.size w w':=by
 have G0:Hid (w.grownBy (w.alloc (.cells #[.int .i64 1,.slice A rs.length c,.int .i64 lo,.int .i64 hi,.slice A' m c'] 25)) none):=qh (grown_new w _ none)
 have X0:Hid (Box (w.alloc (.cells #[.int .i64 1,.slice A rs.length c,.int .i64 lo,.int .i64 hi,.slice A' m c'] 25)) w.heap.size #[.int .i64 1,.slice A rs.length c,.int .i64 lo,.int .i64 hi,.slice A' m c'] 25):=qh (Box.new w _ _)
 obtain ⟨b,hb⟩:∃ b,(lo == 0 && hi == 0)=b:=⟨_,rfl⟩
 rw [hb]
 have HC:=qh (fun u=>shonce_any u 1 lo hi A A' rs.length c m c')
 rw [hb] at HC
 obtain ⟨n,hn⟩:∃ n,rs.length=n:=⟨_,rfl⟩
 rw [hn] at G0 X0 HC ⊢
 clear hb hn
 rcases b with _ | _
 ·go_enter Tryz.func42,Tryz.ntmps42
  go_wp2_with fail
  refine (HC.out _).mono ?_
  rintro e w1 ⟨rfl,g1⟩
  have G1:=qh (G0.out.trans g1)
  clear g1
  go_wp2_with fail
  go_ret
  exact ⟨rfl,below_row_none G1.out (Nat.le_refl _)⟩
 ·rcases hn:(n == 0) with _ | _
  ·have hn':((n:Int) == 0)=false:=by simp at hn ⊢;omega
   clear hn
   go_enter Tryz.func42,Tryz.ntmps42
   go_wp2_with fail
   refine (HC.out _).mono ?_
   rintro e w1 ⟨rfl,g1⟩
   have G1:=qh (G0.out.trans g1)
   have q1:w1.cell? ⟨w.heap.size,1,none⟩=some (.slice A n c):=(X0.out.kept g1 (by simp)).cell rfl
   clear g1
   go_wp2_with fail
   go_ret
   exact ⟨rfl,below_row_none G1.out (Nat.le_refl _)⟩
  ·have hn':((n:Int) == 0)=true:=by simpa using hn
   rcases hm:(m == 0) with _ | _
   ·have hm':((m:Int) == 0)=false:=by simp at hm ⊢;omega
    clear hn
    go_enter Tryz.func42,Tryz.ntmps42
    go_wp2_with fail
    refine (HC.out _).mono ?_
    rintro e w1 ⟨rfl,g1⟩
    have G1:=qh (G0.out.trans g1)
    have q1:w1.cell? ⟨w.heap.size,1,none⟩=some (.slice A n c):=(X0.out.kept g1 (by simp)).cell rfl
    clear g1
    go_wp2_with fail
    go_ret
    exact ⟨rfl,below_row_none G1.out (Nat.le_refl _)⟩
   ·have hm':((m:Int) == 0)=true:=by simpa using hm
    clear hn
    go_enter Tryz.func42,Tryz.ntmps42
    go_wp2_with fail
    refine (HC.out _).mono ?_
    rintro e w1 ⟨rfl,g1⟩
    have G1:=qh (G0.out.trans g1)
    have q1:w1.cell? ⟨w.heap.size,1,none⟩=some (.slice A n c):=(X0.out.kept g1 (by simp)).cell rfl
    clear g1
    go_wp2_with fail
    go_ret
    exact ⟨rfl,below_row_none G1.out (Nat.le_refl _)⟩
theorem fits_start (w:World) (lo hi:Int) (A A':Option Addr) (rs:List (Int×Int)) (c m c':Nat) :
 Calls Tryz.prog 42 #[.agg #[.int .i64 6,.slice A rs.length c,.int .i64 lo,.int .i64 hi,.slice A' m c']] w fun e w'=>e=.returned (.bool ((lo == 0 && hi == 0) && (rs.length == 0) && (m == 0)))∧Below w.heap.size w w':=by
 have G0:Hid (w.grownBy (w.alloc (.cells #[.int .i64 6,.slice A rs.length c,.int .i64 lo,.int .i64 hi,.slice A' m c'] 25)) none):=qh (grown_new w _ none)
 have X0:Hid (Box (w.alloc (.cells #[.int .i64 6,.slice A rs.length c,.int .i64 lo,.int .i64 hi,.slice A' m c'] 25)) w.heap.size #[.int .i64 6,.slice A rs.length c,.int .i64 lo,.int .i64 hi,.slice A' m c'] 25):=qh (Box.new w _ _)
 obtain ⟨b,hb⟩:∃ b,(lo == 0 && hi == 0)=b:=⟨_,rfl⟩
 rw [hb]
 have HC:=qh (fun u=>shonce_any u 6 lo hi A A' rs.length c m c')
 rw [hb] at HC
 obtain ⟨n,hn⟩:∃ n,rs.length=n:=⟨_,rfl⟩
 rw [hn] at G0 X0 HC ⊢
 clear hb hn
 rcases b with _ | _
 ·go_enter Tryz.func42,Tryz.ntmps42
  go_wp2_with fail
  refine (HC.out _).mono ?_
  rintro e w1 ⟨rfl,g1⟩
  have G1:=qh (G0.out.trans g1)
  clear g1
  go_wp2_with fail
  go_ret
  exact ⟨rfl,below_row_none G1.out (Nat.le_refl _)⟩
 ·rcases hn:(n == 0) with _ | _
  ·have hn':((n:Int) == 0)=false:=by simp at hn ⊢;omega
   clear hn
   go_enter Tryz.func42,Tryz.ntmps42
   go_wp2_with fail
   refine (HC.out _).mono ?_
   rintro e w1 ⟨rfl,g1⟩
   have G1:=qh (G0.out.trans g1)
   have q1:w1.cell? ⟨w.heap.size,1,none⟩=some (.slice A n c):=(X0.out.kept g1 (by simp)).cell rfl
   clear g1
   go_wp2_with fail
   go_ret
   exact ⟨rfl,below_row_none G1.out (Nat.le_refl _)⟩
  ·have hn':((n:Int) == 0)=true:=by simpa using hn
   rcases hm:(m == 0) with _ | _
   ·have hm':((m:Int) == 0)=false:=by simp at hm ⊢;omega
    clear hn
    go_enter Tryz.func42,Tryz.ntmps42
    go_wp2_with fail
    refine (HC.out _).mono ?_
    rintro e w1 ⟨rfl,g1⟩
    have G1:=qh (G0.out.trans g1)
    have q1:w1.cell? ⟨w.heap.size,1,none⟩=some (.slice A n c):=(X0.out.kept g1 (by simp)).cell rfl
    clear g1
    go_wp2_with fail
    go_ret
    exact ⟨rfl,below_row_none G1.out (Nat.le_refl _)⟩
   ·have hm':((m:Int) == 0)=true:=by simpa using hm
    clear hn
    go_enter Tryz.func42,Tryz.ntmps42
    go_wp2_with fail
    refine (HC.out _).mono ?_
    rintro e w1 ⟨rfl,g1⟩
    have G1:=qh (G0.out.trans g1)
    have q1:w1.cell? ⟨w.heap.size,1,none⟩=some (.slice A n c):=(X0.out.kept g1 (by simp)).cell rfl
    clear g1
    go_wp2_with fail
    go_ret
    exact ⟨rfl,below_row_none G1.out (Nat.le_refl _)⟩
theorem fits_stop (w:World) (lo hi:Int) (A A':Option Addr) (rs:List (Int×Int)) (c m c':Nat) :
 Calls Tryz.prog 42 #[.agg #[.int .i64 7,.slice A rs.length c,.int .i64 lo,.int .i64 hi,.slice A' m c']] w fun e w'=>e=.returned (.bool ((lo == 0 && hi == 0) && (rs.length == 0) && (m == 0)))∧Below w.heap.size w w':=by
 have G0:Hid (w.grownBy (w.alloc (.cells #[.int .i64 7,.slice A rs.length c,.int .i64 lo,.int .i64 hi,.slice A' m c'] 25)) none):=qh (grown_new w _ none)
 have X0:Hid (Box (w.alloc (.cells #[.int .i64 7,.slice A rs.length c,.int .i64 lo,.int .i64 hi,.slice A' m c'] 25)) w.heap.size #[.int .i64 7,.slice A rs.length c,.int .i64 lo,.int .i64 hi,.slice A' m c'] 25):=qh (Box.new w _ _)
 obtain ⟨b,hb⟩:∃ b,(lo == 0 && hi == 0)=b:=⟨_,rfl⟩
 rw [hb]
 have HC:=qh (fun u=>shonce_any u 7 lo hi A A' rs.length c m c')
 rw [hb] at HC
 obtain ⟨n,hn⟩:∃ n,rs.length=n:=⟨_,rfl⟩
 rw [hn] at G0 X0 HC ⊢
 clear hb hn
 rcases b with _ | _
 ·go_enter Tryz.func42,Tryz.ntmps42
  go_wp2_with fail
  refine (HC.out _).mono ?_
  rintro e w1 ⟨rfl,g1⟩
  have G1:=qh (G0.out.trans g1)
  clear g1
  go_wp2_with fail
  go_ret
  exact ⟨rfl,below_row_none G1.out (Nat.le_refl _)⟩
 ·rcases hn:(n == 0) with _ | _
  ·have hn':((n:Int) == 0)=false:=by simp at hn ⊢;omega
   clear hn
   go_enter Tryz.func42,Tryz.ntmps42
   go_wp2_with fail
   refine (HC.out _).mono ?_
   rintro e w1 ⟨rfl,g1⟩
   have G1:=qh (G0.out.trans g1)
   have q1:w1.cell? ⟨w.heap.size,1,none⟩=some (.slice A n c):=(X0.out.kept g1 (by simp)).cell rfl
   clear g1
   go_wp2_with fail
   go_ret
   exact ⟨rfl,below_row_none G1.out (Nat.le_refl _)⟩
  ·have hn':((n:Int) == 0)=true:=by simpa using hn
   rcases hm:(m == 0) with _ | _
   ·have hm':((m:Int) == 0)=false:=by simp at hm ⊢;omega
    clear hn
    go_enter Tryz.func42,Tryz.ntmps42
    go_wp2_with fail
    refine (HC.out _).mono ?_
    rintro e w1 ⟨rfl,g1⟩
    have G1:=qh (G0.out.trans g1)
    have q1:w1.cell? ⟨w.heap.size,1,none⟩=some (.slice A n c):=(X0.out.kept g1 (by simp)).cell rfl
    clear g1
    go_wp2_with fail
    go_ret
    exact ⟨rfl,below_row_none G1.out (Nat.le_refl _)⟩
   ·have hm':((m:Int) == 0)=true:=by simpa using hm
    clear hn
    go_enter Tryz.func42,Tryz.ntmps42
    go_wp2_with fail
    refine (HC.out _).mono ?_
    rintro e w1 ⟨rfl,g1⟩
    have G1:=qh (G0.out.trans g1)
    have q1:w1.cell? ⟨w.heap.size,1,none⟩=some (.slice A n c):=(X0.out.kept g1 (by simp)).cell rfl
    clear g1
    go_wp2_with fail
    go_ret
    exact ⟨rfl,below_row_none G1.out (Nat.le_refl _)⟩
theorem fits_join (w:World) (lo hi:Int) (A A':Option Addr) (rs:List (Int×Int)) (c m c':Nat) :
 Calls Tryz.prog 42 #[.agg #[.int .i64 3,.slice A rs.length c,.int .i64 lo,.int .i64 hi,.slice A' m c']] w fun e w'=>e=.returned (.bool ((lo == 0 && hi == 0) && (rs.length == 0) && decide (2≤m)))∧Below w.heap.size w w':=by
 have G0:Hid (w.grownBy (w.alloc (.cells #[.int .i64 3,.slice A rs.length c,.int .i64 lo,.int .i64 hi,.slice A' m c'] 25)) none):=qh (grown_new w _ none)
 have X0:Hid (Box (w.alloc (.cells #[.int .i64 3,.slice A rs.length c,.int .i64 lo,.int .i64 hi,.slice A' m c'] 25)) w.heap.size #[.int .i64 3,.slice A rs.length c,.int .i64 lo,.int .i64 hi,.slice A' m c'] 25):=qh (Box.new w _ _)
 obtain ⟨b,hb⟩:∃ b,(lo == 0 && hi == 0)=b:=⟨_,rfl⟩
 rw [hb]
 have HC:=qh (fun u=>shonce_any u 3 lo hi A A' rs.length c m c')
 rw [hb] at HC
 obtain ⟨n,hn⟩:∃ n,rs.length=n:=⟨_,rfl⟩
 rw [hn] at G0 X0 HC ⊢
 clear hb hn
 rcases b with _ | _
 ·go_enter Tryz.func42,Tryz.ntmps42
  go_wp2_with fail
  refine (HC.out _).mono ?_
  rintro e w1 ⟨rfl,g1⟩
  have G1:=qh (G0.out.trans g1)
  clear g1
  go_wp2_with fail
  go_ret
  exact ⟨rfl,below_row_none G1.out (Nat.le_refl _)⟩
 ·rcases hn:(n == 0) with _ | _
  ·have hn':((n:Int) == 0)=false:=by simp at hn ⊢;omega
   clear hn
   go_enter Tryz.func42,Tryz.ntmps42
   go_wp2_with fail
   refine (HC.out _).mono ?_
   rintro e w1 ⟨rfl,g1⟩
   have G1:=qh (G0.out.trans g1)
   have q1:w1.cell? ⟨w.heap.size,1,none⟩=some (.slice A n c):=(X0.out.kept g1 (by simp)).cell rfl
   clear g1
   go_wp2_with fail
   go_ret
   exact ⟨rfl,below_row_none G1.out (Nat.le_refl _)⟩
  ·have hn':((n:Int) == 0)=true:=by simpa using hn
   rcases hm:decide (2≤m) with _ | _
   ·have hm':decide ((2:Int)≤(m:Int))=false:=by simp at hm ⊢;omega
    clear hn
    go_enter Tryz.func42,Tryz.ntmps42
    go_wp2_with fail
    refine (HC.out _).mono ?_
    rintro e w1 ⟨rfl,g1⟩
    have G1:=qh (G0.out.trans g1)
    have q1:w1.cell? ⟨w.heap.size,1,none⟩=some (.slice A n c):=(X0.out.kept g1 (by simp)).cell rfl
    clear g1
    go_wp2_with fail
    go_ret
    exact ⟨rfl,below_row_none G1.out (Nat.le_refl _)⟩
   ·have hm':decide ((2:Int)≤(m:Int))=true:=by simp at hm ⊢;omega
    clear hn
    go_enter Tryz.func42,Tryz.ntmps42
    go_wp2_with fail
    refine (HC.out _).mono ?_
    rintro e w1 ⟨rfl,g1⟩
    have G1:=qh (G0.out.trans g1)
    have q1:w1.cell? ⟨w.heap.size,1,none⟩=some (.slice A n c):=(X0.out.kept g1 (by simp)).cell rfl
    clear g1
    go_wp2_with fail
    go_ret
    exact ⟨rfl,below_row_none G1.out (Nat.le_refl _)⟩
theorem fits_or (w:World) (lo hi:Int) (A A':Option Addr) (rs:List (Int×Int)) (c m c':Nat) :
 Calls Tryz.prog 42 #[.agg #[.int .i64 4,.slice A rs.length c,.int .i64 lo,.int .i64 hi,.slice A' m c']] w fun e w'=>e=.returned (.bool ((lo == 0 && hi == 0) && (rs.length == 0) && decide (2≤m)))∧Below w.heap.size w w':=by
 have G0:Hid (w.grownBy (w.alloc (.cells #[.int .i64 4,.slice A rs.length c,.int .i64 lo,.int .i64 hi,.slice A' m c'] 25)) none):=qh (grown_new w _ none)
 have X0:Hid (Box (w.alloc (.cells #[.int .i64 4,.slice A rs.length c,.int .i64 lo,.int .i64 hi,.slice A' m c'] 25)) w.heap.size #[.int .i64 4,.slice A rs.length c,.int .i64 lo,.int .i64 hi,.slice A' m c'] 25):=qh (Box.new w _ _)
 obtain ⟨b,hb⟩:∃ b,(lo == 0 && hi == 0)=b:=⟨_,rfl⟩
 rw [hb]
 have HC:=qh (fun u=>shonce_any u 4 lo hi A A' rs.length c m c')
 rw [hb] at HC
 obtain ⟨n,hn⟩:∃ n,rs.length=n:=⟨_,rfl⟩
 rw [hn] at G0 X0 HC ⊢
 clear hb hn
 rcases b with _ | _
 ·go_enter Tryz.func42,Tryz.ntmps42
  go_wp2_with fail
  refine (HC.out _).mono ?_
  rintro e w1 ⟨rfl,g1⟩
  have G1:=qh (G0.out.trans g1)
  clear g1
  go_wp2_with fail
  go_ret
  exact ⟨rfl,below_row_none G1.out (Nat.le_refl _)⟩
 ·rcases hn:(n == 0) with _ | _
  ·have hn':((n:Int) == 0)=false:=by simp at hn ⊢;omega
   clear hn
   go_enter Tryz.func42,Tryz.ntmps42
   go_wp2_with fail
   refine (HC.out _).mono ?_
   rintro e w1 ⟨rfl,g1⟩
   have G1:=qh (G0.out.trans g1)
   have q1:w1.cell? ⟨w.heap.size,1,none⟩=some (.slice A n c):=(X0.out.kept g1 (by simp)).cell rfl
   clear g1
   go_wp2_with fail
   go_ret
   exact ⟨rfl,below_row_none G1.out (Nat.le_refl _)⟩
  ·have hn':((n:Int) == 0)=true:=by simpa using hn
   rcases hm:decide (2≤m) with _ | _
   ·have hm':decide ((2:Int)≤(m:Int))=false:=by simp at hm ⊢;omega
    clear hn
    go_enter Tryz.func42,Tryz.ntmps42
    go_wp2_with fail
    refine (HC.out _).mono ?_
    rintro e w1 ⟨rfl,g1⟩
    have G1:=qh (G0.out.trans g1)
    have q1:w1.cell? ⟨w.heap.size,1,none⟩=some (.slice A n c):=(X0.out.kept g1 (by simp)).cell rfl
    clear g1
    go_wp2_with fail
    go_ret
    exact ⟨rfl,below_row_none G1.out (Nat.le_refl _)⟩
   ·have hm':decide ((2:Int)≤(m:Int))=true:=by simp at hm ⊢;omega
    clear hn
    go_enter Tryz.func42,Tryz.ntmps42
    go_wp2_with fail
    refine (HC.out _).mono ?_
    rintro e w1 ⟨rfl,g1⟩
    have G1:=qh (G0.out.trans g1)
    have q1:w1.cell? ⟨w.heap.size,1,none⟩=some (.slice A n c):=(X0.out.kept g1 (by simp)).cell rfl
    clear g1
    go_wp2_with fail
    go_ret
    exact ⟨rfl,below_row_none G1.out (Nat.le_refl _)⟩
theorem fits_repeat (w:World) (lo hi:Int) (A A':Option Addr) (rs:List (Int×Int)) (c m c':Nat) :
 Calls Tryz.prog 42 #[.agg #[.int .i64 5,.slice A rs.length c,.int .i64 lo,.int .i64 hi,.slice A' m c']] w fun e w'=>e=.returned (.bool ((decide (0≤lo) && decide (lo≤20) && (hi == -1 || (decide (lo≤hi) && decide (hi≤20)))) && (rs.length == 0) && (m == 1)))∧Below w.heap.size w w':=by
 have G0:Hid (w.grownBy (w.alloc (.cells #[.int .i64 5,.slice A rs.length c,.int .i64 lo,.int .i64 hi,.slice A' m c'] 25)) none):=qh (grown_new w _ none)
 have X0:Hid (Box (w.alloc (.cells #[.int .i64 5,.slice A rs.length c,.int .i64 lo,.int .i64 hi,.slice A' m c'] 25)) w.heap.size #[.int .i64 5,.slice A rs.length c,.int .i64 lo,.int .i64 hi,.slice A' m c'] 25):=qh (Box.new w _ _)
 obtain ⟨b,hb⟩:∃ b,(decide (0≤lo) && decide (lo≤20) && (hi == -1 || (decide (lo≤hi) && decide (hi≤20))))=b:=⟨_,rfl⟩
 rw [hb]
 have HC:=qh (fun u=>shcounted_any u 5 lo hi A A' rs.length c m c')
 rw [hb] at HC
 obtain ⟨n,hn⟩:∃ n,rs.length=n:=⟨_,rfl⟩
 rw [hn] at G0 X0 HC ⊢
 clear hb hn
 rcases b with _ | _
 ·go_enter Tryz.func42,Tryz.ntmps42
  go_wp2_with fail
  refine (HC.out _).mono ?_
  rintro e w1 ⟨rfl,g1⟩
  have G1:=qh (G0.out.trans g1)
  clear g1
  go_wp2_with fail
  go_ret
  exact ⟨rfl,below_row_none G1.out (Nat.le_refl _)⟩
 ·rcases hn:(n == 0) with _ | _
  ·have hn':((n:Int) == 0)=false:=by simp at hn ⊢;omega
   clear hn
   go_enter Tryz.func42,Tryz.ntmps42
   go_wp2_with fail
   refine (HC.out _).mono ?_
   rintro e w1 ⟨rfl,g1⟩
   have G1:=qh (G0.out.trans g1)
   have q1:w1.cell? ⟨w.heap.size,1,none⟩=some (.slice A n c):=(X0.out.kept g1 (by simp)).cell rfl
   clear g1
   go_wp2_with fail
   go_ret
   exact ⟨rfl,below_row_none G1.out (Nat.le_refl _)⟩
  ·have hn':((n:Int) == 0)=true:=by simpa using hn
   rcases hm:(m == 1) with _ | _
   ·have hm':((m:Int) == 1)=false:=by simp at hm ⊢;omega
    clear hn
    go_enter Tryz.func42,Tryz.ntmps42
    go_wp2_with fail
    refine (HC.out _).mono ?_
    rintro e w1 ⟨rfl,g1⟩
    have G1:=qh (G0.out.trans g1)
    have q1:w1.cell? ⟨w.heap.size,1,none⟩=some (.slice A n c):=(X0.out.kept g1 (by simp)).cell rfl
    clear g1
    go_wp2_with fail
    go_ret
    exact ⟨rfl,below_row_none G1.out (Nat.le_refl _)⟩
   ·have hm':((m:Int) == 1)=true:=by simp at hm ⊢;omega
    clear hn
    go_enter Tryz.func42,Tryz.ntmps42
    go_wp2_with fail
    refine (HC.out _).mono ?_
    rintro e w1 ⟨rfl,g1⟩
    have G1:=qh (G0.out.trans g1)
    have q1:w1.cell? ⟨w.heap.size,1,none⟩=some (.slice A n c):=(X0.out.kept g1 (by simp)).cell rfl
    clear g1
    go_wp2_with fail
    go_ret
    exact ⟨rfl,below_row_none G1.out (Nat.le_refl _)⟩
theorem fits_none (w:World) (k:Int) (lo hi:Int) (A A':Option Addr) (rs:List (Int×Int)) (c m c':Nat) (h:¬ (k=1∨k=2∨k=3∨k=4∨k=5∨k=6∨k=7)) :
 Calls Tryz.prog 42 #[.agg #[.int .i64 k,.slice A rs.length c,.int .i64 lo,.int .i64 hi,.slice A' m c']] w fun e w'=>e=.returned (.bool false)∧Below w.heap.size w w':=by
 have G0:Hid (w.grownBy (w.alloc (.cells #[.int .i64 k,.slice A rs.length c,.int .i64 lo,.int .i64 hi,.slice A' m c'] 25)) none):=qh (grown_new w _ none)
 have X0:Hid (Box (w.alloc (.cells #[.int .i64 k,.slice A rs.length c,.int .i64 lo,.int .i64 hi,.slice A' m c'] 25)) w.heap.size #[.int .i64 k,.slice A rs.length c,.int .i64 lo,.int .i64 hi,.slice A' m c'] 25):=qh (Box.new w _ _)
 have e1:(k == 1)=false:=by simp;omega
 have e6:(k == 6)=false:=by simp;omega
 have e7:(k == 7)=false:=by simp;omega
 have e2:(k == 2)=false:=by simp;omega
 have e3:(k == 3)=false:=by simp;omega
 have e4:(k == 4)=false:=by simp;omega
 have e5:(k == 5)=false:=by simp;omega
 clear h X0
 go_enter Tryz.func42,Tryz.ntmps42
 go_wp2_with fail
 go_ret
 exact ⟨rfl,below_row_none G0.out (Nat.le_refl _)⟩
theorem fits_set (w:World) (lo hi:Int) (A A':Option Addr) (rs:List (Int×Int)) (c m c':Nat) (h:Lies w w.heap.size A (prC rs)) (hl:rs.length≤9223372036854775807) :
 Calls Tryz.prog 42 #[.agg #[.int .i64 2,.slice A rs.length c,.int .i64 lo,.int .i64 hi,.slice A' m c']] w fun e w'=>e=.returned (.bool ((lo == 0 && hi == 0) && decide (rs=setR rs) && (m == 0)))∧Below w.heap.size w w':=by
 have G0:Hid (w.grownBy (w.alloc (.cells #[.int .i64 2,.slice A rs.length c,.int .i64 lo,.int .i64 hi,.slice A' m c'] 25)) none):=qh (grown_new w _ none)
 have X0:Hid (Box (w.alloc (.cells #[.int .i64 2,.slice A rs.length c,.int .i64 lo,.int .i64 hi,.slice A' m c'] 25)) w.heap.size #[.int .i64 2,.slice A rs.length c,.int .i64 lo,.int .i64 hi,.slice A' m c'] 25):=qh (Box.new w _ _)
 have HLL:=qh hl
 obtain ⟨b,hb⟩:∃ b,(lo == 0 && hi == 0)=b:=⟨_,rfl⟩
 obtain ⟨r,hr⟩:∃ r,decide (rs=setR rs)=r:=⟨_,rfl⟩
 have HC:=qh (fun u=>shonce_any u 2 lo hi A A' rs.length c m c')
 rw [hb] at HC
 rw [hb,hr]
 have HR:=qh hr
 have HS:Hid (∀ u,Box u w.heap.size #[.int .i64 2,.slice A rs.length c,.int .i64 lo,.int .i64 hi,.slice A' m c'] 25→(fun w'=>w'.cell? ⟨w.heap.size,0,none⟩=some (.int .i64 2)∧w'.cell? ⟨w.heap.size,1,none⟩=some (.slice A rs.length c)∧w'.cell? ⟨w.heap.size,2,none⟩=some (.int .i64 lo)∧w'.cell? ⟨w.heap.size,3,none⟩=some (.int .i64 hi)∧w'.cell? ⟨w.heap.size,4,none⟩=some (.slice A' m c')) u):=qh fun u x=>⟨x.cell rfl,x.cell rfl,x.cell rfl,x.cell rfl,x.cell rfl⟩
 have h0:Hid (∀ u,w.grownBy u none→Lies u u.heap.size A (prC rs)):=qh fun u g=>h.up (below_row_none g (Nat.le_refl _))
 have h1:Hid (∀ u,Below w.heap.size w u→Lies u u.heap.size A (prC rs)):=qh fun u g=>h.up g
 clear hb hr h hl
 rcases b with _ | _
 ·go_enter Tryz.func42,Tryz.ntmps42
  go_wp2_with fail
  refine wp_region_held_drew (S:=fun w'=>w'.cell? ⟨w.heap.size,0,none⟩=some (.int .i64 2)∧w'.cell? ⟨w.heap.size,1,none⟩=some (.slice A rs.length c)∧w'.cell? ⟨w.heap.size,2,none⟩=some (.int .i64 lo)∧w'.cell? ⟨w.heap.size,3,none⟩=some (.int .i64 hi)∧w'.cell? ⟨w.heap.size,4,none⟩=some (.slice A' m c')) (by kernel_rfl) (HS.out _ (by exact X0.out.same rfl)) (fun hHeld=>?_)
  refine' hY 0 ?_
  try simp only [Act.put,ZA,ZB,ZD,ZE,ZF]
  refine hA 1 fun K hK=>?_
  go_simp
  refine (HC.out _).mono ?_
  rintro e w1 ⟨rfl,g1⟩
  have G1:Hid (w.grownBy w1 none):=qh (World.grownBy.trans (by exact grown_draw G0.out) g1)
  have X1:Hid (Box w1 w.heap.size #[.int .i64 2,.slice A rs.length c,.int .i64 lo,.int .i64 hi,.slice A' m c'] 25):=qh (Box.kept (by exact X0.out.same rfl) g1 (by simp))
  clear g1
  go_wp2_with fail
  refine hK.out _ _ (by exact HS.out _ (by exact X1.out.same rfl)) (fun hHeld=>?_)
  clear hK K
  try simp only [Act.put,ZA,ZB,ZC,ZD,ZE,ZF]
  refine' hY 2 ?_
  try simp only [Act.put,ZA,ZB,ZC,ZD,ZE,ZF]
  refine' hN 3 ?_
  try simp only [Act.put,ZA,ZB,ZC,ZD,ZE,ZF]
  refine' hN 4 ?_
  try simp only [Act.put,ZA,ZB,ZC,ZD,ZE,ZF]
  refine' hN 5 ?_
  try simp only [Act.put,ZA,ZB,ZC,ZD,ZE,ZF]
  refine' hN 6 ?_
  try simp only [Act.put,ZA,ZB,ZC,ZD,ZE,ZF]
  refine' hN 7 ?_
  try simp only [Act.put,ZA,ZB,ZC,ZD,ZE,ZF]
  refine' hN 8 ?_
  try simp only [Act.put,ZA,ZB,ZC,ZD,ZE,ZF]
  refine' hY 9 ?_
  try simp only [Act.put,ZA,ZB,ZC,ZD,ZE,ZF]
  refine' hY 10 ?_
  try simp only [Act.put,ZA,ZB,ZC,ZD,ZE,ZF]
  refine' hN 11 ?_
  try simp only [Act.put,ZA,ZB,ZC,ZD,ZE,ZF]
  refine' hN 12 ?_
  try simp only [Act.put,ZA,ZB,ZC,ZD,ZE,ZF]
  refine' hY 13 ?_
  try simp only [Act.put,ZA,ZB,ZC,ZD,ZE,ZF]
  refine' hY 14 ?_
  try simp only [Act.put,ZA,ZB,ZC,ZD,ZE,ZF]
  refine wpAnyH_done (by kernel_rfl) ?_ _
  go_wp2_with fail
  go_ret
  exact ⟨rfl,by exact below_row_none (G1.out) (Nat.le_refl _)⟩
 ·rcases hm:(m == 0) with _ | _
  ·have hm':((m:Int) == 0)=false:=by simp at hm ⊢;omega
   go_enter Tryz.func42,Tryz.ntmps42
   go_wp2_with fail
   refine wp_region_held_drew (S:=fun w'=>w'.cell? ⟨w.heap.size,0,none⟩=some (.int .i64 2)∧w'.cell? ⟨w.heap.size,1,none⟩=some (.slice A rs.length c)∧w'.cell? ⟨w.heap.size,2,none⟩=some (.int .i64 lo)∧w'.cell? ⟨w.heap.size,3,none⟩=some (.int .i64 hi)∧w'.cell? ⟨w.heap.size,4,none⟩=some (.slice A' m c')) (by kernel_rfl) (HS.out _ (by exact X0.out.same rfl)) (fun hHeld=>?_)
   refine' hY 0 ?_
   try simp only [Act.put,ZA,ZB,ZD,ZE,ZF]
   refine hA 1 fun K hK=>?_
   go_simp
   refine (HC.out _).mono ?_
   rintro e w1 ⟨rfl,g1⟩
   have G1:Hid (w.grownBy w1 none):=qh (World.grownBy.trans (by exact grown_draw G0.out) g1)
   have X1:Hid (Box w1 w.heap.size #[.int .i64 2,.slice A rs.length c,.int .i64 lo,.int .i64 hi,.slice A' m c'] 25):=qh (Box.kept (by exact X0.out.same rfl) g1 (by simp))
   clear g1
   go_wp2_with fail
   refine hK.out _ _ (by exact HS.out _ (by exact X1.out.same rfl)) (fun hHeld=>?_)
   clear hK K
   try simp only [Act.put,ZA,ZB,ZC,ZD,ZE,ZF]
   refine' hY 2 ?_
   try simp only [Act.put,ZA,ZB,ZC,ZD,ZE,ZF]
   refine' hY 3 ?_
   try simp only [Act.put,ZA,ZB,ZC,ZD,ZE,ZF]
   refine' hY 4 ?_
   try simp only [Act.put,ZA,ZB,ZC,ZD,ZE,ZF]
   refine' hY 5 ?_
   try simp only [Act.put,ZA,ZB,ZC,ZD,ZE,ZF]
   refine' hY 6 ?_
   try simp only [Act.put,ZA,ZB,ZC,ZD,ZE,ZF]
   refine hA 7 fun K hK=>?_
   go_simp
   refine (trset_any _ A rs c (by exact h0.out _ (G1.out))).mono ?_
   rintro e w2 ⟨v2,rfl,o2,b2⟩
   obtain ⟨A2,c2,rfl,l2,-,-⟩:=o2.form
   have B2:Hid (Below w.heap.size w w2):=qh (below_then (by exact below_row_none (G1.out) (Nat.le_refl _)) b2)
   have X2:Hid (Box w2 w.heap.size #[.int .i64 2,.slice A rs.length c,.int .i64 lo,.int .i64 hi,.slice A' m c'] 25):=qh (Box.below (by exact X1.out.same rfl) b2 (by exact X1.out.lt))
   have L2:=qh l2
   clear o2 b2 l2
   go_wp2_with fail
   refine hK.out _ _ (by exact HS.out _ (by exact X2.out.same rfl)) (fun hHeld=>?_)
   clear hK K
   try simp only [Act.put,ZA,ZB,ZC,ZD,ZE,ZF]
   refine hA 8 fun K hK=>?_
   go_simp
   refine (equalrg_any _ _ _ A A2 rs (setR rs) c c2 (by exact h1.out _ B2.out) (by exact L2.out) HLL.out).mono ?_
   rintro e w3 ⟨rfl,g3⟩
   rw [HR.out]
   have B3:Hid (Below w.heap.size w w3):=qh (below_then B2.out (by exact below_row_none g3 (Nat.le_refl _)))
   have X3:Hid (Box w3 w.heap.size #[.int .i64 2,.slice A rs.length c,.int .i64 lo,.int .i64 hi,.slice A' m c'] 25):=qh (Box.kept (by exact X2.out.same rfl) g3 (by simp))
   clear g3
   go_wp2_with fail
   refine hK.out _ _ (by exact HS.out _ (by exact X3.out.same rfl)) (fun hHeld=>?_)
   clear hK K
   try simp only [Act.put,ZA,ZB,ZC,ZD,ZE,ZF]
   rcases r with _ | _
   ·skip
    refine' hY 9 ?_
    try simp only [Act.put,ZA,ZB,ZC,ZD,ZE,ZF]
    refine' hY 10 ?_
    try simp only [Act.put,ZA,ZB,ZC,ZD,ZE,ZF]
    refine' hN 11 ?_
    try simp only [Act.put,ZA,ZB,ZC,ZD,ZE,ZF]
    refine' hN 12 ?_
    try simp only [Act.put,ZA,ZB,ZC,ZD,ZE,ZF]
    refine' hY 13 ?_
    try simp only [Act.put,ZA,ZB,ZC,ZD,ZE,ZF]
    refine' hY 14 ?_
    try simp only [Act.put,ZA,ZB,ZC,ZD,ZE,ZF]
    refine wpAnyH_done (by kernel_rfl) ?_ _
    go_wp2_with fail
    go_ret
    exact ⟨rfl,B3.out⟩
   ·skip
    refine' hY 9 ?_
    try simp only [Act.put,ZA,ZB,ZC,ZD,ZE,ZF]
    refine' hY 10 ?_
    try simp only [Act.put,ZA,ZB,ZC,ZD,ZE,ZF]
    refine' hY 11 ?_
    try simp only [Act.put,ZA,ZB,ZC,ZD,ZE,ZF]
    refine' hY 12 ?_
    try simp only [Act.put,ZA,ZB,ZC,ZD,ZE,ZF]
    refine' hY 13 ?_
    try simp only [Act.put,ZA,ZB,ZC,ZD,ZE,ZF]
    refine' hY 14 ?_
    try simp only [Act.put,ZA,ZB,ZC,ZD,ZE,ZF]
    refine wpAnyH_done (by kernel_rfl) ?_ _
    go_wp2_with fail
    go_ret
    exact ⟨rfl,B3.out⟩
  ·have hm':((m:Int) == 0)=true:=by simpa using hm
   go_enter Tryz.func42,Tryz.ntmps42
   go_wp2_with fail
   refine wp_region_held_drew (S:=fun w'=>w'.cell? ⟨w.heap.size,0,none⟩=some (.int .i64 2)∧w'.cell? ⟨w.heap.size,1,none⟩=some (.slice A rs.length c)∧w'.cell? ⟨w.heap.size,2,none⟩=some (.int .i64 lo)∧w'.cell? ⟨w.heap.size,3,none⟩=some (.int .i64 hi)∧w'.cell? ⟨w.heap.size,4,none⟩=some (.slice A' m c')) (by kernel_rfl) (HS.out _ (by exact X0.out.same rfl)) (fun hHeld=>?_)
   refine' hY 0 ?_
   try simp only [Act.put,ZA,ZB,ZD,ZE,ZF]
   refine hA 1 fun K hK=>?_
   go_simp
   refine (HC.out _).mono ?_
   rintro e w1 ⟨rfl,g1⟩
   have G1:Hid (w.grownBy w1 none):=qh (World.grownBy.trans (by exact grown_draw G0.out) g1)
   have X1:Hid (Box w1 w.heap.size #[.int .i64 2,.slice A rs.length c,.int .i64 lo,.int .i64 hi,.slice A' m c'] 25):=qh (Box.kept (by exact X0.out.same rfl) g1 (by simp))
   clear g1
   go_wp2_with fail
   refine hK.out _ _ (by exact HS.out _ (by exact X1.out.same rfl)) (fun hHeld=>?_)
   clear hK K
   try simp only [Act.put,ZA,ZB,ZC,ZD,ZE,ZF]
   refine' hY 2 ?_
   try simp only [Act.put,ZA,ZB,ZC,ZD,ZE,ZF]
   refine' hY 3 ?_
   try simp only [Act.put,ZA,ZB,ZC,ZD,ZE,ZF]
   refine' hY 4 ?_
   try simp only [Act.put,ZA,ZB,ZC,ZD,ZE,ZF]
   refine' hY 5 ?_
   try simp only [Act.put,ZA,ZB,ZC,ZD,ZE,ZF]
   refine' hY 6 ?_
   try simp only [Act.put,ZA,ZB,ZC,ZD,ZE,ZF]
   refine hA 7 fun K hK=>?_
   go_simp
   refine (trset_any _ A rs c (by exact h0.out _ (G1.out))).mono ?_
   rintro e w2 ⟨v2,rfl,o2,b2⟩
   obtain ⟨A2,c2,rfl,l2,-,-⟩:=o2.form
   have B2:Hid (Below w.heap.size w w2):=qh (below_then (by exact below_row_none (G1.out) (Nat.le_refl _)) b2)
   have X2:Hid (Box w2 w.heap.size #[.int .i64 2,.slice A rs.length c,.int .i64 lo,.int .i64 hi,.slice A' m c'] 25):=qh (Box.below (by exact X1.out.same rfl) b2 (by exact X1.out.lt))
   have L2:=qh l2
   clear o2 b2 l2
   go_wp2_with fail
   refine hK.out _ _ (by exact HS.out _ (by exact X2.out.same rfl)) (fun hHeld=>?_)
   clear hK K
   try simp only [Act.put,ZA,ZB,ZC,ZD,ZE,ZF]
   refine hA 8 fun K hK=>?_
   go_simp
   refine (equalrg_any _ _ _ A A2 rs (setR rs) c c2 (by exact h1.out _ B2.out) (by exact L2.out) HLL.out).mono ?_
   rintro e w3 ⟨rfl,g3⟩
   rw [HR.out]
   have B3:Hid (Below w.heap.size w w3):=qh (below_then B2.out (by exact below_row_none g3 (Nat.le_refl _)))
   have X3:Hid (Box w3 w.heap.size #[.int .i64 2,.slice A rs.length c,.int .i64 lo,.int .i64 hi,.slice A' m c'] 25):=qh (Box.kept (by exact X2.out.same rfl) g3 (by simp))
   clear g3
   go_wp2_with fail
   refine hK.out _ _ (by exact HS.out _ (by exact X3.out.same rfl)) (fun hHeld=>?_)
   clear hK K
   try simp only [Act.put,ZA,ZB,ZC,ZD,ZE,ZF]
   rcases r with _ | _
   ·skip
    refine' hY 9 ?_
    try simp only [Act.put,ZA,ZB,ZC,ZD,ZE,ZF]
    refine' hY 10 ?_
    try simp only [Act.put,ZA,ZB,ZC,ZD,ZE,ZF]
    refine' hN 11 ?_
    try simp only [Act.put,ZA,ZB,ZC,ZD,ZE,ZF]
    refine' hN 12 ?_
    try simp only [Act.put,ZA,ZB,ZC,ZD,ZE,ZF]
    refine' hY 13 ?_
    try simp only [Act.put,ZA,ZB,ZC,ZD,ZE,ZF]
    refine' hY 14 ?_
    try simp only [Act.put,ZA,ZB,ZC,ZD,ZE,ZF]
    refine wpAnyH_done (by kernel_rfl) ?_ _
    go_wp2_with fail
    go_ret
    exact ⟨rfl,B3.out⟩
   ·skip
    refine' hY 9 ?_
    try simp only [Act.put,ZA,ZB,ZC,ZD,ZE,ZF]
    refine' hY 10 ?_
    try simp only [Act.put,ZA,ZB,ZC,ZD,ZE,ZF]
    refine' hY 11 ?_
    try simp only [Act.put,ZA,ZB,ZC,ZD,ZE,ZF]
    refine' hY 12 ?_
    try simp only [Act.put,ZA,ZB,ZC,ZD,ZE,ZF]
    refine' hY 13 ?_
    try simp only [Act.put,ZA,ZB,ZC,ZD,ZE,ZF]
    refine' hY 14 ?_
    try simp only [Act.put,ZA,ZB,ZC,ZD,ZE,ZF]
    refine wpAnyH_done (by kernel_rfl) ?_ _
    go_wp2_with fail
    go_ret
    exact ⟨rfl,B3.out⟩
end
section
open Go.RowKit
theorem index_any (w:World) (B:Nat) (A:Option Addr) (l:List Int) (c:Nat) (x:Int) (h:Lies w B A (ints .i64 l)) (hl:l.length≤1000) :
 Calls Tryz.prog 71 #[.slice A l.length c,.int .i64 x] w fun e w'=>∃ i:Int,e=.returned (.int .i64 i)∧decide (0≤i)=l.contains x∧w=w':=by
 have H:=qh h
 clear h
 go_enter Tryz.func71,Tryz.ntmps71
 go_wp2_with fail
 go_loopw [8] (fun iv wr=>∃ k:Nat,k≤l.length∧iv=.int .i64 k∧Hid ((l.take k).contains x=false)∧wr=w) (fun iv _=>l.length - (intOf iv).toNat)
 case atStart=>exact ⟨0,by omega,rfl,qh rfl,rfl⟩
 case round =>
  obtain ⟨k,hk,rfl,HN,rfl⟩:=hrel
  by_cases hlt:k < l.length
  ·obtain ⟨p,rfl,-,hc⟩:=H.out.int hlt
   have k0:(0:Int)≤(k:Int):=by omega
   have k1:(k:Int) < (l.length:Int):=by omega
   have HS:Hid ((l.take (k+1)).contains x=(x == l[k])):=qh (by rw [List.take_succ_eq_append_getElem hlt,List.contains_append,HN.out];simp;rfl)
   have HM:Hid ((x == l[k])=true→l.contains x=true):=qh (fun h1=>by rw [eq_of_beq h1];simp)
   obtain ⟨y,hy⟩:∃ y,l[k]=y:=⟨_,rfl⟩
   rw [hy] at hc HS HM
   clear hy
   rcases hz:(x == y) with _ | _
   ·rw [hz] at HS
    go_wp2_with fail
    go_roundw
    case rel=>exact ⟨k+1,by omega,by go_num,HS,trivial⟩
    case measure=>simp [intOf];omega
   ·have HT:=qh (HM.out hz)
    go_wp2_with fail
    go_ret
    exact ⟨(k:Int),rfl,by rw [HT.out];exact decide_eq_true k0,rfl⟩
  ·obtain rfl:k=l.length:=by omega
   have hzf:l.contains x=false:=by have:=HN.out;rwa [List.take_length] at this
   have HZ:=qh hzf
   clear hzf
   go_wp2_with fail
   go_ret
   exact ⟨-1,rfl,by rw [HZ.out];rfl,rfl⟩
theorem contains_any (w:World) (B:Nat) (A:Option Addr) (l:List Int) (c:Nat) (x:Int) (h:Lies w B A (ints .i64 l)) (hl:l.length≤1000) :
 Calls Tryz.prog 49 #[.slice A l.length c,.int .i64 x] w fun e w'=>e=.returned (.bool (l.contains x))∧w=w':=by
 have H:=qh (index_any w B A l c x h hl)
 obtain ⟨z,hz⟩:∃ z,l.contains x=z:=⟨_,rfl⟩
 rw [hz] at H ⊢
 clear h hl hz
 go_enter Tryz.func49,Tryz.ntmps49
 go_wp2_with fail
 refine H.out.mono ?_
 rintro e w1 ⟨i,rfl,hi,rfl⟩
 go_wp2_with fail
 go_ret
 exact ⟨rfl,rfl⟩
theorem isof_any (w:World) (t:Tok) (B:Nat) (A:Option Addr) (l:List Int) (c:Nat) (h:Lies w B A (ints .i64 l)) (hl:l.length≤1000) (hB:B≤w.heap.size) :
 Calls Tryz.prog 54 #[.agg t.arr,.slice A l.length c] w fun e w'=>e=.returned (.bool (l.contains t.k))∧w.grownBy w' none:=by
 have H:=qh (contains_any (w.alloc (.cells t.arr 56)) B A l c t.k (h.alloc hB _) hl)
 obtain ⟨z,hz⟩:∃ z,l.contains t.k=z:=⟨_,rfl⟩
 rw [hz] at H ⊢
 clear h hl hz
 go_enter Tryz.func54,Tryz.ntmps54
 go_wp2_with fail
 refine H.out.mono ?_
 rintro e w1 ⟨rfl,rfl⟩
 go_wp2_with fail
 go_ret
 exact ⟨rfl,grown_new w _ none⟩
theorem tok_lies {w:World} {b:Nat} {A:Option Addr} {t:Tok} {R:List Tok} (h:Lies w b A (tokCells (t :: R))):∃ g off,A=some ⟨g,off,none⟩∧g < b∧w.cell? ⟨g,off,none⟩=some (.int .i64 t.k)∧w.cell? ⟨g,off+1,none⟩=some (.int .i64 t.c)∧w.cell? ⟨g,off+2,none⟩=some (.int .i64 t.lo)∧w.cell? ⟨g,off+3,none⟩=some (.int .i64 t.hi)∧w.cell? ⟨g,off+4,none⟩=some (.int .i64 t.pos)∧Lies w b (some ⟨g,off+5,none⟩) (tokCells R):=by
 have e:tokCells (t :: R)=t.arr.toList++tokCells R:=by rw [show t :: R=[t]++R from rfl,tokCells_append,tokCells_one]
 rw [e] at h
 obtain ⟨g,off,hA,hg,hc⟩:=Lies.plain h (by simp)
 have hcell:∀ i u,(t.arr.toList++tokCells R)[i]?=some u→w.cell? ⟨g,off+i,none⟩=some u:=fun i u hu=>by
  obtain ⟨hlt,rfl⟩:=List.getElem?_eq_some_iff.1 hu
  exact hc i hlt
 refine ⟨g,off,hA,hg,hcell 0 _ rfl,hcell 1 _ rfl,hcell 2 _ rfl,hcell 3 _ rfl,hcell 4 _ rfl,fun hn=>⟨_,rfl,hg,fun i u hu=>?_⟩⟩
 rw [add_plain,Nat.add_assoc]
 refine hcell (5+i) u ?_
 rw [List.getElem?_append_right (by simp),show 5+i - t.arr.toList.length=i by simp]
 exact hu
theorem sees_any (w:World) (b:Nat) (T:List Tok) (f:Int) (B:Nat) (A:Option Addr) (l:List Int) (c:Nat) (hR:IsT w b T f) (h:Lies w B A (ints .i64 l)) (hl:l.length≤1000) (hB:B≤w.heap.size) :
 Calls Tryz.prog 76 #[.pointer (some ⟨b,0,none⟩),.slice A l.length c] w fun e w'=>e=.returned (.bool (kindIs T l))∧w.grownBy w' none:=by
 obtain ⟨A1,c1,hb,ht,hc⟩:=hR.box
 have b0:=(hb.cell (i:=0) rfl:w.cell? ⟨b,0,none⟩=some (.slice A1 T.length c1))
 rcases T with _ | ⟨t,R⟩
 ·clear ht hb hR h
  go_enter Tryz.func76,Tryz.ntmps76
  go_wp2_with fail
  go_ret
  exact ⟨rfl,grown_refl w none⟩
 ·obtain ⟨g,off,rfl,hg,t0,t1,t2,t3,t4,-⟩:=tok_lies ht
  have H:=qh (isof_any w t B A l c h hl hB)
  have HK:Hid (kindIs (t :: R) l=l.contains t.k):=qh rfl
  rw [HK.out]
  obtain ⟨z,hz⟩:∃ z,l.contains t.k=z:=⟨_,rfl⟩
  rw [hz] at H ⊢
  have d0:decide (0 < (((t :: R).length:Nat):Int))=true:=decide_eq_true (by simp)
  have d1:(0:Int) < (((t :: R).length:Nat):Int):=by simp
  obtain ⟨n,hn⟩:∃ n,(t :: R).length=n:=⟨_,rfl⟩
  rw [hn] at d0 d1 b0
  clear ht hb hR h hz hc HK hn
  go_enter Tryz.func76,Tryz.ntmps76
  go_wp2_with fail
  refine H.out.mono ?_
  rintro e w1 ⟨rfl,g1⟩
  have G1:=qh g1
  clear g1
  go_wp2_with fail
  go_ret
  exact ⟨rfl,G1.out⟩
end
section
open Go.RowKit
theorem tokensInfo:(Tryz.prog.info? 47).map (·.size)=some 1:=by kernel_rfl
theorem next_any (w:World) (b:Nat) (t:Tok) (R:List Tok) (f:Int) (hR:IsT w b (t :: R) f) :
 Calls Tryz.prog 78 #[.pointer (some ⟨b,0,none⟩)] w fun e w'=>e=.returned (.agg t.arr)∧IsT w' b R f∧w.grownBy w' (some b):=by
 have hl:R.length≤1000:=by have:=hR.few;simp at this;omega
 obtain ⟨A1,c1,hb,ht,hc⟩:=hR.box
 obtain ⟨g,off,rfl,hg,t0,t1,t2,t3,t4,hrest⟩:=tok_lies ht
 have hlt:=hb.lt
 obtain ⟨w0,hw0⟩:∃ u,w.alloc (.cells #[.int .i64 0,.int .i64 0,.int .i64 0,.int .i64 0,.int .i64 0] 56)=u:=⟨_,rfl⟩
 have G0:w.grownBy w0 none:=hw0▸grown_new w _ none
 have Z0:w0.heap.size=w.heap.size+1:=by rw [← hw0];simp
 have X0:Hid (Box w0 w.heap.size noTok.arr 56):=qh (hw0▸Box.new w _ _)
 obtain ⟨w1,hw1⟩:∃ u,w0.alloc (.cells #[.int .i64 t.k,.int .i64 t.c,.int .i64 t.lo,.int .i64 t.hi,.int .i64 t.pos] 56)=u:=⟨_,rfl⟩
 have G1:w0.grownBy w1 none:=hw1▸grown_new w0 _ none
 have X1:Hid (Box w1 (w.heap.size+1) t.arr 56):=qh (by rw [← hw1,← Z0];exact Box.new w0 _ _)
 have Y1:Hid (Box w1 w.heap.size noTok.arr 56):=qh (X0.out.kept G1 (by simp))
 have b0:=((hb.kept G0 (by simp)).cell (i:=0) rfl:w0.cell? ⟨b,0,none⟩=some (.slice (some ⟨g,off,none⟩) (t :: R).length c1))
 have hb1:=(hb.kept G0 (by simp)).kept G1 (by simp)
 have b1:=(hb1.cell (i:=0) rfl:w1.cell? ⟨b,0,none⟩=some (.slice (some ⟨g,off,none⟩) (t :: R).length c1))
 have hkeep:∀ i,w0.cell? ⟨g,i,none⟩=w.cell? ⟨g,i,none⟩:=fun i=>World.cell?_of_block (a:=⟨g,i,none⟩) (G0.block g (by omega) (by simp))
 rw [← hkeep] at t0 t1 t2 t3 t4
 have HB1:=qh hb1
 have HG:=qh (G0.trans G1)
 have HREST:=qh hrest
 have hn:(t :: R).length=R.length+1:=rfl
 rw [hn] at b0 b1 hc HB1
 obtain ⟨n,hnn⟩:∃ n,R.length=n:=⟨_,rfl⟩
 have HN:=qh hnn
 rw [hnn] at b0 b1 hc HB1 hl
 have p0:(0:Int) < ((n:Int)+1):=by omega
 have p1:(0:Int) < ((n+1:Nat):Int):=by omega
 have HLT:=qh hlt
 have HFIN:Hid (∀ w3,w.grownBy w3 (some b)→Box w3 b #[.slice (if c1=1 then some ⟨g,off,none⟩ else some ⟨g,off+5,none⟩) n (c1 - 1),.int .i64 f] 72→IsT w3 b R f):=qh fun w3 g3 h3=>by
  refine ⟨⟨_,_,by rw [hnn];exact h3,?_,by omega⟩,by omega⟩
  split
  ·have:R=[]:=List.eq_nil_of_length_eq_zero (by omega)
   subst this
   exact Lies.empty
  ·exact hrest.same fun q hq=>World.cell?_of_block (g3.block q.block (by omega) (fun e=>by injection e with e;omega))
 subst hw1
 subst hw0
 clear G0 G1 hb hR ht hrest hb1 hkeep hnn hn hg hlt Z0
 go_enter Tryz.func78,Tryz.ntmps78
 go_wp2_with (first
  | (refine store_in _ _ _ b 0 (.slice (if c1=1 then some ⟨g,off,none⟩ else some ⟨g,off+5,none⟩) n (c1 - 1)) _ rfl rfl rfl tokensInfo rfl rfl rfl HB1.out (by simp) (by simp [maxLen]) ?_;intro w2 h2 g2;have H2:Hid (Box w2 b #[.slice (if c1=1 then some ⟨g,off,none⟩ else some ⟨g,off+5,none⟩) n (c1 - 1),.int .i64 f] 72):=qh h2;have X2:=qh (X1.out.kept g2 (by have:=HLT.out;simp;omega));have Y2:=qh (Y1.out.kept g2 (by have:=HLT.out;simp;omega));have G2:=qh ((grownBy_none HG.out (some b)).trans g2);clear h2 g2)
  | (refine load_box _ (w.heap.size+1) _ _ rfl rfl rfl X2.out Tryz.underlying56 rfl (tokInfo _) ?_)
  | (refine store_tok w2 _ _ w.heap.size noTok t rfl rfl rfl rfl rfl Y2.out ?_;intro w3 x3 g3;have X3:=qh x3;have H3:=qh (H2.out.kept g3 (by have:=HLT.out;simp;omega));have G3:=qh (grown_two G2.out g3 (Nat.le_refl _));clear x3 g3)
  | fail)
 (try simp only [Exit.inBlock,Exit.then])
 all_goals exact bodyPost_ret (v:=.agg t.arr) (ret_tok rfl _ _ w.heap.size _ rfl X3.out) rfl ⟨rfl,HFIN.out _ G3.out H3.out,G3.out⟩
theorem kindIs_tail {T:List Tok} {l:List Int} (h:kindIs T l=true):∃ t R,T=t :: R∧dropIs T l=R:=by
 rcases T with _ | ⟨t,R⟩
 ·cases h
 ·exact ⟨t,R,rfl,by unfold dropIs;rw [if_pos h];rfl⟩
theorem takes_any (w:World) (b:Nat) (T:List Tok) (f:Int) (B:Nat) (A:Option Addr) (l:List Int) (c:Nat) (hR:IsT w b T f) (h:Lies w B A (ints .i64 l)) (hl:l.length≤1000) (hB:B≤w.heap.size) :
 Calls Tryz.prog 56 #[.pointer (some ⟨b,0,none⟩),.slice A l.length c] w fun e w'=>e=.returned (.bool (kindIs T l))∧IsT w' b (dropIs T l) f∧w.grownBy w' (some b):=by
 have HS:=qh (sees_any w b T f B A l c hR h hl hB)
 obtain ⟨z,hz⟩:∃ z,kindIs T l=z:=⟨_,rfl⟩
 have HZ:=qh hz
 rw [hz] at HS ⊢
 have HR:=qh hR
 clear hz hR h hl hB
 cases z
 ·have HD:Hid (dropIs T l=T):=qh (by unfold dropIs;rw [HZ.out];rfl)
  go_enter Tryz.func56,Tryz.ntmps56
  go_wp2_with fail
  refine HS.out.mono ?_
  rintro e w1 ⟨rfl,g1⟩
  have G1:=qh g1
  clear g1
  go_wp2_with fail
  go_ret
  exact ⟨rfl,by rw [HD.out];exact HR.out.up G1.out,grownBy_none G1.out _⟩
 ·obtain ⟨t,R,hT,hD⟩:=kindIs_tail HZ.out
  have HD:=qh hD
  have HR2:Hid (∀ u,w.grownBy u none→Calls Tryz.prog 78 #[.pointer (some ⟨b,0,none⟩)] u fun e w'=>e=.returned (.agg t.arr)∧IsT w' b R f∧u.grownBy w' (some b)) :=
   qh fun u hu=>next_any u b t R f (hT▸HR.out.up hu)
  clear hT hD
  go_enter Tryz.func56,Tryz.ntmps56
  go_wp2_with fail
  refine HS.out.mono ?_
  rintro e w1 ⟨rfl,g1⟩
  have G1:=qh g1
  clear g1
  go_wp2_with fail
  refine (HR2.out w1 G1.out).mono ?_
  rintro e w2 ⟨rfl,r2,g2⟩
  have R2:=qh r2
  have G2:=qh ((grownBy_none G1.out (some b)).trans g2)
  clear r2 g2
  go_wp2_with fail
  go_ret
  exact ⟨rfl,by rw [HD.out];exact R2.out,G2.out⟩
end
end Go.Proofs.YtoeocodfndbebaaGreatDoor
