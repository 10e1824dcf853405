import Derived.Test.YtejadojilncbjabGreatD44
import Derived.Test.YtejadojilncbjabGreatD04
import Derived.Test.YtejadojilncbjabGreatD01
namespace Go.Proofs.YtejadojilncbjabGreat
open Go.RowKit
set_option linter.unusedVariables false
attribute [local go_sem ↓] Go.wp_at_zero Go.wp_at_succ
def jRes (N x : Nat) : Int := if x = N then -1 else (x : Int)
def JdgIs (w : World) (P : Nat → Prop) (N : Nat) (e : Ending) (w' : World) : Prop := ∃ x : Nat, e = .returned (.int .i64 (jRes N x)) ∧ Lst P N x ∧ Below w.heap.size w w'
set_option maxRecDepth 100000 in
set_option maxHeartbeats 4000000 in
theorem first_any (L : List AttD) (N : Nat) (hN : L.length = N) (hL : N ≤ 2097152) (mem : List Int) (hm : mem.length ≤ 2097152) (hnt : ∀ k, k < N → (atL L k).notes.length ≤ 1073741824) (ma a : Option Addr) (mc cp : Nat) (w : World) (hmi : Ints w w.heap.size ma mem) (h : HistIn w w.heap.size a L) :
  Calls Tryz.prog 41 #[.slice ma mem.length mc, .slice a N cp] w (JdgIs w (Bad (atL L) N mem) N) := by
 have HH : Hid (HistIn w w.heap.size a L) := h
 have HM : Hid (Ints w w.heap.size ma mem) := hmi
 have HNt : Hid (∀ k, k < N → (atL L k).notes.length ≤ 1073741824) := hnt
 have HNl : Hid (L.length = N) := hN
 have HIn : Hid (Calls Tryz.prog 84 #[.slice a N cp] w (InOrd w N (atL L))) := by
  have h9 := inOrder_any L (by omega) a cp w h
  rw [hN] at h9
  exact h9
 clear h hmi hnt hN
 go_enter Tryz.func41, Tryz.ntmps41
 go_wp2_with fail
 refine (HIn.out).mono ?_
 rintro e w1 ⟨o, oa, oc, rfl, hol, hO, hoi, hb1⟩
 have HO : Hid (o.length = N ∧ IsOrd (atL L) N o) := ⟨hol, hO⟩
 have HI1 : Hid (NatsIn w1 w1.heap.size oa o) := hoi
 have HB1 : Hid (Below w.heap.size w w1) := hb1
 clear hol hO hoi hb1 HIn
 go_wp2_with fail
 refine (double_any L N HNl.out hL o (HO.out).2 (HO.out).1 a oa cp oc w1 (((HH.out).up HB1.out).mono (HB1.out).size) HI1.out).mono ?_
 rintro e w2 ⟨x1, rfl, hx1, hb2⟩
 have HX1 : Hid (Lst (fun j => j < N ∧ Dbl (atL L) j) N x1) := hx1
 have HB2 : Hid (Below w.heap.size w w2) := (HB1.out).trans (hb2.mono (HB1.out).size)
 have HI2 : Hid (NatsIn w2 w2.heap.size oa o) := fun i hi => by
  obtain ⟨b, h1, h2, h3⟩ := (HI1.out).up hb2 i hi
  exact ⟨b, h1, Nat.lt_of_lt_of_le h2 hb2.size, h3⟩
 clear hx1 hb2 HI1 HB1
 go_wp2_with fail
 refine (late_any L N HNl.out hL o (HO.out).2 (HO.out).1 a oa cp oc w2 (((HH.out).up HB2.out).mono (HB2.out).size) HI2.out).mono ?_
 rintro e w3 ⟨x2, rfl, hx2, hb3⟩
 have HX2 : Hid (Lst (fun j => j < N ∧ Late (atL L) N j) N x2) := hx2
 have HB3 : Hid (Below w.heap.size w w3) := (HB2.out).trans (hb3.mono (HB2.out).size)
 have HI3 : Hid (NatsIn w3 w3.heap.size oa o) := fun i hi => by
  obtain ⟨b, h1, h2, h3⟩ := (HI2.out).up hb3 i hi
  exact ⟨b, h1, Nat.lt_of_lt_of_le h2 hb3.size, h3⟩
 clear hx2 hb3 HI2 HB2
 go_wp2_with fail
 refine (least_any x1 x2 _).mono ?_
 rintro e w4 ⟨rfl, rfl⟩
 have HX3 : Hid (Lst (fun j => (j < N ∧ Dbl (atL L) j) ∨ (j < N ∧ Late (atL L) N j)) N (if x1 < x2 then x1 else x2)) := (HX1.out).or HX2.out
 obtain ⟨x3, hx3⟩ : ∃ x3, x3 = (if x1 < x2 then x1 else x2) := ⟨_, rfl⟩
 rw [← hx3] at HX3 ⊢
 clear hx3 HX1 HX2
 go_wp2_with fail
 refine (misled_any L N HNl.out hL mem hm HNt.out o (HO.out).2 (HO.out).1 ma a oa mc cp oc w4 ((HM.out).up HB3.out) (((HH.out).up HB3.out).mono (HB3.out).size) HI3.out).mono ?_
 rintro e w5 ⟨x4, rfl, hx4, hb5⟩
 have HB5 : Hid (Below w.heap.size w w5) := (HB3.out).trans (hb5.mono (HB3.out).size)
 have HX5 : Hid (Lst (Bad (atL L) N mem) N (if x3 < x4 then x3 else x4)) := ((HX3.out).or hx4).congr fun j => by
  unfold Bad
  constructor
  ·rintro ((⟨h1, h2⟩ | ⟨h1, h2⟩) | ⟨h1, h2⟩)
   ·exact ⟨h1, Or.inl h2⟩
   ·exact ⟨h1, Or.inr (Or.inl h2)⟩
   ·exact ⟨h1, Or.inr (Or.inr h2)⟩
  ·rintro ⟨h1, h2 | h2 | h2⟩
   ·exact Or.inl (Or.inl ⟨h1, h2⟩)
   ·exact Or.inl (Or.inr ⟨h1, h2⟩)
   ·exact Or.inr ⟨h1, h2⟩
 clear hx4 hb5 HX3 HI3 HB3
 go_wp2_with fail
 refine (least_any x3 x4 _).mono ?_
 rintro e w6 ⟨rfl, rfl⟩
 obtain ⟨x5, hx5⟩ : ∃ x5, x5 = (if x3 < x4 then x3 else x4) := ⟨_, rfl⟩
 rw [← hx5] at HX5 ⊢
 clear hx5
 by_cases hx : x5 = N
 ·have hxb : ((x5 : Int) == (N : Int)) = true := by simp [hx]
  have HJ : Hid (jRes N x5 = -1) := if_pos hx
  clear hx
  go_wp2_with fail
  go_ret
  exact ⟨x5, by rw [HJ.out]; rfl, HX5.out, HB5.out⟩
 ·have hxb : ((x5 : Int) == (N : Int)) = false := by simp; omega
  have HJ : Hid (jRes N x5 = (x5 : Int)) := if_neg hx
  clear hx
  go_wp2_with fail
  go_ret
  exact ⟨x5, by rw [HJ.out]; rfl, HX5.out, HB5.out⟩
set_option maxHeartbeats 1000000 in
theorem judge_any (L : List AttD) (N : Nat) (hN : L.length = N) (hL : N ≤ 2097152) (mem : List Int) (hm : mem.length ≤ 2097152) (hnt : ∀ k, k < N → (atL L k).notes.length ≤ 1073741824) (ma a : Option Addr) (mc cp : Nat) (w : World) (hmi : Ints w w.heap.size ma mem) (h : HistIn w w.heap.size a L) :
  Calls Tryz.prog 19 #[.slice ma mem.length mc, .slice a N cp] w (JdgIs w (Bad (atL L) N mem) N) := by
 have HF : Hid (Calls Tryz.prog 41 #[.slice ma mem.length mc, .slice a N cp] w (JdgIs w (Bad (atL L) N mem) N)) := first_any L N hN hL mem hm hnt ma a mc cp w hmi h
 clear hN hL hm hnt hmi h
 go_enter Tryz.func19, Tryz.ntmps19
 go_wp2_with fail
 refine (HF.out).mono ?_
 rintro e w1 ⟨x, rfl, hx, hb⟩
 have HX : Hid (Lst (Bad (atL L) N mem) N x ∧ Below w.heap.size w w1) := ⟨hx, hb⟩
 obtain ⟨z, hz⟩ : ∃ z, z = jRes N x := ⟨_, rfl⟩
 rw [← hz]
 have HZ : Hid (z = jRes N x) := hz
 clear hx hb hz
 go_wp2_with fail
 go_ret
 exact ⟨x, by rw [← HZ.out]; rfl, (HX.out).1, (HX.out).2⟩
theorem kpick_any (c n : Int) (hc : -9223372036854775808 ≤ c ∧ c ≤ 9223372036854775807) (hn : 0 < n ∧ n ≤ 1125899906842624) (w : World) :
  Calls Tryz.prog 22 #[.int .i64 c, .int .i64 n] w fun e w' => (∃ m : Nat, e = .returned (.int .i64 (m : Int)) ∧ (m : Int) < n) ∧ w' = w := by
 have key : ∀ d : Int, 0 ≤ d → ∃ m : Nat, d.tmod n = (m : Int) ∧ (m : Int) < n := fun d hd => by
  rw [Int.tmod_eq_emod_of_nonneg hd]
  have h1 := Int.emod_nonneg d (show n ≠ 0 by omega)
  have h2 := Int.emod_lt_of_pos d hn.1
  exact ⟨(d % n).toNat, by omega, by omega⟩
 have hn0 : (n == 0) = false := by simp; omega
 have hn0' : ¬ n = 0 := by omega
 by_cases h : c < 0
 ·have h1 : IntKind.i64.wrap (c + 1) = c + 1 := by rw [IntKind.wrap_i64]; omega
  have h2 : IntKind.i64.wrap (-(c + 1)) = -(c + 1) := by rw [IntKind.wrap_i64]; omega
  obtain ⟨m, hm, hmn⟩ := key (-(c + 1)) (by omega)
  have h3 : IntKind.i64.wrap (m : Int) = (m : Int) := by rw [IntKind.wrap_i64]; omega
  clear key
  generalize hd : -(c + 1) = d at *
  go_enter Tryz.func22, Tryz.ntmps22
  go_wp2
  go_ret
  exact ⟨⟨m, by simp, hmn⟩, rfl⟩
 ·obtain ⟨m, hm, hmn⟩ := key c (by omega)
  have h3 : IntKind.i64.wrap (m : Int) = (m : Int) := by rw [IntKind.wrap_i64]; omega
  clear key
  go_enter Tryz.func22, Tryz.ntmps22
  go_wp2
  go_ret
  exact ⟨⟨m, by simp, hmn⟩, rfl⟩
end Go.Proofs.YtejadojilncbjabGreat
