import Derived.Test.YtejadojilncbjabGreatChecked
import Derived.WalkKit
import Derived.Below
import Derived.Deep.QuietTactic
import Derived.BigQuiet
import Derived.WalkSmall
import Derived.ProofKit
import Derived.OpenShut
import Derived.Deep.SlicePairs
import Derived.KernelRfl
namespace Go.Proofs.YtejadojilncbjabGreat
open Go.RowKit
set_option linter.unusedVariables false
def inB (v lo hi : Int) : Bool := decide (lo ≤ v) && decide (v ≤ hi)
theorem is_any (v lo hi : Int) (w : World) :
  Calls Tryz.prog 81 #[.int .i64 v, .int .i64 lo, .int .i64 hi] w fun e w' => e = .returned (.bool (inB v lo hi)) ∧ w' = w := by
 by_cases h1 : lo ≤ v <;> by_cases h2 : v ≤ hi
 all_goals
  go_enter Tryz.func81, Tryz.ntmps81
  go_wp2
  go_ret
  exact ⟨by simp [inB, h1, h2], rfl⟩
theorem within_any (v lo hi : Int) (w : World) :
  Calls Tryz.prog 110 #[.int .i64 v, .int .i64 lo, .int .i64 hi] w fun e w' => e = .returned (.bool (inB v lo hi)) ∧ w' = w := by
 by_cases h1 : lo ≤ v <;> by_cases h2 : v ≤ hi
 all_goals
  go_enter Tryz.func110, Tryz.ntmps110
  go_wp2
  go_ret
  exact ⟨by simp [inB, h1, h2], rfl⟩
theorem codeFits_any (a : Option Addr) (len cap : Nat) (w : World) :
  Calls Tryz.prog 76 #[.slice a len cap] w fun e w' => e = .returned (.bool (decide ((len : Int) ≤ 20))) ∧ w' = w := by
 go_enter Tryz.func76, Tryz.ntmps76
 go_wp2
 go_ret
 exact ⟨by simp, rfl⟩
structure Cfg where
 t : Int
 wd : Int
 s : Int
 g : Int
 r : Int
 cp : Int
 f : Int
def Cfg.val (c : Cfg) : Value := .agg #[.int .i64 c.t, .int .i64 c.wd, .int .i64 c.s, .int .i64 c.g, .int .i64 c.r, .int .i64 c.cp, .int .i64 c.f]
def cfgB (c : Cfg) : Bool := inB c.t 1 4 && inB c.wd 1 8 && inB c.s 1 8 && inB c.g 0 8 && inB c.r 0 4 && inB c.cp 0 8 && inB c.f 1 40
set_option maxHeartbeats 1000000 in
theorem refConfig_core (t wd s g r cp f : Int) (w : World) :
  Calls Tryz.prog 111 #[.agg #[.int .i64 t, .int .i64 wd, .int .i64 s, .int .i64 g, .int .i64 r, .int .i64 cp, .int .i64 f]] w fun e w' =>
   e = .returned (.bool (cfgB ⟨t, wd, s, g, r, cp, f⟩)) ∧ Below w.heap.size w w' := by
 go_enter Tryz.func111, Tryz.ntmps111
 go_wp2_with (go_at_call 81; refine (is_any _ _ _ _).mono ?_; rintro e w' ⟨rfl, rfl⟩)
 all_goals
  go_ret
  exact ⟨by simp [cfgB, *], (Below.refl _ _).alloc (Nat.le_refl _) _⟩
set_option maxHeartbeats 1000000 in
theorem configFits_core (t wd s g r cp f : Int) (w : World) :
  Calls Tryz.prog 108 #[.agg #[.int .i64 t, .int .i64 wd, .int .i64 s, .int .i64 g, .int .i64 r, .int .i64 cp, .int .i64 f]] w fun e w' =>
   e = .returned (.bool (cfgB ⟨t, wd, s, g, r, cp, f⟩)) ∧ Below w.heap.size w w' := by
 go_enter Tryz.func108, Tryz.ntmps108
 go_wp2_with (go_at_call 110; refine (within_any _ _ _ _).mono ?_; rintro e w' ⟨rfl, rfl⟩)
 all_goals
  go_ret
  exact ⟨by simp [cfgB, *], (Below.refl _ _).alloc (Nat.le_refl _) _⟩
def Ints (w : World) (B : Nat) (a : Option Addr) (zs : List Int) : Prop :=
 ∀ i, i < zs.length → ∃ b off, a = some ⟨b, off, none⟩ ∧ b < B ∧ w.cell? ⟨b, off + i, none⟩ = some (.int .i64 (zs.getD i 0))
def memB (zs : List Int) : Bool := zs.all fun z => inB z 0 65535
theorem memB_true {zs : List Int} (h : ∀ j, j < zs.length → inB (zs.getD j 0) 0 65535 = true) : memB zs = true := by
 unfold memB
 rw [List.all_eq_true]
 intro x hx
 obtain ⟨j, hj, rfl⟩ := List.mem_iff_getElem.1 hx
 have := h j hj
 simpa [List.getD, List.getElem?_eq_getElem hj] using this
theorem memB_false {zs : List Int} {k : Nat} (hk : k < zs.length) (h : inB (zs.getD k 0) 0 65535 = false) : memB zs = false := by
 unfold memB
 rw [List.all_eq_false]
 exact ⟨zs[k], List.getElem_mem hk, by simpa [List.getD, List.getElem?_eq_getElem hk] using h⟩
theorem bcell {W w1 : World} (hb : Below W.heap.size W w1) : (∀ b o, b < W.heap.size → w1.cell? ⟨b, o, none⟩ = W.cell? ⟨b, o, none⟩) ∧ (∀ b o, b < W.heap.size → w1.frozen? ⟨b, o, none⟩ = W.frozen? ⟨b, o, none⟩) :=
 ⟨fun b o h => hb.cell (p := ⟨b, o, none⟩) h, fun b o h => hb.frozen (p := ⟨b, o, none⟩) h⟩
theorem Ints.below {w w' : World} {B : Nat} {a : Option Addr} {zs : List Int} (h : Ints w B a zs) (hb : Below w.heap.size w w') (hB : B ≤ w.heap.size) : Ints w' B a zs := by
 intro i hi
 obtain ⟨b, off, ha, hlt, hc⟩ := h i hi
 exact ⟨b, off, ha, hlt, by rw [hb.cell (p := ⟨b, off + i, none⟩) (by show b < _; omega)]; exact hc⟩
theorem Ints.mono {w : World} {B B' : Nat} {a : Option Addr} {zs : List Int} (h : Ints w B a zs) (hB : B ≤ B') : Ints w B' a zs := by
 intro i hi
 obtain ⟨b, off, ha, hlt, hc⟩ := h i hi
 exact ⟨b, off, ha, by omega, hc⟩
set_option maxHeartbeats 1000000 in
theorem memFits_any (n : Int) (a : Option Addr) (len cap : Nat) (zs : List Int) (w : World) (hl : zs.length = len) (hm : len ≤ maxLen) (h : Ints w w.heap.size a zs) :
  Calls Tryz.prog 109 #[.int .i64 n, .slice a len cap] w fun e w' => e = .returned (.bool (decide ((zs.length : Int) = n) && memB zs)) ∧ w' = w := by
 subst hl
 unfold maxLen at hm
 have HI : Hid (Ints w w.heap.size a zs) := h
 clear h
 by_cases hn : (zs.length : Int) = n
 ·have hne : ((zs.length : Int) != n) = false := by simp [hn]
  have HN : Hid ((zs.length : Int) = n) := hn
  clear hn
  go_enter Tryz.func109, Tryz.ntmps109
  go_wp2
  go_loop [13] (fun i => ∃ k : Nat, k ≤ zs.length ∧ i = .int .i64 k ∧ Hid (∀ j, j < k → inB (zs.getD j 0) 0 65535 = true)) (fun i => zs.length - (intOf i).toNat)
  case atStart => exact ⟨0, Nat.zero_le _, rfl, fun j hj => absurd hj (by omega)⟩
  case round =>
   obtain ⟨k, hk, rfl, HA⟩ := hrel
   by_cases hlt : k < zs.length
   ·obtain ⟨b, off, rfl, hb, hc⟩ := HI.out k hlt
    obtain ⟨z, hz⟩ : ∃ z, z = zs.getD k 0 := ⟨_, rfl⟩
    rw [← hz] at hc
    have HZ : Hid (z = zs.getD k 0) := hz
    clear hz
    cases hin : inB z 0 65535 with
    | true =>
     have H1 : Hid (∀ j, j < k + 1 → inB (zs.getD j 0) 0 65535 = true) := fun j hj => by
      rcases Nat.lt_succ_iff_lt_or_eq.1 hj with h | rfl
      ·exact HA.out j h
      ·rw [← HZ.out]; exact hin
     clear HA
     go_wp2_with (go_at_call 110; refine (within_any _ _ _ _).mono ?_; rintro e w' ⟨rfl, rfl⟩)
     go_round
     case rel => exact ⟨k + 1, by omega, by go_num, H1⟩
     case measure => simp [intOf]; omega
    | false =>
     have HF : Hid (memB zs = false) := memB_false hlt (by rw [← HZ.out]; exact hin)
     go_wp2_with (go_at_call 110; refine (within_any _ _ _ _).mono ?_; rintro e w' ⟨rfl, rfl⟩)
     go_ret
     exact ⟨by simp [HF.out], rfl⟩
   ·have hke : k = zs.length := by omega
    have HF : Hid (memB zs = true) := memB_true (fun j hj => HA.out j (by omega))
    clear hke
    go_wp2
    go_ret
    exact ⟨by simp [HF.out, HN.out], rfl⟩
 ·have hne : ((zs.length : Int) != n) = true := by simp [hn]
  have HN : Hid (¬ (zs.length : Int) = n) := hn
  clear hn
  go_enter Tryz.func109, Tryz.ntmps109
  go_wp2
  go_ret
  exact ⟨by simp [HN.out], rfl⟩
def machN (c : Cfg) (zs : List Int) : Int := if cfgB c then (if (zs.length : Int) = c.wd ∧ memB zs = true then 0 else 2) else 1
set_option maxHeartbeats 1000000 in
theorem world_core (t wd s g r cp f : Int) (a : Option Addr) (len cap : Nat) (zs : List Int) (w : World) (hl : zs.length = len) (hm : len ≤ maxLen) (h : Ints w w.heap.size a zs) :
  Calls Tryz.prog 74 #[.agg #[.int .i64 t, .int .i64 wd, .int .i64 s, .int .i64 g, .int .i64 r, .int .i64 cp, .int .i64 f], .slice a len cap] w fun e w' =>
   e = .returned (.int .i64 (machN ⟨t, wd, s, g, r, cp, f⟩ zs)) ∧ Below w.heap.size w w' := by
 have HI : Hid (Ints w w.heap.size a zs) := h
 have HL : Hid (zs.length = len) := hl
 clear h hl
 go_enter Tryz.func74, Tryz.ntmps74
 go_wp2_with fail
 refine (configFits_core _ _ _ _ _ _ _ _).mono ?_
 rintro e w1 ⟨rfl, hb1⟩
 obtain ⟨hc1, hf1⟩ := bcell hb1
 have hsz : w.heap.size + 1 ≤ w1.heap.size := by have := hb1.size; simp at this; omega
 have hB : Below w.heap.size w w1 := ((Below.refl _ _).alloc (Nat.le_refl _) _).trans (hb1.mono (by simp))
 have HI1 : Hid (Ints w1 w1.heap.size a zs) := ((HI.out).below hB (Nat.le_refl _)).mono (by omega)
 clear hb1
 cases hcfg : cfgB ⟨t, wd, s, g, r, cp, f⟩ with
 | false =>
  go_wp2_with fail
  go_ret
  exact ⟨by simp [machN, hcfg], hB⟩
 | true =>
  go_wp2_with fail
  refine (memFits_any _ _ _ _ zs _ HL.out hm HI1.out).mono ?_
  rintro e w2 ⟨rfl, rfl⟩
  cases hmm : (decide ((zs.length : Int) = wd) && memB zs) with
  | false =>
   go_wp2_with fail
   go_ret
   exact ⟨by simp at hmm; simp [machN, hcfg]; intro h; exact hmm h, hB⟩
  | true =>
   go_wp2_with fail
   go_ret
   exact ⟨by simp at hmm; simp [machN, hcfg, hmm], hB⟩
set_option maxHeartbeats 1000000 in
theorem machine_core (t wd s g r cp f : Int) (a : Option Addr) (len cap : Nat) (zs : List Int) (w : World) (hl : zs.length = len) (hm : len ≤ maxLen) (h : Ints w w.heap.size a zs) :
  Calls Tryz.prog 80 #[.agg #[.int .i64 t, .int .i64 wd, .int .i64 s, .int .i64 g, .int .i64 r, .int .i64 cp, .int .i64 f], .slice a len cap] w fun e w' =>
   e = .returned (.int .i64 (machN ⟨t, wd, s, g, r, cp, f⟩ zs)) ∧ Below w.heap.size w w' := by
 subst hl
 unfold maxLen at hm
 have HI : Hid (Ints w w.heap.size a zs) := h
 clear h
 go_enter Tryz.func80, Tryz.ntmps80
 go_wp2_with fail
 refine (refConfig_core _ _ _ _ _ _ _ _).mono ?_
 rintro e w1 ⟨rfl, hb1⟩
 obtain ⟨hc1, hf1⟩ := bcell hb1
 have hsz : w.heap.size + 1 ≤ w1.heap.size := by have := hb1.size; simp at this; omega
 have hB : Below w.heap.size w w1 := ((Below.refl _ _).alloc (Nat.le_refl _) _).trans (hb1.mono (by simp))
 have HI1 : Hid (Ints w1 w1.heap.size a zs) := ((HI.out).below hB (Nat.le_refl _)).mono (by omega)
 clear hb1
 cases hcfg : cfgB ⟨t, wd, s, g, r, cp, f⟩ with
 | false =>
  go_wp2_with fail
  go_ret
  exact ⟨by simp [machN, hcfg], hB⟩
 | true =>
  by_cases hn : (zs.length : Int) = wd
  ·have hne : ((zs.length : Int) != wd) = false := by simp [hn]
   have HN : Hid ((zs.length : Int) = wd) := hn
   clear hn
   have HC : Hid (cfgB ⟨t, wd, s, g, r, cp, f⟩ = true) := hcfg
   go_wp2
   clear hcfg
   go_loop [6] (fun i => ∃ k : Nat, k ≤ zs.length ∧ i = .int .i64 k ∧ Hid (∀ j, j < k → inB (zs.getD j 0) 0 65535 = true)) (fun i => zs.length - (intOf i).toNat)
   case atStart => exact ⟨0, Nat.zero_le _, rfl, fun j hj => absurd hj (by omega)⟩
   case round =>
    obtain ⟨k, hk, rfl, HA⟩ := hrel
    by_cases hlt : k < zs.length
    ·obtain ⟨b, off, rfl, hb, hc⟩ := HI1.out k hlt
     obtain ⟨z, hz⟩ : ∃ z, z = zs.getD k 0 := ⟨_, rfl⟩
     rw [← hz] at hc
     have HZ : Hid (z = zs.getD k 0) := hz
     clear hz
     cases hin : inB z 0 65535 with
     | true =>
      have H1 : Hid (∀ j, j < k + 1 → inB (zs.getD j 0) 0 65535 = true) := fun j hj => by
       rcases Nat.lt_succ_iff_lt_or_eq.1 hj with h | rfl
       ·exact HA.out j h
       ·rw [← HZ.out]; exact hin
      clear HA
      go_wp2_with (go_at_call 81; refine (is_any _ _ _ _).mono ?_; rintro e w' ⟨rfl, rfl⟩)
      go_round
      case rel => exact ⟨k + 1, by omega, by go_num, H1⟩
      case measure => simp [intOf]; omega
     | false =>
      have HF : Hid (memB zs = false) := memB_false hlt (by rw [← HZ.out]; exact hin)
      go_wp2_with (go_at_call 81; refine (is_any _ _ _ _).mono ?_; rintro e w' ⟨rfl, rfl⟩)
      go_ret
      exact ⟨by simp [machN, HC.out, HF.out], hB⟩
    ·have HF : Hid (memB zs = true) := memB_true (fun j hj => HA.out j (by omega))
     go_wp2
     go_ret
     exact ⟨by simp [machN, HC.out, HF.out, HN.out], hB⟩
  ·have hne : ((zs.length : Int) != wd) = true := by simp [hn]
   have HN : Hid (¬ (zs.length : Int) = wd) := hn
   clear hn
   go_wp2
   go_ret
   exact ⟨by simp [machN, hcfg, HN.out], hB⟩
structure JobD where
 t : Int
 a : Option Addr
 len : Nat
 cap : Nat
def jobAt (js : List JobD) (i : Nat) : JobD := js.getD i ⟨0, none, 0, 0⟩
def JobsIn (w : World) (B : Nat) (a : Option Addr) (js : List JobD) : Prop :=
 ∀ i, i < js.length → ∃ b off, a = some ⟨b, off, none⟩ ∧ b < B ∧ w.cell? ⟨b, off + i * 2, none⟩ = some (.int .i64 (jobAt js i).t) ∧
  w.cell? ⟨b, off + i * 2 + 1, none⟩ = some (.slice (jobAt js i).a (jobAt js i).len (jobAt js i).cap)
theorem JobsIn.below {w w' : World} {B : Nat} {a : Option Addr} {js : List JobD} (h : JobsIn w B a js) (hb : Below w.heap.size w w') (hB : B ≤ w.heap.size) : JobsIn w' B a js := by
 intro i hi
 obtain ⟨b, off, ha, hlt, h1, h2⟩ := h i hi
 exact ⟨b, off, ha, hlt, by rw [hb.cell (p := ⟨b, off + i * 2, none⟩) (by show b < _; omega)]; exact h1, by rw [hb.cell (p := ⟨b, off + i * 2 + 1, none⟩) (by show b < _; omega)]; exact h2⟩
theorem JobsIn.mono {w : World} {B B' : Nat} {a : Option Addr} {js : List JobD} (h : JobsIn w B a js) (hB : B ≤ B') : JobsIn w B' a js := by
 intro i hi
 obtain ⟨b, off, ha, hlt, h1⟩ := h i hi
 exact ⟨b, off, ha, by omega, h1⟩
def thrB (t : Int) (js : List JobD) : Bool := js.all fun j => inB j.t 0 (t - 1)
def lenB (js : List JobD) : Bool := js.all fun j => decide ((j.len : Int) ≤ 20)
theorem all_true {p : JobD → Bool} {js : List JobD} (h : ∀ j, j < js.length → p (jobAt js j) = true) : js.all p = true := by
 rw [List.all_eq_true]
 intro x hx
 obtain ⟨j, hj, rfl⟩ := List.mem_iff_getElem.1 hx
 have := h j hj
 simpa [jobAt, List.getD, List.getElem?_eq_getElem hj] using this
theorem all_false {p : JobD → Bool} {js : List JobD} {k : Nat} (hk : k < js.length) (h : p (jobAt js k) = false) : js.all p = false := by
 rw [List.all_eq_false]
 exact ⟨js[k], List.getElem_mem hk, by simpa [jobAt, List.getD, List.getElem?_eq_getElem hk] using h⟩
set_option maxHeartbeats 1000000 in
theorem jobsFit_any (t : Int) (a : Option Addr) (len cap : Nat) (js : List JobD) (w : World) (ht1 : 1 ≤ t) (ht2 : t ≤ 4) (hl : js.length = len) (hm : len ≤ maxLen) (h : JobsIn w w.heap.size a js) :
  Calls Tryz.prog 75 #[.int .i64 t, .slice a len cap] w fun e w' => e = .returned (.bool (decide (js.length ≤ 8) && thrB t js)) ∧ Below w.heap.size w w' := by
 subst hl
 unfold maxLen at hm
 have HI : Hid (JobsIn w w.heap.size a js) := h
 clear h
 by_cases h8 : js.length ≤ 8
 ·go_enter Tryz.func75, Tryz.ntmps75
  go_wp2
  go_loopw [12] (fun i wr => ∃ k : Nat, k ≤ js.length ∧ i = .int .i64 k ∧ Hid (∀ j, j < k → inB (jobAt js j).t 0 (t - 1) = true) ∧ Below w.heap.size w wr) (fun i wr => js.length - (intOf i).toNat)
  case atStart => exact ⟨0, Nat.zero_le _, rfl, fun j hj => absurd hj (by omega), Below.refl _ _⟩
  case round =>
   obtain ⟨k, hk, rfl, HA, hB⟩ := hrel
   have hsz := hB.size
   by_cases hlt : k < js.length
   ·obtain ⟨b, off, rfl, hb, hc1, hc2⟩ := ((HI.out).below hB (Nat.le_refl _)) k hlt
    obtain ⟨z, hz⟩ : ∃ z, z = jobAt js k := ⟨_, rfl⟩
    rw [← hz] at hc1 hc2
    have HZ : Hid (z = jobAt js k) := hz
    clear hz
    cases hin : inB z.t 0 (t - 1) with
    | true =>
     have H1 : Hid (∀ j, j < k + 1 → inB (jobAt js j).t 0 (t - 1) = true) := fun j hj => by
      rcases Nat.lt_succ_iff_lt_or_eq.1 hj with h | rfl
      ·exact HA.out j h
      ·rw [← HZ.out]; exact hin
     clear HA
     go_wp2_with (go_at_call 110; refine (within_any _ _ _ _).mono ?_; rintro e w' ⟨rfl, rfl⟩)
     go_roundw
     case rel => exact ⟨k + 1, by omega, by go_num, H1, hB.alloc (by omega) _⟩
     case measure => simp [intOf]; omega
    | false =>
     have HF : Hid (thrB t js = false) := all_false hlt (by rw [← HZ.out]; exact hin)
     go_wp2_with (go_at_call 110; refine (within_any _ _ _ _).mono ?_; rintro e w' ⟨rfl, rfl⟩)
     go_ret
     exact ⟨by simp [HF.out], (hB.alloc (by omega) _)⟩
   ·have HF : Hid (thrB t js = true) := all_true (fun j hj => HA.out j (by omega))
    go_wp2
    go_ret
    exact ⟨by simp [HF.out, h8], hB⟩
 ·go_enter Tryz.func75, Tryz.ntmps75
  go_wp2
  go_ret
  exact ⟨by simp; omega, Below.refl _ _⟩
def checkN (c : Cfg) (zs : List Int) (js : List JobD) : Int :=
 if machN c zs = 0 then (if js.length ≤ 8 ∧ thrB c.t js = true then (if lenB js then 0 else 4) else 3) else machN c zs
theorem machN_ok {c : Cfg} {zs : List Int} (h : machN c zs = 0) : cfgB c = true := by
 unfold machN at h
 cases hc : cfgB c with
 | true => rfl
 | false => simp [hc] at h
theorem inB_true {v lo hi : Int} (h : inB v lo hi = true) : lo ≤ v ∧ v ≤ hi := by
 simpa [inB] using h
theorem cfgB_true {c : Cfg} (h : cfgB c = true) : (1 ≤ c.t ∧ c.t ≤ 4) ∧ (1 ≤ c.wd ∧ c.wd ≤ 8) ∧ (1 ≤ c.s ∧ c.s ≤ 8) ∧ (0 ≤ c.g ∧ c.g ≤ 8) ∧ (0 ≤ c.r ∧ c.r ≤ 4) ∧ (0 ≤ c.cp ∧ c.cp ≤ 8) ∧ (1 ≤ c.f ∧ c.f ≤ 40) := by
 simp only [cfgB, Bool.and_eq_true] at h
 obtain ⟨⟨⟨⟨⟨⟨h1, h2⟩, h3⟩, h4⟩, h5⟩, h6⟩, h7⟩ := h
 exact ⟨inB_true h1, inB_true h2, inB_true h3, inB_true h4, inB_true h5, inB_true h6, inB_true h7⟩
theorem Ints.alloc {w : World} {a : Option Addr} {zs : List Int} (h : Ints w w.heap.size a zs) (o : Obj) : Ints (w.alloc o) (w.alloc o).heap.size a zs :=
 (h.below ((Below.refl _ _).alloc (Nat.le_refl _) o) (Nat.le_refl _)).mono (by simp)
theorem JobsIn.alloc {w : World} {a : Option Addr} {js : List JobD} (h : JobsIn w w.heap.size a js) (o : Obj) : JobsIn (w.alloc o) (w.alloc o).heap.size a js :=
 (h.below ((Below.refl _ _).alloc (Nat.le_refl _) o) (Nat.le_refl _)).mono (by simp)
set_option maxHeartbeats 1000000 in
theorem setup_core (t wd s g r cp f : Int) (a : Option Addr) (len cap : Nat) (zs : List Int) (ja : Option Addr) (jlen jcap : Nat) (js : List JobD) (w : World)
  (hl : zs.length = len) (hm : len ≤ maxLen) (h : Ints w w.heap.size a zs) (hjl : js.length = jlen) (hjm : jlen ≤ maxLen) (hj : JobsIn w w.heap.size ja js) :
  Calls Tryz.prog 32 #[.agg #[.int .i64 t, .int .i64 wd, .int .i64 s, .int .i64 g, .int .i64 r, .int .i64 cp, .int .i64 f, .slice a len cap, .slice ja jlen jcap]] w fun e w' =>
   e = .returned (.int .i64 (checkN ⟨t, wd, s, g, r, cp, f⟩ zs js)) ∧ Below w.heap.size w w' := by
 have HI : Hid (Ints w w.heap.size a zs) := h
 have HJ : Hid (JobsIn w w.heap.size ja js) := hj
 clear h hj
 subst hl hjl
 go_enter Tryz.func32, Tryz.ntmps32
 go_wp2_with fail
 refine (world_core _ _ _ _ _ _ _ _ _ _ zs _ rfl hm (by exact (HI.out).alloc _)).mono ?_
 rintro e w1 ⟨rfl, hb1⟩
 obtain ⟨hc1, hf1⟩ := bcell hb1
 have hsz : w.heap.size < w1.heap.size := by have := hb1.size; simp at this; omega
 have hB : Below w.heap.size w w1 := ((Below.refl _ _).alloc (Nat.le_refl _) _).trans (hb1.mono (by simp))
 have HJ1 : Hid (JobsIn w1 w1.heap.size ja js) := ((HJ.out).below hB (Nat.le_refl _)).mono (by omega)
 clear hb1
 by_cases h0 : machN ⟨t, wd, s, g, r, cp, f⟩ zs = 0
 ·have hcf := (cfgB_true (machN_ok h0)).1
  have HC : Hid (checkN ⟨t, wd, s, g, r, cp, f⟩ zs js = (if js.length ≤ 8 ∧ thrB t js = true then (if lenB js then 0 else 4) else 3)) := by
   show checkN _ _ _ = _
   simp only [checkN, h0, if_true]
  obtain ⟨ht1, ht2⟩ := hcf
  go_wp2_with fail
  clear h0
  refine (jobsFit_any _ _ _ _ js _ ht1 ht2 rfl hjm HJ1.out).mono ?_
  rintro e w2 ⟨rfl, hb2⟩
  obtain ⟨hc2, hf2⟩ := bcell hb2
  have hsz2 : w.heap.size < w2.heap.size := by have := hb2.size; omega
  have hB2 : Below w.heap.size w w2 := hB.trans (hb2.mono (by omega))
  have hd1 : Below w1.heap.size w1 w2 := hb2
  clear hb2
  cases hfit : (decide (js.length ≤ 8) && thrB t js) with
  | false =>
   go_wp2_with fail
   go_ret
   refine ⟨?_, hB2⟩
   rw [HC.out, if_neg (by simpa using hfit)]; rfl
  | true =>
   have HF : Hid (checkN ⟨t, wd, s, g, r, cp, f⟩ zs js = (if lenB js then 0 else 4)) := by
    show checkN _ _ _ = _
    rw [HC.out, if_pos (by simpa using hfit)]
   unfold maxLen at hjm
   go_wp2
   clear hfit HC
   go_loopw [24] (fun i wr => ∃ k : Nat, k ≤ js.length ∧ i = .int .i64 k ∧ Hid (∀ j, j < k → decide (((jobAt js j).len : Int) ≤ 20) = true) ∧ Below w2.heap.size w2 wr) (fun i wr => js.length - (intOf i).toNat)
   case atStart => exact ⟨0, Nat.zero_le _, rfl, fun j hj => absurd hj (by omega), Below.refl _ _⟩
   case round =>
    obtain ⟨k, hk, rfl, HA, hB3⟩ := hrel
    have hsz3 := hB3.size
    have hB4 : Below w.heap.size w wr := hB2.trans (hB3.mono (by omega))
    by_cases hlt : k < js.length
    ·obtain ⟨b, off, rfl, hb, hj1, hj2⟩ := ((HJ.out).below hB4 (Nat.le_refl _)) k hlt
     obtain ⟨z, hz⟩ : ∃ z, z = jobAt js k := ⟨_, rfl⟩
     rw [← hz] at hj1 hj2
     have HZ : Hid (z = jobAt js k) := hz
     clear hz
     by_cases hin : (z.len : Int) ≤ 20
     ·have H1 : Hid (∀ j, j < k + 1 → decide (((jobAt js j).len : Int) ≤ 20) = true) := fun j hj => by
       rcases Nat.lt_succ_iff_lt_or_eq.1 hj with h | rfl
       ·exact HA.out j h
       ·rw [← HZ.out]; simpa using hin
      clear HA
      go_wp2_with (go_at_call 76; refine (codeFits_any _ _ _ _).mono ?_; rintro e w' ⟨rfl, rfl⟩)
      go_roundw
      case rel => exact ⟨k + 1, by omega, by go_num, H1, hB3.alloc (by omega) _⟩
      case measure => simp [intOf]; omega
     ·have HL : Hid (lenB js = false) := all_false hlt (by rw [← HZ.out]; simpa using hin)
      have hdec : decide ((z.len : Int) ≤ 20) = false := by simpa using hin
      go_wp2_with (go_at_call 76; refine (codeFits_any _ _ _ _).mono ?_; rintro e w' ⟨rfl, rfl⟩)
      go_ret
      exact ⟨by rw [HF.out, HL.out]; simp, hB4.alloc (by omega) _⟩
    ·have HL : Hid (lenB js = true) := all_true (fun j hj => HA.out j (by omega))
     go_wp2
     go_ret
     exact ⟨by rw [HF.out, HL.out]; simp, hB4⟩
 ·have hne : (machN ⟨t, wd, s, g, r, cp, f⟩ zs != 0) = true := by simpa using h0
  have HC : Hid (checkN ⟨t, wd, s, g, r, cp, f⟩ zs js = machN ⟨t, wd, s, g, r, cp, f⟩ zs) := by
   show checkN _ _ _ = _
   simp only [checkN, h0, if_false]
  clear h0
  go_wp2_with fail
  go_ret
  exact ⟨by rw [HC.out]; rfl, hB⟩
set_option maxHeartbeats 2000000 in
theorem refCheck_core (t wd s g r cp f : Int) (a : Option Addr) (len cap : Nat) (zs : List Int) (ja : Option Addr) (jlen jcap : Nat) (js : List JobD) (w : World)
  (hl : zs.length = len) (hm : len ≤ maxLen) (h : Ints w w.heap.size a zs) (hjl : js.length = jlen) (hjm : jlen ≤ maxLen) (hj : JobsIn w w.heap.size ja js) :
  Calls Tryz.prog 35 #[.agg #[.int .i64 t, .int .i64 wd, .int .i64 s, .int .i64 g, .int .i64 r, .int .i64 cp, .int .i64 f, .slice a len cap, .slice ja jlen jcap]] w fun e w' =>
   e = .returned (.int .i64 (checkN ⟨t, wd, s, g, r, cp, f⟩ zs js)) ∧ Below w.heap.size w w' := by
 have HI : Hid (Ints w w.heap.size a zs) := h
 have HJ : Hid (JobsIn w w.heap.size ja js) := hj
 clear h hj
 subst hl hjl
 go_enter Tryz.func35, Tryz.ntmps35
 go_wp2_with fail
 refine (machine_core _ _ _ _ _ _ _ _ _ _ zs _ rfl hm (by exact (HI.out).alloc _)).mono ?_
 rintro e w1 ⟨rfl, hb1⟩
 obtain ⟨hc1, hf1⟩ := bcell hb1
 have hsz : w.heap.size < w1.heap.size := by have := hb1.size; simp at this; omega
 have hB : Below w.heap.size w w1 := ((Below.refl _ _).alloc (Nat.le_refl _) _).trans (hb1.mono (by simp))
 clear hb1
 by_cases h0 : machN ⟨t, wd, s, g, r, cp, f⟩ zs = 0
 ·have hcf := (cfgB_true (machN_ok h0)).1
  have HC : Hid (checkN ⟨t, wd, s, g, r, cp, f⟩ zs js = (if js.length ≤ 8 ∧ thrB t js = true then (if lenB js then 0 else 4) else 3)) := by
   show checkN _ _ _ = _
   simp only [checkN, h0, if_true]
  obtain ⟨ht1, ht2⟩ := hcf
  unfold maxLen at hjm
  go_wp2
  clear h0
  go_loopw [4, 5] (fun l i wr => ∃ k : Nat, ∃ lg : Bool, k ≤ js.length ∧ k ≤ 8 ∧ i = .int .i64 k ∧ l = .bool lg ∧ Hid (∀ j, j < k → inB (jobAt js j).t 0 (t - 1) = true) ∧
      Hid (lg = false → ∀ j, j < k → decide (((jobAt js j).len : Int) ≤ 20) = true) ∧ Hid (lg = true → lenB js = false) ∧ Below w1.heap.size w1 wr) (fun _ i wr => js.length - (intOf i).toNat)
  case atStart => exact ⟨0, false, Nat.zero_le _, by omega, rfl, rfl, fun j hj => absurd hj (by omega), fun _ j hj => absurd hj (by omega), fun h => by simp at h, Below.refl _ _⟩
  case round =>
   obtain ⟨k, lg, hk, hk8, rfl, rfl, HA, HN, HT, hB3⟩ := hrel
   have hsz3 := hB3.size
   have hB4 : Below w.heap.size w wr := hB.trans (hB3.mono (by omega))
   obtain ⟨hc3, hf3⟩ := bcell hB3
   by_cases hlt : k < js.length
   ·obtain ⟨b, off, rfl, hb, hj1, hj2⟩ := ((HJ.out).below hB4 (Nat.le_refl _)) k hlt
    obtain ⟨z, hz⟩ : ∃ z, z = jobAt js k := ⟨_, rfl⟩
    rw [← hz] at hj1 hj2
    have HZ : Hid (z = jobAt js k) := hz
    clear hz
    go_wp2_with fail
    go_quiet ((go_at_call 81; exact Calls.quiet_of_same (is_any _ _ _ _)))
    have hB5 : Below w.heap.size w (wr.drewN nq) := below_drewN hB4 _
    have hB6 : Below w1.heap.size w1 (wr.drewN nq) := below_drewN hB3 _
    cases hin : inB z.t 0 (t - 1) with
    | false =>
     have HF : Hid (thrB t js = false) := all_false hlt (by rw [← HZ.out]; exact hin)
     go_wp2
     go_ret
     exact ⟨by rw [HC.out, if_neg (by simp [HF.out])]; rfl, hB5⟩
    | true =>
     by_cases h8 : k < 8
     ·have H1 : Hid (∀ j, j < k + 1 → inB (jobAt js j).t 0 (t - 1) = true) := fun j hj => by
       rcases Nat.lt_succ_iff_lt_or_eq.1 hj with h | rfl
       ·exact HA.out j h
       ·rw [← HZ.out]; exact hin
      by_cases hln : (z.len : Int) ≤ 20
      ·have H2 : Hid (lg = false → ∀ j, j < k + 1 → decide (((jobAt js j).len : Int) ≤ 20) = true) := fun hg j hj => by
        rcases Nat.lt_succ_iff_lt_or_eq.1 hj with h | rfl
        ·exact HN.out hg j h
        ·rw [← HZ.out]; simpa using hln
       clear HA HN
       go_wp2
       go_roundw
       case rel => exact ⟨k + 1, lg, by omega, by omega, by go_num, rfl, H1, H2, HT, hB6⟩
       case measure => simp [intOf]; omega
      ·have HL : Hid (lenB js = false) := all_false hlt (by rw [← HZ.out]; simpa using hln)
       clear HA HN
       go_wp2
       go_roundw
       case rel => exact ⟨k + 1, true, by omega, by omega, by go_num, rfl, H1, fun h => by simp at h, fun _ => HL.out, hB6⟩
       case measure => simp [intOf]; omega
     ·have h8' : 8 < js.length := by omega
      go_wp2
      go_ret
      exact ⟨by rw [HC.out, if_neg (by simp; omega)]; rfl, hB5⟩
   ·have HF : Hid (thrB t js = true) := all_true (fun j hj => HA.out j (by omega))
    cases lg with
    | false =>
     have HL : Hid (lenB js = true) := all_true (fun j hj => HN.out rfl j (by omega))
     go_wp2
     go_ret
     exact ⟨by rw [HC.out, if_pos ⟨by omega, HF.out⟩, HL.out]; rfl, hB4⟩
    | true =>
     have HL : Hid (lenB js = false) := HT.out rfl
     go_wp2
     go_ret
     exact ⟨by rw [HC.out, if_pos ⟨by omega, HF.out⟩, HL.out]; rfl, hB4⟩
 ·have hne : (machN ⟨t, wd, s, g, r, cp, f⟩ zs != 0) = true := by simpa using h0
  have HC : Hid (checkN ⟨t, wd, s, g, r, cp, f⟩ zs js = machN ⟨t, wd, s, g, r, cp, f⟩ zs) := by
   show checkN _ _ _ = _
   simp only [checkN, h0, if_false]
  clear h0
  go_wp2_with fail
  go_ret
  exact ⟨by rw [HC.out]; rfl, hB⟩
end Go.Proofs.YtejadojilncbjabGreat
namespace Go.Proofs.YtejadojilncbjabGreat
open Go.ChangeShapes Go.WideShapes Go.ChangeAt Go.RowKit Go.Deep
set_option linter.unusedVariables false
theorem Tryz.cells27 : Tryz.prog.cellsOf 27 = 9 := by kernel_rfl
theorem Tryz.cells23 : Tryz.prog.cellsOf 23 = 7 := by kernel_rfl
theorem Tryz.cells24 : Tryz.prog.cellsOf 24 = 1 := by kernel_rfl
theorem Tryz.cells25 : Tryz.prog.cellsOf 25 = 1 := by kernel_rfl
theorem Tryz.cells3 : Tryz.prog.cellsOf 3 = 1 := by kernel_rfl
theorem Tryz.cells88 : Tryz.prog.cellsOf 88 = 2 := by kernel_rfl
theorem Tryz.cells86 : Tryz.prog.cellsOf 86 = 1 := by kernel_rfl
theorem Tryz.cells110 : Tryz.prog.cellsOf 110 = 4 := by kernel_rfl
section
variable {H : Type} {enc : TypeId × Value → H} {w : World} {spare : Nat → Bool} {held : Bool}
theorem block_lt {w : World} {b o : Nat} {u : Value} (h : w.cell? ⟨b, o, none⟩ = some u) : b < w.heap.size := World.block_lt_of_cell? w _ h
theorem list3 {α : Type} {l : List α} (h : l.length = 3) : ∃ a b c, l = [a, b, c] := by
 match l, h with
 | [a, b, c], _ => exact ⟨a, b, c, rfl⟩
theorem list4 {α : Type} {l : List α} (h : l.length = 4) : ∃ a b c d, l = [a, b, c, d] := by
 match l, h with
 | [a, b, c, d], _ => exact ⟨a, b, c, d, rfl⟩
theorem list7 {α : Type} {l : List α} (h : l.length = 7) : ∃ a b c d e f g, l = [a, b, c, d, e, f, g] := by
 match l, h with
 | [a, b, c, d, e, f, g], _ => exact ⟨a, b, c, d, e, f, g, rfl⟩
theorem list9 {α : Type} {l : List α} (h : l.length = 9) : ∃ a b c d e f g x y, l = [a, b, c, d, e, f, g, x, y] := by
 match l, h with
 | [a, b, c, d, e, f, g, x, y], _ => exact ⟨a, b, c, d, e, f, g, x, y, rfl⟩
theorem ints_open {fuel : Nat} {cs : List Value} {x : DataW H × List MemPlace} (h : DataW.trod enc Tryz.prog w 0 spare held fuel 24 cs = some x) :
  ∃ a len cap zs, cs = [.slice a len cap] ∧ zs.length = len ∧ len ≤ maxLen ∧ Ints w w.heap.size a zs ∧ ∀ z ∈ zs, (Lit.int .i64 z).wf = true := by
 rcases open_ints Tryz.underlying24 Tryz.underlying3 Tryz.cells3 h with ⟨hcs, _⟩ | ⟨x, l, c, zs, hcs, _, hl, hm, hz, _, hcell, hwz⟩
 ·exact ⟨none, 0, 0, [], hcs, rfl, Nat.zero_le _, fun i hi => by simp at hi, by simp⟩
 ·have hle : l ≤ zs.length := by rw [hz]; split <;> omega
  refine ⟨some x, l, c, zs.take l, hcs, by simp; omega, by omega, fun i hi => ?_, fun z hz => hwz z (List.mem_of_mem_take hz)⟩
  have hi' : i < l := by simp at hi; omega
  obtain ⟨b, off, spot⟩ := x
  have hc := hcell i (by omega)
  have hspot : spot = none := by simpa [Addr.add] using World.cell?_spot (hcell 0 (by omega))
  subst hspot
  have hc' : w.cell? ⟨b, off + i, none⟩ = some (.int .i64 (zs.getD i 0)) := by rw [add_plain] at hc; exact hc
  refine ⟨b, off, rfl, block_lt hc', ?_⟩
  rw [hc']
  simp [List.getD, hi']
structure InsD where
 op : Int
 a : Int
 b : Int
 c : Int
def insAt (is : List InsD) (i : Nat) : InsD := is.getD i ⟨0, 0, 0, 0⟩
def CodeIn (w : World) (B : Nat) (a : Option Addr) (is : List InsD) : Prop :=
 ∀ i, i < is.length → ∃ b off, a = some ⟨b, off, none⟩ ∧ b < B ∧ w.cell? ⟨b, off + i * 4, none⟩ = some (.int .i64 (insAt is i).op) ∧ w.cell? ⟨b, off + i * 4 + 1, none⟩ = some (.int .i64 (insAt is i).a) ∧
  w.cell? ⟨b, off + i * 4 + 2, none⟩ = some (.int .i64 (insAt is i).b) ∧ w.cell? ⟨b, off + i * 4 + 3, none⟩ = some (.int .i64 (insAt is i).c)
def InsD.wf (i : InsD) : Prop := (Lit.int .i64 i.op).wf = true ∧ (Lit.int .i64 i.a).wf = true ∧ (Lit.int .i64 i.b).wf = true ∧ (Lit.int .i64 i.c).wf = true
theorem code_open {fuel : Nat} {cs : List Value} {x : DataW H × List MemPlace} (h : DataW.trod enc Tryz.prog w 0 spare held fuel 86 cs = some x) :
  ∃ a len cap is, cs = [.slice a len cap] ∧ is.length = len ∧ len ≤ maxLen ∧ CodeIn w w.heap.size a is ∧ ∀ i ∈ is, i.wf := by
 rcases open_slice Tryz.underlying86 h with ⟨hcs, _⟩ | ⟨x, l, c, m, n, D, Pl, hcs, _, hl, hm, hmm, _, hel⟩
 ·exact ⟨none, 0, 0, [], hcs, rfl, Nat.zero_le _, fun i hi => by simp at hi, by simp⟩
 ·have hle : l ≤ m := by rw [hmm]; split <;> omega
  have each : ∀ i, i < l → ∃ q : InsD, q.wf ∧ w.cell? (x.add (i * 4)) = some (.int .i64 q.op) ∧ w.cell? (x.add (i * 4 + 1)) = some (.int .i64 q.a) ∧ w.cell? (x.add (i * 4 + 2)) = some (.int .i64 q.b) ∧ w.cell? (x.add (i * 4 + 3)) = some (.int .i64 q.c) := by
   intro i hi
   obtain ⟨cs', h1, h2⟩ := hel i (by omega)
   rw [Tryz.cells110] at h1
   obtain ⟨_, hlen, hcell⟩ := World.cells?_some h1
   obtain ⟨xs, k, hk, hxy, _, hxl, hf⟩ := DataW.trod_struct Tryz.underlying110 h2
   obtain ⟨y0, y1, y2, y3, rfl⟩ := list4 hxl
   obtain ⟨v0, v1, v2, v3, rfl⟩ := list4 hlen
   have g0 := hf 0 _ rfl
   have g1 := hf 1 _ rfl
   have g2 := hf 2 _ rfl
   have g3 := hf 3 _ rfl
   simp [Tryz.cells3] at g0 g1 g2 g3
   obtain ⟨n0, e0, _, w0⟩ := DataW.trod_int Tryz.underlying3 g0
   obtain ⟨n1, e1, _, w1⟩ := DataW.trod_int Tryz.underlying3 g1
   obtain ⟨n2, e2, _, w2⟩ := DataW.trod_int Tryz.underlying3 g2
   obtain ⟨n3, e3, _, w3⟩ := DataW.trod_int Tryz.underlying3 g3
   simp at e0 e1 e2 e3
   have c0 := hcell 0 (by omega)
   have c1 := hcell 1 (by omega)
   have c2 := hcell 2 (by omega)
   have c3 := hcell 3 (by omega)
   rw [add_add] at c0 c1 c2 c3
   exact ⟨⟨n0, n1, n2, n3⟩, ⟨w0, w1, w2, w3⟩, by simpa [e0] using c0, by simpa [e1] using c1, by simpa [e2] using c2, by simpa [e3] using c3⟩
  have hin : Inhabited InsD := ⟨⟨0, 0, 0, 0⟩⟩
  obtain ⟨q, hq⟩ := choose_lt each
  obtain ⟨b, off, spot⟩ := x
  refine ⟨some ⟨b, off, spot⟩, l, c, (List.range l).map q, hcs, by simp, by omega, fun i hi => ?_, fun i hi => ?_⟩
  ·have hi' : i < l := by simpa using hi
   obtain ⟨_, h0, h1, h2, h3⟩ := hq i hi'
   have hspot : spot = none := by simpa [Addr.add] using World.cell?_spot (hq 0 (by omega)).2.1
   subst hspot
   rw [add_plain] at h0 h1 h2 h3
   have hat : insAt ((List.range l).map q) i = q i := by simp [insAt, List.getD, hi']
   rw [hat]
   exact ⟨b, off, rfl, block_lt h0, h0, h1, h2, h3⟩
  ·obtain ⟨j, hj, rfl⟩ := List.mem_map.1 hi
   exact (hq j (by simpa using hj)).1
theorem jobs_open {fuel : Nat} {cs : List Value} {x : DataW H × List MemPlace} (h : DataW.trod enc Tryz.prog w 0 spare held fuel 25 cs = some x) :
  ∃ a len cap, ∃ js : List JobD, cs = [.slice a len cap] ∧ js.length = len ∧ len ≤ maxLen ∧ JobsIn w w.heap.size a js ∧
   (∀ j ∈ js, (Lit.int .i64 j.t).wf = true ∧ j.len ≤ maxLen ∧ ∃ is : List InsD, is.length = j.len ∧ CodeIn w w.heap.size j.a is ∧ ∀ i ∈ is, i.wf) := by
 rcases open_slice_pairs Tryz.underlying25 Tryz.underlying88 Tryz.cells88 rfl rfl Tryz.cells3 Tryz.cells86 h with ⟨hcs, _⟩ | ⟨x, l, c, m, n, V0, V1, D0, D1, P0, P1, hcs, _, hl, hm, hmm, _, hel⟩
 ·exact ⟨none, 0, 0, [], hcs, rfl, Nat.zero_le _, fun i hi => by simp at hi, by simp⟩
 ·have hle : l ≤ m := by rw [hmm]; split <;> omega
  have each : ∀ i, i < l → ∃ q : JobD, ((Lit.int .i64 q.t).wf = true ∧ q.len ≤ maxLen ∧ ∃ is : List InsD, is.length = q.len ∧ CodeIn w w.heap.size q.a is ∧ ∀ i ∈ is, i.wf) ∧
    w.cell? (x.add (i * 2)) = some (.int .i64 q.t) ∧ w.cell? (x.add (i * 2 + 1)) = some (.slice q.a q.len q.cap) := by
   intro i hi
   obtain ⟨h0, h1, h2, h3⟩ := hel i (by omega)
   obtain ⟨n0, e0, _, w0⟩ := DataW.trod_int Tryz.underlying3 h2
   obtain ⟨ca, clen, ccap, is, e1, hil, hcm, hci, hiw⟩ := code_open h3
   simp at e0 e1
   exact ⟨⟨n0, ca, clen, ccap⟩, ⟨w0, hcm, is, hil, hci, hiw⟩, by rw [h0, e0], by rw [h1, e1]⟩
  have hin : Inhabited JobD := ⟨⟨0, none, 0, 0⟩⟩
  obtain ⟨q, hq⟩ := choose_lt each
  obtain ⟨b, off, spot⟩ := x
  refine ⟨some ⟨b, off, spot⟩, l, c, (List.range l).map q, hcs, by simp, by omega, fun i hi => ?_, fun i hi => ?_⟩
  ·have hi' : i < l := by simpa using hi
   obtain ⟨_, h0, h1⟩ := hq i hi'
   have hspot : spot = none := by simpa [Addr.add] using World.cell?_spot (hq 0 (by omega)).2.1
   subst hspot
   rw [add_plain] at h0 h1
   have hat : jobAt ((List.range l).map q) i = q i := by simp [jobAt, List.getD, hi']
   rw [hat]
   exact ⟨b, off, rfl, block_lt h0, h0, h1⟩
  ·obtain ⟨j, hj, rfl⟩ := List.mem_map.1 hi
   exact (hq j (by simpa using hj)).1
theorem cfg_open {fuel : Nat} {cs : List Value} {x : DataW H × List MemPlace} (h : DataW.trod enc Tryz.prog w 0 spare held fuel 23 cs = some x) :
  ∃ t wd s g r cp f : Int, cs = [.int .i64 t, .int .i64 wd, .int .i64 s, .int .i64 g, .int .i64 r, .int .i64 cp, .int .i64 f] ∧
   (Lit.int .i64 t).wf = true ∧ (Lit.int .i64 wd).wf = true ∧ (Lit.int .i64 s).wf = true ∧ (Lit.int .i64 g).wf = true ∧ (Lit.int .i64 r).wf = true ∧ (Lit.int .i64 cp).wf = true ∧ (Lit.int .i64 f).wf = true := by
 obtain ⟨xs, k, hk, hxy, hlen, hxl, hf⟩ := DataW.trod_struct Tryz.underlying23 h
 rw [Tryz.cells23] at hlen
 obtain ⟨y0, y1, y2, y3, y4, y5, y6, rfl⟩ := list7 hxl
 obtain ⟨v0, v1, v2, v3, v4, v5, v6, rfl⟩ := list7 hlen
 have g0 := hf 0 _ rfl
 have g1 := hf 1 _ rfl
 have g2 := hf 2 _ rfl
 have g3 := hf 3 _ rfl
 have g4 := hf 4 _ rfl
 have g5 := hf 5 _ rfl
 have g6 := hf 6 _ rfl
 simp [Tryz.cells3] at g0 g1 g2 g3 g4 g5 g6
 obtain ⟨n0, e0, _, w0⟩ := DataW.trod_int Tryz.underlying3 g0
 obtain ⟨n1, e1, _, w1⟩ := DataW.trod_int Tryz.underlying3 g1
 obtain ⟨n2, e2, _, w2⟩ := DataW.trod_int Tryz.underlying3 g2
 obtain ⟨n3, e3, _, w3⟩ := DataW.trod_int Tryz.underlying3 g3
 obtain ⟨n4, e4, _, w4⟩ := DataW.trod_int Tryz.underlying3 g4
 obtain ⟨n5, e5, _, w5⟩ := DataW.trod_int Tryz.underlying3 g5
 obtain ⟨n6, e6, _, w6⟩ := DataW.trod_int Tryz.underlying3 g6
 simp at e0 e1 e2 e3 e4 e5 e6
 exact ⟨n0, n1, n2, n3, n4, n5, n6, by rw [e0, e1, e2, e3, e4, e5, e6], w0, w1, w2, w3, w4, w5, w6⟩
theorem setup_open {fuel : Nat} {cs : List Value} {x : DataW H × List MemPlace} (h : DataW.trod enc Tryz.prog w 0 spare held fuel 27 cs = some x) :
  ∃ (t wd s g r cp f : Int) (a : Option Addr) (len cap : Nat) (zs : List Int) (ja : Option Addr) (jlen jcap : Nat) (js : List JobD),
   cs = [.int .i64 t, .int .i64 wd, .int .i64 s, .int .i64 g, .int .i64 r, .int .i64 cp, .int .i64 f, .slice a len cap, .slice ja jlen jcap] ∧
   zs.length = len ∧ len ≤ maxLen ∧ Ints w w.heap.size a zs ∧ (∀ z ∈ zs, (Lit.int .i64 z).wf = true) ∧ js.length = jlen ∧ jlen ≤ maxLen ∧ JobsIn w w.heap.size ja js ∧
   (∀ j ∈ js, (Lit.int .i64 j.t).wf = true ∧ j.len ≤ maxLen ∧ ∃ is : List InsD, is.length = j.len ∧ CodeIn w w.heap.size j.a is ∧ ∀ i ∈ is, i.wf) := by
 obtain ⟨xs, k, hk, hxy, hlen, hxl, hf⟩ := DataW.trod_struct Tryz.underlying27 h
 rw [Tryz.cells27] at hlen
 obtain ⟨y0, y1, y2, rfl⟩ := list3 hxl
 obtain ⟨v0, v1, v2, v3, v4, v5, v6, v7, v8, rfl⟩ := list9 hlen
 have g0 := hf 0 _ rfl
 have g1 := hf 1 _ rfl
 have g2 := hf 2 _ rfl
 simp [Tryz.cells23, Tryz.cells24, Tryz.cells25] at g0 g1 g2
 obtain ⟨n0, n1, n2, n3, n4, n5, n6, e0, _⟩ := cfg_open g0
 obtain ⟨a, len, cap, zs, e1, h1, h2, h3, h4⟩ := ints_open g1
 obtain ⟨ja, jlen, jcap, js, e2, h5, h6, h7, h8⟩ := jobs_open g2
 simp at e0 e1 e2
 obtain ⟨rfl, rfl, rfl, rfl, rfl, rfl, rfl⟩ := e0
 subst e1 e2
 exact ⟨n0, n1, n2, n3, n4, n5, n6, a, len, cap, zs, ja, jlen, jcap, js, rfl, h1, h2, h3, h4, h5, h6, h7, h8⟩
end
end Go.Proofs.YtejadojilncbjabGreat
