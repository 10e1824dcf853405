import Derived.Test.YtgdfmmfkdmhdgaaChecked
import Derived.WalkKit
import Derived.Below
import Derived.Deep.QuietTactic
import Derived.BigQuiet
import Derived.WalkSmall
namespace Go.Proofs.Ytgdfmmfkdmhdgaa
open Go.RowKit
set_option linter.unusedVariables false

/-- lo ≤ v ≤ hi, as a Bool that the walk does not open. -/
def inB (v lo hi : Int) : Bool := decide (lo ≤ v) && decide (v ≤ hi)

theorem is_any (v lo hi : Int) (w : World) :
    Calls Try.prog 27 #[.int .i64 v, .int .i64 lo, .int .i64 hi] w fun e w' => e = .returned (.bool (inB v lo hi)) ∧ w' = w := by
  by_cases h1 : lo ≤ v <;> by_cases h2 : v ≤ hi
  all_goals
    go_enter Try.func27, Try.ntmps27
    go_wp2
    go_ret
    exact ⟨by simp [inB, h1, h2], rfl⟩

theorem within_any (v lo hi : Int) (w : World) :
    Calls Try.prog 55 #[.int .i64 v, .int .i64 lo, .int .i64 hi] w fun e w' => e = .returned (.bool (inB v lo hi)) ∧ w' = w := by
  by_cases h1 : lo ≤ v <;> by_cases h2 : v ≤ hi
  all_goals
    go_enter Try.func55, Try.ntmps55
    go_wp2
    go_ret
    exact ⟨by simp [inB, h1, h2], rfl⟩

theorem codeFits_any (a : Option Addr) (len cap : Nat) (w : World) :
    Calls Try.prog 43 #[.slice a len cap] w fun e w' => e = .returned (.bool (decide ((len : Int) ≤ 20))) ∧ w' = w := by
  go_enter Try.func43, Try.ntmps43
  go_wp2
  go_ret
  exact ⟨by simp, rfl⟩
end Go.Proofs.Ytgdfmmfkdmhdgaa

namespace Go.Proofs.Ytgdfmmfkdmhdgaa
open Go.RowKit
set_option linter.unusedVariables false

/-- A config's seven numbers. -/
structure Cfg where
  t : Int
  wd : Int
  s : Int
  g : Int
  r : Int
  cp : Int
  f : Int

def Cfg.val (c : Cfg) : Value := .agg #[.int .i64 c.t, .int .i64 c.wd, .int .i64 c.s, .int .i64 c.g, .int .i64 c.r, .int .i64 c.cp, .int .i64 c.f]

def cfgB (c : Cfg) : Bool := inB c.t 1 4 && inB c.wd 1 8 && inB c.s 1 8 && inB c.g 0 8 && inB c.r 0 4 && inB c.cp 0 8 && inB c.f 1 40

set_option maxHeartbeats 1000000 in
theorem refConfig_core (t wd s g r cp f : Int) (w : World) :
    Calls Try.prog 44 #[.agg #[.int .i64 t, .int .i64 wd, .int .i64 s, .int .i64 g, .int .i64 r, .int .i64 cp, .int .i64 f]] w fun e w' =>
      e = .returned (.bool (cfgB ⟨t, wd, s, g, r, cp, f⟩)) ∧ Below w.heap.size w w' := by
  go_enter Try.func44, Try.ntmps44
  go_wp2_with (go_at_call 27; refine (is_any _ _ _ _).mono ?_; rintro e w' ⟨rfl, rfl⟩)
  all_goals
    go_ret
    exact ⟨by simp [cfgB, *], (Below.refl _ _).alloc (Nat.le_refl _) _⟩

set_option maxHeartbeats 1000000 in
theorem configFits_core (t wd s g r cp f : Int) (w : World) :
    Calls Try.prog 53 #[.agg #[.int .i64 t, .int .i64 wd, .int .i64 s, .int .i64 g, .int .i64 r, .int .i64 cp, .int .i64 f]] w fun e w' =>
      e = .returned (.bool (cfgB ⟨t, wd, s, g, r, cp, f⟩)) ∧ Below w.heap.size w w' := by
  go_enter Try.func53, Try.ntmps53
  go_wp2_with (go_at_call 55; refine (within_any _ _ _ _).mono ?_; rintro e w' ⟨rfl, rfl⟩)
  all_goals
    go_ret
    exact ⟨by simp [cfgB, *], (Below.refl _ _).alloc (Nat.le_refl _) _⟩

end Go.Proofs.Ytgdfmmfkdmhdgaa

namespace Go.Proofs.Ytgdfmmfkdmhdgaa
open Go.RowKit
set_option linter.unusedVariables false

/-- The numbers zs lie behind a slice's address, below block B. -/
def Ints (w : World) (B : Nat) (a : Option Addr) (zs : List Int) : Prop :=
  ∀ i, i < zs.length → ∃ b off, a = some ⟨b, off, none⟩ ∧ b < B ∧ w.cell? ⟨b, off + i, none⟩ = some (.int .i64 (zs.getD i 0))

def memB (zs : List Int) : Bool := zs.all fun z => inB z 0 65535

theorem memB_true {zs : List Int} (h : ∀ j, j < zs.length → inB (zs.getD j 0) 0 65535 = true) : memB zs = true := by
  unfold memB
  rw [List.all_eq_true]
  intro x hx
  obtain ⟨j, hj, rfl⟩ := List.mem_iff_getElem.1 hx
  have := h j hj
  simpa [List.getD, List.getElem?_eq_getElem hj] using this

theorem memB_false {zs : List Int} {k : Nat} (hk : k < zs.length) (h : inB (zs.getD k 0) 0 65535 = false) : memB zs = false := by
  unfold memB
  rw [List.all_eq_false]
  exact ⟨zs[k], List.getElem_mem hk, by simpa [List.getD, List.getElem?_eq_getElem hk] using h⟩

theorem bcell {W w1 : World} (hb : Below W.heap.size W w1) : (∀ b o, b < W.heap.size → w1.cell? ⟨b, o, none⟩ = W.cell? ⟨b, o, none⟩) ∧ (∀ b o, b < W.heap.size → w1.frozen? ⟨b, o, none⟩ = W.frozen? ⟨b, o, none⟩) :=
  ⟨fun b o h => hb.cell (p := ⟨b, o, none⟩) h, fun b o h => hb.frozen (p := ⟨b, o, none⟩) h⟩

theorem Ints.below {w w' : World} {B : Nat} {a : Option Addr} {zs : List Int} (h : Ints w B a zs) (hb : Below w.heap.size w w') (hB : B ≤ w.heap.size) : Ints w' B a zs := by
  intro i hi
  obtain ⟨b, off, ha, hlt, hc⟩ := h i hi
  exact ⟨b, off, ha, hlt, by rw [hb.cell (p := ⟨b, off + i, none⟩) (by show b < _; omega)]; exact hc⟩

theorem Ints.mono {w : World} {B B' : Nat} {a : Option Addr} {zs : List Int} (h : Ints w B a zs) (hB : B ≤ B') : Ints w B' a zs := by
  intro i hi
  obtain ⟨b, off, ha, hlt, hc⟩ := h i hi
  exact ⟨b, off, ha, by omega, hc⟩

set_option maxHeartbeats 1000000 in
theorem memFits_any (n : Int) (a : Option Addr) (len cap : Nat) (zs : List Int) (w : World) (hl : zs.length = len) (hm : len ≤ maxLen) (h : Ints w w.heap.size a zs) :
    Calls Try.prog 54 #[.int .i64 n, .slice a len cap] w fun e w' => e = .returned (.bool (decide ((zs.length : Int) = n) && memB zs)) ∧ w' = w := by
  subst hl
  unfold maxLen at hm
  have HI : Hid (Ints w w.heap.size a zs) := h
  clear h
  by_cases hn : (zs.length : Int) = n
  · have hne : ((zs.length : Int) != n) = false := by simp [hn]
    have HN : Hid ((zs.length : Int) = n) := hn
    clear hn
    go_enter Try.func54, Try.ntmps54
    go_wp2
    go_loop [13] (fun i => ∃ k : Nat, k ≤ zs.length ∧ i = .int .i64 k ∧ Hid (∀ j, j < k → inB (zs.getD j 0) 0 65535 = true)) (fun i => zs.length - (intOf i).toNat)
    case atStart => exact ⟨0, Nat.zero_le _, rfl, fun j hj => absurd hj (by omega)⟩
    case round =>
      obtain ⟨k, hk, rfl, HA⟩ := hrel
      by_cases hlt : k < zs.length
      · obtain ⟨b, off, rfl, hb, hc⟩ := HI.out k hlt
        obtain ⟨z, hz⟩ : ∃ z, z = zs.getD k 0 := ⟨_, rfl⟩
        rw [← hz] at hc
        have HZ : Hid (z = zs.getD k 0) := hz
        clear hz
        cases hin : inB z 0 65535 with
        | true =>
          have H1 : Hid (∀ j, j < k + 1 → inB (zs.getD j 0) 0 65535 = true) := fun j hj => by
            rcases Nat.lt_succ_iff_lt_or_eq.1 hj with h | rfl
            · exact HA.out j h
            · rw [← HZ.out]; exact hin
          clear HA
          go_wp2_with (go_at_call 55; refine (within_any _ _ _ _).mono ?_; rintro e w' ⟨rfl, rfl⟩)
          go_round
          case rel => exact ⟨k + 1, by omega, by go_num, H1⟩
          case measure => simp [intOf]; omega
        | false =>
          have HF : Hid (memB zs = false) := memB_false hlt (by rw [← HZ.out]; exact hin)
          go_wp2_with (go_at_call 55; refine (within_any _ _ _ _).mono ?_; rintro e w' ⟨rfl, rfl⟩)
          go_ret
          exact ⟨by simp [HF.out], rfl⟩
      · have hke : k = zs.length := by omega
        have HF : Hid (memB zs = true) := memB_true (fun j hj => HA.out j (by omega))
        clear hke
        go_wp2
        go_ret
        exact ⟨by simp [HF.out, HN.out], rfl⟩
  · have hne : ((zs.length : Int) != n) = true := by simp [hn]
    have HN : Hid (¬ (zs.length : Int) = n) := hn
    clear hn
    go_enter Try.func54, Try.ntmps54
    go_wp2
    go_ret
    exact ⟨by simp [HN.out], rfl⟩

end Go.Proofs.Ytgdfmmfkdmhdgaa

namespace Go.Proofs.Ytgdfmmfkdmhdgaa
open Go.RowKit
set_option linter.unusedVariables false

/-- ErrConfig, ErrMemory, or none. -/
def machN (c : Cfg) (zs : List Int) : Int := if cfgB c then (if (zs.length : Int) = c.wd ∧ memB zs = true then 0 else 2) else 1

set_option maxHeartbeats 1000000 in
theorem world_core (t wd s g r cp f : Int) (a : Option Addr) (len cap : Nat) (zs : List Int) (w : World) (hl : zs.length = len) (hm : len ≤ maxLen) (h : Ints w w.heap.size a zs) :
    Calls Try.prog 41 #[.agg #[.int .i64 t, .int .i64 wd, .int .i64 s, .int .i64 g, .int .i64 r, .int .i64 cp, .int .i64 f], .slice a len cap] w fun e w' =>
      e = .returned (.int .i64 (machN ⟨t, wd, s, g, r, cp, f⟩ zs)) ∧ Below w.heap.size w w' := by
  have HI : Hid (Ints w w.heap.size a zs) := h
  have HL : Hid (zs.length = len) := hl
  clear h hl
  go_enter Try.func41, Try.ntmps41
  go_wp2_with fail
  refine (configFits_core _ _ _ _ _ _ _ _).mono ?_
  rintro e w1 ⟨rfl, hb1⟩
  obtain ⟨hc1, hf1⟩ := bcell hb1
  have hsz : w.heap.size + 1 ≤ w1.heap.size := by have := hb1.size; simp at this; omega
  have hB : Below w.heap.size w w1 := ((Below.refl _ _).alloc (Nat.le_refl _) _).trans (hb1.mono (by simp))
  have HI1 : Hid (Ints w1 w1.heap.size a zs) := ((HI.out).below hB (Nat.le_refl _)).mono (by omega)
  clear hb1
  cases hcfg : cfgB ⟨t, wd, s, g, r, cp, f⟩ with
  | false =>
    go_wp2_with fail
    go_ret
    exact ⟨by simp [machN, hcfg], hB⟩
  | true =>
    go_wp2_with fail
    refine (memFits_any _ _ _ _ zs _ HL.out hm HI1.out).mono ?_
    rintro e w2 ⟨rfl, rfl⟩
    cases hmm : (decide ((zs.length : Int) = wd) && memB zs) with
    | false =>
      go_wp2_with fail
      go_ret
      exact ⟨by simp at hmm; simp [machN, hcfg]; intro h; exact hmm h, hB⟩
    | true =>
      go_wp2_with fail
      go_ret
      exact ⟨by simp at hmm; simp [machN, hcfg, hmm], hB⟩

set_option maxHeartbeats 1000000 in
theorem machine_core (t wd s g r cp f : Int) (a : Option Addr) (len cap : Nat) (zs : List Int) (w : World) (hl : zs.length = len) (hm : len ≤ maxLen) (h : Ints w w.heap.size a zs) :
    Calls Try.prog 26 #[.agg #[.int .i64 t, .int .i64 wd, .int .i64 s, .int .i64 g, .int .i64 r, .int .i64 cp, .int .i64 f], .slice a len cap] w fun e w' =>
      e = .returned (.int .i64 (machN ⟨t, wd, s, g, r, cp, f⟩ zs)) ∧ Below w.heap.size w w' := by
  subst hl
  unfold maxLen at hm
  have HI : Hid (Ints w w.heap.size a zs) := h
  clear h
  go_enter Try.func26, Try.ntmps26
  go_wp2_with fail
  refine (refConfig_core _ _ _ _ _ _ _ _).mono ?_
  rintro e w1 ⟨rfl, hb1⟩
  obtain ⟨hc1, hf1⟩ := bcell hb1
  have hsz : w.heap.size + 1 ≤ w1.heap.size := by have := hb1.size; simp at this; omega
  have hB : Below w.heap.size w w1 := ((Below.refl _ _).alloc (Nat.le_refl _) _).trans (hb1.mono (by simp))
  have HI1 : Hid (Ints w1 w1.heap.size a zs) := ((HI.out).below hB (Nat.le_refl _)).mono (by omega)
  clear hb1
  cases hcfg : cfgB ⟨t, wd, s, g, r, cp, f⟩ with
  | false =>
    go_wp2_with fail
    go_ret
    exact ⟨by simp [machN, hcfg], hB⟩
  | true =>
    by_cases hn : (zs.length : Int) = wd
    · have hne : ((zs.length : Int) != wd) = false := by simp [hn]
      have HN : Hid ((zs.length : Int) = wd) := hn
      clear hn
      have HC : Hid (cfgB ⟨t, wd, s, g, r, cp, f⟩ = true) := hcfg
      go_wp2
      clear hcfg
      go_loop [6] (fun i => ∃ k : Nat, k ≤ zs.length ∧ i = .int .i64 k ∧ Hid (∀ j, j < k → inB (zs.getD j 0) 0 65535 = true)) (fun i => zs.length - (intOf i).toNat)
      case atStart => exact ⟨0, Nat.zero_le _, rfl, fun j hj => absurd hj (by omega)⟩
      case round =>
        obtain ⟨k, hk, rfl, HA⟩ := hrel
        by_cases hlt : k < zs.length
        · obtain ⟨b, off, rfl, hb, hc⟩ := HI1.out k hlt
          obtain ⟨z, hz⟩ : ∃ z, z = zs.getD k 0 := ⟨_, rfl⟩
          rw [← hz] at hc
          have HZ : Hid (z = zs.getD k 0) := hz
          clear hz
          cases hin : inB z 0 65535 with
          | true =>
            have H1 : Hid (∀ j, j < k + 1 → inB (zs.getD j 0) 0 65535 = true) := fun j hj => by
              rcases Nat.lt_succ_iff_lt_or_eq.1 hj with h | rfl
              · exact HA.out j h
              · rw [← HZ.out]; exact hin
            clear HA
            go_wp2_with (go_at_call 27; refine (is_any _ _ _ _).mono ?_; rintro e w' ⟨rfl, rfl⟩)
            go_round
            case rel => exact ⟨k + 1, by omega, by go_num, H1⟩
            case measure => simp [intOf]; omega
          | false =>
            have HF : Hid (memB zs = false) := memB_false hlt (by rw [← HZ.out]; exact hin)
            go_wp2_with (go_at_call 27; refine (is_any _ _ _ _).mono ?_; rintro e w' ⟨rfl, rfl⟩)
            go_ret
            exact ⟨by simp [machN, HC.out, HF.out], hB⟩
        · have HF : Hid (memB zs = true) := memB_true (fun j hj => HA.out j (by omega))
          go_wp2
          go_ret
          exact ⟨by simp [machN, HC.out, HF.out, HN.out], hB⟩
    · have hne : ((zs.length : Int) != wd) = true := by simp [hn]
      have HN : Hid (¬ (zs.length : Int) = wd) := hn
      clear hn
      go_wp2
      go_ret
      exact ⟨by simp [machN, hcfg, HN.out], hB⟩

end Go.Proofs.Ytgdfmmfkdmhdgaa

namespace Go.Proofs.Ytgdfmmfkdmhdgaa
open Go.RowKit
set_option linter.unusedVariables false

/-- A job as it lies: its thread, its code's slice. -/
structure JobD where
  t : Int
  a : Option Addr
  len : Nat
  cap : Nat

/-- Job i of the list (a filler behind its end). -/
def jobAt (js : List JobD) (i : Nat) : JobD := js.getD i ⟨0, none, 0, 0⟩

def JobsIn (w : World) (B : Nat) (a : Option Addr) (js : List JobD) : Prop :=
  ∀ i, i < js.length → ∃ b off, a = some ⟨b, off, none⟩ ∧ b < B ∧ w.cell? ⟨b, off + i * 2, none⟩ = some (.int .i64 (jobAt js i).t) ∧
    w.cell? ⟨b, off + i * 2 + 1, none⟩ = some (.slice (jobAt js i).a (jobAt js i).len (jobAt js i).cap)

theorem JobsIn.below {w w' : World} {B : Nat} {a : Option Addr} {js : List JobD} (h : JobsIn w B a js) (hb : Below w.heap.size w w') (hB : B ≤ w.heap.size) : JobsIn w' B a js := by
  intro i hi
  obtain ⟨b, off, ha, hlt, h1, h2⟩ := h i hi
  exact ⟨b, off, ha, hlt, by rw [hb.cell (p := ⟨b, off + i * 2, none⟩) (by show b < _; omega)]; exact h1, by rw [hb.cell (p := ⟨b, off + i * 2 + 1, none⟩) (by show b < _; omega)]; exact h2⟩

theorem JobsIn.mono {w : World} {B B' : Nat} {a : Option Addr} {js : List JobD} (h : JobsIn w B a js) (hB : B ≤ B') : JobsIn w B' a js := by
  intro i hi
  obtain ⟨b, off, ha, hlt, h1⟩ := h i hi
  exact ⟨b, off, ha, by omega, h1⟩

def thrB (t : Int) (js : List JobD) : Bool := js.all fun j => inB j.t 0 (t - 1)
def lenB (js : List JobD) : Bool := js.all fun j => decide ((j.len : Int) ≤ 20)

theorem all_true {p : JobD → Bool} {js : List JobD} (h : ∀ j, j < js.length → p (jobAt js j) = true) : js.all p = true := by
  rw [List.all_eq_true]
  intro x hx
  obtain ⟨j, hj, rfl⟩ := List.mem_iff_getElem.1 hx
  have := h j hj
  simpa [jobAt, List.getD, List.getElem?_eq_getElem hj] using this

theorem all_false {p : JobD → Bool} {js : List JobD} {k : Nat} (hk : k < js.length) (h : p (jobAt js k) = false) : js.all p = false := by
  rw [List.all_eq_false]
  exact ⟨js[k], List.getElem_mem hk, by simpa [jobAt, List.getD, List.getElem?_eq_getElem hk] using h⟩

set_option maxHeartbeats 1000000 in
theorem jobsFit_any (t : Int) (a : Option Addr) (len cap : Nat) (js : List JobD) (w : World) (ht1 : 1 ≤ t) (ht2 : t ≤ 4) (hl : js.length = len) (hm : len ≤ maxLen) (h : JobsIn w w.heap.size a js) :
    Calls Try.prog 42 #[.int .i64 t, .slice a len cap] w fun e w' => e = .returned (.bool (decide (js.length ≤ 8) && thrB t js)) ∧ Below w.heap.size w w' := by
  subst hl
  unfold maxLen at hm
  have HI : Hid (JobsIn w w.heap.size a js) := h
  clear h
  by_cases h8 : js.length ≤ 8
  · go_enter Try.func42, Try.ntmps42
    go_wp2
    go_loopw [12] (fun i wr => ∃ k : Nat, k ≤ js.length ∧ i = .int .i64 k ∧ Hid (∀ j, j < k → inB (jobAt js j).t 0 (t - 1) = true) ∧ Below w.heap.size w wr) (fun i wr => js.length - (intOf i).toNat)
    case atStart => exact ⟨0, Nat.zero_le _, rfl, fun j hj => absurd hj (by omega), Below.refl _ _⟩
    case round =>
      obtain ⟨k, hk, rfl, HA, hB⟩ := hrel
      have hsz := hB.size
      by_cases hlt : k < js.length
      · obtain ⟨b, off, rfl, hb, hc1, hc2⟩ := ((HI.out).below hB (Nat.le_refl _)) k hlt
        obtain ⟨z, hz⟩ : ∃ z, z = jobAt js k := ⟨_, rfl⟩
        rw [← hz] at hc1 hc2
        have HZ : Hid (z = jobAt js k) := hz
        clear hz
        cases hin : inB z.t 0 (t - 1) with
        | true =>
          have H1 : Hid (∀ j, j < k + 1 → inB (jobAt js j).t 0 (t - 1) = true) := fun j hj => by
            rcases Nat.lt_succ_iff_lt_or_eq.1 hj with h | rfl
            · exact HA.out j h
            · rw [← HZ.out]; exact hin
          clear HA
          go_wp2_with (go_at_call 55; refine (within_any _ _ _ _).mono ?_; rintro e w' ⟨rfl, rfl⟩)
          go_roundw
          case rel => exact ⟨k + 1, by omega, by go_num, H1, hB.alloc (by omega) _⟩
          case measure => simp [intOf]; omega
        | false =>
          have HF : Hid (thrB t js = false) := all_false hlt (by rw [← HZ.out]; exact hin)
          go_wp2_with (go_at_call 55; refine (within_any _ _ _ _).mono ?_; rintro e w' ⟨rfl, rfl⟩)
          go_ret
          exact ⟨by simp [HF.out], (hB.alloc (by omega) _)⟩
      · have HF : Hid (thrB t js = true) := all_true (fun j hj => HA.out j (by omega))
        go_wp2
        go_ret
        exact ⟨by simp [HF.out, h8], hB⟩
  · go_enter Try.func42, Try.ntmps42
    go_wp2
    go_ret
    exact ⟨by simp; omega, Below.refl _ _⟩

end Go.Proofs.Ytgdfmmfkdmhdgaa
