import Derived.Test.YtejadojilncbjaaGreatChecked
import Derived.WalkKit
import Derived.Below
import Derived.Deep.QuietTactic
import Derived.BigQuiet
import Derived.WalkSmall
namespace Go.Proofs.YtejadojilncbjaaGreat
open Go.RowKit
set_option linter.unusedVariables false

/-- lo ≤ v ≤ hi, as a Bool that the walk does not open. -/
def inB (v lo hi : Int) : Bool := decide (lo ≤ v) && decide (v ≤ hi)

theorem is_any (v lo hi : Int) (w : World) :
    Calls Tryz.prog 63 #[.int .i64 v, .int .i64 lo, .int .i64 hi] w fun e w' => e = .returned (.bool (inB v lo hi)) ∧ w' = w := by
  by_cases h1 : lo ≤ v <;> by_cases h2 : v ≤ hi
  all_goals
    go_enter Tryz.func63, Tryz.ntmps63
    go_wp2
    go_ret
    exact ⟨by simp [inB, h1, h2], rfl⟩

theorem within_any (v lo hi : Int) (w : World) :
    Calls Tryz.prog 75 #[.int .i64 v, .int .i64 lo, .int .i64 hi] w fun e w' => e = .returned (.bool (inB v lo hi)) ∧ w' = w := by
  by_cases h1 : lo ≤ v <;> by_cases h2 : v ≤ hi
  all_goals
    go_enter Tryz.func75, Tryz.ntmps75
    go_wp2
    go_ret
    exact ⟨by simp [inB, h1, h2], rfl⟩

theorem codeFits_any (a : Option Addr) (len cap : Nat) (w : World) :
    Calls Tryz.prog 59 #[.slice a len cap] w fun e w' => e = .returned (.bool (decide ((len : Int) ≤ 20))) ∧ w' = w := by
  go_enter Tryz.func59, Tryz.ntmps59
  go_wp2
  go_ret
  exact ⟨by simp, rfl⟩
end Go.Proofs.YtejadojilncbjaaGreat

namespace Go.Proofs.YtejadojilncbjaaGreat
open Go.RowKit
set_option linter.unusedVariables false

/-- A config's seven numbers. -/
structure Cfg where
  t : Int
  wd : Int
  s : Int
  g : Int
  r : Int
  cp : Int
  f : Int

def Cfg.val (c : Cfg) : Value := .agg #[.int .i64 c.t, .int .i64 c.wd, .int .i64 c.s, .int .i64 c.g, .int .i64 c.r, .int .i64 c.cp, .int .i64 c.f]

def cfgB (c : Cfg) : Bool := inB c.t 1 4 && inB c.wd 1 8 && inB c.s 1 8 && inB c.g 0 8 && inB c.r 0 4 && inB c.cp 0 8 && inB c.f 1 40

set_option maxHeartbeats 1000000 in
theorem refConfig_core (t wd s g r cp f : Int) (w : World) :
    Calls Tryz.prog 76 #[.agg #[.int .i64 t, .int .i64 wd, .int .i64 s, .int .i64 g, .int .i64 r, .int .i64 cp, .int .i64 f]] w fun e w' =>
      e = .returned (.bool (cfgB ⟨t, wd, s, g, r, cp, f⟩)) ∧ Below w.heap.size w w' := by
  go_enter Tryz.func76, Tryz.ntmps76
  go_wp2_with (go_at_call 63; refine (is_any _ _ _ _).mono ?_; rintro e w' ⟨rfl, rfl⟩)
  all_goals
    go_ret
    exact ⟨by simp [cfgB, *], (Below.refl _ _).alloc (Nat.le_refl _) _⟩

set_option maxHeartbeats 1000000 in
theorem configFits_core (t wd s g r cp f : Int) (w : World) :
    Calls Tryz.prog 73 #[.agg #[.int .i64 t, .int .i64 wd, .int .i64 s, .int .i64 g, .int .i64 r, .int .i64 cp, .int .i64 f]] w fun e w' =>
      e = .returned (.bool (cfgB ⟨t, wd, s, g, r, cp, f⟩)) ∧ Below w.heap.size w w' := by
  go_enter Tryz.func73, Tryz.ntmps73
  go_wp2_with (go_at_call 75; refine (within_any _ _ _ _).mono ?_; rintro e w' ⟨rfl, rfl⟩)
  all_goals
    go_ret
    exact ⟨by simp [cfgB, *], (Below.refl _ _).alloc (Nat.le_refl _) _⟩

end Go.Proofs.YtejadojilncbjaaGreat

namespace Go.Proofs.YtejadojilncbjaaGreat
open Go.RowKit
set_option linter.unusedVariables false

/-- The numbers zs lie behind a slice's address, below block B. -/
def Ints (w : World) (B : Nat) (a : Option Addr) (zs : List Int) : Prop :=
  ∀ i, i < zs.length → ∃ b off, a = some ⟨b, off, none⟩ ∧ b < B ∧ w.cell? ⟨b, off + i, none⟩ = some (.int .i64 (zs.getD i 0))

def memB (zs : List Int) : Bool := zs.all fun z => inB z 0 65535

theorem memB_true {zs : List Int} (h : ∀ j, j < zs.length → inB (zs.getD j 0) 0 65535 = true) : memB zs = true := by
  unfold memB
  rw [List.all_eq_true]
  intro x hx
  obtain ⟨j, hj, rfl⟩ := List.mem_iff_getElem.1 hx
  have := h j hj
  simpa [List.getD, List.getElem?_eq_getElem hj] using this

theorem memB_false {zs : List Int} {k : Nat} (hk : k < zs.length) (h : inB (zs.getD k 0) 0 65535 = false) : memB zs = false := by
  unfold memB
  rw [List.all_eq_false]
  exact ⟨zs[k], List.getElem_mem hk, by simpa [List.getD, List.getElem?_eq_getElem hk] using h⟩

theorem bcell {W w1 : World} (hb : Below W.heap.size W w1) : (∀ b o, b < W.heap.size → w1.cell? ⟨b, o, none⟩ = W.cell? ⟨b, o, none⟩) ∧ (∀ b o, b < W.heap.size → w1.frozen? ⟨b, o, none⟩ = W.frozen? ⟨b, o, none⟩) :=
  ⟨fun b o h => hb.cell (p := ⟨b, o, none⟩) h, fun b o h => hb.frozen (p := ⟨b, o, none⟩) h⟩

theorem Ints.below {w w' : World} {B : Nat} {a : Option Addr} {zs : List Int} (h : Ints w B a zs) (hb : Below w.heap.size w w') (hB : B ≤ w.heap.size) : Ints w' B a zs := by
  intro i hi
  obtain ⟨b, off, ha, hlt, hc⟩ := h i hi
  exact ⟨b, off, ha, hlt, by rw [hb.cell (p := ⟨b, off + i, none⟩) (by show b < _; omega)]; exact hc⟩

theorem Ints.mono {w : World} {B B' : Nat} {a : Option Addr} {zs : List Int} (h : Ints w B a zs) (hB : B ≤ B') : Ints w B' a zs := by
  intro i hi
  obtain ⟨b, off, ha, hlt, hc⟩ := h i hi
  exact ⟨b, off, ha, by omega, hc⟩

set_option maxHeartbeats 1000000 in
theorem memFits_any (n : Int) (a : Option Addr) (len cap : Nat) (zs : List Int) (w : World) (hl : zs.length = len) (hm : len ≤ maxLen) (h : Ints w w.heap.size a zs) :
    Calls Tryz.prog 74 #[.int .i64 n, .slice a len cap] w fun e w' => e = .returned (.bool (decide ((zs.length : Int) = n) && memB zs)) ∧ w' = w := by
  subst hl
  unfold maxLen at hm
  have HI : Hid (Ints w w.heap.size a zs) := h
  clear h
  by_cases hn : (zs.length : Int) = n
  · have hne : ((zs.length : Int) != n) = false := by simp [hn]
    have HN : Hid ((zs.length : Int) = n) := hn
    clear hn
    go_enter Tryz.func74, Tryz.ntmps74
    go_wp2
    go_loop [13] (fun i => ∃ k : Nat, k ≤ zs.length ∧ i = .int .i64 k ∧ Hid (∀ j, j < k → inB (zs.getD j 0) 0 65535 = true)) (fun i => zs.length - (intOf i).toNat)
    case atStart => exact ⟨0, Nat.zero_le _, rfl, fun j hj => absurd hj (by omega)⟩
    case round =>
      obtain ⟨k, hk, rfl, HA⟩ := hrel
      by_cases hlt : k < zs.length
      · obtain ⟨b, off, rfl, hb, hc⟩ := HI.out k hlt
        obtain ⟨z, hz⟩ : ∃ z, z = zs.getD k 0 := ⟨_, rfl⟩
        rw [← hz] at hc
        have HZ : Hid (z = zs.getD k 0) := hz
        clear hz
        cases hin : inB z 0 65535 with
        | true =>
          have H1 : Hid (∀ j, j < k + 1 → inB (zs.getD j 0) 0 65535 = true) := fun j hj => by
            rcases Nat.lt_succ_iff_lt_or_eq.1 hj with h | rfl
            · exact HA.out j h
            · rw [← HZ.out]; exact hin
          clear HA
          go_wp2_with (go_at_call 75; refine (within_any _ _ _ _).mono ?_; rintro e w' ⟨rfl, rfl⟩)
          go_round
          case rel => exact ⟨k + 1, by omega, by go_num, H1⟩
          case measure => simp [intOf]; omega
        | false =>
          have HF : Hid (memB zs = false) := memB_false hlt (by rw [← HZ.out]; exact hin)
          go_wp2_with (go_at_call 75; refine (within_any _ _ _ _).mono ?_; rintro e w' ⟨rfl, rfl⟩)
          go_ret
          exact ⟨by simp [HF.out], rfl⟩
      · have hke : k = zs.length := by omega
        have HF : Hid (memB zs = true) := memB_true (fun j hj => HA.out j (by omega))
        clear hke
        go_wp2
        go_ret
        exact ⟨by simp [HF.out, HN.out], rfl⟩
  · have hne : ((zs.length : Int) != n) = true := by simp [hn]
    have HN : Hid (¬ (zs.length : Int) = n) := hn
    clear hn
    go_enter Tryz.func74, Tryz.ntmps74
    go_wp2
    go_ret
    exact ⟨by simp [HN.out], rfl⟩

end Go.Proofs.YtejadojilncbjaaGreat

namespace Go.Proofs.YtejadojilncbjaaGreat
open Go.RowKit
set_option linter.unusedVariables false

/-- ErrConfig, ErrMemory, or none. -/
def machN (c : Cfg) (zs : List Int) : Int := if cfgB c then (if (zs.length : Int) = c.wd ∧ memB zs = true then 0 else 2) else 1

set_option maxHeartbeats 1000000 in
theorem world_core (t wd s g r cp f : Int) (a : Option Addr) (len cap : Nat) (zs : List Int) (w : World) (hl : zs.length = len) (hm : len ≤ maxLen) (h : Ints w w.heap.size a zs) :
    Calls Tryz.prog 57 #[.agg #[.int .i64 t, .int .i64 wd, .int .i64 s, .int .i64 g, .int .i64 r, .int .i64 cp, .int .i64 f], .slice a len cap] w fun e w' =>
      e = .returned (.int .i64 (machN ⟨t, wd, s, g, r, cp, f⟩ zs)) ∧ Below w.heap.size w w' := by
  have HI : Hid (Ints w w.heap.size a zs) := h
  have HL : Hid (zs.length = len) := hl
  clear h hl
  go_enter Tryz.func57, Tryz.ntmps57
  go_wp2_with fail
  refine (configFits_core _ _ _ _ _ _ _ _).mono ?_
  rintro e w1 ⟨rfl, hb1⟩
  obtain ⟨hc1, hf1⟩ := bcell hb1
  have hsz : w.heap.size + 1 ≤ w1.heap.size := by have := hb1.size; simp at this; omega
  have hB : Below w.heap.size w w1 := ((Below.refl _ _).alloc (Nat.le_refl _) _).trans (hb1.mono (by simp))
  have HI1 : Hid (Ints w1 w1.heap.size a zs) := ((HI.out).below hB (Nat.le_refl _)).mono (by omega)
  clear hb1
  cases hcfg : cfgB ⟨t, wd, s, g, r, cp, f⟩ with
  | false =>
    go_wp2_with fail
    go_ret
    exact ⟨by simp [machN, hcfg], hB⟩
  | true =>
    go_wp2_with fail
    refine (memFits_any _ _ _ _ zs _ HL.out hm HI1.out).mono ?_
    rintro e w2 ⟨rfl, rfl⟩
    cases hmm : (decide ((zs.length : Int) = wd) && memB zs) with
    | false =>
      go_wp2_with fail
      go_ret
      exact ⟨by simp at hmm; simp [machN, hcfg]; intro h; exact hmm h, hB⟩
    | true =>
      go_wp2_with fail
      go_ret
      exact ⟨by simp at hmm; simp [machN, hcfg, hmm], hB⟩

set_option maxHeartbeats 1000000 in
theorem machine_core (t wd s g r cp f : Int) (a : Option Addr) (len cap : Nat) (zs : List Int) (w : World) (hl : zs.length = len) (hm : len ≤ maxLen) (h : Ints w w.heap.size a zs) :
    Calls Tryz.prog 62 #[.agg #[.int .i64 t, .int .i64 wd, .int .i64 s, .int .i64 g, .int .i64 r, .int .i64 cp, .int .i64 f], .slice a len cap] w fun e w' =>
      e = .returned (.int .i64 (machN ⟨t, wd, s, g, r, cp, f⟩ zs)) ∧ Below w.heap.size w w' := by
  subst hl
  unfold maxLen at hm
  have HI : Hid (Ints w w.heap.size a zs) := h
  clear h
  go_enter Tryz.func62, Tryz.ntmps62
  go_wp2_with fail
  refine (refConfig_core _ _ _ _ _ _ _ _).mono ?_
  rintro e w1 ⟨rfl, hb1⟩
  obtain ⟨hc1, hf1⟩ := bcell hb1
  have hsz : w.heap.size + 1 ≤ w1.heap.size := by have := hb1.size; simp at this; omega
  have hB : Below w.heap.size w w1 := ((Below.refl _ _).alloc (Nat.le_refl _) _).trans (hb1.mono (by simp))
  have HI1 : Hid (Ints w1 w1.heap.size a zs) := ((HI.out).below hB (Nat.le_refl _)).mono (by omega)
  clear hb1
  cases hcfg : cfgB ⟨t, wd, s, g, r, cp, f⟩ with
  | false =>
    go_wp2_with fail
    go_ret
    exact ⟨by simp [machN, hcfg], hB⟩
  | true =>
    by_cases hn : (zs.length : Int) = wd
    · have hne : ((zs.length : Int) != wd) = false := by simp [hn]
      have HN : Hid ((zs.length : Int) = wd) := hn
      clear hn
      have HC : Hid (cfgB ⟨t, wd, s, g, r, cp, f⟩ = true) := hcfg
      go_wp2
      clear hcfg
      go_loop [6] (fun i => ∃ k : Nat, k ≤ zs.length ∧ i = .int .i64 k ∧ Hid (∀ j, j < k → inB (zs.getD j 0) 0 65535 = true)) (fun i => zs.length - (intOf i).toNat)
      case atStart => exact ⟨0, Nat.zero_le _, rfl, fun j hj => absurd hj (by omega)⟩
      case round =>
        obtain ⟨k, hk, rfl, HA⟩ := hrel
        by_cases hlt : k < zs.length
        · obtain ⟨b, off, rfl, hb, hc⟩ := HI1.out k hlt
          obtain ⟨z, hz⟩ : ∃ z, z = zs.getD k 0 := ⟨_, rfl⟩
          rw [← hz] at hc
          have HZ : Hid (z = zs.getD k 0) := hz
          clear hz
          cases hin : inB z 0 65535 with
          | true =>
            have H1 : Hid (∀ j, j < k + 1 → inB (zs.getD j 0) 0 65535 = true) := fun j hj => by
              rcases Nat.lt_succ_iff_lt_or_eq.1 hj with h | rfl
              · exact HA.out j h
              · rw [← HZ.out]; exact hin
            clear HA
            go_wp2_with (go_at_call 63; refine (is_any _ _ _ _).mono ?_; rintro e w' ⟨rfl, rfl⟩)
            go_round
            case rel => exact ⟨k + 1, by omega, by go_num, H1⟩
            case measure => simp [intOf]; omega
          | false =>
            have HF : Hid (memB zs = false) := memB_false hlt (by rw [← HZ.out]; exact hin)
            go_wp2_with (go_at_call 63; refine (is_any _ _ _ _).mono ?_; rintro e w' ⟨rfl, rfl⟩)
            go_ret
            exact ⟨by simp [machN, HC.out, HF.out], hB⟩
        · have HF : Hid (memB zs = true) := memB_true (fun j hj => HA.out j (by omega))
          go_wp2
          go_ret
          exact ⟨by simp [machN, HC.out, HF.out, HN.out], hB⟩
    · have hne : ((zs.length : Int) != wd) = true := by simp [hn]
      have HN : Hid (¬ (zs.length : Int) = wd) := hn
      clear hn
      go_wp2
      go_ret
      exact ⟨by simp [machN, hcfg, HN.out], hB⟩

end Go.Proofs.YtejadojilncbjaaGreat

namespace Go.Proofs.YtejadojilncbjaaGreat
open Go.RowKit
set_option linter.unusedVariables false

/-- A job as it lies: its thread, its code's slice. -/
structure JobD where
  t : Int
  a : Option Addr
  len : Nat
  cap : Nat

/-- Job i of the list (a filler behind its end). -/
def jobAt (js : List JobD) (i : Nat) : JobD := js.getD i ⟨0, none, 0, 0⟩

def JobsIn (w : World) (B : Nat) (a : Option Addr) (js : List JobD) : Prop :=
  ∀ i, i < js.length → ∃ b off, a = some ⟨b, off, none⟩ ∧ b < B ∧ w.cell? ⟨b, off + i * 2, none⟩ = some (.int .i64 (jobAt js i).t) ∧
    w.cell? ⟨b, off + i * 2 + 1, none⟩ = some (.slice (jobAt js i).a (jobAt js i).len (jobAt js i).cap)

theorem JobsIn.below {w w' : World} {B : Nat} {a : Option Addr} {js : List JobD} (h : JobsIn w B a js) (hb : Below w.heap.size w w') (hB : B ≤ w.heap.size) : JobsIn w' B a js := by
  intro i hi
  obtain ⟨b, off, ha, hlt, h1, h2⟩ := h i hi
  exact ⟨b, off, ha, hlt, by rw [hb.cell (p := ⟨b, off + i * 2, none⟩) (by show b < _; omega)]; exact h1, by rw [hb.cell (p := ⟨b, off + i * 2 + 1, none⟩) (by show b < _; omega)]; exact h2⟩

theorem JobsIn.mono {w : World} {B B' : Nat} {a : Option Addr} {js : List JobD} (h : JobsIn w B a js) (hB : B ≤ B') : JobsIn w B' a js := by
  intro i hi
  obtain ⟨b, off, ha, hlt, h1⟩ := h i hi
  exact ⟨b, off, ha, by omega, h1⟩

def thrB (t : Int) (js : List JobD) : Bool := js.all fun j => inB j.t 0 (t - 1)
def lenB (js : List JobD) : Bool := js.all fun j => decide ((j.len : Int) ≤ 20)

theorem all_true {p : JobD → Bool} {js : List JobD} (h : ∀ j, j < js.length → p (jobAt js j) = true) : js.all p = true := by
  rw [List.all_eq_true]
  intro x hx
  obtain ⟨j, hj, rfl⟩ := List.mem_iff_getElem.1 hx
  have := h j hj
  simpa [jobAt, List.getD, List.getElem?_eq_getElem hj] using this

theorem all_false {p : JobD → Bool} {js : List JobD} {k : Nat} (hk : k < js.length) (h : p (jobAt js k) = false) : js.all p = false := by
  rw [List.all_eq_false]
  exact ⟨js[k], List.getElem_mem hk, by simpa [jobAt, List.getD, List.getElem?_eq_getElem hk] using h⟩

set_option maxHeartbeats 1000000 in
theorem jobsFit_any (t : Int) (a : Option Addr) (len cap : Nat) (js : List JobD) (w : World) (ht1 : 1 ≤ t) (ht2 : t ≤ 4) (hl : js.length = len) (hm : len ≤ maxLen) (h : JobsIn w w.heap.size a js) :
    Calls Tryz.prog 58 #[.int .i64 t, .slice a len cap] w fun e w' => e = .returned (.bool (decide (js.length ≤ 8) && thrB t js)) ∧ Below w.heap.size w w' := by
  subst hl
  unfold maxLen at hm
  have HI : Hid (JobsIn w w.heap.size a js) := h
  clear h
  by_cases h8 : js.length ≤ 8
  · go_enter Tryz.func58, Tryz.ntmps58
    go_wp2
    go_loopw [12] (fun i wr => ∃ k : Nat, k ≤ js.length ∧ i = .int .i64 k ∧ Hid (∀ j, j < k → inB (jobAt js j).t 0 (t - 1) = true) ∧ Below w.heap.size w wr) (fun i wr => js.length - (intOf i).toNat)
    case atStart => exact ⟨0, Nat.zero_le _, rfl, fun j hj => absurd hj (by omega), Below.refl _ _⟩
    case round =>
      obtain ⟨k, hk, rfl, HA, hB⟩ := hrel
      have hsz := hB.size
      by_cases hlt : k < js.length
      · obtain ⟨b, off, rfl, hb, hc1, hc2⟩ := ((HI.out).below hB (Nat.le_refl _)) k hlt
        obtain ⟨z, hz⟩ : ∃ z, z = jobAt js k := ⟨_, rfl⟩
        rw [← hz] at hc1 hc2
        have HZ : Hid (z = jobAt js k) := hz
        clear hz
        cases hin : inB z.t 0 (t - 1) with
        | true =>
          have H1 : Hid (∀ j, j < k + 1 → inB (jobAt js j).t 0 (t - 1) = true) := fun j hj => by
            rcases Nat.lt_succ_iff_lt_or_eq.1 hj with h | rfl
            · exact HA.out j h
            · rw [← HZ.out]; exact hin
          clear HA
          go_wp2_with (go_at_call 75; refine (within_any _ _ _ _).mono ?_; rintro e w' ⟨rfl, rfl⟩)
          go_roundw
          case rel => exact ⟨k + 1, by omega, by go_num, H1, hB.alloc (by omega) _⟩
          case measure => simp [intOf]; omega
        | false =>
          have HF : Hid (thrB t js = false) := all_false hlt (by rw [← HZ.out]; exact hin)
          go_wp2_with (go_at_call 75; refine (within_any _ _ _ _).mono ?_; rintro e w' ⟨rfl, rfl⟩)
          go_ret
          exact ⟨by simp [HF.out], (hB.alloc (by omega) _)⟩
      · have HF : Hid (thrB t js = true) := all_true (fun j hj => HA.out j (by omega))
        go_wp2
        go_ret
        exact ⟨by simp [HF.out, h8], hB⟩
  · go_enter Tryz.func58, Tryz.ntmps58
    go_wp2
    go_ret
    exact ⟨by simp; omega, Below.refl _ _⟩

end Go.Proofs.YtejadojilncbjaaGreat

namespace Go.Proofs.YtejadojilncbjaaGreat
open Go.RowKit
set_option linter.unusedVariables false

/-- What Check answers. -/
def checkN (c : Cfg) (zs : List Int) (js : List JobD) : Int :=
  if machN c zs = 0 then (if js.length ≤ 8 ∧ thrB c.t js = true then (if lenB js then 0 else 4) else 3) else machN c zs

theorem machN_ok {c : Cfg} {zs : List Int} (h : machN c zs = 0) : cfgB c = true := by
  unfold machN at h
  cases hc : cfgB c with
  | true => rfl
  | false => simp [hc] at h

theorem inB_true {v lo hi : Int} (h : inB v lo hi = true) : lo ≤ v ∧ v ≤ hi := by
  simpa [inB] using h

theorem cfgB_true {c : Cfg} (h : cfgB c = true) : (1 ≤ c.t ∧ c.t ≤ 4) ∧ (1 ≤ c.wd ∧ c.wd ≤ 8) ∧ (1 ≤ c.s ∧ c.s ≤ 8) ∧ (0 ≤ c.g ∧ c.g ≤ 8) ∧ (0 ≤ c.r ∧ c.r ≤ 4) ∧ (0 ≤ c.cp ∧ c.cp ≤ 8) ∧ (1 ≤ c.f ∧ c.f ≤ 40) := by
  simp only [cfgB, Bool.and_eq_true] at h
  obtain ⟨⟨⟨⟨⟨⟨h1, h2⟩, h3⟩, h4⟩, h5⟩, h6⟩, h7⟩ := h
  exact ⟨inB_true h1, inB_true h2, inB_true h3, inB_true h4, inB_true h5, inB_true h6, inB_true h7⟩

theorem Ints.alloc {w : World} {a : Option Addr} {zs : List Int} (h : Ints w w.heap.size a zs) (o : Obj) : Ints (w.alloc o) (w.alloc o).heap.size a zs :=
  (h.below ((Below.refl _ _).alloc (Nat.le_refl _) o) (Nat.le_refl _)).mono (by simp)

theorem JobsIn.alloc {w : World} {a : Option Addr} {js : List JobD} (h : JobsIn w w.heap.size a js) (o : Obj) : JobsIn (w.alloc o) (w.alloc o).heap.size a js :=
  (h.below ((Below.refl _ _).alloc (Nat.le_refl _) o) (Nat.le_refl _)).mono (by simp)

set_option maxHeartbeats 1000000 in
theorem setup_core (t wd s g r cp f : Int) (a : Option Addr) (len cap : Nat) (zs : List Int) (ja : Option Addr) (jlen jcap : Nat) (js : List JobD) (w : World)
    (hl : zs.length = len) (hm : len ≤ maxLen) (h : Ints w w.heap.size a zs) (hjl : js.length = jlen) (hjm : jlen ≤ maxLen) (hj : JobsIn w w.heap.size ja js) :
    Calls Tryz.prog 41 #[.agg #[.int .i64 t, .int .i64 wd, .int .i64 s, .int .i64 g, .int .i64 r, .int .i64 cp, .int .i64 f, .slice a len cap, .slice ja jlen jcap]] w fun e w' =>
      e = .returned (.int .i64 (checkN ⟨t, wd, s, g, r, cp, f⟩ zs js)) ∧ Below w.heap.size w w' := by
  have HI : Hid (Ints w w.heap.size a zs) := h
  have HJ : Hid (JobsIn w w.heap.size ja js) := hj
  clear h hj
  subst hl hjl
  go_enter Tryz.func41, Tryz.ntmps41
  go_wp2_with fail
  refine (world_core _ _ _ _ _ _ _ _ _ _ zs _ rfl hm (by exact (HI.out).alloc _)).mono ?_
  rintro e w1 ⟨rfl, hb1⟩
  obtain ⟨hc1, hf1⟩ := bcell hb1
  have hsz : w.heap.size < w1.heap.size := by have := hb1.size; simp at this; omega
  have hB : Below w.heap.size w w1 := ((Below.refl _ _).alloc (Nat.le_refl _) _).trans (hb1.mono (by simp))
  have HJ1 : Hid (JobsIn w1 w1.heap.size ja js) := ((HJ.out).below hB (Nat.le_refl _)).mono (by omega)
  clear hb1
  by_cases h0 : machN ⟨t, wd, s, g, r, cp, f⟩ zs = 0
  · have hcf := (cfgB_true (machN_ok h0)).1
    have HC : Hid (checkN ⟨t, wd, s, g, r, cp, f⟩ zs js = (if js.length ≤ 8 ∧ thrB t js = true then (if lenB js then 0 else 4) else 3)) := by
      show checkN _ _ _ = _
      simp only [checkN, h0, if_true]
    obtain ⟨ht1, ht2⟩ := hcf
    go_wp2_with fail
    clear h0
    refine (jobsFit_any _ _ _ _ js _ ht1 ht2 rfl hjm HJ1.out).mono ?_
    rintro e w2 ⟨rfl, hb2⟩
    obtain ⟨hc2, hf2⟩ := bcell hb2
    have hsz2 : w.heap.size < w2.heap.size := by have := hb2.size; omega
    have hB2 : Below w.heap.size w w2 := hB.trans (hb2.mono (by omega))
    have hd1 : Below w1.heap.size w1 w2 := hb2
    clear hb2
    cases hfit : (decide (js.length ≤ 8) && thrB t js) with
    | false =>
      go_wp2_with fail
      go_ret
      refine ⟨?_, hB2⟩
      rw [HC.out, if_neg (by simpa using hfit)]; rfl
    | true =>
      have HF : Hid (checkN ⟨t, wd, s, g, r, cp, f⟩ zs js = (if lenB js then 0 else 4)) := by
        show checkN _ _ _ = _
        rw [HC.out, if_pos (by simpa using hfit)]
      unfold maxLen at hjm
      go_wp2
      clear hfit HC
      go_loopw [24] (fun i wr => ∃ k : Nat, k ≤ js.length ∧ i = .int .i64 k ∧ Hid (∀ j, j < k → decide (((jobAt js j).len : Int) ≤ 20) = true) ∧ Below w2.heap.size w2 wr) (fun i wr => js.length - (intOf i).toNat)
      case atStart => exact ⟨0, Nat.zero_le _, rfl, fun j hj => absurd hj (by omega), Below.refl _ _⟩
      case round =>
        obtain ⟨k, hk, rfl, HA, hB3⟩ := hrel
        have hsz3 := hB3.size
        have hB4 : Below w.heap.size w wr := hB2.trans (hB3.mono (by omega))
        by_cases hlt : k < js.length
        · obtain ⟨b, off, rfl, hb, hj1, hj2⟩ := ((HJ.out).below hB4 (Nat.le_refl _)) k hlt
          obtain ⟨z, hz⟩ : ∃ z, z = jobAt js k := ⟨_, rfl⟩
          rw [← hz] at hj1 hj2
          have HZ : Hid (z = jobAt js k) := hz
          clear hz
          by_cases hin : (z.len : Int) ≤ 20
          · have H1 : Hid (∀ j, j < k + 1 → decide (((jobAt js j).len : Int) ≤ 20) = true) := fun j hj => by
              rcases Nat.lt_succ_iff_lt_or_eq.1 hj with h | rfl
              · exact HA.out j h
              · rw [← HZ.out]; simpa using hin
            clear HA
            go_wp2_with (go_at_call 59; refine (codeFits_any _ _ _ _).mono ?_; rintro e w' ⟨rfl, rfl⟩)
            go_roundw
            case rel => exact ⟨k + 1, by omega, by go_num, H1, hB3.alloc (by omega) _⟩
            case measure => simp [intOf]; omega
          · have HL : Hid (lenB js = false) := all_false hlt (by rw [← HZ.out]; simpa using hin)
            have hdec : decide ((z.len : Int) ≤ 20) = false := by simpa using hin
            go_wp2_with (go_at_call 59; refine (codeFits_any _ _ _ _).mono ?_; rintro e w' ⟨rfl, rfl⟩)
            go_ret
            exact ⟨by rw [HF.out, HL.out]; simp, hB4.alloc (by omega) _⟩
        · have HL : Hid (lenB js = true) := all_true (fun j hj => HA.out j (by omega))
          go_wp2
          go_ret
          exact ⟨by rw [HF.out, HL.out]; simp, hB4⟩
  · have hne : (machN ⟨t, wd, s, g, r, cp, f⟩ zs != 0) = true := by simpa using h0
    have HC : Hid (checkN ⟨t, wd, s, g, r, cp, f⟩ zs js = machN ⟨t, wd, s, g, r, cp, f⟩ zs) := by
      show checkN _ _ _ = _
      simp only [checkN, h0, if_false]
    clear h0
    go_wp2_with fail
    go_ret
    exact ⟨by rw [HC.out]; rfl, hB⟩

set_option maxHeartbeats 2000000 in
theorem refCheck_core (t wd s g r cp f : Int) (a : Option Addr) (len cap : Nat) (zs : List Int) (ja : Option Addr) (jlen jcap : Nat) (js : List JobD) (w : World)
    (hl : zs.length = len) (hm : len ≤ maxLen) (h : Ints w w.heap.size a zs) (hjl : js.length = jlen) (hjm : jlen ≤ maxLen) (hj : JobsIn w w.heap.size ja js) :
    Calls Tryz.prog 43 #[.agg #[.int .i64 t, .int .i64 wd, .int .i64 s, .int .i64 g, .int .i64 r, .int .i64 cp, .int .i64 f, .slice a len cap, .slice ja jlen jcap]] w fun e w' =>
      e = .returned (.int .i64 (checkN ⟨t, wd, s, g, r, cp, f⟩ zs js)) ∧ Below w.heap.size w w' := by
  have HI : Hid (Ints w w.heap.size a zs) := h
  have HJ : Hid (JobsIn w w.heap.size ja js) := hj
  clear h hj
  subst hl hjl
  go_enter Tryz.func43, Tryz.ntmps43
  go_wp2_with fail
  refine (machine_core _ _ _ _ _ _ _ _ _ _ zs _ rfl hm (by exact (HI.out).alloc _)).mono ?_
  rintro e w1 ⟨rfl, hb1⟩
  obtain ⟨hc1, hf1⟩ := bcell hb1
  have hsz : w.heap.size < w1.heap.size := by have := hb1.size; simp at this; omega
  have hB : Below w.heap.size w w1 := ((Below.refl _ _).alloc (Nat.le_refl _) _).trans (hb1.mono (by simp))
  clear hb1
  by_cases h0 : machN ⟨t, wd, s, g, r, cp, f⟩ zs = 0
  · have hcf := (cfgB_true (machN_ok h0)).1
    have HC : Hid (checkN ⟨t, wd, s, g, r, cp, f⟩ zs js = (if js.length ≤ 8 ∧ thrB t js = true then (if lenB js then 0 else 4) else 3)) := by
      show checkN _ _ _ = _
      simp only [checkN, h0, if_true]
    obtain ⟨ht1, ht2⟩ := hcf
    unfold maxLen at hjm
    go_wp2
    clear h0
    go_loopw [4, 5] (fun l i wr => ∃ k : Nat, ∃ lg : Bool, k ≤ js.length ∧ k ≤ 8 ∧ i = .int .i64 k ∧ l = .bool lg ∧ Hid (∀ j, j < k → inB (jobAt js j).t 0 (t - 1) = true) ∧
      Hid (lg = false → ∀ j, j < k → decide (((jobAt js j).len : Int) ≤ 20) = true) ∧ Hid (lg = true → lenB js = false) ∧ Below w1.heap.size w1 wr) (fun _ i wr => js.length - (intOf i).toNat)
    case atStart => exact ⟨0, false, Nat.zero_le _, by omega, rfl, rfl, fun j hj => absurd hj (by omega), fun _ j hj => absurd hj (by omega), fun h => by simp at h, Below.refl _ _⟩
    case round =>
      obtain ⟨k, lg, hk, hk8, rfl, rfl, HA, HN, HT, hB3⟩ := hrel
      have hsz3 := hB3.size
      have hB4 : Below w.heap.size w wr := hB.trans (hB3.mono (by omega))
      obtain ⟨hc3, hf3⟩ := bcell hB3
      by_cases hlt : k < js.length
      · obtain ⟨b, off, rfl, hb, hj1, hj2⟩ := ((HJ.out).below hB4 (Nat.le_refl _)) k hlt
        obtain ⟨z, hz⟩ : ∃ z, z = jobAt js k := ⟨_, rfl⟩
        rw [← hz] at hj1 hj2
        have HZ : Hid (z = jobAt js k) := hz
        clear hz
        go_wp2_with fail
        go_quiet ((go_at_call 63; exact Calls.quiet_of_same (is_any _ _ _ _)))
        have hB5 : Below w.heap.size w (wr.drewN nq) := below_drewN hB4 _
        have hB6 : Below w1.heap.size w1 (wr.drewN nq) := below_drewN hB3 _
        cases hin : inB z.t 0 (t - 1) with
        | false =>
          have HF : Hid (thrB t js = false) := all_false hlt (by rw [← HZ.out]; exact hin)
          go_wp2
          go_ret
          exact ⟨by rw [HC.out, if_neg (by simp [HF.out])]; rfl, hB5⟩
        | true =>
          by_cases h8 : k < 8
          · have H1 : Hid (∀ j, j < k + 1 → inB (jobAt js j).t 0 (t - 1) = true) := fun j hj => by
              rcases Nat.lt_succ_iff_lt_or_eq.1 hj with h | rfl
              · exact HA.out j h
              · rw [← HZ.out]; exact hin
            by_cases hln : (z.len : Int) ≤ 20
            · have H2 : Hid (lg = false → ∀ j, j < k + 1 → decide (((jobAt js j).len : Int) ≤ 20) = true) := fun hg j hj => by
                rcases Nat.lt_succ_iff_lt_or_eq.1 hj with h | rfl
                · exact HN.out hg j h
                · rw [← HZ.out]; simpa using hln
              clear HA HN
              go_wp2
              go_roundw
              case rel => exact ⟨k + 1, lg, by omega, by omega, by go_num, rfl, H1, H2, HT, hB6⟩
              case measure => simp [intOf]; omega
            · have HL : Hid (lenB js = false) := all_false hlt (by rw [← HZ.out]; simpa using hln)
              clear HA HN
              go_wp2
              go_roundw
              case rel => exact ⟨k + 1, true, by omega, by omega, by go_num, rfl, H1, fun h => by simp at h, fun _ => HL.out, hB6⟩
              case measure => simp [intOf]; omega
          · have h8' : 8 < js.length := by omega
            go_wp2
            go_ret
            exact ⟨by rw [HC.out, if_neg (by simp; omega)]; rfl, hB5⟩
      · have HF : Hid (thrB t js = true) := all_true (fun j hj => HA.out j (by omega))
        cases lg with
        | false =>
          have HL : Hid (lenB js = true) := all_true (fun j hj => HN.out rfl j (by omega))
          go_wp2
          go_ret
          exact ⟨by rw [HC.out, if_pos ⟨by omega, HF.out⟩, HL.out]; rfl, hB4⟩
        | true =>
          have HL : Hid (lenB js = false) := HT.out rfl
          go_wp2
          go_ret
          exact ⟨by rw [HC.out, if_pos ⟨by omega, HF.out⟩, HL.out]; rfl, hB4⟩
  · have hne : (machN ⟨t, wd, s, g, r, cp, f⟩ zs != 0) = true := by simpa using h0
    have HC : Hid (checkN ⟨t, wd, s, g, r, cp, f⟩ zs js = machN ⟨t, wd, s, g, r, cp, f⟩ zs) := by
      show checkN _ _ _ = _
      simp only [checkN, h0, if_false]
    clear h0
    go_wp2_with fail
    go_ret
    exact ⟨by rw [HC.out]; rfl, hB⟩

end Go.Proofs.YtejadojilncbjaaGreat
