import Derived.Test.YtejadojilncbjaaMach
import Derived.WalkSmall
namespace Go.Proofs.Ytejadojilncbjaa
open Go.RowKit
set_option linter.unusedVariables false

/-- A job as it lies: its thread, its code's slice. -/
structure JobD where
  t : Int
  a : Option Addr
  len : Nat
  cap : Nat

/-- Job i of the list (a filler behind its end). -/
def jobAt (js : List JobD) (i : Nat) : JobD := js.getD i ⟨0, none, 0, 0⟩

def JobsIn (w : World) (B : Nat) (a : Option Addr) (js : List JobD) : Prop :=
  ∀ i, i < js.length → ∃ b off, a = some ⟨b, off, none⟩ ∧ b < B ∧ w.cell? ⟨b, off + i * 2, none⟩ = some (.int .i64 (jobAt js i).t) ∧
    w.cell? ⟨b, off + i * 2 + 1, none⟩ = some (.slice (jobAt js i).a (jobAt js i).len (jobAt js i).cap)

theorem JobsIn.below {w w' : World} {B : Nat} {a : Option Addr} {js : List JobD} (h : JobsIn w B a js) (hb : Below w.heap.size w w') (hB : B ≤ w.heap.size) : JobsIn w' B a js := by
  intro i hi
  obtain ⟨b, off, ha, hlt, h1, h2⟩ := h i hi
  exact ⟨b, off, ha, hlt, by rw [hb.cell (p := ⟨b, off + i * 2, none⟩) (by show b < _; omega)]; exact h1, by rw [hb.cell (p := ⟨b, off + i * 2 + 1, none⟩) (by show b < _; omega)]; exact h2⟩

theorem JobsIn.mono {w : World} {B B' : Nat} {a : Option Addr} {js : List JobD} (h : JobsIn w B a js) (hB : B ≤ B') : JobsIn w B' a js := by
  intro i hi
  obtain ⟨b, off, ha, hlt, h1⟩ := h i hi
  exact ⟨b, off, ha, by omega, h1⟩

def thrB (t : Int) (js : List JobD) : Bool := js.all fun j => inB j.t 0 (t - 1)
def lenB (js : List JobD) : Bool := js.all fun j => decide ((j.len : Int) ≤ 20)

theorem all_true {p : JobD → Bool} {js : List JobD} (h : ∀ j, j < js.length → p (jobAt js j) = true) : js.all p = true := by
  rw [List.all_eq_true]
  intro x hx
  obtain ⟨j, hj, rfl⟩ := List.mem_iff_getElem.1 hx
  have := h j hj
  simpa [jobAt, List.getD, List.getElem?_eq_getElem hj] using this

theorem all_false {p : JobD → Bool} {js : List JobD} {k : Nat} (hk : k < js.length) (h : p (jobAt js k) = false) : js.all p = false := by
  rw [List.all_eq_false]
  exact ⟨js[k], List.getElem_mem hk, by simpa [jobAt, List.getD, List.getElem?_eq_getElem hk] using h⟩

set_option maxHeartbeats 1000000 in
theorem jobsFit_any (t : Int) (a : Option Addr) (len cap : Nat) (js : List JobD) (w : World) (ht1 : 1 ≤ t) (ht2 : t ≤ 4) (hl : js.length = len) (hm : len ≤ maxLen) (h : JobsIn w w.heap.size a js) :
    Calls Try.prog 41 #[.int .i64 t, .slice a len cap] w fun e w' => e = .returned (.bool (decide (js.length ≤ 8) && thrB t js)) ∧ Below w.heap.size w w' := by
  subst hl
  unfold maxLen at hm
  have HI : Hid (JobsIn w w.heap.size a js) := h
  clear h
  by_cases h8 : js.length ≤ 8
  · go_enter Try.func41, Try.ntmps41
    go_wp2
    go_loopw [12] (fun i wr => ∃ k : Nat, k ≤ js.length ∧ i = .int .i64 k ∧ Hid (∀ j, j < k → inB (jobAt js j).t 0 (t - 1) = true) ∧ Below w.heap.size w wr) (fun i wr => js.length - (intOf i).toNat)
    case atStart => exact ⟨0, Nat.zero_le _, rfl, fun j hj => absurd hj (by omega), Below.refl _ _⟩
    case round =>
      obtain ⟨k, hk, rfl, HA, hB⟩ := hrel
      have hsz := hB.size
      by_cases hlt : k < js.length
      · obtain ⟨b, off, rfl, hb, hc1, hc2⟩ := ((HI.out).below hB (Nat.le_refl _)) k hlt
        obtain ⟨z, hz⟩ : ∃ z, z = jobAt js k := ⟨_, rfl⟩
        rw [← hz] at hc1 hc2
        have HZ : Hid (z = jobAt js k) := hz
        clear hz
        cases hin : inB z.t 0 (t - 1) with
        | true =>
          have H1 : Hid (∀ j, j < k + 1 → inB (jobAt js j).t 0 (t - 1) = true) := fun j hj => by
            rcases Nat.lt_succ_iff_lt_or_eq.1 hj with h | rfl
            · exact HA.out j h
            · rw [← HZ.out]; exact hin
          clear HA
          go_wp2_with (go_at_call 54; refine (within_any _ _ _ _).mono ?_; rintro e w' ⟨rfl, rfl⟩)
          go_roundw
          case rel => exact ⟨k + 1, by omega, by go_num, H1, hB.alloc (by omega) _⟩
          case measure => simp [intOf]; omega
        | false =>
          have HF : Hid (thrB t js = false) := all_false hlt (by rw [← HZ.out]; exact hin)
          go_wp2_with (go_at_call 54; refine (within_any _ _ _ _).mono ?_; rintro e w' ⟨rfl, rfl⟩)
          go_ret
          exact ⟨by simp [HF.out], (hB.alloc (by omega) _)⟩
      · have HF : Hid (thrB t js = true) := all_true (fun j hj => HA.out j (by omega))
        go_wp2
        go_ret
        exact ⟨by simp [HF.out, h8], hB⟩
  · go_enter Try.func41, Try.ntmps41
    go_wp2
    go_ret
    exact ⟨by simp; omega, Below.refl _ _⟩

end Go.Proofs.Ytejadojilncbjaa
