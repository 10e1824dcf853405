import Derived.Test.YtejadojilncbjaaCfg
namespace Go.Proofs.Ytejadojilncbjaa
open Go.RowKit
set_option linter.unusedVariables false

/-- The numbers zs lie behind a slice's address, below block B. -/
def Ints (w : World) (B : Nat) (a : Option Addr) (zs : List Int) : Prop :=
  ∀ i, i < zs.length → ∃ b off, a = some ⟨b, off, none⟩ ∧ b < B ∧ w.cell? ⟨b, off + i, none⟩ = some (.int .i64 (zs.getD i 0))

def memB (zs : List Int) : Bool := zs.all fun z => inB z 0 65535

theorem memB_true {zs : List Int} (h : ∀ j, j < zs.length → inB (zs.getD j 0) 0 65535 = true) : memB zs = true := by
  unfold memB
  rw [List.all_eq_true]
  intro x hx
  obtain ⟨j, hj, rfl⟩ := List.mem_iff_getElem.1 hx
  have := h j hj
  simpa [List.getD, List.getElem?_eq_getElem hj] using this

theorem memB_false {zs : List Int} {k : Nat} (hk : k < zs.length) (h : inB (zs.getD k 0) 0 65535 = false) : memB zs = false := by
  unfold memB
  rw [List.all_eq_false]
  exact ⟨zs[k], List.getElem_mem hk, by simpa [List.getD, List.getElem?_eq_getElem hk] using h⟩

theorem bcell {W w1 : World} (hb : Below W.heap.size W w1) : (∀ b o, b < W.heap.size → w1.cell? ⟨b, o, none⟩ = W.cell? ⟨b, o, none⟩) ∧ (∀ b o, b < W.heap.size → w1.frozen? ⟨b, o, none⟩ = W.frozen? ⟨b, o, none⟩) :=
  ⟨fun b o h => hb.cell (p := ⟨b, o, none⟩) h, fun b o h => hb.frozen (p := ⟨b, o, none⟩) h⟩

theorem Ints.below {w w' : World} {B : Nat} {a : Option Addr} {zs : List Int} (h : Ints w B a zs) (hb : Below w.heap.size w w') (hB : B ≤ w.heap.size) : Ints w' B a zs := by
  intro i hi
  obtain ⟨b, off, ha, hlt, hc⟩ := h i hi
  exact ⟨b, off, ha, hlt, by rw [hb.cell (p := ⟨b, off + i, none⟩) (by show b < _; omega)]; exact hc⟩

theorem Ints.mono {w : World} {B B' : Nat} {a : Option Addr} {zs : List Int} (h : Ints w B a zs) (hB : B ≤ B') : Ints w B' a zs := by
  intro i hi
  obtain ⟨b, off, ha, hlt, hc⟩ := h i hi
  exact ⟨b, off, ha, by omega, hc⟩

set_option maxHeartbeats 1000000 in
theorem memFits_any (n : Int) (a : Option Addr) (len cap : Nat) (zs : List Int) (w : World) (hl : zs.length = len) (hm : len ≤ maxLen) (h : Ints w w.heap.size a zs) :
    Calls Try.prog 53 #[.int .i64 n, .slice a len cap] w fun e w' => e = .returned (.bool (decide ((zs.length : Int) = n) && memB zs)) ∧ w' = w := by
  subst hl
  unfold maxLen at hm
  have HI : Hid (Ints w w.heap.size a zs) := h
  clear h
  by_cases hn : (zs.length : Int) = n
  · have hne : ((zs.length : Int) != n) = false := by simp [hn]
    have HN : Hid ((zs.length : Int) = n) := hn
    clear hn
    go_enter Try.func53, Try.ntmps53
    go_wp2
    go_loop [13] (fun i => ∃ k : Nat, k ≤ zs.length ∧ i = .int .i64 k ∧ Hid (∀ j, j < k → inB (zs.getD j 0) 0 65535 = true)) (fun i => zs.length - (intOf i).toNat)
    case atStart => exact ⟨0, Nat.zero_le _, rfl, fun j hj => absurd hj (by omega)⟩
    case round =>
      obtain ⟨k, hk, rfl, HA⟩ := hrel
      by_cases hlt : k < zs.length
      · obtain ⟨b, off, rfl, hb, hc⟩ := HI.out k hlt
        obtain ⟨z, hz⟩ : ∃ z, z = zs.getD k 0 := ⟨_, rfl⟩
        rw [← hz] at hc
        have HZ : Hid (z = zs.getD k 0) := hz
        clear hz
        cases hin : inB z 0 65535 with
        | true =>
          have H1 : Hid (∀ j, j < k + 1 → inB (zs.getD j 0) 0 65535 = true) := fun j hj => by
            rcases Nat.lt_succ_iff_lt_or_eq.1 hj with h | rfl
            · exact HA.out j h
            · rw [← HZ.out]; exact hin
          clear HA
          go_wp2_with (go_at_call 54; refine (within_any _ _ _ _).mono ?_; rintro e w' ⟨rfl, rfl⟩)
          go_round
          case rel => exact ⟨k + 1, by omega, by go_num, H1⟩
          case measure => simp [intOf]; omega
        | false =>
          have HF : Hid (memB zs = false) := memB_false hlt (by rw [← HZ.out]; exact hin)
          go_wp2_with (go_at_call 54; refine (within_any _ _ _ _).mono ?_; rintro e w' ⟨rfl, rfl⟩)
          go_ret
          exact ⟨by simp [HF.out], rfl⟩
      · have hke : k = zs.length := by omega
        have HF : Hid (memB zs = true) := memB_true (fun j hj => HA.out j (by omega))
        clear hke
        go_wp2
        go_ret
        exact ⟨by simp [HF.out, HN.out], rfl⟩
  · have hne : ((zs.length : Int) != n) = true := by simp [hn]
    have HN : Hid (¬ (zs.length : Int) = n) := hn
    clear hn
    go_enter Try.func53, Try.ntmps53
    go_wp2
    go_ret
    exact ⟨by simp [HN.out], rfl⟩

end Go.Proofs.Ytejadojilncbjaa
