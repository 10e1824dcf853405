import Derived.Test.YtejadojilncbjaaMem
namespace Go.Proofs.Ytejadojilncbjaa
open Go.RowKit
set_option linter.unusedVariables false

/-- ErrConfig, ErrMemory, or none. -/
def machN (c : Cfg) (zs : List Int) : Int := if cfgB c then (if (zs.length : Int) = c.wd ∧ memB zs = true then 0 else 2) else 1

set_option maxHeartbeats 1000000 in
theorem world_core (t wd s g r cp f : Int) (a : Option Addr) (len cap : Nat) (zs : List Int) (w : World) (hl : zs.length = len) (hm : len ≤ maxLen) (h : Ints w w.heap.size a zs) :
    Calls Try.prog 40 #[.agg #[.int .i64 t, .int .i64 wd, .int .i64 s, .int .i64 g, .int .i64 r, .int .i64 cp, .int .i64 f], .slice a len cap] w fun e w' =>
      e = .returned (.int .i64 (machN ⟨t, wd, s, g, r, cp, f⟩ zs)) ∧ Below w.heap.size w w' := by
  have HI : Hid (Ints w w.heap.size a zs) := h
  have HL : Hid (zs.length = len) := hl
  clear h hl
  go_enter Try.func40, Try.ntmps40
  go_wp2_with fail
  refine (configFits_core _ _ _ _ _ _ _ _).mono ?_
  rintro e w1 ⟨rfl, hb1⟩
  obtain ⟨hc1, hf1⟩ := bcell hb1
  have hsz : w.heap.size + 1 ≤ w1.heap.size := by have := hb1.size; simp at this; omega
  have hB : Below w.heap.size w w1 := ((Below.refl _ _).alloc (Nat.le_refl _) _).trans (hb1.mono (by simp))
  have HI1 : Hid (Ints w1 w1.heap.size a zs) := ((HI.out).below hB (Nat.le_refl _)).mono (by omega)
  clear hb1
  cases hcfg : cfgB ⟨t, wd, s, g, r, cp, f⟩ with
  | false =>
    go_wp2_with fail
    go_ret
    exact ⟨by simp [machN, hcfg], hB⟩
  | true =>
    go_wp2_with fail
    refine (memFits_any _ _ _ _ zs _ HL.out hm HI1.out).mono ?_
    rintro e w2 ⟨rfl, rfl⟩
    cases hmm : (decide ((zs.length : Int) = wd) && memB zs) with
    | false =>
      go_wp2_with fail
      go_ret
      exact ⟨by simp at hmm; simp [machN, hcfg]; intro h; exact hmm h, hB⟩
    | true =>
      go_wp2_with fail
      go_ret
      exact ⟨by simp at hmm; simp [machN, hcfg, hmm], hB⟩

set_option maxHeartbeats 1000000 in
theorem machine_core (t wd s g r cp f : Int) (a : Option Addr) (len cap : Nat) (zs : List Int) (w : World) (hl : zs.length = len) (hm : len ≤ maxLen) (h : Ints w w.heap.size a zs) :
    Calls Try.prog 28 #[.agg #[.int .i64 t, .int .i64 wd, .int .i64 s, .int .i64 g, .int .i64 r, .int .i64 cp, .int .i64 f], .slice a len cap] w fun e w' =>
      e = .returned (.int .i64 (machN ⟨t, wd, s, g, r, cp, f⟩ zs)) ∧ Below w.heap.size w w' := by
  subst hl
  unfold maxLen at hm
  have HI : Hid (Ints w w.heap.size a zs) := h
  clear h
  go_enter Try.func28, Try.ntmps28
  go_wp2_with fail
  refine (refConfig_core _ _ _ _ _ _ _ _).mono ?_
  rintro e w1 ⟨rfl, hb1⟩
  obtain ⟨hc1, hf1⟩ := bcell hb1
  have hsz : w.heap.size + 1 ≤ w1.heap.size := by have := hb1.size; simp at this; omega
  have hB : Below w.heap.size w w1 := ((Below.refl _ _).alloc (Nat.le_refl _) _).trans (hb1.mono (by simp))
  have HI1 : Hid (Ints w1 w1.heap.size a zs) := ((HI.out).below hB (Nat.le_refl _)).mono (by omega)
  clear hb1
  cases hcfg : cfgB ⟨t, wd, s, g, r, cp, f⟩ with
  | false =>
    go_wp2_with fail
    go_ret
    exact ⟨by simp [machN, hcfg], hB⟩
  | true =>
    by_cases hn : (zs.length : Int) = wd
    · have hne : ((zs.length : Int) != wd) = false := by simp [hn]
      have HN : Hid ((zs.length : Int) = wd) := hn
      clear hn
      have HC : Hid (cfgB ⟨t, wd, s, g, r, cp, f⟩ = true) := hcfg
      go_wp2
      clear hcfg
      go_loop [6] (fun i => ∃ k : Nat, k ≤ zs.length ∧ i = .int .i64 k ∧ Hid (∀ j, j < k → inB (zs.getD j 0) 0 65535 = true)) (fun i => zs.length - (intOf i).toNat)
      case atStart => exact ⟨0, Nat.zero_le _, rfl, fun j hj => absurd hj (by omega)⟩
      case round =>
        obtain ⟨k, hk, rfl, HA⟩ := hrel
        by_cases hlt : k < zs.length
        · obtain ⟨b, off, rfl, hb, hc⟩ := HI1.out k hlt
          obtain ⟨z, hz⟩ : ∃ z, z = zs.getD k 0 := ⟨_, rfl⟩
          rw [← hz] at hc
          have HZ : Hid (z = zs.getD k 0) := hz
          clear hz
          cases hin : inB z 0 65535 with
          | true =>
            have H1 : Hid (∀ j, j < k + 1 → inB (zs.getD j 0) 0 65535 = true) := fun j hj => by
              rcases Nat.lt_succ_iff_lt_or_eq.1 hj with h | rfl
              · exact HA.out j h
              · rw [← HZ.out]; exact hin
            clear HA
            go_wp2_with (go_at_call 29; refine (is_any _ _ _ _).mono ?_; rintro e w' ⟨rfl, rfl⟩)
            go_round
            case rel => exact ⟨k + 1, by omega, by go_num, H1⟩
            case measure => simp [intOf]; omega
          | false =>
            have HF : Hid (memB zs = false) := memB_false hlt (by rw [← HZ.out]; exact hin)
            go_wp2_with (go_at_call 29; refine (is_any _ _ _ _).mono ?_; rintro e w' ⟨rfl, rfl⟩)
            go_ret
            exact ⟨by simp [machN, HC.out, HF.out], hB⟩
        · have HF : Hid (memB zs = true) := memB_true (fun j hj => HA.out j (by omega))
          go_wp2
          go_ret
          exact ⟨by simp [machN, HC.out, HF.out, HN.out], hB⟩
    · have hne : ((zs.length : Int) != wd) = true := by simp [hn]
      have HN : Hid (¬ (zs.length : Int) = wd) := hn
      clear hn
      go_wp2
      go_ret
      exact ⟨by simp [machN, hcfg, HN.out], hB⟩

end Go.Proofs.Ytejadojilncbjaa
