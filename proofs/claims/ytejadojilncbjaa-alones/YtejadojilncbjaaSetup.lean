import Derived.Test.YtejadojilncbjaaJobs
namespace Go.Proofs.Ytejadojilncbjaa
open Go.RowKit
set_option linter.unusedVariables false

/-- What Check answers. -/
def checkN (c : Cfg) (zs : List Int) (js : List JobD) : Int :=
  if machN c zs = 0 then (if js.length ≤ 8 ∧ thrB c.t js = true then (if lenB js then 0 else 4) else 3) else machN c zs

theorem machN_ok {c : Cfg} {zs : List Int} (h : machN c zs = 0) : cfgB c = true := by
  unfold machN at h
  cases hc : cfgB c with
  | true => rfl
  | false => simp [hc] at h

theorem inB_true {v lo hi : Int} (h : inB v lo hi = true) : lo ≤ v ∧ v ≤ hi := by
  simpa [inB] using h

theorem cfgB_true {c : Cfg} (h : cfgB c = true) : (1 ≤ c.t ∧ c.t ≤ 4) ∧ (1 ≤ c.wd ∧ c.wd ≤ 8) ∧ (1 ≤ c.s ∧ c.s ≤ 8) ∧ (0 ≤ c.g ∧ c.g ≤ 8) ∧ (0 ≤ c.r ∧ c.r ≤ 4) ∧ (0 ≤ c.cp ∧ c.cp ≤ 8) ∧ (1 ≤ c.f ∧ c.f ≤ 40) := by
  simp only [cfgB, Bool.and_eq_true] at h
  obtain ⟨⟨⟨⟨⟨⟨h1, h2⟩, h3⟩, h4⟩, h5⟩, h6⟩, h7⟩ := h
  exact ⟨inB_true h1, inB_true h2, inB_true h3, inB_true h4, inB_true h5, inB_true h6, inB_true h7⟩

theorem Ints.alloc {w : World} {a : Option Addr} {zs : List Int} (h : Ints w w.heap.size a zs) (o : Obj) : Ints (w.alloc o) (w.alloc o).heap.size a zs :=
  (h.below ((Below.refl _ _).alloc (Nat.le_refl _) o) (Nat.le_refl _)).mono (by simp)

theorem JobsIn.alloc {w : World} {a : Option Addr} {js : List JobD} (h : JobsIn w w.heap.size a js) (o : Obj) : JobsIn (w.alloc o) (w.alloc o).heap.size a js :=
  (h.below ((Below.refl _ _).alloc (Nat.le_refl _) o) (Nat.le_refl _)).mono (by simp)

set_option maxHeartbeats 1000000 in
theorem setup_core (t wd s g r cp f : Int) (a : Option Addr) (len cap : Nat) (zs : List Int) (ja : Option Addr) (jlen jcap : Nat) (js : List JobD) (w : World)
    (hl : zs.length = len) (hm : len ≤ maxLen) (h : Ints w w.heap.size a zs) (hjl : js.length = jlen) (hjm : jlen ≤ maxLen) (hj : JobsIn w w.heap.size ja js) :
    Calls Try.prog 27 #[.agg #[.int .i64 t, .int .i64 wd, .int .i64 s, .int .i64 g, .int .i64 r, .int .i64 cp, .int .i64 f, .slice a len cap, .slice ja jlen jcap]] w fun e w' =>
      e = .returned (.int .i64 (checkN ⟨t, wd, s, g, r, cp, f⟩ zs js)) ∧ Below w.heap.size w w' := by
  have HI : Hid (Ints w w.heap.size a zs) := h
  have HJ : Hid (JobsIn w w.heap.size ja js) := hj
  clear h hj
  subst hl hjl
  go_enter Try.func27, Try.ntmps27
  go_wp2_with fail
  refine (world_core _ _ _ _ _ _ _ _ _ _ zs _ rfl hm (by exact (HI.out).alloc _)).mono ?_
  rintro e w1 ⟨rfl, hb1⟩
  obtain ⟨hc1, hf1⟩ := bcell hb1
  have hsz : w.heap.size < w1.heap.size := by have := hb1.size; simp at this; omega
  have hB : Below w.heap.size w w1 := ((Below.refl _ _).alloc (Nat.le_refl _) _).trans (hb1.mono (by simp))
  have HJ1 : Hid (JobsIn w1 w1.heap.size ja js) := ((HJ.out).below hB (Nat.le_refl _)).mono (by omega)
  clear hb1
  by_cases h0 : machN ⟨t, wd, s, g, r, cp, f⟩ zs = 0
  · have hcf := (cfgB_true (machN_ok h0)).1
    have HC : Hid (checkN ⟨t, wd, s, g, r, cp, f⟩ zs js = (if js.length ≤ 8 ∧ thrB t js = true then (if lenB js then 0 else 4) else 3)) := by
      show checkN _ _ _ = _
      simp only [checkN, h0, if_true]
    obtain ⟨ht1, ht2⟩ := hcf
    go_wp2_with fail
    clear h0
    refine (jobsFit_any _ _ _ _ js _ ht1 ht2 rfl hjm HJ1.out).mono ?_
    rintro e w2 ⟨rfl, hb2⟩
    obtain ⟨hc2, hf2⟩ := bcell hb2
    have hsz2 : w.heap.size < w2.heap.size := by have := hb2.size; omega
    have hB2 : Below w.heap.size w w2 := hB.trans (hb2.mono (by omega))
    have hd1 : Below w1.heap.size w1 w2 := hb2
    clear hb2
    cases hfit : (decide (js.length ≤ 8) && thrB t js) with
    | false =>
      go_wp2_with fail
      go_ret
      refine ⟨?_, hB2⟩
      rw [HC.out, if_neg (by simpa using hfit)]; rfl
    | true =>
      have HF : Hid (checkN ⟨t, wd, s, g, r, cp, f⟩ zs js = (if lenB js then 0 else 4)) := by
        show checkN _ _ _ = _
        rw [HC.out, if_pos (by simpa using hfit)]
      unfold maxLen at hjm
      go_wp2
      clear hfit HC
      go_loopw [24] (fun i wr => ∃ k : Nat, k ≤ js.length ∧ i = .int .i64 k ∧ Hid (∀ j, j < k → decide (((jobAt js j).len : Int) ≤ 20) = true) ∧ Below w2.heap.size w2 wr) (fun i wr => js.length - (intOf i).toNat)
      case atStart => exact ⟨0, Nat.zero_le _, rfl, fun j hj => absurd hj (by omega), Below.refl _ _⟩
      case round =>
        obtain ⟨k, hk, rfl, HA, hB3⟩ := hrel
        have hsz3 := hB3.size
        have hB4 : Below w.heap.size w wr := hB2.trans (hB3.mono (by omega))
        by_cases hlt : k < js.length
        · obtain ⟨b, off, rfl, hb, hj1, hj2⟩ := ((HJ.out).below hB4 (Nat.le_refl _)) k hlt
          obtain ⟨z, hz⟩ : ∃ z, z = jobAt js k := ⟨_, rfl⟩
          rw [← hz] at hj1 hj2
          have HZ : Hid (z = jobAt js k) := hz
          clear hz
          by_cases hin : (z.len : Int) ≤ 20
          · have H1 : Hid (∀ j, j < k + 1 → decide (((jobAt js j).len : Int) ≤ 20) = true) := fun j hj => by
              rcases Nat.lt_succ_iff_lt_or_eq.1 hj with h | rfl
              · exact HA.out j h
              · rw [← HZ.out]; simpa using hin
            clear HA
            go_wp2_with (go_at_call 42; refine (codeFits_any _ _ _ _).mono ?_; rintro e w' ⟨rfl, rfl⟩)
            go_roundw
            case rel => exact ⟨k + 1, by omega, by go_num, H1, hB3.alloc (by omega) _⟩
            case measure => simp [intOf]; omega
          · have HL : Hid (lenB js = false) := all_false hlt (by rw [← HZ.out]; simpa using hin)
            have hdec : decide ((z.len : Int) ≤ 20) = false := by simpa using hin
            go_wp2_with (go_at_call 42; refine (codeFits_any _ _ _ _).mono ?_; rintro e w' ⟨rfl, rfl⟩)
            go_ret
            exact ⟨by rw [HF.out, HL.out]; simp, hB4.alloc (by omega) _⟩
        · have HL : Hid (lenB js = true) := all_true (fun j hj => HA.out j (by omega))
          go_wp2
          go_ret
          exact ⟨by rw [HF.out, HL.out]; simp, hB4⟩
  · have hne : (machN ⟨t, wd, s, g, r, cp, f⟩ zs != 0) = true := by simpa using h0
    have HC : Hid (checkN ⟨t, wd, s, g, r, cp, f⟩ zs js = machN ⟨t, wd, s, g, r, cp, f⟩ zs) := by
      show checkN _ _ _ = _
      simp only [checkN, h0, if_false]
    clear h0
    go_wp2_with fail
    go_ret
    exact ⟨by rw [HC.out]; rfl, hB⟩

set_option maxHeartbeats 2000000 in
theorem refCheck_core (t wd s g r cp f : Int) (a : Option Addr) (len cap : Nat) (zs : List Int) (ja : Option Addr) (jlen jcap : Nat) (js : List JobD) (w : World)
    (hl : zs.length = len) (hm : len ≤ maxLen) (h : Ints w w.heap.size a zs) (hjl : js.length = jlen) (hjm : jlen ≤ maxLen) (hj : JobsIn w w.heap.size ja js) :
    Calls Try.prog 9 #[.agg #[.int .i64 t, .int .i64 wd, .int .i64 s, .int .i64 g, .int .i64 r, .int .i64 cp, .int .i64 f, .slice a len cap, .slice ja jlen jcap]] w fun e w' =>
      e = .returned (.int .i64 (checkN ⟨t, wd, s, g, r, cp, f⟩ zs js)) ∧ Below w.heap.size w w' := by
  have HI : Hid (Ints w w.heap.size a zs) := h
  have HJ : Hid (JobsIn w w.heap.size ja js) := hj
  clear h hj
  subst hl hjl
  go_enter Try.func9, Try.ntmps9
  go_wp2_with fail
  refine (machine_core _ _ _ _ _ _ _ _ _ _ zs _ rfl hm (by exact (HI.out).alloc _)).mono ?_
  rintro e w1 ⟨rfl, hb1⟩
  obtain ⟨hc1, hf1⟩ := bcell hb1
  have hsz : w.heap.size < w1.heap.size := by have := hb1.size; simp at this; omega
  have hB : Below w.heap.size w w1 := ((Below.refl _ _).alloc (Nat.le_refl _) _).trans (hb1.mono (by simp))
  clear hb1
  by_cases h0 : machN ⟨t, wd, s, g, r, cp, f⟩ zs = 0
  · have hcf := (cfgB_true (machN_ok h0)).1
    have HC : Hid (checkN ⟨t, wd, s, g, r, cp, f⟩ zs js = (if js.length ≤ 8 ∧ thrB t js = true then (if lenB js then 0 else 4) else 3)) := by
      show checkN _ _ _ = _
      simp only [checkN, h0, if_true]
    obtain ⟨ht1, ht2⟩ := hcf
    unfold maxLen at hjm
    go_wp2
    clear h0
    go_loopw [4, 5] (fun l i wr => ∃ k : Nat, ∃ lg : Bool, k ≤ js.length ∧ k ≤ 8 ∧ i = .int .i64 k ∧ l = .bool lg ∧ Hid (∀ j, j < k → inB (jobAt js j).t 0 (t - 1) = true) ∧
      Hid (lg = false → ∀ j, j < k → decide (((jobAt js j).len : Int) ≤ 20) = true) ∧ Hid (lg = true → lenB js = false) ∧ Below w1.heap.size w1 wr) (fun _ i wr => js.length - (intOf i).toNat)
    case atStart => exact ⟨0, false, Nat.zero_le _, by omega, rfl, rfl, fun j hj => absurd hj (by omega), fun _ j hj => absurd hj (by omega), fun h => by simp at h, Below.refl _ _⟩
    case round =>
      obtain ⟨k, lg, hk, hk8, rfl, rfl, HA, HN, HT, hB3⟩ := hrel
      have hsz3 := hB3.size
      have hB4 : Below w.heap.size w wr := hB.trans (hB3.mono (by omega))
      obtain ⟨hc3, hf3⟩ := bcell hB3
      by_cases hlt : k < js.length
      · obtain ⟨b, off, rfl, hb, hj1, hj2⟩ := ((HJ.out).below hB4 (Nat.le_refl _)) k hlt
        obtain ⟨z, hz⟩ : ∃ z, z = jobAt js k := ⟨_, rfl⟩
        rw [← hz] at hj1 hj2
        have HZ : Hid (z = jobAt js k) := hz
        clear hz
        go_wp2_with fail
        go_quiet ((go_at_call 29; exact Calls.quiet_of_same (is_any _ _ _ _)))
        have hB5 : Below w.heap.size w (wr.drewN nq) := below_drewN hB4 _
        have hB6 : Below w1.heap.size w1 (wr.drewN nq) := below_drewN hB3 _
        cases hin : inB z.t 0 (t - 1) with
        | false =>
          have HF : Hid (thrB t js = false) := all_false hlt (by rw [← HZ.out]; exact hin)
          go_wp2
          go_ret
          exact ⟨by rw [HC.out, if_neg (by simp [HF.out])]; rfl, hB5⟩
        | true =>
          by_cases h8 : k < 8
          · have H1 : Hid (∀ j, j < k + 1 → inB (jobAt js j).t 0 (t - 1) = true) := fun j hj => by
              rcases Nat.lt_succ_iff_lt_or_eq.1 hj with h | rfl
              · exact HA.out j h
              · rw [← HZ.out]; exact hin
            by_cases hln : (z.len : Int) ≤ 20
            · have H2 : Hid (lg = false → ∀ j, j < k + 1 → decide (((jobAt js j).len : Int) ≤ 20) = true) := fun hg j hj => by
                rcases Nat.lt_succ_iff_lt_or_eq.1 hj with h | rfl
                · exact HN.out hg j h
                · rw [← HZ.out]; simpa using hln
              clear HA HN
              go_wp2
              go_roundw
              case rel => exact ⟨k + 1, lg, by omega, by omega, by go_num, rfl, H1, H2, HT, hB6⟩
              case measure => simp [intOf]; omega
            · have HL : Hid (lenB js = false) := all_false hlt (by rw [← HZ.out]; simpa using hln)
              clear HA HN
              go_wp2
              go_roundw
              case rel => exact ⟨k + 1, true, by omega, by omega, by go_num, rfl, H1, fun h => by simp at h, fun _ => HL.out, hB6⟩
              case measure => simp [intOf]; omega
          · have h8' : 8 < js.length := by omega
            go_wp2
            go_ret
            exact ⟨by rw [HC.out, if_neg (by simp; omega)]; rfl, hB5⟩
      · have HF : Hid (thrB t js = true) := all_true (fun j hj => HA.out j (by omega))
        cases lg with
        | false =>
          have HL : Hid (lenB js = true) := all_true (fun j hj => HN.out rfl j (by omega))
          go_wp2
          go_ret
          exact ⟨by rw [HC.out, if_pos ⟨by omega, HF.out⟩, HL.out]; rfl, hB4⟩
        | true =>
          have HL : Hid (lenB js = false) := HT.out rfl
          go_wp2
          go_ret
          exact ⟨by rw [HC.out, if_pos ⟨by omega, HF.out⟩, HL.out]; rfl, hB4⟩
  · have hne : (machN ⟨t, wd, s, g, r, cp, f⟩ zs != 0) = true := by simpa using h0
    have HC : Hid (checkN ⟨t, wd, s, g, r, cp, f⟩ zs js = machN ⟨t, wd, s, g, r, cp, f⟩ zs) := by
      show checkN _ _ _ = _
      simp only [checkN, h0, if_false]
    clear h0
    go_wp2_with fail
    go_ret
    exact ⟨by rw [HC.out]; rfl, hB⟩

end Go.Proofs.Ytejadojilncbjaa
