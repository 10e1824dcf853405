import Derived.Test.YtejadojilncbjaaGreatG44
namespace Go.Proofs.YtejadojilncbjaaGreat
open Go.RowKit
set_option linter.unusedVariables false

/-! The counts of whole, by the accesses. -/

theorem acc_out {R : Rn} {k : Nat} (hk : k < R.ps.length) (h : ¬ (0 ≤ (R.pk k).thread ∧ (R.pk k).thread < R.c.t)) : accAt (accs R.c R.mem R.jobs R.ps) k = noAcc := by
  rw [accs_get R.c R.mem R.jobs R.ps k hk]
  have h' : ¬ (0 ≤ (pickAt R.ps k).thread ∧ (pickAt R.ps k).thread < R.c.t) := h
  unfold gStep
  rw [if_neg h']
theorem accBy_k (m : Int → Int) (a : AskD) : (accBy m a).kind = a.kind ∧ (a.kind ≠ 0 → (accBy m a).cell = a.cell) := by
  unfold accBy
  split
  · rename_i h
    exact ⟨h.symm, fun q => absurd h q⟩
  · exact ⟨rfl, fun _ => rfl⟩
theorem draws_acc {R : Rn} {k : Nat} (hk : k < R.ps.length) : R.draws (k + 1) = R.draws k + (if (accAt (accs R.c R.mem R.jobs R.ps) k).kind = 2 ∧ (accAt (accs R.c R.mem R.jobs R.ps) k).cell = 0 then 1 else 0) := by
  show Rn.draws R k + _ = _
  congr 1
  by_cases h : 0 ≤ (R.pk k).thread ∧ (R.pk k).thread < R.c.t
  · rw [acc_of hk rfl h.1 h.2]
    obtain ⟨h1, h2⟩ := accBy_k (R.g k).m (R.out k (R.pk k).thread)
    rw [h1]
    by_cases hq : (R.out k (R.pk k).thread).kind = 2
    · rw [h2 (by omega)]
      simp [h, hq]
    · simp [hq]
  · rw [acc_out hk h]
    simp [h, noAcc]
theorem ends_acc {R : Rn} {k : Nat} (hk : k < R.ps.length) : R.ends (k + 1) = R.ends k + (if (accAt (accs R.c R.mem R.jobs R.ps) k).kind = 2 ∧ 3 + 2 * R.c.s ≤ (accAt (accs R.c R.mem R.jobs R.ps) k).cell ∧ (accAt (accs R.c R.mem R.jobs R.ps) k).cell < 3 + 2 * R.c.s + R.c.t then 1 else 0) := by
  show Rn.ends R k + _ = _
  congr 1
  by_cases h : 0 ≤ (R.pk k).thread ∧ (R.pk k).thread < R.c.t
  · rw [acc_of hk rfl h.1 h.2]
    obtain ⟨h1, h2⟩ := accBy_k (R.g k).m (R.out k (R.pk k).thread)
    rw [h1]
    by_cases hq : (R.out k (R.pk k).thread).kind = 2
    · rw [h2 (by omega)]
      simp [h, hq]
    · simp [hq]
  · rw [acc_out hk h]
    simp [h, noAcc]
theorem draws_le (R : Rn) : ∀ k : Nat, R.draws k ≤ k
  | 0 => Nat.le_refl _
  | k + 1 => by
    have := draws_le R k
    show Rn.draws R k + _ ≤ _
    split <;> omega
theorem ends_le (R : Rn) : ∀ k : Nat, R.ends k ≤ k
  | 0 => Nat.le_refl _
  | k + 1 => by
    have := ends_le R k
    show Rn.ends R k + _ ≤ _
    split <;> omega
theorem cntE_snoc (l : List AttD) (a : AttD) : cntE (l ++ [a]) = cntE l + (if a.fin > 0 then 1 else 0) := by
  unfold cntE
  rw [List.countP_append]
  congr 1
  by_cases h : a.fin > 0 <;> simp [h]
theorem cntE_take (l : List AttD) (i : Nat) : cntE (l.take i) ≤ cntE l := by
  unfold cntE
  exact (List.Sublist.countP_le (List.take_sublist _ _))

end Go.Proofs.YtejadojilncbjaaGreat
