import Derived.Test.YtgdfmmfkdmhdgaaG42
namespace Go.Proofs.Ytgdfmmfkdmhdgaa
set_option linter.unusedVariables false

/-! Locks, part 5: what is asked of each access, as a test; and that it holds. -/

def lockedB (a : AccD) (t : Int) : Bool := if a.kind = 2 then a.seen == t + 1 && a.put == 0 else if a.seen = 0 then a.put == t + 1 else a.put == a.seen && a.seen != t + 1
def versionedB (c : Cfg) (m stp : Int → Int) (t : Int) (a : AccD) : Bool :=
  if a.kind ≠ 2 ∨ m (a.cell + c.s) ≠ t + 1 then false else if a.put = -1 then a.seen != -1 && m 2 == t + 1 else a.seen == -1 && a.put == stp t && decide (0 < a.put)
def fitsB (c : Cfg) (m stp : Int → Int) (t : Int) (a : AccD) : Bool :=
  if a.kind = 0 ∨ a.kind = 1 ∨ a.kind = 4 then true
  else if a.cell = 0 then a.kind == 2 && a.put == a.seen + 1 && m 2 == t + 1
  else if a.cell = 2 then lockedB a t
  else if 3 ≤ a.cell ∧ a.cell < 3 + c.s then versionedB c m stp t a
  else if 3 + c.s ≤ a.cell ∧ a.cell < 3 + 2 * c.s then (a.kind == 3 || m (a.cell - c.s) != -1) && lockedB a t
  else if 3 + 2 * c.s + c.t ≤ a.cell then a.kind == 2 && (m (3 + c.s + (a.cell - (3 + 2 * c.s + c.t)).tmod c.s) == t + 1 && m (3 + (a.cell - (3 + 2 * c.s + c.t)).tmod c.s) == -1) && decide (0 ≤ a.put) && decide (a.put ≤ 65535)
  else a.cell != 1

theorem fits_ok {c : Cfg} {jobs : List (Int × List InsD)} {k t : Int} {m stp : Int → Int} {th : Int → Th} (hc : cfgB c = true) (t0 : 0 ≤ t) (t1 : t < c.t) (I : LI c jobs m th) (A : ThOk (cxOf c jobs t) k (th t)) (hst : ∀ w, hStmp (th t) = some w → stp t = w) (h0 : (hOut (cxOf c jobs t) (th t)).kind ≠ 0) :
    fitsB c m stp t (accBy m (hOut (cxOf c jobs t) (th t))) = true := by
  obtain ⟨⟨c1, c2⟩, ⟨w1, w2⟩, ⟨s1, s2⟩, _⟩ := cfgB_true hc
  have L := I.loc t t0 t1
  have hs := A.step
  rw [acc_some h0]
  unfold StepOk at hs
  unfold hOut at h0 ⊢
  unfold Loc at L
  have eK : (cxOf c jobs t).c = c := rfl
  have eM : (cxOf c jobs t).me = t := rfl
  have ownT : ∀ s, 0 ≤ s → s < c.s → Holds (th t) s → m (3 + c.s + s) = t + 1 := fun s a b x => (I.own s a b t t0 t1).2 x
  have gateT : hGate (th t) = true → m 2 = t + 1 := fun x => (I.gate t t0 t1).2 x
  have shutT : ∀ s, 0 ≤ s → s < c.s → Shuts (th t) s → m (3 + s) = -1 := fun s a b x => (I.shut s a b).2 ⟨t, t0, t1, x⟩
  have notShut : ∀ s, 0 ≤ s → s < c.s → Holds (th t) s → ¬ Shuts (th t) s → m (3 + s) ≠ -1 := fun s a b x y z => by
    obtain ⟨u, d, e, q⟩ := (I.shut s a b).1 z
    have h1 := (I.own s a b u d e).2 (shuts_holds q)
    have h2 := ownT s a b x
    have : u = t := by omega
    rw [this] at q
    exact y q
  -- by the cell
  have load : ∀ x v : Int, fitsB c m stp t ⟨1, x, v, putV ⟨1, x, 0, 0⟩ v⟩ = true := fun x v => by simp [fitsB]
  have take : ∀ x v : Int, fitsB c m stp t ⟨4, x, v, putV ⟨4, x, 0, 0⟩ v⟩ = true := fun x v => by simp [fitsB]
  have stat : ∀ (kd u v p : Int), kd = 2 ∨ kd = 3 → 0 ≤ u → u < c.t → fitsB c m stp t ⟨kd, 3 + 2 * c.s + u, v, p⟩ = true := fun kd u v p hk u0 u1 => by
    unfold fitsB
    simp only
    rw [if_neg (by omega), if_neg (by omega), if_neg (by omega), if_neg (by omega), if_neg (by omega), if_neg (by omega)]
    simp
    omega
  have gateS : m 2 = t + 1 → fitsB c m stp t ⟨2, 2, m 2, putV ⟨2, 2, 0, 0⟩ (m 2)⟩ = true := fun e => by
    unfold fitsB
    simp only
    rw [if_neg (by omega), if_neg (by omega), if_pos trivial]
    simp [lockedB, e, putV]
  have ownS : ∀ s, 0 ≤ s → s < c.s → m (3 + c.s + s) = t + 1 → m (3 + s) ≠ -1 → fitsB c m stp t ⟨2, 3 + c.s + s, m (3 + c.s + s), putV ⟨2, 3 + c.s + s, 0, 0⟩ (m (3 + c.s + s))⟩ = true := fun s a b e f => by
    unfold fitsB
    simp only
    rw [if_neg (by omega), if_neg (by omega), if_neg (by omega), if_neg (by omega), if_pos (by omega), show 3 + c.s + s - c.s = 3 + s from by omega]
    simp [lockedB, e, putV, f]
  have mem1 : ∀ {q : Int} {r : List Int}, q ∈ q :: r := List.mem_cons_self
  cases hq : (th t).st with
  | idle => rw [hq] at h0; exact absurd rfl h0
  | start => exact load _ _
  | rHeld i a => exact load _ _
  | rVer i a => exact load _ _
  | rWord i a one => exact load _ _
  | rAgain i a one w => exact load _ _
  | xClock e => exact load _ _
  | xVer e c r =>
    rw [hq] at hs
    cases r with
    | nil => exact absurd rfl hs.2.2.1
    | cons q r => exact load _ _
  | gStat i a => exact load _ _
  | gOwn i a =>
    rw [hq] at hs
    have b := tmodP s1 hs.1.1
    have ne : m (3 + c.s + a.tmod c.s) ≠ t + 1 := fun e => by
      have := (I.own _ b.1 b.2 t t0 t1).1 e
      simp [Holds, hq] at this
      exact held_false hs.2 this
    show fitsB c m stp t ⟨3, 3 + c.s + a.tmod c.s, m (3 + c.s + a.tmod c.s), putV ⟨3, 3 + c.s + a.tmod c.s, 0, t + 1⟩ (m (3 + c.s + a.tmod c.s))⟩ = true
    generalize a.tmod c.s = s at *
    unfold fitsB
    simp only
    rw [if_neg (by omega), if_neg (by omega), if_neg (by omega), if_neg (by omega), if_pos (by omega)]
    generalize m (3 + c.s + s) = v at *
    by_cases hv : v = 0
    · simp [lockedB, putV, hv]
    · simp [lockedB, putV, hv, ne]
  | gTheir i a u => exact load _ _
  | gMark i a u q =>
    rw [hq] at hs
    exact stat 3 (u - 1) _ _ (Or.inr rfl) (by have := hs.2.1.1; omega) (by have := hs.2.1.2; rw [eK] at this; omega)
  | gVer i a => exact load _ _
  | tTake => exact take _ _
  | tShow => exact stat 3 t _ _ (Or.inr rfl) t0 t1
  | cStat => exact load _ _
  | cGate =>
    have ne : m 2 ≠ t + 1 := fun e => by
      have := (I.gate t t0 t1).1 e
      simp [hGate, hq] at this
    show fitsB c m stp t ⟨3, 2, m 2, putV ⟨3, 2, 0, t + 1⟩ (m 2)⟩ = true
    unfold fitsB
    simp only
    rw [if_neg (by omega), if_neg (by omega), if_pos trivial]
    generalize m 2 = v at *
    by_cases hv : v = 0
    · simp [lockedB, putV, hv]
    · simp [lockedB, putV, hv, ne]
  | cClock => exact load _ _
  | cVer c r =>
    rw [hq] at hs
    cases r with
    | nil => exact absurd rfl hs.2.1
    | cons q r => exact load _ _
  | cShut c1 r =>
    rw [hq] at hs L
    cases r with
    | nil => exact absurd rfl hs.2.1
    | cons q r =>
      have b := hs.2.2 q mem1
      rw [eK] at b
      have hh : Holds (th t) q := by simp [Holds, hq]; exact L.2.2 q mem1
      have ns : ¬ Shuts (th t) q := by simp [Shuts, hq]
      have e1 := ownT q b.1 b.2 hh
      have e2 := notShut q b.1 b.2 hh ns
      have e3 := gateT (by simp [hGate, hq])
      show fitsB c m stp t ⟨2, 3 + q, m (3 + q), putV ⟨2, 3 + q, 0, -1⟩ (m (3 + q))⟩ = true
      unfold fitsB
      simp only
      rw [if_neg (by omega), if_neg (by omega), if_neg (by omega), if_pos (by omega)]
      unfold versionedB
      simp only
      rw [show 3 + q + c.s = 3 + c.s + q from by omega, if_neg (by simp [e1])]
      simp [putV, e2, e3]
  | cStamp c1 =>
    have e3 := gateT (by simp [hGate, hq])
    have e4 := I.clk t t0 t1 c1 (by simp [hClk, hq])
    show fitsB c m stp t ⟨2, 0, m 0, putV ⟨2, 0, 0, c1 + 1⟩ (m 0)⟩ = true
    unfold fitsB
    simp only
    rw [if_neg (by omega), if_pos trivial]
    simp [putV, e3, e4]
  | cLeave c1 => exact gateS (gateT (by simp [hGate, hq]))
  | cWord c1 r =>
    rw [hq] at hs L
    cases r with
    | nil => exact absurd rfl hs.2.1
    | cons q r =>
      have b := hs.2.2 q List.mem_cons_self
      rw [eK] at b
      have hin := L q List.mem_cons_self
      rw [eK] at hin
      have bs := tmodP s1 b.1
      have e1 := ownT _ bs.1 bs.2 (by simp [Holds, hq]; exact hin)
      have e2 := shutT _ bs.1 bs.2 (by simp [Shuts, hq]; exact hin)
      show fitsB c m stp t ⟨2, 3 + 2 * c.s + c.t + q.what, m (3 + 2 * c.s + c.t + q.what), putV ⟨2, 3 + 2 * c.s + c.t + q.what, 0, q.val⟩ (m (3 + 2 * c.s + c.t + q.what))⟩ = true
      unfold fitsB
      simp only
      rw [if_neg (by omega), if_neg (by omega), if_neg (by omega), if_neg (by omega), if_neg (by omega), if_pos (by omega), show 3 + 2 * c.s + c.t + q.what - (3 + 2 * c.s + c.t) = q.what from by omega, e1, e2]
      simp [putV, b.2.2.1, b.2.2.2]
  | cOpen c1 r =>
    rw [hq] at hs L
    cases r with
    | nil => exact absurd rfl hs.2.1
    | cons q r =>
      have b := hs.2.2 q mem1
      rw [eK] at b
      have e1 := ownT q b.1 b.2 (by simp [Holds, hq])
      have e2 := shutT q b.1 b.2 (by simp [Shuts, hq])
      have e3 := hst (c1 + 1) (by simp [hStmp, hq])
      have e4 := hs.1.1
      show fitsB c m stp t ⟨2, 3 + q, m (3 + q), putV ⟨2, 3 + q, 0, c1 + 1⟩ (m (3 + q))⟩ = true
      unfold fitsB
      simp only
      rw [if_neg (by omega), if_neg (by omega), if_neg (by omega), if_pos (by omega)]
      unfold versionedB
      simp only
      rw [show 3 + q + c.s = 3 + c.s + q from by omega, if_neg (by simp [e1]), show putV ⟨2, 3 + q, 0, c1 + 1⟩ (m (3 + q)) = c1 + 1 from by simp [putV], if_neg (by omega), e2, e3]
      simp
      omega
  | cOwn c1 r =>
    rw [hq] at hs L
    cases r with
    | nil => exact absurd rfl hs.2.1
    | cons q r =>
      have b := hs.2.2 q mem1
      rw [eK] at b
      have hh : Holds (th t) q := by simp [Holds, hq]
      exact ownS q b.1 b.2 (ownT q b.1 b.2 hh) (notShut q b.1 b.2 hh (by simp only [Shuts, hq, List.tail_cons]; exact (List.nodup_cons.1 L).1))
  | free e r =>
    rw [hq] at hs
    cases r with
    | nil => exact absurd rfl hs.1
    | cons q r =>
      have b := hs.2 q mem1
      rw [eK] at b
      have hh : Holds (th t) q := by simp [Holds, hq]
      exact ownS q b.1 b.2 (ownT q b.1 b.2 hh) (notShut q b.1 b.2 hh (by simp [Shuts, hq]))
  | fin e => exact stat 2 t _ _ (Or.inl rfl) t0 t1
  | fGate => exact gateS (gateT (by simp [hGate, hq]))
  | fOwn r =>
    rw [hq] at hs
    cases r with
    | nil => exact absurd rfl hs.1
    | cons q r =>
      have b := hs.2 q mem1
      rw [eK] at b
      have hh : Holds (th t) q := by simp [Holds, hq]
      exact ownS q b.1 b.2 (ownT q b.1 b.2 hh) (notShut q b.1 b.2 hh (by simp [Shuts, hq]))
  | fTake => exact take _ _
  | fStat => exact stat 2 t _ _ (Or.inl rfl) t0 t1
  | wait win => exact load _ _
  | rest n => rw [hq] at h0; exact absurd rfl h0

end Go.Proofs.Ytgdfmmfkdmhdgaa
