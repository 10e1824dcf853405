import Derived.Test.YtejadojilncbjaaGreatE33
import Derived.Test.YtejadojilncbjaaGreatE31
import Derived.Test.YtejadojilncbjaaGreatE24
import Derived.Test.YtejadojilncbjaaGreatE22
import Derived.Test.YtejadojilncbjaaGreatRows
import Derived.ShutString
import Derived.ChangeOld
import Derived.JoinedCond
namespace Go.Proofs.YtejadojilncbjaaGreat
set_option linter.unusedVariables false

/-! Locks, part 5: what is asked of each access, as a test; and that it holds. -/

def lockedB (a : AccD) (t : Int) : Bool := if a.kind = 2 then a.seen == t + 1 && a.put == 0 else if a.seen = 0 then a.put == t + 1 else a.put == a.seen && a.seen != t + 1
def versionedB (c : Cfg) (m stp : Int → Int) (t : Int) (a : AccD) : Bool :=
  if a.kind ≠ 2 ∨ m (a.cell + c.s) ≠ t + 1 then false else if a.put = -1 then a.seen != -1 && m 2 == t + 1 else a.seen == -1 && a.put == stp t && decide (0 < a.put)
def fitsB (c : Cfg) (m stp : Int → Int) (t : Int) (a : AccD) : Bool :=
  if a.kind = 0 ∨ a.kind = 1 ∨ a.kind = 4 then true
  else if a.cell = 0 then a.kind == 2 && a.put == a.seen + 1 && m 2 == t + 1
  else if a.cell = 2 then lockedB a t
  else if 3 ≤ a.cell ∧ a.cell < 3 + c.s then versionedB c m stp t a
  else if 3 + c.s ≤ a.cell ∧ a.cell < 3 + 2 * c.s then (a.kind == 3 || m (a.cell - c.s) != -1) && lockedB a t
  else if 3 + 2 * c.s + c.t ≤ a.cell then a.kind == 2 && (m (3 + c.s + (a.cell - (3 + 2 * c.s + c.t)).tmod c.s) == t + 1 && m (3 + (a.cell - (3 + 2 * c.s + c.t)).tmod c.s) == -1) && decide (0 ≤ a.put) && decide (a.put ≤ 65535)
  else a.cell != 1

theorem fits_ok {c : Cfg} {jobs : List (Int × List InsD)} {k t : Int} {m stp : Int → Int} {th : Int → Th} (hc : cfgB c = true) (t0 : 0 ≤ t) (t1 : t < c.t) (I : LI c jobs m th) (A : ThOk (cxOf c jobs t) k (th t)) (hst : ∀ w, hStmp (th t) = some w → stp t = w) (h0 : (hOut (cxOf c jobs t) (th t)).kind ≠ 0) :
    fitsB c m stp t (accBy m (hOut (cxOf c jobs t) (th t))) = true := by
  obtain ⟨⟨c1, c2⟩, ⟨w1, w2⟩, ⟨s1, s2⟩, _⟩ := cfgB_true hc
  have L := I.loc t t0 t1
  have hs := A.step
  rw [acc_some h0]
  unfold StepOk at hs
  unfold hOut at h0 ⊢
  unfold Loc at L
  have eK : (cxOf c jobs t).c = c := rfl
  have eM : (cxOf c jobs t).me = t := rfl
  have ownT : ∀ s, 0 ≤ s → s < c.s → Holds (th t) s → m (3 + c.s + s) = t + 1 := fun s a b x => (I.own s a b t t0 t1).2 x
  have gateT : hGate (th t) = true → m 2 = t + 1 := fun x => (I.gate t t0 t1).2 x
  have shutT : ∀ s, 0 ≤ s → s < c.s → Shuts (th t) s → m (3 + s) = -1 := fun s a b x => (I.shut s a b).2 ⟨t, t0, t1, x⟩
  have notShut : ∀ s, 0 ≤ s → s < c.s → Holds (th t) s → ¬ Shuts (th t) s → m (3 + s) ≠ -1 := fun s a b x y z => by
    obtain ⟨u, d, e, q⟩ := (I.shut s a b).1 z
    have h1 := (I.own s a b u d e).2 (shuts_holds q)
    have h2 := ownT s a b x
    have : u = t := by omega
    rw [this] at q
    exact y q
  -- by the cell
  have load : ∀ x v : Int, fitsB c m stp t ⟨1, x, v, putV ⟨1, x, 0, 0⟩ v⟩ = true := fun x v => by simp [fitsB]
  have take : ∀ x v : Int, fitsB c m stp t ⟨4, x, v, putV ⟨4, x, 0, 0⟩ v⟩ = true := fun x v => by simp [fitsB]
  have stat : ∀ (kd u v p : Int), kd = 2 ∨ kd = 3 → 0 ≤ u → u < c.t → fitsB c m stp t ⟨kd, 3 + 2 * c.s + u, v, p⟩ = true := fun kd u v p hk u0 u1 => by
    unfold fitsB
    simp only
    rw [if_neg (by omega), if_neg (by omega), if_neg (by omega), if_neg (by omega), if_neg (by omega), if_neg (by omega)]
    simp
    omega
  have gateS : m 2 = t + 1 → fitsB c m stp t ⟨2, 2, m 2, putV ⟨2, 2, 0, 0⟩ (m 2)⟩ = true := fun e => by
    unfold fitsB
    simp only
    rw [if_neg (by omega), if_neg (by omega), if_pos trivial]
    simp [lockedB, e, putV]
  have ownS : ∀ s, 0 ≤ s → s < c.s → m (3 + c.s + s) = t + 1 → m (3 + s) ≠ -1 → fitsB c m stp t ⟨2, 3 + c.s + s, m (3 + c.s + s), putV ⟨2, 3 + c.s + s, 0, 0⟩ (m (3 + c.s + s))⟩ = true := fun s a b e f => by
    unfold fitsB
    simp only
    rw [if_neg (by omega), if_neg (by omega), if_neg (by omega), if_neg (by omega), if_pos (by omega), show 3 + c.s + s - c.s = 3 + s from by omega]
    simp [lockedB, e, putV, f]
  have mem1 : ∀ {q : Int} {r : List Int}, q ∈ q :: r := List.mem_cons_self
  cases hq : (th t).st with
  | idle => rw [hq] at h0; exact absurd rfl h0
  | start => exact load _ _
  | rHeld i a => exact load _ _
  | rVer i a => exact load _ _
  | rWord i a one => exact load _ _
  | rAgain i a one w => exact load _ _
  | xClock e => exact load _ _
  | xVer e c r =>
    rw [hq] at hs
    cases r with
    | nil => exact absurd rfl hs.2.2.1
    | cons q r => exact load _ _
  | gStat i a => exact load _ _
  | gOwn i a =>
    rw [hq] at hs
    have b := tmodP s1 hs.1.1
    have ne : m (3 + c.s + a.tmod c.s) ≠ t + 1 := fun e => by
      have := (I.own _ b.1 b.2 t t0 t1).1 e
      simp [Holds, hq] at this
      exact held_false hs.2 this
    show fitsB c m stp t ⟨3, 3 + c.s + a.tmod c.s, m (3 + c.s + a.tmod c.s), putV ⟨3, 3 + c.s + a.tmod c.s, 0, t + 1⟩ (m (3 + c.s + a.tmod c.s))⟩ = true
    generalize a.tmod c.s = s at *
    unfold fitsB
    simp only
    rw [if_neg (by omega), if_neg (by omega), if_neg (by omega), if_neg (by omega), if_pos (by omega)]
    generalize m (3 + c.s + s) = v at *
    by_cases hv : v = 0
    · simp [lockedB, putV, hv]
    · simp [lockedB, putV, hv, ne]
  | gTheir i a u => exact load _ _
  | gMark i a u q =>
    rw [hq] at hs
    exact stat 3 (u - 1) _ _ (Or.inr rfl) (by have := hs.2.1.1; omega) (by have := hs.2.1.2; rw [eK] at this; omega)
  | gVer i a => exact load _ _
  | tTake => exact take _ _
  | tShow => exact stat 3 t _ _ (Or.inr rfl) t0 t1
  | cStat => exact load _ _
  | cGate =>
    have ne : m 2 ≠ t + 1 := fun e => by
      have := (I.gate t t0 t1).1 e
      simp [hGate, hq] at this
    show fitsB c m stp t ⟨3, 2, m 2, putV ⟨3, 2, 0, t + 1⟩ (m 2)⟩ = true
    unfold fitsB
    simp only
    rw [if_neg (by omega), if_neg (by omega), if_pos trivial]
    generalize m 2 = v at *
    by_cases hv : v = 0
    · simp [lockedB, putV, hv]
    · simp [lockedB, putV, hv, ne]
  | cClock => exact load _ _
  | cVer c r =>
    rw [hq] at hs
    cases r with
    | nil => exact absurd rfl hs.2.1
    | cons q r => exact load _ _
  | cShut c1 r =>
    rw [hq] at hs L
    cases r with
    | nil => exact absurd rfl hs.2.1
    | cons q r =>
      have b := hs.2.2 q mem1
      rw [eK] at b
      have hh : Holds (th t) q := by simp [Holds, hq]; exact L.2.2 q mem1
      have ns : ¬ Shuts (th t) q := by simp [Shuts, hq]
      have e1 := ownT q b.1 b.2 hh
      have e2 := notShut q b.1 b.2 hh ns
      have e3 := gateT (by simp [hGate, hq])
      show fitsB c m stp t ⟨2, 3 + q, m (3 + q), putV ⟨2, 3 + q, 0, -1⟩ (m (3 + q))⟩ = true
      unfold fitsB
      simp only
      rw [if_neg (by omega), if_neg (by omega), if_neg (by omega), if_pos (by omega)]
      unfold versionedB
      simp only
      rw [show 3 + q + c.s = 3 + c.s + q from by omega, if_neg (by simp [e1])]
      simp [putV, e2, e3]
  | cStamp c1 =>
    have e3 := gateT (by simp [hGate, hq])
    have e4 := I.clk t t0 t1 c1 (by simp [hClk, hq])
    show fitsB c m stp t ⟨2, 0, m 0, putV ⟨2, 0, 0, c1 + 1⟩ (m 0)⟩ = true
    unfold fitsB
    simp only
    rw [if_neg (by omega), if_pos trivial]
    simp [putV, e3, e4]
  | cLeave c1 => exact gateS (gateT (by simp [hGate, hq]))
  | cWord c1 r =>
    rw [hq] at hs L
    cases r with
    | nil => exact absurd rfl hs.2.1
    | cons q r =>
      have b := hs.2.2 q List.mem_cons_self
      rw [eK] at b
      have hin := L q List.mem_cons_self
      rw [eK] at hin
      have bs := tmodP s1 b.1
      have e1 := ownT _ bs.1 bs.2 (by simp [Holds, hq]; exact hin)
      have e2 := shutT _ bs.1 bs.2 (by simp [Shuts, hq]; exact hin)
      show fitsB c m stp t ⟨2, 3 + 2 * c.s + c.t + q.what, m (3 + 2 * c.s + c.t + q.what), putV ⟨2, 3 + 2 * c.s + c.t + q.what, 0, q.val⟩ (m (3 + 2 * c.s + c.t + q.what))⟩ = true
      unfold fitsB
      simp only
      rw [if_neg (by omega), if_neg (by omega), if_neg (by omega), if_neg (by omega), if_neg (by omega), if_pos (by omega), show 3 + 2 * c.s + c.t + q.what - (3 + 2 * c.s + c.t) = q.what from by omega, e1, e2]
      simp [putV, b.2.2.1, b.2.2.2]
  | cOpen c1 r =>
    rw [hq] at hs L
    cases r with
    | nil => exact absurd rfl hs.2.1
    | cons q r =>
      have b := hs.2.2 q mem1
      rw [eK] at b
      have e1 := ownT q b.1 b.2 (by simp [Holds, hq])
      have e2 := shutT q b.1 b.2 (by simp [Shuts, hq])
      have e3 := hst (c1 + 1) (by simp [hStmp, hq])
      have e4 := hs.1.1
      show fitsB c m stp t ⟨2, 3 + q, m (3 + q), putV ⟨2, 3 + q, 0, c1 + 1⟩ (m (3 + q))⟩ = true
      unfold fitsB
      simp only
      rw [if_neg (by omega), if_neg (by omega), if_neg (by omega), if_pos (by omega)]
      unfold versionedB
      simp only
      rw [show 3 + q + c.s = 3 + c.s + q from by omega, if_neg (by simp [e1]), show putV ⟨2, 3 + q, 0, c1 + 1⟩ (m (3 + q)) = c1 + 1 from by simp [putV], if_neg (by omega), e2, e3]
      simp
      omega
  | cOwn c1 r =>
    rw [hq] at hs L
    cases r with
    | nil => exact absurd rfl hs.2.1
    | cons q r =>
      have b := hs.2.2 q mem1
      rw [eK] at b
      have hh : Holds (th t) q := by simp [Holds, hq]
      exact ownS q b.1 b.2 (ownT q b.1 b.2 hh) (notShut q b.1 b.2 hh (by simp only [Shuts, hq, List.tail_cons]; exact (List.nodup_cons.1 L).1))
  | free e r =>
    rw [hq] at hs
    cases r with
    | nil => exact absurd rfl hs.1
    | cons q r =>
      have b := hs.2 q mem1
      rw [eK] at b
      have hh : Holds (th t) q := by simp [Holds, hq]
      exact ownS q b.1 b.2 (ownT q b.1 b.2 hh) (notShut q b.1 b.2 hh (by simp [Shuts, hq]))
  | fin e => exact stat 2 t _ _ (Or.inl rfl) t0 t1
  | fGate => exact gateS (gateT (by simp [hGate, hq]))
  | fOwn r =>
    rw [hq] at hs
    cases r with
    | nil => exact absurd rfl hs.1
    | cons q r =>
      have b := hs.2 q mem1
      rw [eK] at b
      have hh : Holds (th t) q := by simp [Holds, hq]
      exact ownS q b.1 b.2 (ownT q b.1 b.2 hh) (notShut q b.1 b.2 hh (by simp [Shuts, hq]))
  | fTake => exact take _ _
  | fStat => exact stat 2 t _ _ (Or.inl rfl) t0 t1
  | wait win => exact load _ _
  | rest n => rw [hq] at h0; exact absurd rfl h0

end Go.Proofs.YtejadojilncbjaaGreat

namespace Go.Proofs.YtejadojilncbjaaGreat
set_option linter.unusedVariables false

/-! Ranks, part 2: the cells show them, and nobody has another's. -/

theorem take_ask {K : Cx} {h : Th} (e : (hOut K h).kind = 4) : hOut K h = ⟨4, 1, 0, 0⟩ := by
  unfold hOut at e ⊢
  split at e <;> first
    | rfl
    | (simp at e)

end Go.Proofs.YtejadojilncbjaaGreat

namespace Go.Proofs.YtejadojilncbjaaGreat
open Go.RowKit
set_option linter.unusedVariables false
attribute [local go_sem ↓] Go.wp_at_zero Go.wp_at_succ

/-! Who has no job makes no access; the first access of who has one is its first attempt's. -/

theorem seek_none {me : Int} : ∀ (l : List (Int × List InsD)) (j : Nat), (∀ b ∈ l, b.1 ≠ me) → seek me j l = none
  | [], j, _ => rfl
  | b :: r, j, h => by
    unfold seek
    rw [if_neg (h b List.mem_cons_self)]
    exact seek_none r (j + 1) (fun q hq => h q (List.mem_cons_of_mem _ hq))
theorem seek_some {me : Int} : ∀ (l : List (Int × List InsD)) (j : Nat), (∃ b ∈ l, b.1 = me) → ∃ k, seek me j l = some k
  | [], j, h => by obtain ⟨b, hb, _⟩ := h; simp at hb
  | b :: r, j, h => by
    unfold seek
    by_cases e : b.1 = me
    · rw [if_pos e]; exact ⟨j, rfl⟩
    · rw [if_neg e]
      obtain ⟨q, hq, hm⟩ := h
      rcases List.mem_cons.1 hq with x | x
      · rw [x] at hm; exact absurd hm e
      · exact seek_some r (j + 1) ⟨q, x, hm⟩
theorem works_false {jobs : List (Int × List InsD)} {t : Int} (h : worksB jobs t = false) : ∀ b ∈ jobs, b.1 ≠ t := by
  unfold worksB at h
  rw [List.any_eq_false] at h
  intro b hb e
  have := h b hb
  simp [e] at this
theorem works_true {jobs : List (Int × List InsD)} {t : Int} (h : worksB jobs t = true) : ∃ b ∈ jobs, b.1 = t := by
  unfold worksB at h
  rw [List.any_eq_true] at h
  obtain ⟨b, hb, e⟩ := h
  exact ⟨b, hb, by simpa using e⟩

theorem idle_at (c : Cfg) (mem : List Int) (jobs : List (Int × List InsD)) (ps : List PickD) (t : Int) (h : worksB jobs t = false) : ∀ k, ((gAt c mem jobs ps k).th t).st = .idle
  | 0 => by
    show (hInit (cxOf c jobs t)).st = .idle
    unfold hInit hTo
    rw [show seek (cxOf c jobs t).me 0 ((cxOf c jobs t).jobs.drop 0) = none from seek_none _ _ (works_false h)]
  | k + 1 => by
    have ih := idle_at c mem jobs ps t h k
    show ((gStep c jobs (gAt c mem jobs ps k) _ (pickAt ps k)).1.th t).st = .idle
    unfold gStep
    split
    · simp only
      split
      · rename_i e
        rw [← e]
        have : hNext (cxOf c jobs t) ((gAt c mem jobs ps k).th t) ⟨(gAcc c jobs (gAt c mem jobs ps k) t).seen, (pickAt ps k).draw, (k : Int) + 1⟩ = (gAt c mem jobs ps k).th t := by
          unfold hNext
          rw [ih]
        rw [this]
        exact ih
      · exact ih
    · exact ih

theorem acc_idle {c : Cfg} {mem : List Int} {jobs : List (Int × List InsD)} {ps : List PickD} {k : Nat} (hk : k < ps.length) (h : worksB jobs (pickAt ps k).thread = false) : accAt (accs c mem jobs ps) k = noAcc := by
  rw [accs_get c mem jobs ps k hk]
  by_cases ht : 0 ≤ (pickAt ps k).thread ∧ (pickAt ps k).thread < c.t
  · rw [gstep_in ht]
    refine acc_none ?_
    unfold hOut
    rw [idle_at c mem jobs ps _ h k]
  · unfold gStep
    rw [if_neg ht]

theorem acc_first {c : Cfg} {mem : List Int} {jobs : List (Int × List InsD)} {ps : List PickD} {k : Nat} (hk : k < ps.length) (ht : 0 ≤ (pickAt ps k).thread ∧ (pickAt ps k).thread < c.t) (h : worksB jobs (pickAt ps k).thread = true) (hi : (gAt c mem jobs ps k).th (pickAt ps k).thread = hInit (cxOf c jobs (pickAt ps k).thread)) :
    (accAt (accs c mem jobs ps) k).kind = 1 ∧ (accAt (accs c mem jobs ps) k).cell = 0 := by
  rw [accs_get c mem jobs ps k hk, gstep_in ht, hi]
  have hs : (hInit (cxOf c jobs (pickAt ps k).thread)).st = .start := by
    unfold hInit hTo
    obtain ⟨j, hj⟩ := seek_some (me := (pickAt ps k).thread) jobs 0 (works_true h)
    rw [show seek (cxOf c jobs (pickAt ps k).thread).me 0 ((cxOf c jobs (pickAt ps k).thread).jobs.drop 0) = some j from hj]
  have hq : hOut (cxOf c jobs (pickAt ps k).thread) (hInit (cxOf c jobs (pickAt ps k).thread)) = ⟨1, 0, 0, 0⟩ := by
    unfold hOut
    rw [hs]
  rw [hq]
  exact ⟨rfl, rfl⟩

/-- Whose mark is not set has not been picked. -/
def MetOk (c : Cfg) (mem : List Int) (jobs : List (Int × List InsD)) (ps : List PickD) (k : Nat) (mt : List Bool) : Prop :=
  mt.length = 4 ∧ ∀ i : Nat, i < 4 → mt.getD i false = false → worksB jobs (i : Int) = true → (gAt c mem jobs ps k).th (i : Int) = hInit (cxOf c jobs (i : Int))

theorem met_start (c : Cfg) (mem : List Int) (jobs : List (Int × List InsD)) (ps : List PickD) : MetOk c mem jobs ps 0 [false, false, false, false] := ⟨rfl, fun i hi _ _ => rfl⟩
theorem th_other {c : Cfg} {mem : List Int} {jobs : List (Int × List InsD)} {ps : List PickD} {k : Nat} {t : Int} (h : (pickAt ps k).thread ≠ t) : (gAt c mem jobs ps (k + 1)).th t = (gAt c mem jobs ps k).th t := by
  show (gStep c jobs (gAt c mem jobs ps k) _ (pickAt ps k)).1.th t = _
  unfold gStep
  split
  · simp only
    rw [if_neg (fun e => h e.symm)]
  · rfl
theorem met_skip {c : Cfg} {mem : List Int} {jobs : List (Int × List InsD)} {ps : List PickD} {k : Nat} {mt : List Bool} (h : MetOk c mem jobs ps k mt) (hn : ∀ i : Nat, i < 4 → mt.getD i false = false → worksB jobs (i : Int) = true → (pickAt ps k).thread ≠ (i : Int)) : MetOk c mem jobs ps (k + 1) mt :=
  ⟨h.1, fun i hi hf hw => (th_other (hn i hi hf hw)).trans (h.2 i hi hf hw)⟩
theorem met_set {c : Cfg} {mem : List Int} {jobs : List (Int × List InsD)} {ps : List PickD} {k n : Nat} {mt : List Bool} (h : MetOk c mem jobs ps k mt) (hn : n < 4) (ht : (pickAt ps k).thread = (n : Int)) : MetOk c mem jobs ps (k + 1) (mt.set n true) := by
  refine ⟨by rw [List.length_set]; exact h.1, fun i hi hf hw => ?_⟩
  by_cases e : i = n
  · exfalso
    rw [e] at hf
    simp [List.getD, h.1, hn] at hf
  · have : (mt.set n true).getD i false = mt.getD i false := by simp [List.getD, show n ≠ i from fun x => e x.symm]
    rw [this] at hf
    exact (th_other (by rw [ht]; omega)).trans (h.2 i hi hf hw)

end Go.Proofs.YtejadojilncbjaaGreat

namespace Go.Proofs.YtejadojilncbjaaGreat
open Go.RowKit
set_option linter.unusedVariables false
attribute [local go_sem ↓] Go.wp_at_zero Go.wp_at_succ

/-- What the keepers' asked tells: the accesses, how it was answered. -/
def AskedIs (w : World) (l : List AccD) (how : Int) (e : Ending) (w' : World) : Prop :=
  ∃ (la : Option Addr) (lc : Nat), e = .returned (.tuple #[.slice la l.length lc, .int .i64 how]) ∧ LogIn w' w'.heap.size la l ∧ Below w.heap.size w w'
def howN (c : Cfg) (mem : List Int) (jobs : List (Int × List InsD)) : Int := if errS c mem jobs = 0 then 2 else 1

set_option maxRecDepth 100000 in
set_option maxHeartbeats 8000000 in
theorem asked_any (G : PlayGood) (c : Cfg) (mem : List Int) (jobs : List (Int × List InsD)) (ps : List PickD) (ma ja pa : Option Addr) (mc jc pc : Nat) (w : World) (hps : ps.length ≤ 2 ^ 21) (hml : mem.length ≤ maxLen) (hjl : jobs.length ≤ maxLen)
    (hm : Ints w w.heap.size ma mem) (hj : JobsRep w w.heap.size ja jobs) (hp : PicksIn w w.heap.size pa ps) :
    Calls Tryz.prog 13 #[.agg #[.int .i64 c.t, .int .i64 c.wd, .int .i64 c.s, .int .i64 c.g, .int .i64 c.r, .int .i64 c.cp, .int .i64 c.f, .slice ma mem.length mc, .slice ja jobs.length jc], .slice pa ps.length pc] w (AskedIs w (playA c mem jobs ps) (howN c mem jobs)) := by
  have HM : Hid (Ints w w.heap.size ma mem) := hm
  have HJ : Hid (JobsRep w w.heap.size ja jobs) := hj
  have HP : Hid (PicksIn w w.heap.size pa ps) := hp
  have HG : Hid PlayGood := G
  have HN : Hid (ps.length ≤ 2 ^ 21) := hps
  have hps' : ps.length ≤ 2097152 := hps
  obtain ⟨L, HL⟩ : ∃ L, Hid (playA c mem jobs ps = L) := ⟨_, rfl⟩
  obtain ⟨ER, HER⟩ : ∃ ER, Hid (errS c mem jobs = ER) := ⟨_, rfl⟩
  obtain ⟨HW, HHW⟩ : ∃ HW, Hid (howN c mem jobs = HW) := ⟨_, rfl⟩
  rw [show playA c mem jobs ps = L from HL.out, show howN c mem jobs = HW from HHW.out]
  clear hm hj hp G hps
  go_enter Tryz.func13, Tryz.ntmps13
  go_wp2_with fail
  obtain ⟨w0, hw0⟩ : ∃ w0, w0 = w.alloc (.cells #[.int .i64 c.t, .int .i64 c.wd, .int .i64 c.s, .int .i64 c.g, .int .i64 c.r, .int .i64 c.cp, .int .i64 c.f, .slice ma mem.length mc, .slice ja jobs.length jc] 27) := ⟨_, rfl⟩
  have hB0 : Below w.heap.size w w0 := by rw [hw0]; exact (Below.refl w.heap.size w).alloc (Nat.le_refl _) _
  have hSb : Blk w0 w.heap.size 27 #[.int .i64 c.t, .int .i64 c.wd, .int .i64 c.s, .int .i64 c.g, .int .i64 c.r, .int .i64 c.cp, .int .i64 c.f, .slice ma mem.length mc, .slice ja jobs.length jc] := by rw [hw0]; exact Blk.new w 27 _
  rw [← hw0]
  clear hw0
  refine (HG.out c mem jobs ps ma ja pa mc jc pc w0 HN.out hml hjl ((HM.out).up hB0) ((HJ.out).up2 hB0) ((HP.out).up2 hB0)).mono ?_
  rintro e w1 ⟨la, lc, rfl, hl1, hb1⟩
  rw [show playA c mem jobs ps = L from HL.out] at hl1
  rw [show playA c mem jobs ps = L from HL.out, show errS c mem jobs = ER from HER.out]
  have hB1 : Below w.heap.size w w1 := hB0.trans (hb1.mono hB0.size)
  have HSb1 : Hid (Blk w1 w.heap.size 27 #[.int .i64 c.t, .int .i64 c.wd, .int .i64 c.s, .int .i64 c.g, .int .i64 c.r, .int .i64 c.cp, .int .i64 c.f, .slice ma mem.length mc, .slice ja jobs.length jc]) := hSb.below hb1 hSb.lt
  have hsc := (HSb1.out).cell
  have HB1 : Hid (Below w.heap.size w w1) := hB1
  have HL1 : Hid (LogIn w1 w1.heap.size la L) := hl1
  have HM1 : Hid (Ints w1 w1.heap.size ma mem) := (HM.out).up hB1
  have HJ1 : Hid (JobsRep w1 w1.heap.size ja jobs) := (HJ.out).up2 hB1
  have HP1 : Hid (PicksIn w1 w1.heap.size pa ps) := (HP.out).up2 hB1
  clear hB0 hSb hl1 hb1 hB1 HM HJ HP HG
  go_wp2_with fail
  refine (answered_any c mem jobs ER _ ma ja mc jc w1 hml hjl HM1.out HJ1.out).mono ?_
  rintro e w2 ⟨rfl, hb2⟩
  rw [show errS c mem jobs = ER from HER.out]
  have HB2 : Hid (Below w.heap.size w w2) := (HB1.out).trans (hb2.mono (HB1.out).size)
  have HSb2 : Hid (Blk w2 w.heap.size 27 #[.int .i64 c.t, .int .i64 c.wd, .int .i64 c.s, .int .i64 c.g, .int .i64 c.r, .int .i64 c.cp, .int .i64 c.f, .slice ma mem.length mc, .slice ja jobs.length jc]) := (HSb1.out).below hb2 (HSb1.out).lt
  have HL2 : Hid (LogIn w2 w2.heap.size la L) := (HL1.out).up hb2
  have HJ2 : Hid (JobsRep w2 w2.heap.size ja jobs) := (HJ1.out).up2 hb2
  have HP2 : Hid (PicksIn w2 w2.heap.size pa ps) := (HP1.out).up2 hb2
  clear hb2 hsc HSb1 HL1 HM1 HJ1 HP1 HB1
  by_cases he : ER = 0
  · have hLa : L = accs c mem jobs ps := (HL.out).symm.trans (if_pos ((HER.out).trans he))
    have hSo := errS_ok ((HER.out).trans he)
    have hLl : L.length = ps.length := by rw [hLa]; exact gLog_len c mem jobs ps ps.length
    have HLl : Hid (L.length = ps.length) := hLl
    have HWe : Hid (HW = 2) := (HHW.out).symm.trans (if_pos ((HER.out).trans he))
    have hAn : answeredN ER ER ((L.length : Int) == 0) = 2 := by unfold answeredN; rw [if_neg (by simp), if_pos he]
    rw [hAn]
    obtain ⟨LN, hLN⟩ : ∃ LN, LN = L.length := ⟨_, rfl⟩
    have HLN : Hid (LN = L.length) := hLN
    have hLNp : LN = ps.length := hLN.trans hLl
    rw [← hLN]
    subst hLNp
    have HLa : Hid (L = accs c mem jobs ps) := hLa
    have HSo : Hid (SetupOk c mem jobs ∧ ∀ j ∈ jobs, 0 ≤ j.1 ∧ j.1 < c.t) := hSo
    have ht4 : c.t ≤ 4 := (cfgB_true hSo.1.cfg).1.2
    have HJ8 : Hid (jobs.length ≤ 2 ^ 40) := Nat.le_trans hSo.1.j8 (by decide)
    clear hLa hSo hLl hAn he hLN
    go_wp2_with fail
    obtain ⟨w3, hw3⟩ : ∃ w3, w3 = w2.alloc (.cells #[.bool false, .bool false, .bool false, .bool false] 74) := ⟨_, rfl⟩
    obtain ⟨mb, hmb⟩ : ∃ mb, mb = w2.heap.size := ⟨_, rfl⟩
    have hMb : Blk w3 mb 74 (([false, false, false, false].map (Value.bool ·)).toArray) := by rw [hw3, hmb]; exact Blk.new w2 74 _
    have hB23 : Below w2.heap.size w2 w3 := by rw [hw3]; exact (Below.refl _ _).alloc (Nat.le_refl _) _
    have HMb3 : Hid (Blk w3 mb 74 (([false, false, false, false].map (Value.bool ·)).toArray)) := hMb
    have HB23 : Hid (Below w2.heap.size w2 w3) := hB23
    have hmbw : w2.heap.size ≤ mb := by omega
    rw [← hw3, ← hmb]
    clear hw3 hmb hMb hB23
    go_loopg [10] (ps.length + 1) (fun m t10 wr => ∃ (k : Nat) (mt : List Bool), t10 = .int .i64 (k : Int) ∧ k ≤ ps.length ∧ m = ps.length + 1 - k ∧ Hid (Blk wr mb 74 ((mt.map (Value.bool ·)).toArray)) ∧ Hid (MetOk c mem jobs ps k mt) ∧ Hid (Below w2.heap.size w2 wr))
    case atStart => exact ⟨0, _, rfl, by omega, by omega, HMb3, met_start c mem jobs ps, HB23⟩
    case round =>
      obtain ⟨k, mt, rfl, hk, hgk, HMb, HMt, HBx⟩ := hrel
      clear HMb3 HB23
      by_cases hkl : k < ps.length
      · obtain ⟨pb, poff, hpa, hpb, hpc0, _⟩ := HP2.out k hkl
        obtain ⟨lb, loff, hla, hlb, hlc0, hlc1, _, _⟩ := HL2.out k (by rw [show L.length = ps.length from HLl.out]; exact hkl)
        have up : ∀ (b o : Nat), b < w2.heap.size → wr.cell? ⟨b, o, none⟩ = w2.cell? ⟨b, o, none⟩ := fun b o hb => World.cell?_of_block ((HBx.out).block b hb)
        have hq0 := (up pb _ hpb).trans hpc0
        have hk0 : (0 : Int) ≤ (k : Int) := by omega
        have hk1 : (k : Int) < (ps.length : Int) := by omega
        have hwk : IntKind.i64.wrap ((k : Int) + 1) = (k : Int) + 1 := wrapF _ (by omega) (by omega)
        have hsx : ∀ i, wr.cell? ⟨w.heap.size, i, none⟩ = (#[.int .i64 c.t, .int .i64 c.wd, .int .i64 c.s, .int .i64 c.g, .int .i64 c.r, .int .i64 c.cp, .int .i64 c.f, .slice ma mem.length mc, .slice ja jobs.length jc] : Array Value)[i]? := ((HSb2.out).below HBx.out (HSb2.out).lt).cell
        have hszx : w2.heap.size ≤ wr.heap.size := (HBx.out).size
        have HWK : Hid _ := works_any c mem jobs (pickAt ps k).thread ma ja mem.length mc jc wr HJ8.out (((HJ2.out).up HBx.out).mono hszx)
        subst hpa hla
        have HLK : Hid (accAt L k = accAt (accs c mem jobs ps) k) := by rw [HLa.out]; rfl
        have HPt : Hid (pickAt ps k = pickAt ps k) := rfl
        obtain ⟨th, hth⟩ : ∃ th, th = (pickAt ps k).thread := ⟨_, rfl⟩
        have HTH : Hid (th = (pickAt ps k).thread) := hth
        rw [← hth] at hq0 HWK
        clear hpc0 hth HPt up
        go_wp2_with fail
        refine Calls.mono HWK.out ?_
        rintro e w5 ⟨rfl, hb5⟩
        have HB5 : Hid (Below w2.heap.size w2 w5) := (HBx.out).trans (hb5.mono hszx)
        have hlk0 : w5.cell? ⟨lb, loff + k * 4, none⟩ = some (.int .i64 (accAt L k).kind) := (World.cell?_of_block ((HB5.out).block lb hlb)).trans hlc0
        have hlk1 : w5.cell? ⟨lb, loff + k * 4 + 1, none⟩ = some (.int .i64 (accAt L k).cell) := (World.cell?_of_block ((HB5.out).block lb hlb)).trans hlc1
        have HMb5 : Hid (Blk w5 mb 74 ((mt.map (Value.bool ·)).toArray)) := (HMb.out).below hb5 (HMb.out).lt
        clear hb5 HWK hsx hq0 hlc0 hlc1 HMb HBx hszx
        cases hwj : worksB jobs th with
        | false =>
          have hnone : accAt L k = noAcc := (HLK.out).trans (acc_idle hkl (by rw [← show th = _ from HTH.out]; exact hwj))
          have hkk : (accAt L k).kind = 0 := by rw [hnone]; rfl
          have HMt2 : Hid (MetOk c mem jobs ps (k + 1) mt) := met_skip HMt.out (fun i hi hf hw e => by
            rw [← show th = _ from HTH.out] at e
            rw [e, hw] at hwj
            cases hwj)
          rw [hkk] at hlk0
          clear hnone hkk hwj HMt HTH HLK hlk1
          go_wp2
          go_roundg (gk - 1)
          case rel => exact ⟨k + 1, mt, by simp, by omega, by omega, HMb5, HMt2, HB5⟩
          case measure => omega
        | true =>
          obtain ⟨jb, hjb, hje⟩ := works_true hwj
          have hr := (HSo.out).2 jb hjb
          rw [hje] at hr
          obtain ⟨n, hn⟩ : ∃ n : Nat, th = (n : Int) := ⟨th.toNat, by omega⟩
          have hn4 : n < 4 := by omega
          have HTN : Hid ((pickAt ps k).thread = (n : Int)) := (HTH.out).symm.trans hn
          have hmtl := (HMt.out).1
          have hmc : w5.cell? ⟨mb, n, none⟩ = some (.bool (mt.getD n false)) := by
            rw [(HMb5.out).cell]
            simp [List.getD, List.getElem?_eq_getElem (show n < mt.length by omega)]
          have hmf : w5.frozen? ⟨mb, n, none⟩ = false := (HMb5.out).frozen n
          have hn0 : (0 : Int) ≤ (n : Int) := by omega
          have hn4' : (n : Int) < 4 := by omega
          have HWJ : Hid (worksB jobs (n : Int) = true) := by rw [hn] at hwj; exact hwj
          have HRg : Hid (0 ≤ (pickAt ps k).thread ∧ (pickAt ps k).thread < c.t) := by rw [HTN.out, ← hn]; exact hr
          subst hn
          cases hmt : mt.getD n false with
          | true =>
            have HMt2 : Hid (MetOk c mem jobs ps (k + 1) mt) := met_skip HMt.out (fun i hi hf hw e => by
              rw [HTN.out] at e
              have : i = n := by omega
              rw [this, hmt] at hf
              cases hf)
            rw [hmt] at hmc
            clear hwj hjb hje hr hmt HMt HTH HTN HLK hmtl HWJ HRg
            go_wp2
            go_roundg (gk - 1)
            case rel => exact ⟨k + 1, mt, by simp, by omega, by omega, HMb5, HMt2, HB5⟩
            case measure => omega
          | false =>
            have HMt2 : Hid (MetOk c mem jobs ps (k + 1) (mt.set n true)) := met_set HMt.out hn4 HTN.out
            have hfst := acc_first (c := c) (mem := mem) hkl HRg.out (by rw [HTN.out]; exact HWJ.out) (by rw [HTN.out]; exact (HMt.out).2 n hn4 hmt HWJ.out)
            rw [← show accAt L k = _ from HLK.out] at hfst
            rw [hfst.1] at hlk0
            rw [hfst.2] at hlk1
            rw [hmt] at hmc
            have HMbS : Hid (Blk (w5.setCell ⟨mb, n, none⟩ (.bool true)) mb 74 (((mt.set n true).map (Value.bool ·)).toArray)) := ((HMb5.out).set (i := n) (v := .bool true)).congr (by
              rw [List.map_set]
              simp)
            have HBS : Hid (Below w2.heap.size w2 (w5.setCell ⟨mb, n, none⟩ (.bool true))) := below_set HB5.out hmbw
            have hlne : lb ≠ mb := by omega
            clear hwj hjb hje hr hmt HMt HTH HTN HLK hmtl HWJ HRg hfst HMb5 HB5
            go_wp2
            go_roundg (gk - 1)
            case rel => exact ⟨k + 1, mt.set n true, by simp, by omega, by omega, HMbS, HMt2, HBS⟩
            case measure => omega
      · have hk1 : ¬ (k : Int) < (ps.length : Int) := by omega
        have HLx : Hid (LogIn wr wr.heap.size la L) := (HL2.out).up HBx.out
        have HF : Hid (Below w.heap.size w wr) := (HB2.out).trans ((HBx.out).mono (HB2.out).size)
        clear HMb HMt HBx
        go_wp2
        exact bodyPost_ret (v := .tuple #[.slice la ps.length lc, .int .i64 2]) (by simp [results, Tryz.results13, go_sem]) rfl ⟨la, lc, by rw [HWe.out, HLl.out], HLx.out, HF.out⟩
  · have hLa : L = [] := (HL.out).symm.trans (if_neg (by rw [HER.out]; exact he))
    have HWe : Hid (HW = 1) := (HHW.out).symm.trans (if_neg (by rw [HER.out]; exact he))
    subst hLa
    have hAn : answeredN ER ER ((([] : List AccD).length : Int) == 0) = 1 := by unfold answeredN; rw [if_neg (by simp), if_neg he, if_pos (by simp)]
    rw [hAn]
    clear he hAn
    go_wp2
    exact bodyPost_ret (v := .tuple #[.slice none 0 0, .int .i64 1]) (by simp [results, Tryz.results13, go_sem]) rfl ⟨none, 0, by rw [HWe.out]; rfl, fun i hi => absurd hi (by simp), HB2.out⟩

end Go.Proofs.YtejadojilncbjaaGreat

namespace Go.Proofs.YtejadojilncbjaaGreat
open Go.ChangeShapes Go.WideShapes Go.ChangeAt Go.RowKit Go.Deep
set_option linter.unusedVariables false

theorem ownP : ownKnob Tryz.prog.godebug = none := by kernel_rfl
theorem laidOutP : laidOutB Tryz.prog = true := by kernel_rfl
theorem Tryz.cells42 : Tryz.prog.cellsOf 42 = 2 := by kernel_rfl

/-- The bulk of what was read bounds the picks. -/
theorem bulk_one {H : Type} (d : DataW H) : 1 ≤ Rows.uptoBulk d := by
  cases d with
  | lit l => cases l <;> simp [Rows.uptoBulk]
  | nil => simp [Rows.uptoBulk]
  | ptr d => simp [Rows.uptoBulk]
  | slice elems spare => simp [Rows.uptoBulk]
  | agg parts => simp [Rows.uptoBulk]
  | iface t d => simp [Rows.uptoBulk]
  | map entries => simp [Rows.uptoBulk]
  | held h => simp [Rows.uptoBulk]
theorem bulk_len {H : Type} : ∀ (l : List (DataW H)), l.length ≤ Rows.uptoBulkAll l
  | [] => by simp [Rows.uptoBulkAll]
  | x :: r => by
    have := bulk_one x
    have := bulk_len r
    simp only [Rows.uptoBulkAll, List.length_cons]
    omega

section
variable {H : Type} {enc : TypeId × Value → H} {w : World} {spare : Nat → Bool} {held : Bool}

/-- Picks opened. -/
theorem picks_open {fuel : Nat} {cs : List Value} {x : DataW H × List MemPlace} (h : DataW.trod enc Tryz.prog w 0 spare held fuel 28 cs = some x) :
    ∃ a len cap, ∃ ps : List PickD, cs = [.slice a len cap] ∧ ps.length = len ∧ PicksIn w w.heap.size a ps ∧ len ≤ Rows.uptoBulk x.1 := by
  rcases open_slice_pairs Tryz.underlying28 Tryz.underlying42 Tryz.cells42 rfl rfl Tryz.cells3 Tryz.cells3 h with ⟨hcs, _⟩ | ⟨x, l, c, m, n, V0, V1, D0, D1, P0, P1, hcs, _, hl, hm, hmm, rfl, hel⟩
  · exact ⟨none, 0, 0, [], hcs, rfl, fun i hi => by simp at hi, Nat.zero_le _⟩
  · have hle : l ≤ m := by rw [hmm]; split <;> omega
    have each : ∀ i, i < l → ∃ q : PickD, w.cell? (x.add (i * 2)) = some (.int .i64 q.thread) ∧ w.cell? (x.add (i * 2 + 1)) = some (.int .i64 q.draw) := by
      intro i hi
      obtain ⟨h0, h1, h2, h3⟩ := hel i (by omega)
      obtain ⟨n0, e0, _, w0⟩ := DataW.trod_int Tryz.underlying3 h2
      obtain ⟨n1, e1, _, w1⟩ := DataW.trod_int Tryz.underlying3 h3
      simp at e0 e1
      exact ⟨⟨n0, n1⟩, by rw [h0, e0], by rw [h1, e1]⟩
    have hin : Inhabited PickD := ⟨⟨0, 0⟩⟩
    obtain ⟨q, hq⟩ := choose_lt each
    obtain ⟨b, off, spot⟩ := x
    refine ⟨some ⟨b, off, spot⟩, l, c, (List.range l).map q, hcs, by simp, fun i hi => ?_, ?_⟩
    · have hi' : i < l := by simpa using hi
      obtain ⟨h0, h1⟩ := hq i hi'
      have hspot : spot = none := by simpa [Addr.add] using World.cell?_spot (hq 0 (by omega)).1
      subst hspot
      rw [add_plain] at h0 h1
      have hat : pickAt ((List.range l).map q) i = q i := by simp [pickAt, List.getD, hi']
      rw [hat]
      exact ⟨b, off, rfl, block_lt h0, h0, h1⟩
    · simp only [Rows.uptoBulk]
      have := bulk_len ((List.range l).map fun i => (DataW.agg [D0 i, D1 i] : DataW H))
      simp only [List.length_map, List.length_range] at this
      omega

/-- The jobs opened, with their codes, as a list. -/
theorem jobs_rep {w : World} {ja : Option Addr} {js : List JobD} (hj : JobsIn w w.heap.size ja js) (hc : ∀ j ∈ js, (Lit.int .i64 j.t).wf = true ∧ j.len ≤ maxLen ∧ ∃ is : List InsD, is.length = j.len ∧ CodeIn w w.heap.size j.a is ∧ ∀ i ∈ is, i.wf) :
    ∃ jobs : List (Int × List InsD), jobs.length = js.length ∧ JobsRep w w.heap.size ja jobs := by
  have each : ∀ i, i < js.length → ∃ is : List InsD, is.length = (jobAt js i).len ∧ CodeIn w w.heap.size (jobAt js i).a is := by
    intro i hi
    have hmem : jobAt js i ∈ js := by
      rw [show jobAt js i = js[i] from by simp [jobAt, List.getD, List.getElem?_eq_getElem hi]]
      exact List.getElem_mem hi
    obtain ⟨_, _, is, h1, h2, _⟩ := hc _ hmem
    exact ⟨is, h1, h2⟩
  obtain ⟨q, hq⟩ := choose_lt each
  refine ⟨(List.range js.length).map fun i => ((jobAt js i).t, q i), by simp, js, by simp, hj, fun i hi => ?_⟩
  have e : ((List.range js.length).map fun i => ((jobAt js i).t, q i)).getD i (0, []) = ((jobAt js i).t, q i) := by simp [List.getD, hi]
  rw [e]
  exact ⟨rfl, (hq i hi).1.symm, (hq i hi).2⟩
end

end Go.Proofs.YtejadojilncbjaaGreat
