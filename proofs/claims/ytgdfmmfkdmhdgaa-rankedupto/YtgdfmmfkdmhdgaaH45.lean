import Derived.Test.YtgdfmmfkdmhdgaaH44
namespace Go.Proofs.Ytgdfmmfkdmhdgaa
set_option linter.unusedVariables false

/-! Locks, part 4: each access is one that the locks allow. -/

theorem stmp_step {K : Cx} {k : Int} {h : Th} (hc : cfgB K.c = true) (A : ThOk K k h) (L : Loc K h) (v : AnsD) (w : Int) (e : hStmp (hNext K h v) = some w) : hStmp h = some w ∨ ∃ c, h.st = .cStamp c ∧ w = c + 1 := by
  obtain ⟨_, _, ⟨s1, s2⟩, _, _, _, ⟨f1, f2⟩⟩ := cfgB_true hc
  have hx := A.x
  have hn := hx.hn
  have hb := hx.bg
  have hs := A.step
  unfold StepOk at hs
  unfold hNext at e
  unfold Loc at L
  have no : ∀ {h' : Th} {P : Prop}, hStmp h' = none → hStmp h' = some w → P := fun a b => by rw [a] at b; cases b
  cases hst : h.st with
  | idle => rw [hst] at e; exact Or.inl (by simpa using e)
  | start =>
    rw [hst] at e
    exact no (cont_go (K := K) (h := { h with list := h.list ++ [⟨K.me, h.job, v.num, 0, v.seen, 0, 0, []⟩], x := newTS (K.jobs.getD h.job (0, [])).2 v.seen, st := .start }) (by show ((0 : Nat) : Int) ≤ _; omega) (by simp [newTS]) (fun e he => by simp [newTS] at he) rfl).stmp e
  | rHeld i a => rw [hst] at e L; exact no (cont_got hb hn L.1 L.2).stmp e
  | rVer i a =>
    rw [hst] at e
    simp only at e
    split at e
    · exact Or.inl e
    · exact no rfl e
  | rWord i a one => rw [hst] at e; exact no rfl e
  | rAgain i a one y =>
    rw [hst] at e L
    simp only at e
    split at e
    · exact no rfl e
    · have e1 : (if (entIdx h.x.reads (a.tmod K.c.s)).isSome then h.x else { h.x with reads := h.x.reads ++ [⟨a.tmod K.c.s, one⟩] }).held = h.x.held := by split <;> rfl
      have e2 : (if (entIdx h.x.reads (a.tmod K.c.s)).isSome then h.x else { h.x with reads := h.x.reads ++ [⟨a.tmod K.c.s, one⟩] }).inGate = h.x.inGate := by split <;> rfl
      have e3 : (if (entIdx h.x.reads (a.tmod K.c.s)).isSome then h.x else { h.x with reads := h.x.reads ++ [⟨a.tmod K.c.s, one⟩] }).writes = h.x.writes := by split <;> rfl
      have e4 : (if (entIdx h.x.reads (a.tmod K.c.s)).isSome then h.x else { h.x with reads := h.x.reads ++ [⟨a.tmod K.c.s, one⟩] }).begun = h.x.begun := by split <;> rfl
      generalize (if (entIdx h.x.reads (a.tmod K.c.s)).isSome then h.x else { h.x with reads := h.x.reads ++ [⟨a.tmod K.c.s, one⟩] }) = x1 at *
      split at e
      · refine no (cont_got (K := K) (h := { h with x := x1, st := .rAgain i a one y }) (i := i) (a := a) (v := y) (by rw [e4]; exact hb) (by rw [e1]; exact hn) (fun q hq => ?_) (e2.trans L.2)).stmp e
        show q.what.tmod K.c.s ∈ x1.held
        rw [e1]; exact L.1 q (by rw [← e3]; exact hq)
      · exact no rfl e
  | xClock q => rw [hst] at e L; exact no (cont_exstill hb hn L.1.1 L.1.2 L.2 _).stmp e
  | xVer q c r =>
    rw [hst] at e L hs
    cases r with
    | nil => exact absurd rfl hs.2.2.1
    | cons p r =>
      simp only at e
      split at e
      · exact no (cont_fail hn).stmp e
      · exact no (cont_exstill hb hn L.1.1 L.1.2 L.2 _).stmp e
  | gStat i a =>
    rw [hst] at e
    simp only at e
    split at e
    · exact no (cont_fail hn).stmp e
    · exact no rfl e
  | gOwn i a =>
    rw [hst] at e
    simp only at e
    split at e
    · exact no rfl e
    · split at e
      · exact no (cont_fail hn).stmp e
      · exact no rfl e
  | gTheir i a u =>
    rw [hst] at e
    simp only at e
    split at e
    · exact no (cont_fail (h := { h with x := { h.x with way := u - 1 }, st := .gTheir i a u }) hn).stmp e
    · split at e
      · exact no rfl e
      · exact no rfl e
  | gMark i a u th => rw [hst] at e; exact no rfl e
  | gVer i a =>
    rw [hst] at e L
    simp only at e
    split at e
    · exact no rfl e
    · exact no (cont_wrote hb hn L.1.1 L.1.2 L.2).stmp e
  | tTake => rw [hst] at e; exact no rfl e
  | tShow =>
    rw [hst] at e L
    simp only at e
    split at e
    · exact no (cont_fail hn).stmp e
    · exact no (cont_go hb hn L.1 L.2).stmp e
  | cStat =>
    rw [hst] at e
    simp only at e
    split at e
    · exact no (cont_fail hn).stmp e
    · exact no rfl e
  | cGate =>
    rw [hst] at e
    simp only at e
    by_cases h0 : v.seen = 0
    · rw [if_pos h0] at e; exact no rfl e
    · rw [if_neg h0] at e; exact no rfl e
  | cClock =>
    rw [hst] at e
    have sh : hStmp (hShutAt v.seen h.x.held h) = none := by cases h.x.held <;> rfl
    have sl : ∀ r : List EntD, hStmp (hStillAt v.seen r h) = none := by
      intro r
      induction r with
      | nil => exact sh
      | cons q r ih =>
        unfold hStillAt
        split
        · exact ih
        · rfl
    simp only at e
    split at e
    · exact no (sl _) e
    · exact no sh e
  | cVer c r =>
    rw [hst] at e hs
    have sh : hStmp (hShutAt c h.x.held h) = none := by cases h.x.held <;> rfl
    have sl : ∀ r : List EntD, hStmp (hStillAt c r h) = none := by
      intro r
      induction r with
      | nil => exact sh
      | cons q r ih =>
        unfold hStillAt
        split
        · exact ih
        · rfl
    cases r with
    | nil => exact absurd rfl hs.2.1
    | cons q r =>
      simp only at e
      split at e
      · exact no (cont_fail hn).stmp e
      · exact no (sl _) e
  | cShut c r =>
    rw [hst] at e hs
    cases r with
    | nil => exact absurd rfl hs.2.1
    | cons q r => cases r <;> exact no rfl e
  | cStamp c =>
    rw [hst] at e
    refine Or.inr ⟨c, rfl, ?_⟩
    simp [hStmp] at e
    exact e.symm
  | cLeave c =>
    rw [hst] at e
    left
    have so : ∀ r, hStmp (hOpenAt c r h) = some w → w = c + 1 := fun r a => by
      cases r with
      | nil => simp [hOpenAt, hStmp] at a
      | cons q r => simp [hOpenAt, hStmp] at a; exact a.symm
    have : w = c + 1 := by
      cases hw : h.x.writes with
      | nil => rw [hw] at e; exact so _ e
      | cons q r => rw [hw] at e; simp [hWordAt, hStmp] at e; exact e.symm
    simp [hStmp, hst, this]
  | cWord c r =>
    rw [hst] at e hs
    left
    have so : ∀ r, hStmp (hOpenAt c r h) = some w → w = c + 1 := fun r a => by
      cases r with
      | nil => simp [hOpenAt, hStmp] at a
      | cons q r => simp [hOpenAt, hStmp] at a; exact a.symm
    have : w = c + 1 := by
      cases r with
      | nil => exact absurd rfl hs.2.1
      | cons q r =>
        cases r with
        | nil => exact so _ e
        | cons p r => simp [hWordAt, hStmp] at e; exact e.symm
    simp [hStmp, hst, this]
  | cOpen c r =>
    rw [hst] at e hs
    left
    have : w = c + 1 := by
      cases r with
      | nil => exact absurd rfl hs.2.1
      | cons q r => simp [hStmp] at e; exact e.symm
    simp [hStmp, hst, this]
  | cOwn c r =>
    rw [hst] at e hs
    left
    have : w = c + 1 := by
      cases r with
      | nil => exact absurd rfl hs.2.1
      | cons q r =>
        cases r with
        | nil => simp [hOpenAt, hStmp] at e
        | cons p r => simp [hOpenAt, hStmp] at e; exact e.symm
    simp [hStmp, hst, this]
  | free q r =>
    rw [hst] at e hs
    cases r with
    | nil => exact absurd rfl hs.1
    | cons q r => cases r <;> exact no rfl e
  | fin q =>
    rw [hst] at e
    have : ∀ g : Th, hStmp (hTo K (h.job + 1) g) = none := fun g => by
      unfold hTo
      split <;> rfl
    exact no (this _) e
  | fGate => rw [hst] at e; exact no (cont_failown (K := K) (h := h) hn).stmp e
  | fOwn r =>
    rw [hst] at e hs L
    cases r with
    | nil => exact absurd rfl hs.1
    | cons q r => exact no (cont_failown (K := K) (h := h) (List.nodup_cons.1 L).2).stmp e
  | fTake => rw [hst] at e; exact no rfl e
  | fStat =>
    rw [hst] at e
    simp only at e
    generalize (if 0 < v.seen.tmod 8 then v.seen.tmod 8 - 1 else h.x.way) = win at *
    split at e
    · exact no rfl e
    · refine no ?_ e
      unfold hRest
      simp only
      generalize (v.draw.tmod ((if (h.ended v.num 5).fails < K.c.cp then (h.ended v.num 5).fails else K.c.cp) + 1)).toNat = n
      split <;> rfl
  | wait win =>
    rw [hst] at e
    simp only at e
    split at e
    · exact no rfl e
    · exact Or.inl e
  | rest n =>
    rw [hst] at e
    simp only at e
    split at e
    · exact no rfl e
    · exact no rfl e

/-- By thread the stamp that it drew last, behind k picks. -/
def stampAt (c : Cfg) (mem : List Int) (jobs : List (Int × List InsD)) (ps : List PickD) : Nat → Int → Int
  | 0 => fun _ => 0
  | k + 1 => fun t => if (pickAt ps k).thread = t ∧ (accAt (accs c mem jobs ps) k).kind = 2 ∧ (accAt (accs c mem jobs ps) k).cell = 0 then (accAt (accs c mem jobs ps) k).put else stampAt c mem jobs ps k t

theorem gLog_get (c : Cfg) (mem : List Int) (jobs : List (Int × List InsD)) (ps : List PickD) (k : Nat) : ∀ n, k < n → accAt (gLog c mem jobs ps n) k = (gStep c jobs (gAt c mem jobs ps k) ((k : Int) + 1) (pickAt ps k)).2
  | 0, h => absurd h (Nat.not_lt_zero _)
  | n + 1, h => by
    have hl := gLog_len c mem jobs ps n
    show accAt (gLog c mem jobs ps n ++ [_]) k = _
    unfold accAt
    by_cases hk : k < n
    · rw [show (gLog c mem jobs ps n ++ [(gStep c jobs (gAt c mem jobs ps n) ((n : Int) + 1) (pickAt ps n)).2]).getD k noAcc = (gLog c mem jobs ps n).getD k noAcc from by simp [List.getD, List.getElem?_append_left (show k < (gLog c mem jobs ps n).length by omega)]]
      exact gLog_get c mem jobs ps k n hk
    · have : k = n := by omega
      subst this
      simp [List.getD, hl]
theorem accs_get (c : Cfg) (mem : List Int) (jobs : List (Int × List InsD)) (ps : List PickD) (k : Nat) (hk : k < ps.length) : accAt (accs c mem jobs ps) k = (gStep c jobs (gAt c mem jobs ps k) ((k : Int) + 1) (pickAt ps k)).2 := gLog_get c mem jobs ps k _ hk

theorem gstep_in {c : Cfg} {jobs : List (Int × List InsD)} {g : Gs} {n : Int} {pk : PickD} (h : 0 ≤ pk.thread ∧ pk.thread < c.t) : (gStep c jobs g n pk).2 = accBy g.m (hOut (cxOf c jobs pk.thread) (g.th pk.thread)) := by
  unfold gStep
  rw [if_pos h]
  rfl

theorem stmp_at {c : Cfg} (hc : cfgB c = true) {mem : List Int} (hmw : (mem.length : Int) = c.wd) (hmb : memB mem = true) (jobs : List (Int × List InsD)) (ps : List PickD) : ∀ k : Nat, k ≤ ps.length → ∀ t, 0 ≤ t → t < c.t → ∀ w, hStmp ((gAt c mem jobs ps k).th t) = some w → stampAt c mem jobs ps k t = w
  | 0, _, t, t0, t1, w, e => by
    have : hStmp ((gAt c mem jobs ps 0).th t) = none := by
      show hStmp (hInit (cxOf c jobs t)) = none
      unfold hInit hTo
      split <;> rfl
    rw [this] at e
    cases e
  | k + 1, hk, t, t0, t1, w, e => by
    have I := li_at hc hmw hmb jobs ps k
    have G := gat_ok hc hmw hmb jobs ps k
    have ih := stmp_at hc hmw hmb jobs ps k (by omega)
    have ha := accs_get c mem jobs ps k (by omega)
    by_cases ht : (pickAt ps k).thread = t
    · have hth : 0 ≤ (pickAt ps k).thread ∧ (pickAt ps k).thread < c.t := by rw [ht]; exact ⟨t0, t1⟩
      rw [gstep_in hth, ht] at ha
      have e' : hStmp (hNext (cxOf c jobs t) ((gAt c mem jobs ps k).th t) ⟨(gAcc c jobs (gAt c mem jobs ps k) t).seen, (pickAt ps k).draw, (k : Int) + 1⟩) = some w := by
        have : (gAt c mem jobs ps (k + 1)).th t = hNext (cxOf c jobs t) ((gAt c mem jobs ps k).th t) ⟨(gAcc c jobs (gAt c mem jobs ps k) t).seen, (pickAt ps k).draw, (k : Int) + 1⟩ := by
          show (gStep c jobs (gAt c mem jobs ps k) _ (pickAt ps k)).1.th t = _
          unfold gStep
          rw [if_pos hth]
          simp only
          rw [if_pos ht.symm, ht]
        rw [this] at e
        exact e
      have hcK : cfgB (cxOf c jobs t).c = true := hc
      rcases stmp_step hcK (G.th t t0 t1) (I.loc t t0 t1) _ w e' with h1 | ⟨cc, h1, h2⟩
      · show (if _ then _ else _) = w
        by_cases hcond : (pickAt ps k).thread = t ∧ (accAt (accs c mem jobs ps) k).kind = 2 ∧ (accAt (accs c mem jobs ps) k).cell = 0
        · exfalso
          obtain ⟨_, b1, b2⟩ := hcond
          rw [ha] at b1 b2
          unfold hStmp at h1
          unfold accBy hOut at b1 b2
          have hsx := (G.th t t0 t1).step
          unfold StepOk at hsx
          cases hst : ((gAt c mem jobs ps k).th t).st with
          | cLeave c1 => rw [hst] at b2; simp at b2
          | cWord c1 r =>
            rw [hst] at b1 b2 hsx
            cases r with
            | nil => exact absurd rfl hsx.2.1
            | cons q r =>
              simp at b2
              have b := hsx.2.2 q List.mem_cons_self
              obtain ⟨⟨t1', _⟩, _, ⟨s1, _⟩, _⟩ := cfgB_true hc
              unfold hWrd at b2
              have e1 : (cxOf c jobs t).c = c := rfl
              rw [e1] at b2
              have := b.1
              omega
          | cOpen c1 r =>
            rw [hst] at b1 b2 hsx
            cases r with
            | nil => exact absurd rfl hsx.2.1
            | cons q r =>
              simp at b2
              have b := hsx.2.2 q List.mem_cons_self
              unfold hVer at b2
              have := b.1
              omega
          | cOwn c1 r =>
            rw [hst] at b1 b2 hsx
            cases r with
            | nil => exact absurd rfl hsx.2.1
            | cons q r =>
              simp at b2
              have b := hsx.2.2 q List.mem_cons_self
              obtain ⟨_, _, ⟨s1, _⟩, _⟩ := cfgB_true hc
              unfold hOwn at b2
              have e1 : (cxOf c jobs t).c = c := rfl
              rw [e1] at b2
              have := b.1
              omega
          | _ => rw [hst] at h1; cases h1
        · rw [if_neg hcond]
          exact ih t t0 t1 w h1
      · have hq : hOut (cxOf c jobs t) ((gAt c mem jobs ps k).th t) = ⟨2, 0, 0, cc + 1⟩ := by unfold hOut; rw [h1]
        rw [hq] at ha
        show (if _ then _ else _) = w
        rw [ha, if_pos ⟨ht, rfl, rfl⟩, h2]
        rfl
    · have : (gAt c mem jobs ps (k + 1)).th t = (gAt c mem jobs ps k).th t := by
        show (gStep c jobs (gAt c mem jobs ps k) _ (pickAt ps k)).1.th t = _
        unfold gStep
        split
        · simp only
          rw [if_neg (fun h => ht h.symm)]
        · rfl
      rw [this] at e
      show (if _ then _ else _) = w
      rw [if_neg (fun h => ht h.1)]
      exact ih t t0 t1 w e

end Go.Proofs.Ytgdfmmfkdmhdgaa

namespace Go.Proofs.Ytgdfmmfkdmhdgaa
set_option linter.unusedVariables false

/-! Locks, part 5: what is asked of each access, as a test; and that it holds. -/

def lockedB (a : AccD) (t : Int) : Bool := if a.kind = 2 then a.seen == t + 1 && a.put == 0 else if a.seen = 0 then a.put == t + 1 else a.put == a.seen && a.seen != t + 1
def versionedB (c : Cfg) (m stp : Int → Int) (t : Int) (a : AccD) : Bool :=
  if a.kind ≠ 2 ∨ m (a.cell + c.s) ≠ t + 1 then false else if a.put = -1 then a.seen != -1 && m 2 == t + 1 else a.seen == -1 && a.put == stp t && decide (0 < a.put)
def fitsB (c : Cfg) (m stp : Int → Int) (t : Int) (a : AccD) : Bool :=
  if a.kind = 0 ∨ a.kind = 1 ∨ a.kind = 4 then true
  else if a.cell = 0 then a.kind == 2 && a.put == a.seen + 1 && m 2 == t + 1
  else if a.cell = 2 then lockedB a t
  else if 3 ≤ a.cell ∧ a.cell < 3 + c.s then versionedB c m stp t a
  else if 3 + c.s ≤ a.cell ∧ a.cell < 3 + 2 * c.s then (a.kind == 3 || m (a.cell - c.s) != -1) && lockedB a t
  else if 3 + 2 * c.s + c.t ≤ a.cell then a.kind == 2 && (m (3 + c.s + (a.cell - (3 + 2 * c.s + c.t)).tmod c.s) == t + 1 && m (3 + (a.cell - (3 + 2 * c.s + c.t)).tmod c.s) == -1) && decide (0 ≤ a.put) && decide (a.put ≤ 65535)
  else a.cell != 1

theorem fits_ok {c : Cfg} {jobs : List (Int × List InsD)} {k t : Int} {m stp : Int → Int} {th : Int → Th} (hc : cfgB c = true) (t0 : 0 ≤ t) (t1 : t < c.t) (I : LI c jobs m th) (A : ThOk (cxOf c jobs t) k (th t)) (hst : ∀ w, hStmp (th t) = some w → stp t = w) (h0 : (hOut (cxOf c jobs t) (th t)).kind ≠ 0) :
    fitsB c m stp t (accBy m (hOut (cxOf c jobs t) (th t))) = true := by
  obtain ⟨⟨c1, c2⟩, ⟨w1, w2⟩, ⟨s1, s2⟩, _⟩ := cfgB_true hc
  have L := I.loc t t0 t1
  have hs := A.step
  rw [acc_some h0]
  unfold StepOk at hs
  unfold hOut at h0 ⊢
  unfold Loc at L
  have eK : (cxOf c jobs t).c = c := rfl
  have eM : (cxOf c jobs t).me = t := rfl
  have ownT : ∀ s, 0 ≤ s → s < c.s → Holds (th t) s → m (3 + c.s + s) = t + 1 := fun s a b x => (I.own s a b t t0 t1).2 x
  have gateT : hGate (th t) = true → m 2 = t + 1 := fun x => (I.gate t t0 t1).2 x
  have shutT : ∀ s, 0 ≤ s → s < c.s → Shuts (th t) s → m (3 + s) = -1 := fun s a b x => (I.shut s a b).2 ⟨t, t0, t1, x⟩
  have notShut : ∀ s, 0 ≤ s → s < c.s → Holds (th t) s → ¬ Shuts (th t) s → m (3 + s) ≠ -1 := fun s a b x y z => by
    obtain ⟨u, d, e, q⟩ := (I.shut s a b).1 z
    have h1 := (I.own s a b u d e).2 (shuts_holds q)
    have h2 := ownT s a b x
    have : u = t := by omega
    rw [this] at q
    exact y q
  -- by the cell
  have load : ∀ x v : Int, fitsB c m stp t ⟨1, x, v, putV ⟨1, x, 0, 0⟩ v⟩ = true := fun x v => by simp [fitsB]
  have take : ∀ x v : Int, fitsB c m stp t ⟨4, x, v, putV ⟨4, x, 0, 0⟩ v⟩ = true := fun x v => by simp [fitsB]
  have stat : ∀ (kd u v p : Int), kd = 2 ∨ kd = 3 → 0 ≤ u → u < c.t → fitsB c m stp t ⟨kd, 3 + 2 * c.s + u, v, p⟩ = true := fun kd u v p hk u0 u1 => by
    unfold fitsB
    simp only
    rw [if_neg (by omega), if_neg (by omega), if_neg (by omega), if_neg (by omega), if_neg (by omega), if_neg (by omega)]
    simp
    omega
  have gateS : m 2 = t + 1 → fitsB c m stp t ⟨2, 2, m 2, putV ⟨2, 2, 0, 0⟩ (m 2)⟩ = true := fun e => by
    unfold fitsB
    simp only
    rw [if_neg (by omega), if_neg (by omega), if_pos trivial]
    simp [lockedB, e, putV]
  have ownS : ∀ s, 0 ≤ s → s < c.s → m (3 + c.s + s) = t + 1 → m (3 + s) ≠ -1 → fitsB c m stp t ⟨2, 3 + c.s + s, m (3 + c.s + s), putV ⟨2, 3 + c.s + s, 0, 0⟩ (m (3 + c.s + s))⟩ = true := fun s a b e f => by
    unfold fitsB
    simp only
    rw [if_neg (by omega), if_neg (by omega), if_neg (by omega), if_neg (by omega), if_pos (by omega), show 3 + c.s + s - c.s = 3 + s from by omega]
    simp [lockedB, e, putV, f]
  have mem1 : ∀ {q : Int} {r : List Int}, q ∈ q :: r := List.mem_cons_self
  cases hq : (th t).st with
  | idle => rw [hq] at h0; exact absurd rfl h0
  | start => exact load _ _
  | rHeld i a => exact load _ _
  | rVer i a => exact load _ _
  | rWord i a one => exact load _ _
  | rAgain i a one w => exact load _ _
  | xClock e => exact load _ _
  | xVer e c r =>
    rw [hq] at hs
    cases r with
    | nil => exact absurd rfl hs.2.2.1
    | cons q r => exact load _ _
  | gStat i a => exact load _ _
  | gOwn i a =>
    rw [hq] at hs
    have b := tmodP s1 hs.1.1
    have ne : m (3 + c.s + a.tmod c.s) ≠ t + 1 := fun e => by
      have := (I.own _ b.1 b.2 t t0 t1).1 e
      simp [Holds, hq] at this
      exact held_false hs.2 this
    show fitsB c m stp t ⟨3, 3 + c.s + a.tmod c.s, m (3 + c.s + a.tmod c.s), putV ⟨3, 3 + c.s + a.tmod c.s, 0, t + 1⟩ (m (3 + c.s + a.tmod c.s))⟩ = true
    generalize a.tmod c.s = s at *
    unfold fitsB
    simp only
    rw [if_neg (by omega), if_neg (by omega), if_neg (by omega), if_neg (by omega), if_pos (by omega)]
    generalize m (3 + c.s + s) = v at *
    by_cases hv : v = 0
    · simp [lockedB, putV, hv]
    · simp [lockedB, putV, hv, ne]
  | gTheir i a u => exact load _ _
  | gMark i a u q =>
    rw [hq] at hs
    exact stat 3 (u - 1) _ _ (Or.inr rfl) (by have := hs.2.1.1; omega) (by have := hs.2.1.2; rw [eK] at this; omega)
  | gVer i a => exact load _ _
  | tTake => exact take _ _
  | tShow => exact stat 3 t _ _ (Or.inr rfl) t0 t1
  | cStat => exact load _ _
  | cGate =>
    have ne : m 2 ≠ t + 1 := fun e => by
      have := (I.gate t t0 t1).1 e
      simp [hGate, hq] at this
    show fitsB c m stp t ⟨3, 2, m 2, putV ⟨3, 2, 0, t + 1⟩ (m 2)⟩ = true
    unfold fitsB
    simp only
    rw [if_neg (by omega), if_neg (by omega), if_pos trivial]
    generalize m 2 = v at *
    by_cases hv : v = 0
    · simp [lockedB, putV, hv]
    · simp [lockedB, putV, hv, ne]
  | cClock => exact load _ _
  | cVer c r =>
    rw [hq] at hs
    cases r with
    | nil => exact absurd rfl hs.2.1
    | cons q r => exact load _ _
  | cShut c1 r =>
    rw [hq] at hs L
    cases r with
    | nil => exact absurd rfl hs.2.1
    | cons q r =>
      have b := hs.2.2 q mem1
      rw [eK] at b
      have hh : Holds (th t) q := by simp [Holds, hq]; exact L.2.2 q mem1
      have ns : ¬ Shuts (th t) q := by simp [Shuts, hq]
      have e1 := ownT q b.1 b.2 hh
      have e2 := notShut q b.1 b.2 hh ns
      have e3 := gateT (by simp [hGate, hq])
      show fitsB c m stp t ⟨2, 3 + q, m (3 + q), putV ⟨2, 3 + q, 0, -1⟩ (m (3 + q))⟩ = true
      unfold fitsB
      simp only
      rw [if_neg (by omega), if_neg (by omega), if_neg (by omega), if_pos (by omega)]
      unfold versionedB
      simp only
      rw [show 3 + q + c.s = 3 + c.s + q from by omega, if_neg (by simp [e1])]
      simp [putV, e2, e3]
  | cStamp c1 =>
    have e3 := gateT (by simp [hGate, hq])
    have e4 := I.clk t t0 t1 c1 (by simp [hClk, hq])
    show fitsB c m stp t ⟨2, 0, m 0, putV ⟨2, 0, 0, c1 + 1⟩ (m 0)⟩ = true
    unfold fitsB
    simp only
    rw [if_neg (by omega), if_pos trivial]
    simp [putV, e3, e4]
  | cLeave c1 => exact gateS (gateT (by simp [hGate, hq]))
  | cWord c1 r =>
    rw [hq] at hs L
    cases r with
    | nil => exact absurd rfl hs.2.1
    | cons q r =>
      have b := hs.2.2 q List.mem_cons_self
      rw [eK] at b
      have hin := L q List.mem_cons_self
      rw [eK] at hin
      have bs := tmodP s1 b.1
      have e1 := ownT _ bs.1 bs.2 (by simp [Holds, hq]; exact hin)
      have e2 := shutT _ bs.1 bs.2 (by simp [Shuts, hq]; exact hin)
      show fitsB c m stp t ⟨2, 3 + 2 * c.s + c.t + q.what, m (3 + 2 * c.s + c.t + q.what), putV ⟨2, 3 + 2 * c.s + c.t + q.what, 0, q.val⟩ (m (3 + 2 * c.s + c.t + q.what))⟩ = true
      unfold fitsB
      simp only
      rw [if_neg (by omega), if_neg (by omega), if_neg (by omega), if_neg (by omega), if_neg (by omega), if_pos (by omega), show 3 + 2 * c.s + c.t + q.what - (3 + 2 * c.s + c.t) = q.what from by omega, e1, e2]
      simp [putV, b.2.2.1, b.2.2.2]
  | cOpen c1 r =>
    rw [hq] at hs L
    cases r with
    | nil => exact absurd rfl hs.2.1
    | cons q r =>
      have b := hs.2.2 q mem1
      rw [eK] at b
      have e1 := ownT q b.1 b.2 (by simp [Holds, hq])
      have e2 := shutT q b.1 b.2 (by simp [Shuts, hq])
      have e3 := hst (c1 + 1) (by simp [hStmp, hq])
      have e4 := hs.1.1
      show fitsB c m stp t ⟨2, 3 + q, m (3 + q), putV ⟨2, 3 + q, 0, c1 + 1⟩ (m (3 + q))⟩ = true
      unfold fitsB
      simp only
      rw [if_neg (by omega), if_neg (by omega), if_neg (by omega), if_pos (by omega)]
      unfold versionedB
      simp only
      rw [show 3 + q + c.s = 3 + c.s + q from by omega, if_neg (by simp [e1]), show putV ⟨2, 3 + q, 0, c1 + 1⟩ (m (3 + q)) = c1 + 1 from by simp [putV], if_neg (by omega), e2, e3]
      simp
      omega
  | cOwn c1 r =>
    rw [hq] at hs L
    cases r with
    | nil => exact absurd rfl hs.2.1
    | cons q r =>
      have b := hs.2.2 q mem1
      rw [eK] at b
      have hh : Holds (th t) q := by simp [Holds, hq]
      exact ownS q b.1 b.2 (ownT q b.1 b.2 hh) (notShut q b.1 b.2 hh (by simp only [Shuts, hq, List.tail_cons]; exact (List.nodup_cons.1 L).1))
  | free e r =>
    rw [hq] at hs
    cases r with
    | nil => exact absurd rfl hs.1
    | cons q r =>
      have b := hs.2 q mem1
      rw [eK] at b
      have hh : Holds (th t) q := by simp [Holds, hq]
      exact ownS q b.1 b.2 (ownT q b.1 b.2 hh) (notShut q b.1 b.2 hh (by simp [Shuts, hq]))
  | fin e => exact stat 2 t _ _ (Or.inl rfl) t0 t1
  | fGate => exact gateS (gateT (by simp [hGate, hq]))
  | fOwn r =>
    rw [hq] at hs
    cases r with
    | nil => exact absurd rfl hs.1
    | cons q r =>
      have b := hs.2 q mem1
      rw [eK] at b
      have hh : Holds (th t) q := by simp [Holds, hq]
      exact ownS q b.1 b.2 (ownT q b.1 b.2 hh) (notShut q b.1 b.2 hh (by simp [Shuts, hq]))
  | fTake => exact take _ _
  | fStat => exact stat 2 t _ _ (Or.inl rfl) t0 t1
  | wait win => exact load _ _
  | rest n => rw [hq] at h0; exact absurd rfl h0

end Go.Proofs.Ytgdfmmfkdmhdgaa
