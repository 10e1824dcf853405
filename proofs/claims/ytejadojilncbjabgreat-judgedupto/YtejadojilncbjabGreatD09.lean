import Derived.Test.YtejadojilncbjabGreatD08
namespace Go.Proofs.YtejadojilncbjabGreat
set_option linter.unusedVariables false
def upd (m : Int → Int) (x v : Int) : Int → Int := fun y => if y = x then v else m y
theorem upd_at (m : Int → Int) (x v : Int) : upd m x v x = v := by simp [upd]
theorem upd_off {m : Int → Int} {x v y : Int} (h : y ≠ x) : upd m x v y = m y := by simp [upd, h]
def mNext (m : Int → Int) (q : AskD) : Int → Int := if q.kind = 0 then m else wr m q
theorem mNext_load (m : Int → Int) (x : Int) : mNext m ⟨1, x, 0, 0⟩ = m := by
 unfold mNext
 rw [if_neg (by simp)]
 exact wr_ld m x
theorem mNext_none (m : Int → Int) : mNext m ⟨0, 0, 0, 0⟩ = m := by
 unfold mNext
 rw [if_pos rfl]
theorem mNext_store (m : Int → Int) (x v : Int) : mNext m ⟨2, x, 0, v⟩ = upd m x v := by
 unfold mNext
 rw [if_neg (by simp)]
 funext y
 unfold wr upd putV
 simp
theorem mNext_swap (m : Int → Int) (x f v : Int) (h : m x = f) : mNext m ⟨3, x, f, v⟩ = upd m x v := by
 unfold mNext
 rw [if_neg (by simp)]
 funext y
 unfold wr upd putV
 simp [h]
theorem mNext_miss (m : Int → Int) (x f v : Int) (h : m x ≠ f) : mNext m ⟨3, x, f, v⟩ = m := by
 unfold mNext
 rw [if_neg (by simp)]
 funext y
 unfold wr putV
 by_cases hy : y = x
 ·subst hy; simp [h]
 ·simp [hy]
theorem mNext_off (m : Int → Int) (q : AskD) {y : Int} (h : y ≠ q.cell) : mNext m q y = m y := by
 unfold mNext
 split
 ·rfl
 ·exact wr_off h
def Lockish (K : Cx) (x : Int) : Prop := x = 0 ∨ x = 2 ∨ (3 ≤ x ∧ x < 3 + 2 * K.c.s)
inductive Eff (K : Cx) (m m' : Int → Int) (h h' : Th) : Prop
 | same (M : ∀ x, Lockish K x → m' x = m x) (H : ∀ s, Holds h' s ↔ Holds h s) (G : hGate h' = hGate h) (S : ∀ s, Shuts h' s ↔ Shuts h s) (C : ∀ v, hClk h' = some v → hClk h = some v ∨ (hGate h = true ∧ m 0 = v))
 | got (s : Int) (b : 0 ≤ s ∧ s < K.c.s) (e : m (hOwn K s) = 0) (M : m' = upd m (hOwn K s) (K.me + 1)) (H : ∀ u, Holds h' u ↔ (Holds h u ∨ u = s)) (G : hGate h' = hGate h) (S : ∀ u, Shuts h' u ↔ Shuts h u) (C : hClk h' = none)
 | gave (s : Int) (b : 0 ≤ s ∧ s < K.c.s) (e : Holds h s ∧ ¬ Shuts h s) (M : m' = upd m (hOwn K s) 0) (H : ∀ u, Holds h' u ↔ (Holds h u ∧ u ≠ s)) (G : hGate h' = hGate h) (S : ∀ u, Shuts h' u ↔ Shuts h u) (C : hClk h' = none)
 | into (e : m 2 = 0) (M : m' = upd m 2 (K.me + 1)) (H : ∀ u, Holds h' u ↔ Holds h u) (G : hGate h' = true) (S : ∀ u, Shuts h' u ↔ Shuts h u) (C : hClk h' = none)
 | out (e : hGate h = true) (M : m' = upd m 2 0) (H : ∀ u, Holds h' u ↔ Holds h u) (G : hGate h' = false) (S : ∀ u, Shuts h' u ↔ Shuts h u) (C : hClk h' = none)
 | shut (s : Int) (b : 0 ≤ s ∧ s < K.c.s) (e : Holds h s ∧ ¬ Shuts h s ∧ hGate h = true) (M : m' = upd m (hVer s) (-1)) (H : ∀ u, Holds h' u ↔ Holds h u) (G : hGate h' = hGate h) (S : ∀ u, Shuts h' u ↔ (Shuts h u ∨ u = s)) (C : ∀ v, hClk h' = some v → hClk h = some v)
 | opened (s v : Int) (b : 0 ≤ s ∧ s < K.c.s) (p : 0 ≤ v) (e : Holds h s ∧ Shuts h s) (M : m' = upd m (hVer s) v) (H : ∀ u, Holds h' u ↔ Holds h u) (G : hGate h' = hGate h) (S : ∀ u, Shuts h' u ↔ (Shuts h u ∧ u ≠ s)) (C : hClk h' = none)
 | stamp (v : Int) (e : hGate h = true ∧ hClk h = some v) (M : m' = upd m 0 (v + 1)) (H : ∀ u, Holds h' u ↔ Holds h u) (G : hGate h' = hGate h) (S : ∀ u, Shuts h' u ↔ Shuts h u) (C : hClk h' = none)
theorem eff_cont {K : Cx} {m m' : Int → Int} {h h' : Th} {held : List Int} {gate : Bool} (M : ∀ x, Lockish K x → m' x = m x) (hH : ∀ s, Holds h s ↔ s ∈ held) (hG : hGate h = gate) (hS : ∀ s, ¬ Shuts h s) (C : Cont K held gate h') : Loc K h' ∧ Eff K m m' h h' :=
 ⟨C.loc, .same M (fun s => (C.holds s).trans (hH s).symm) (C.gate.trans hG.symm) (fun s => ⟨fun a => absurd a (C.shuts s), fun a => absurd a (hS s)⟩) (fun v a => by rw [C.clk] at a; cases a)⟩
theorem not_lockish_sta {K : Cx} {x t : Int} (hs : 0 ≤ K.c.s) (h0 : 0 ≤ t) (h : Lockish K x) : x ≠ hSta K t := by
 unfold hSta
 unfold Lockish at h
 omega
theorem not_lockish_wrd {K : Cx} {x a : Int} (hs : 0 ≤ K.c.s) (h1 : 0 ≤ K.c.t) (h0 : 0 ≤ a) (h : Lockish K x) : x ≠ hWrd K a := by
 unfold hWrd
 unfold Lockish at h
 omega
theorem eff_step {K : Cx} {k : Int} {h : Th} (hc : cfgB K.c = true) (hm : 0 ≤ K.me ∧ K.me < K.c.t) (A : ThOk K k h) (L : Loc K h) (m : Int → Int) (v : AnsD) (hv : (hOut K h).kind ≠ 0 → v.seen = m (hOut K h).cell) :
  Loc K (hNext K h v) ∧ Eff K m (mNext m (hOut K h)) h (hNext K h v) := by
 obtain ⟨⟨t1, t2⟩, ⟨w1, w2⟩, ⟨s1, s2⟩, _, _, _, ⟨f1, f2⟩⟩ := cfgB_true hc
 have hx := A.x
 have hn := hx.hn
 have hb := hx.bg
 have hs := A.step
 unfold StepOk at hs
 unfold hOut at hv ⊢
 unfold hNext
 unfold Loc at L
 have st : ∀ {i : InsD} {a : Int}, AOk K i a → 0 ≤ a.tmod K.c.s ∧ a.tmod K.c.s < K.c.s := fun ha => tmodP s1 ha.1
 have ld : ∀ x : Int, ∀ y, Lockish K y → mNext m ⟨1, x, 0, 0⟩ y = m y := fun x y _ => by rw [mNext_load]
 have sta : ∀ (q : AskD) (t : Int), 0 ≤ t → q.cell = hSta K t → ∀ y, Lockish K y → mNext m q y = m y := fun q t ht e y hy => mNext_off m q (by rw [e]; exact not_lockish_sta (by omega) ht hy)
 have tic : ∀ y, Lockish K y → mNext m ⟨4, 1, 0, 0⟩ y = m y := fun y hy => mNext_off m _ (by show y ≠ 1; unfold Lockish at hy; omega)
 cases hst : h.st with
 | idle => rw [hst] at L; exact ⟨by unfold Loc; rw [hst]; trivial, .same (fun x _ => by rw [mNext_none]) (fun s => Iff.rfl) rfl (fun s => Iff.rfl) (fun v a => Or.inl a)⟩
 | start =>
  refine eff_cont (held := []) (gate := false) (ld 0) (fun s => by simp [Holds, hst]) (by simp [hGate, hst]) (fun s => by simp [Shuts, hst]) ?_
  exact cont_go (K := K) (h := { h with list := h.list ++ [⟨K.me, h.job, v.num, 0, v.seen, 0, 0, []⟩], x := newTS (K.jobs.getD h.job (0, [])).2 v.seen, st := .start }) (by show ((0 : Nat) : Int) ≤ _; omega) (by simp [newTS]) (fun e he => by simp [newTS] at he) rfl
 | rHeld i a =>
  rw [hst] at L
  exact eff_cont (ld _) (fun s => by simp [Holds, hst]) (by simp [hGate, hst]) (fun s => by simp [Shuts, hst]) (cont_got hb hn L.1 L.2)
 | rVer i a =>
  rw [hst] at L
  simp only
  split
  ·exact ⟨by unfold Loc; rw [hst]; exact L, .same (ld _) (fun s => Iff.rfl) rfl (fun s => Iff.rfl) (fun v a => Or.inl a)⟩
  ·exact ⟨L, .same (ld _) (fun s => by simp [Holds, hst]) (by simp [hGate, hst]) (fun s => by simp [Shuts, hst]) (fun v a => by simp [hClk] at a)⟩
 | rWord i a one =>
  rw [hst] at L
  exact ⟨L, .same (ld _) (fun s => by simp [Holds, hst]) (by simp [hGate, hst]) (fun s => by simp [Shuts, hst]) (fun v a => by simp [hClk] at a)⟩
 | rAgain i a one w =>
  rw [hst] at L
  simp only
  split
  ·exact ⟨L, .same (ld _) (fun s => by simp [Holds, hst]) (by simp [hGate, hst]) (fun s => by simp [Shuts, hst]) (fun v a => by simp [hClk] at a)⟩
  ·have e1 : (if (entIdx h.x.reads (a.tmod K.c.s)).isSome then h.x else { h.x with reads := h.x.reads ++ [⟨a.tmod K.c.s, one⟩] }).held = h.x.held := by split <;> rfl
   have e2 : (if (entIdx h.x.reads (a.tmod K.c.s)).isSome then h.x else { h.x with reads := h.x.reads ++ [⟨a.tmod K.c.s, one⟩] }).inGate = h.x.inGate := by split <;> rfl
   have e3 : (if (entIdx h.x.reads (a.tmod K.c.s)).isSome then h.x else { h.x with reads := h.x.reads ++ [⟨a.tmod K.c.s, one⟩] }).writes = h.x.writes := by split <;> rfl
   have e4 : (if (entIdx h.x.reads (a.tmod K.c.s)).isSome then h.x else { h.x with reads := h.x.reads ++ [⟨a.tmod K.c.s, one⟩] }).begun = h.x.begun := by split <;> rfl
   generalize (if (entIdx h.x.reads (a.tmod K.c.s)).isSome then h.x else { h.x with reads := h.x.reads ++ [⟨a.tmod K.c.s, one⟩] }) = x1 at *
   have hw1 : ∀ st, Wh K { h with x := x1, st := st } := fun st e he => by
    have he' : e ∈ h.x.writes := by rw [← e3]; exact he
    show e.what.tmod K.c.s ∈ x1.held
    rw [e1]; exact L.1 e he'
   split
   ·refine eff_cont (held := h.x.held) (gate := false) (ld _) (fun s => by simp [Holds, hst]) (by simp [hGate, hst]) (fun s => by simp [Shuts, hst]) ?_
    have := cont_got (K := K) (h := { h with x := x1, st := .rAgain i a one w }) (i := i) (a := a) (v := w) (by rw [e4]; exact hb) (by rw [e1]; exact hn) (hw1 _) (e2.trans L.2)
    rw [show ({ h with x := x1, st := .rAgain i a one w } : Th).x.held = h.x.held from e1] at this
    exact this
   ·exact ⟨⟨⟨hw1 _, e2.trans L.2⟩, trivial⟩, .same (ld _) (fun s => by simp [Holds, hst, e1]) (by simp [hGate, hst]) (fun s => by simp [Shuts, hst]) (fun v a => by simp [hClk] at a)⟩
 | xClock e =>
  rw [hst] at L
  exact eff_cont (ld _) (fun s => by simp [Holds, hst]) (by simp [hGate, hst]) (fun s => by simp [Shuts, hst]) (cont_exstill hb hn L.1.1 L.1.2 L.2 _)
 | xVer e c r =>
  rw [hst] at L hs
  cases r with
  | nil => exact absurd rfl hs.2.2.1
  | cons q r =>
   simp only
   split
   ·refine eff_cont (held := h.x.held) (gate := h.x.inGate) (ld _) (fun s => by simp [Holds, hst]) (by simp [hGate, hst, L.1.2]) (fun s => by simp [Shuts, hst]) (cont_fail hn)
   ·exact eff_cont (ld _) (fun s => by simp [Holds, hst]) (by simp [hGate, hst]) (fun s => by simp [Shuts, hst]) (cont_exstill hb hn L.1.1 L.1.2 L.2 _)
 | gStat i a =>
  rw [hst] at L
  simp only
  split
  ·exact eff_cont (ld _) (fun s => by simp [Holds, hst]) (by simp [hGate, hst, L.2]) (fun s => by simp [Shuts, hst]) (cont_fail hn)
  ·exact ⟨L, .same (ld _) (fun s => by simp [Holds, hst]) (by simp [hGate, hst]) (fun s => by simp [Shuts, hst]) (fun v a => by simp [hClk] at a)⟩
 | gOwn i a =>
  rw [hst] at L hs hv
  have b := st hs.1
  have hv' := hv (by simp)
  simp only at hv' ⊢
  by_cases h0 : v.seen = 0
  ·rw [if_pos h0, mNext_swap m _ _ _ (by rw [← hv', h0])]
   refine ⟨⟨⟨fun e he => ?_, L.2⟩, ?_⟩, .got (a.tmod K.c.s) b (by rw [← hv', h0]) rfl (fun u => ?_) (by simp [hGate, hst]) (fun u => by simp [Shuts, hst]) rfl⟩
   ·exact List.mem_append_left _ (L.1 e he)
   ·exact List.mem_append_right _ (List.mem_singleton.2 rfl)
   ·simp [Holds, hst]
  ·rw [if_neg h0, mNext_miss m _ _ _ (by rw [← hv']; exact h0)]
   split
   ·exact eff_cont (fun _ _ => rfl) (fun s => by simp [Holds, hst]) (by simp [hGate, hst, L.2]) (fun s => by simp [Shuts, hst]) (cont_fail hn)
   ·exact ⟨L, .same (fun _ _ => rfl) (fun s => by simp [Holds, hst]) (by simp [hGate, hst]) (fun s => by simp [Shuts, hst]) (fun v a => by simp [hClk] at a)⟩
 | gTheir i a u =>
  rw [hst] at L
  simp only
  split
  ·exact eff_cont (h' := hFail K { h with x := { h.x with way := u - 1 } , st := .gTheir i a u}) (ld _) (fun s => by simp [Holds, hst]) (by simp [hGate, hst, L.2]) (fun s => by simp [Shuts, hst]) (cont_fail (h := { h with x := { h.x with way := u - 1 } , st := .gTheir i a u}) hn)
  ·split
   ·exact ⟨L, .same (ld _) (fun s => by simp [Holds, hst]) (by simp [hGate, hst]) (fun s => by simp [Shuts, hst]) (fun v a => by simp [hClk] at a)⟩
   ·exact ⟨L, .same (ld _) (fun s => by simp [Holds, hst]) (by simp [hGate, hst]) (fun s => by simp [Shuts, hst]) (fun v a => by simp [hClk] at a)⟩
 | gMark i a u th =>
  rw [hst] at L hs
  exact ⟨L, .same (sta _ (u - 1) (by have := hs.2.1.1; omega) rfl) (fun s => by simp [Holds, hst]) (by simp [hGate, hst]) (fun s => by simp [Shuts, hst]) (fun v a => by simp [hClk] at a)⟩
 | gVer i a =>
  rw [hst] at L
  simp only
  split
  ·exact ⟨⟨L.1, L.2⟩, .same (ld _) (fun s => by simp [Holds, hst]) (by simp [hGate, hst]) (fun s => by simp [Shuts, hst]) (fun v a => by simp [hClk] at a)⟩
  ·exact eff_cont (ld _) (fun s => by simp [Holds, hst]) (by simp [hGate, hst]) (fun s => by simp [Shuts, hst]) (cont_wrote hb hn L.1.1 L.1.2 L.2)
 | tTake =>
  rw [hst] at L
  exact ⟨L, .same tic (fun s => by simp [Holds, hst]) (by simp [hGate, hst]) (fun s => by simp [Shuts, hst]) (fun v a => by simp [hClk] at a)⟩
 | tShow =>
  rw [hst] at L
  simp only
  split
  ·exact eff_cont (sta _ K.me hm.1 rfl) (fun s => by simp [Holds, hst]) (by simp [hGate, hst, L.2]) (fun s => by simp [Shuts, hst]) (cont_fail hn)
  ·exact eff_cont (sta _ K.me hm.1 rfl) (fun s => by simp [Holds, hst]) (by simp [hGate, hst]) (fun s => by simp [Shuts, hst]) (cont_go hb hn L.1 L.2)
 | cStat =>
  rw [hst] at L
  simp only
  split
  ·exact eff_cont (ld _) (fun s => by simp [Holds, hst]) (by simp [hGate, hst, L.2]) (fun s => by simp [Shuts, hst]) (cont_fail hn)
  ·exact ⟨L, .same (ld _) (fun s => by simp [Holds, hst]) (by simp [hGate, hst]) (fun s => by simp [Shuts, hst]) (fun v a => by simp [hClk] at a)⟩
 | cGate =>
  rw [hst] at L hv
  have hv' := hv (by simp)
  simp only at hv' ⊢
  by_cases h0 : v.seen = 0
  ·rw [if_pos h0, mNext_swap m _ _ _ (by rw [← hv', h0])]
   exact ⟨⟨L.1, by simp [h0]⟩, .into (by rw [← hv', h0]) rfl (fun u => by simp [Holds, hst]) rfl (fun u => by simp [Shuts, hst]) rfl⟩
  ·rw [if_neg h0, mNext_miss m _ _ _ (by rw [← hv']; exact h0)]
   exact ⟨⟨L.1, by simp [h0]⟩, .same (fun _ _ => rfl) (fun s => by simp [Holds, hst]) (by simp [hGate, hst]) (fun s => by simp [Shuts, hst]) (fun v a => by simp [hClk] at a)⟩
 | cClock =>
  rw [hst] at L hv
  have hv' := hv (by simp)
  simp only at hv'
  have shutS : Loc K (hShutAt v.seen h.x.held h) ∧ Eff K m (mNext m ⟨1, 0, 0, 0⟩) h (hShutAt v.seen h.x.held h) := by
   cases hh : h.x.held with
   | nil => exact ⟨L.1, .same (ld _) (fun s => by simp [hShutAt, Holds, hst]) (by simp [hShutAt, hGate, hst]) (fun s => by simp [hShutAt, Shuts, hst, hh]) (fun v' a => Or.inr ⟨by simp [hGate, hst], by simp [hShutAt, hClk] at a; rw [← hv', a]⟩)⟩
   | cons q r =>
    refine ⟨⟨L.1, by rw [← hh]; exact hn, fun s hs' => by rw [← hh] at hs'; exact hs'⟩, .same (ld _) (fun s => by simp [hShutAt, Holds, hst]) (by simp [hShutAt, hGate, hst]) (fun s => ?_) (fun v' a => Or.inr ⟨by simp [hGate, hst], by simp [hShutAt, hClk] at a; rw [← hv', a]⟩)⟩
    simp only [hShutAt, Shuts, hst, hh]
    exact ⟨fun a => absurd a.1 a.2, fun a => a.elim⟩
  simp only
  split
  ·have stillS : ∀ r : List EntD, Loc K (hStillAt v.seen r h) ∧ Eff K m (mNext m ⟨1, 0, 0, 0⟩) h (hStillAt v.seen r h) := by
    intro r
    induction r with
    | nil => exact shutS
    | cons e r ih =>
     unfold hStillAt
     split
     ·exact ih
     ·exact ⟨L, .same (ld _) (fun s => by simp [Holds, hst]) (by simp [hGate, hst]) (fun s => by simp [Shuts, hst]) (fun v' a => Or.inr ⟨by simp [hGate, hst], by simp [hClk] at a; rw [← hv', a]⟩)⟩
   exact stillS _
  ·exact shutS
 | cVer c r =>
  rw [hst] at L hs
  have shutS : ∀ x, Loc K (hShutAt c h.x.held h) ∧ Eff K m (mNext m ⟨1, x, 0, 0⟩) h (hShutAt c h.x.held h) := by
   intro x
   cases hh : h.x.held with
   | nil => exact ⟨L.1, .same (ld _) (fun s => by simp [hShutAt, Holds, hst]) (by simp [hShutAt, hGate, hst]) (fun s => by simp [hShutAt, Shuts, hst, hh]) (fun v' a => Or.inl (by simp [hShutAt, hClk, hst] at a ⊢; exact a))⟩
   | cons q r =>
    refine ⟨⟨L.1, by rw [← hh]; exact hn, fun s hs' => by rw [← hh] at hs'; exact hs'⟩, .same (ld _) (fun s => by simp [hShutAt, Holds, hst]) (by simp [hShutAt, hGate, hst]) (fun s => ?_) (fun v' a => Or.inl (by simp [hShutAt, hClk, hst] at a ⊢; exact a))⟩
    simp only [hShutAt, Shuts, hst, hh]
    exact ⟨fun a => absurd a.1 a.2, fun a => a.elim⟩
  have stillS : ∀ (x : Int) (r : List EntD), Loc K (hStillAt c r h) ∧ Eff K m (mNext m ⟨1, x, 0, 0⟩) h (hStillAt c r h) := by
   intro x r
   induction r with
   | nil => exact shutS x
   | cons e r ih =>
    unfold hStillAt
    split
    ·exact ih
    ·exact ⟨L, .same (ld _) (fun s => by simp [Holds, hst]) (by simp [hGate, hst]) (fun s => by simp [Shuts, hst]) (fun v' a => Or.inl (by simp [hClk, hst] at a ⊢; exact a))⟩
  cases r with
  | nil => exact absurd rfl hs.2.1
  | cons q r =>
   simp only
   split
   ·refine eff_cont (held := h.x.held) (gate := h.x.inGate) (ld _) (fun s => by simp [Holds, hst]) (by simp [hGate, hst, L.2]) (fun s => by simp [Shuts, hst]) (cont_fail hn)
   ·exact stillS _ r
 | cShut c r =>
  rw [hst] at L hs
  cases r with
  | nil => exact absurd rfl hs.2.1
  | cons q r =>
   have b := hs.2.2 q List.mem_cons_self
   have hq := L.2.2 q List.mem_cons_self
   have nq : q ∉ r := (List.nodup_cons.1 L.2.1).1
   simp only
   rw [mNext_store]
   have hS : ∀ u, (u ∈ h.x.held ∧ u ∉ r) ↔ ((u ∈ h.x.held ∧ u ∉ q :: r) ∨ u = q) := by
    intro u
    constructor
    ·rintro ⟨a, b⟩
     by_cases e : u = q
     ·exact Or.inr e
     ·exact Or.inl ⟨a, by simp [e, b]⟩
    ·rintro (⟨a, b⟩ | e)
     ·exact ⟨a, fun c => b (List.mem_cons_of_mem _ c)⟩
     ·rw [e]; exact ⟨hq, nq⟩
   cases r with
   | nil =>
    refine ⟨L.1, .shut q b ⟨by simp [Holds, hst]; exact hq, by simp [Shuts, hst], by simp [hGate, hst]⟩ rfl (fun u => by simp [hShutAt, Holds, hst]) (by simp [hShutAt, hGate, hst]) (fun u => ?_) (fun v' a => by simp [hShutAt, hClk, hst] at a ⊢; exact a)⟩
    have := hS u
    simp only [hShutAt, Shuts, hst]
    simpa using this
   | cons p r =>
    refine ⟨⟨L.1, (List.nodup_cons.1 L.2.1).2, fun s hs' => L.2.2 s (List.mem_cons_of_mem _ hs')⟩, .shut q b ⟨by simp [Holds, hst]; exact hq, by simp [Shuts, hst], by simp [hGate, hst]⟩ rfl (fun u => by simp [hShutAt, Holds, hst]) (by simp [hShutAt, hGate, hst]) (fun u => ?_) (fun v' a => by simp [hShutAt, hClk, hst] at a ⊢; exact a)⟩
    simp only [hShutAt, Shuts, hst]
    exact hS u
 | cStamp c =>
  rw [hst] at L
  simp only
  rw [mNext_store]
  exact ⟨L, .stamp c ⟨by simp [hGate, hst], by simp [hClk, hst]⟩ rfl (fun u => by simp [Holds, hst]) (by simp [hGate, hst]) (fun u => by simp [Shuts, hst]) rfl⟩
 | cLeave c =>
  rw [hst] at L
  simp only
  rw [mNext_store]
  have openS : Loc K (hOpenAt c h.x.held h) ∧ Eff K m (upd m 2 0) h (hOpenAt c h.x.held h) := by
   cases hh : h.x.held with
   | nil => exact ⟨trivial, .out (by simp [hGate, hst]) rfl (fun u => by simp [hOpenAt, Holds, hst, hh]) (by simp [hOpenAt, hGate]) (fun u => by simp [hOpenAt, Shuts, hst, hh]) (by simp [hOpenAt, hClk])⟩
   | cons q r => exact ⟨by show (q :: r).Nodup; rw [← hh]; exact hn, .out (by simp [hGate, hst]) rfl (fun u => by simp [hOpenAt, Holds, hst, hh]) (by simp [hOpenAt, hGate]) (fun u => by simp [hOpenAt, Shuts, hst, hh]) (by simp [hOpenAt, hClk])⟩
  cases hw : h.x.writes with
  | nil => exact openS
  | cons e r => exact ⟨by have L' : Wh K h := L; exact fun e' he => L' e' (by rw [hw]; exact he), .out (by simp [hGate, hst]) rfl (fun u => by simp [hWordAt, Holds, hst]) (by simp [hWordAt, hGate]) (fun u => by simp [hWordAt, Shuts, hst]) (by simp [hWordAt, hClk])⟩
 | cWord c r =>
  rw [hst] at L hs
  cases r with
  | nil => exact absurd rfl hs.2.1
  | cons q r =>
   have b := hs.2.2 q List.mem_cons_self
   simp only
   have M : ∀ y, Lockish K y → mNext m ⟨2, hWrd K q.what, 0, q.val⟩ y = m y := fun y hy => mNext_off m _ (not_lockish_wrd (by omega) (by omega) b.1 hy)
   have openS : Loc K (hOpenAt c h.x.held h) ∧ Eff K m (mNext m ⟨2, hWrd K q.what, 0, q.val⟩) h (hOpenAt c h.x.held h) := by
    cases hh : h.x.held with
    | nil => exact ⟨trivial, .same M (fun u => by simp [hOpenAt, Holds, hst, hh]) (by simp [hOpenAt, hGate, hst]) (fun u => by simp [hOpenAt, Shuts, hst, hh]) (fun v' a => by simp [hOpenAt, hClk] at a)⟩
    | cons q r => exact ⟨by show (q :: r).Nodup; rw [← hh]; exact hn, .same M (fun u => by simp [hOpenAt, Holds, hst, hh]) (by simp [hOpenAt, hGate, hst]) (fun u => by simp [hOpenAt, Shuts, hst, hh]) (fun v' a => by simp [hOpenAt, hClk] at a)⟩
   cases r with
   | nil => exact openS
   | cons e r => exact ⟨fun e' he => L e' (List.mem_cons_of_mem _ he), .same M (fun u => by simp [hWordAt, Holds, hst]) (by simp [hWordAt, hGate, hst]) (fun u => by simp [hWordAt, Shuts, hst]) (fun v' a => by simp [hWordAt, hClk] at a)⟩
 | cOpen c r =>
  rw [hst] at L hs
  cases r with
  | nil => exact absurd rfl hs.2.1
  | cons q r =>
   have b := hs.2.2 q List.mem_cons_self
   have nq : q ∉ r := (List.nodup_cons.1 L).1
   simp only
   rw [mNext_store]
   refine ⟨L, .opened q (c + 1) b (by have := hs.1.1; omega) ⟨by simp [Holds, hst], by simp [Shuts, hst]⟩ rfl (fun u => by simp [Holds, hst]) (by simp [hGate, hst]) (fun u => ?_) rfl⟩
   simp only [Shuts, hst, List.tail_cons, List.mem_cons]
   constructor
   ·intro a
    exact ⟨Or.inr a, fun e => nq (by rw [← e]; exact a)⟩
   ·rintro ⟨a | a, b⟩
    ·exact absurd a b
    ·exact a
 | cOwn c r =>
  rw [hst] at L hs
  cases r with
  | nil => exact absurd rfl hs.2.1
  | cons q r =>
   have b := hs.2.2 q List.mem_cons_self
   have nq : q ∉ r := (List.nodup_cons.1 L).1
   simp only
   rw [mNext_store]
   have hH : ∀ u, u ∈ r ↔ (u ∈ q :: r ∧ u ≠ q) := fun u => by
    constructor
    ·intro a
     exact ⟨List.mem_cons_of_mem _ a, fun e => nq (by rw [← e]; exact a)⟩
    ·rintro ⟨a, b⟩
     rcases List.mem_cons.1 a with a | a
     ·exact absurd a b
     ·exact a
   cases r with
   | nil => exact ⟨trivial, .gave q b ⟨by simp [Holds, hst], by simp [Shuts, hst]⟩ rfl (fun u => by simp [hOpenAt, Holds, hst]) (by simp [hOpenAt, hGate, hst]) (fun u => by simp [hOpenAt, Shuts, hst]) (by simp [hOpenAt, hClk])⟩
   | cons p r => exact ⟨(List.nodup_cons.1 L).2, .gave q b ⟨by simp [Holds, hst], by simp only [Shuts, hst, List.tail_cons]; exact nq⟩ rfl (fun u => by simp only [hOpenAt, Holds, hst]; exact hH u) (by simp [hOpenAt, hGate, hst]) (fun u => by simp [hOpenAt, Shuts, hst]) (by simp [hOpenAt, hClk])⟩
 | free e r =>
  rw [hst] at L hs
  cases r with
  | nil => exact absurd rfl hs.1
  | cons q r =>
   have b := hs.2 q List.mem_cons_self
   have nq : q ∉ r := (List.nodup_cons.1 L).1
   simp only
   rw [mNext_store]
   have hH : ∀ u, u ∈ r ↔ (u ∈ q :: r ∧ u ≠ q) := fun u => by
    constructor
    ·intro a
     exact ⟨List.mem_cons_of_mem _ a, fun e => nq (by rw [← e]; exact a)⟩
    ·rintro ⟨a, b⟩
     rcases List.mem_cons.1 a with a | a
     ·exact absurd a b
     ·exact a
   cases r with
   | nil => exact ⟨trivial, .gave q b ⟨by simp [Holds, hst], by simp [Shuts, hst]⟩ rfl (fun u => by simp [hFreeAt, Holds, hst]) (by simp [hFreeAt, hGate, hst]) (fun u => by simp [hFreeAt, Shuts, hst]) (by simp [hFreeAt, hClk])⟩
   | cons p r => exact ⟨(List.nodup_cons.1 L).2, .gave q b ⟨by simp [Holds, hst], by simp [Shuts, hst]⟩ rfl (fun u => by simp only [hFreeAt, Holds, hst]; exact hH u) (by simp [hFreeAt, hGate, hst]) (fun u => by simp [hFreeAt, Shuts, hst]) (by simp [hFreeAt, hClk])⟩
 | fin e =>
  simp only
  have hto : ∀ g : Th, Cont K [] false (hTo K (h.job + 1) g) := fun g => by
   unfold hTo
   split
   ·exact ⟨fun s => by simp [Holds], rfl, fun s => by simp [Shuts], rfl, rfl, trivial⟩
   ·exact ⟨fun s => by simp [Holds], rfl, fun s => by simp [Shuts], rfl, rfl, trivial⟩
  exact eff_cont (sta _ K.me hm.1 rfl) (fun s => by simp [Holds, hst]) (by simp [hGate, hst]) (fun s => by simp [Shuts, hst]) (hto _)
 | fGate =>
  simp only
  rw [mNext_store]
  have C := cont_failown (K := K) (h := h) hn
  exact ⟨C.loc, .out (by simp [hGate, hst]) rfl (fun u => (C.holds u).trans (by simp [Holds, hst])) C.gate (fun u => ⟨fun a => absurd a (C.shuts u), fun a => by simp [Shuts, hst] at a⟩) C.clk⟩
 | fOwn r =>
  rw [hst] at L hs
  cases r with
  | nil => exact absurd rfl hs.1
  | cons q r =>
   have b := hs.2 q List.mem_cons_self
   have nq : q ∉ r := (List.nodup_cons.1 L).1
   have C := cont_failown (K := K) (h := h) (List.nodup_cons.1 L).2
   simp only
   rw [mNext_store]
   refine ⟨C.loc, .gave q b ⟨by simp [Holds, hst], by simp [Shuts, hst]⟩ rfl (fun u => (C.holds u).trans ?_) (C.gate.trans (by simp [hGate, hst])) (fun u => ⟨fun a => absurd a (C.shuts u), fun a => by simp [Shuts, hst] at a⟩) C.clk⟩
   simp only [Holds, hst]
   constructor
   ·intro a
    exact ⟨List.mem_cons_of_mem _ a, fun e => nq (by rw [← e]; exact a)⟩
   ·rintro ⟨a, b⟩
    rcases List.mem_cons.1 a with a | a
    ·exact absurd a b
    ·exact a
 | fTake => exact ⟨trivial, .same tic (fun s => by simp [Holds, hst]) (by simp [hGate, hst]) (fun s => by simp [Shuts, hst]) (fun v a => by simp [hClk] at a)⟩
 | fStat =>
  have hrest : ∀ (d : Int) (g : Th), Cont K [] false (hRest K d g) := fun d g => by
   unfold hRest
   simp only
   generalize (d.tmod ((if g.fails < K.c.cp then g.fails else K.c.cp) + 1)).toNat = n
   split
   ·exact ⟨fun s => by simp [Holds], rfl, fun s => by simp [Shuts], rfl, rfl, trivial⟩
   ·exact ⟨fun s => by simp [Holds], rfl, fun s => by simp [Shuts], rfl, rfl, trivial⟩
  simp only
  generalize (if 0 < v.seen.tmod 8 then v.seen.tmod 8 - 1 else h.x.way) = win
  split
  ·exact ⟨trivial, .same (sta _ K.me hm.1 rfl) (fun s => by simp [Holds, hst]) (by simp [hGate, hst]) (fun s => by simp [Shuts, hst]) (fun v a => by simp [hClk] at a)⟩
  ·exact eff_cont (sta _ K.me hm.1 rfl) (fun s => by simp [Holds, hst]) (by simp [hGate, hst]) (fun s => by simp [Shuts, hst]) (hrest _ _)
 | wait win =>
  simp only
  split
  ·exact ⟨trivial, .same (ld _) (fun s => by simp [Holds, hst]) (by simp [hGate, hst]) (fun s => by simp [Shuts, hst]) (fun v a => by simp [hClk] at a)⟩
  ·exact ⟨by unfold Loc; rw [hst]; trivial, .same (ld _) (fun s => Iff.rfl) rfl (fun s => Iff.rfl) (fun v a => Or.inl a)⟩
 | rest n =>
  simp only
  split
  ·exact ⟨trivial, .same (fun x _ => by rw [mNext_none]) (fun s => by simp [Holds, hst]) (by simp [hGate, hst]) (fun s => by simp [Shuts, hst]) (fun v a => by simp [hClk] at a)⟩
  ·exact ⟨trivial, .same (fun x _ => by rw [mNext_none]) (fun s => by simp [Holds, hst]) (by simp [hGate, hst]) (fun s => by simp [Shuts, hst]) (fun v a => by simp [hClk] at a)⟩
def overW : List EntD → (Int → Int) → Int → Int
 | [], f, a => f a
 | e :: r, f, a => if e.what = a then e.val else overW r f a
def overN : List NoteD → (Int → Int) → Int → Int
 | [], f => f
 | n :: r, f => overN r (if n.op = 7 then f else upd f n.addr n.val)
def fOk : List NoteD → (Int → Int) → Prop
 | [], f => True
 | n :: r, f => if n.op = 7 then f n.addr = n.val ∧ fOk r f else fOk r (upd f n.addr n.val)
theorem overN_snoc (n : NoteD) : ∀ (l : List NoteD) (f : Int → Int), overN (l ++ [n]) f = if n.op = 7 then overN l f else upd (overN l f) n.addr n.val
 | [], f => rfl
 | m :: r, f => overN_snoc n r _
theorem fOk_snoc (n : NoteD) : ∀ (l : List NoteD) (f : Int → Int), fOk (l ++ [n]) f ↔ (fOk l f ∧ (n.op = 7 → overN l f n.addr = n.val))
 | [], f => by
  show (if n.op = 7 then f n.addr = n.val ∧ True else True) ↔ (True ∧ (n.op = 7 → f n.addr = n.val))
  by_cases h : n.op = 7
  ·rw [if_pos h]; simp [h]
  ·rw [if_neg h]; simp [h]
 | m :: r, f => by
  show (if m.op = 7 then f m.addr = m.val ∧ fOk (r ++ [n]) f else fOk (r ++ [n]) (upd f m.addr m.val)) ↔ ((if m.op = 7 then f m.addr = m.val ∧ fOk r f else fOk r (upd f m.addr m.val)) ∧ (n.op = 7 → overN r (if m.op = 7 then f else upd f m.addr m.val) n.addr = n.val))
  by_cases h : m.op = 7
  ·rw [if_pos h, if_pos h, if_pos h, fOk_snoc n r f, and_assoc]
  ·rw [if_neg h, if_neg h, if_neg h, fOk_snoc n r _]
theorem fOk_congr : ∀ (l : List NoteD) (f g : Int → Int), (∀ n ∈ l, f n.addr = g n.addr) → fOk l f → fOk l g
 | [], f, g, _, _ => trivial
 | m :: r, f, g, h, a => by
  unfold fOk at a ⊢
  by_cases hm : m.op = 7
  ·rw [if_pos hm] at a ⊢
   exact ⟨by rw [← h m List.mem_cons_self]; exact a.1, fOk_congr r f g (fun n hn => h n (List.mem_cons_of_mem _ hn)) a.2⟩
  ·rw [if_neg hm] at a ⊢
   refine fOk_congr r _ _ (fun n hn => ?_) a
   unfold upd
   by_cases e : n.addr = m.addr
   ·rw [if_pos e, if_pos e]
   ·rw [if_neg e, if_neg e]; exact h n (List.mem_cons_of_mem _ hn)
theorem entIdx_cons (e : EntD) (r : List EntD) (a : Int) : entIdx (e :: r) a = if e.what = a then some 0 else (entIdx r a).map (· + 1) := by
 unfold entIdx
 rw [List.findIdx?_cons]
 by_cases h : e.what = a
 ·simp [h]
 ·simp [h]
theorem overW_none (f : Int → Int) (a : Int) : ∀ (l : List EntD), entIdx l a = none → overW l f a = f a
 | [], _ => rfl
 | e :: r, h => by
  rw [entIdx_cons] at h
  unfold overW
  by_cases he : e.what = a
  ·rw [if_pos he] at h; cases h
  ·rw [if_neg he] at h ⊢
   refine overW_none f a r ?_
   cases hr : entIdx r a with
   | none => rfl
   | some k => rw [hr] at h; cases h
theorem overW_some (f : Int → Int) (a : Int) : ∀ (l : List EntD) (k : Nat), entIdx l a = some k → overW l f a = (l.getD k ⟨0, 0⟩).val
 | [], k, h => by simp [entIdx] at h
 | e :: r, k, h => by
  rw [entIdx_cons] at h
  unfold overW
  by_cases he : e.what = a
  ·rw [if_pos he] at h ⊢
   cases h
   rfl
  ·rw [if_neg he] at h ⊢
   cases hr : entIdx r a with
   | none => rw [hr] at h; cases h
   | some j =>
    rw [hr] at h
    simp only [Option.map_some, Option.some.injEq] at h
    subst h
    rw [overW_some f a r j hr]
    rfl
theorem overW_in {l : List EntD} {a : Int} (f g : Int → Int) (h : a ∈ l.map (·.what)) : overW l f a = overW l g a := by
 cases hk : entIdx l a with
 | none => exact absurd h (entOut hk)
 | some k => rw [overW_some f a l k hk, overW_some g a l k hk]
theorem overW_out {l : List EntD} {a : Int} (f : Int → Int) (h : a ∉ l.map (·.what)) : overW l f a = f a := by
 refine overW_none f a l ?_
 cases hk : entIdx l a with
 | none => rfl
 | some k => exact absurd (List.mem_map.2 ⟨_, (entIn hk).2.2, (entIn hk).2.1⟩) h
theorem overW_congr {l : List EntD} {a : Int} {f g : Int → Int} (h : f a = g a) : overW l f a = overW l g a := by
 by_cases hi : a ∈ l.map (·.what)
 ·exact overW_in f g hi
 ·rw [overW_out f hi, overW_out g hi, h]
theorem overW_app (e : EntD) (f : Int → Int) (a : Int) : ∀ l : List EntD, entIdx l a = none → overW (l ++ [e]) f a = if e.what = a then e.val else f a
 | [], _ => rfl
 | q :: r, h => by
  rw [entIdx_cons] at h
  show (if q.what = a then q.val else overW (r ++ [e]) f a) = _
  by_cases he : q.what = a
  ·rw [if_pos he] at h; cases h
  ·rw [if_neg he] at h ⊢
   refine overW_app e f a r ?_
   cases hr : entIdx r a with
   | none => rfl
   | some k => rw [hr] at h; cases h
theorem overW_app' (e : EntD) (f : Int → Int) (a : Int) : ∀ l : List EntD, e.what ≠ a → overW (l ++ [e]) f a = overW l f a
 | [], h => by show (if e.what = a then e.val else f a) = f a; rw [if_neg h]
 | q :: r, h => by
  show (if q.what = a then q.val else overW (r ++ [e]) f a) = (if q.what = a then q.val else overW r f a)
  rw [overW_app' e f a r h]
theorem overW_set (f : Int → Int) (a v x : Int) : ∀ (l : List EntD) (k : Nat), entIdx l a = some k → overW (l.set k ⟨a, v⟩) f x = if x = a then v else overW l f x
 | [], k, h => by simp [entIdx] at h
 | e :: r, k, h => by
  rw [entIdx_cons] at h
  by_cases he : e.what = a
  ·rw [if_pos he] at h
   cases h
   show (if a = x then v else overW r f x) = _
   by_cases hx : x = a
   ·rw [if_pos hx.symm, if_pos hx]
   ·rw [if_neg (fun h => hx h.symm), if_neg hx]
    show _ = (if e.what = x then e.val else overW r f x)
    rw [if_neg (by rw [he]; exact fun h => hx h.symm)]
  ·rw [if_neg he] at h
   cases hr : entIdx r a with
   | none => rw [hr] at h; cases h
   | some j =>
    rw [hr] at h
    simp only [Option.map_some, Option.some.injEq] at h
    subst h
    show (if e.what = x then e.val else overW (r.set j ⟨a, v⟩) f x) = if x = a then v else (if e.what = x then e.val else overW r f x)
    rw [overW_set f a v x r j hr]
    by_cases hx : x = a
    ·rw [if_pos hx, if_pos hx, if_neg (by rw [hx]; exact he)]
    ·rw [if_neg hx, if_neg hx]
theorem overW_put (l : List EntD) (a v : Int) (f : Int → Int) (x : Int) : overW (putEnt l a v) f x = upd (overW l f) a v x := by
 unfold putEnt upd
 cases hk : entIdx l a with
 | some k => exact overW_set f a v x l k hk
 | none =>
  simp only
  by_cases hx : x = a
  ·rw [if_pos hx, hx, overW_app _ f a l hk, if_pos rfl]
  ·rw [if_neg hx, overW_app' _ f x l (fun h => hx h.symm)]
def att0 : AttD := ⟨0, 0, 0, 0, 0, 0, 0, []⟩
def cur (l : List AttD) : AttD := l.getD (l.length - 1) att0
theorem cur_snoc (l : List AttD) (t : AttD) : cur (l ++ [t]) = t := by
 unfold cur
 simp [List.getD]
theorem modLast_snoc (l : List AttD) (t : AttD) (f : AttD → AttD) : modLast (l ++ [t]) f = l ++ [f t] := by
 unfold modLast
 apply List.ext_getElem?
 intro i
 rw [List.getElem?_modify]
 by_cases hi : i < l.length
 ·rw [List.getElem?_append_left hi, List.getElem?_append_left hi, show (fun a => if (l ++ [t]).length - 1 = i then f a else a) = id from by funext a; rw [if_neg (by simp; omega)]; rfl]
  simp
 ·rw [List.getElem?_append_right (by omega), List.getElem?_append_right (by omega)]
  by_cases he : i = l.length
  ·rw [show (fun a => if (l ++ [t]).length - 1 = i then f a else a) = f from by funext a; rw [if_pos (by simp; omega)], he]; simp
  ·rw [show [t][i - l.length]? = none from by simp; omega, show [f t][i - l.length]? = none from by simp; omega]
   rfl
theorem snoc_of {l : List AttD} (h : l ≠ []) : ∃ l0 t, l = l0 ++ [t] := by
 rcases List.eq_nil_or_concat l with e | ⟨l0, t, e⟩
 ·exact absurd e h
 ·exact ⟨l0, t, by rw [e, List.concat_eq_append]⟩
theorem cur_mod {l : List AttD} (h : l ≠ []) (f : AttD → AttD) : cur (modLast l f) = f (cur l) := by
 obtain ⟨l0, t, rfl⟩ := snoc_of h
 rw [modLast_snoc, cur_snoc, cur_snoc]
theorem mod_ne {l : List AttD} (h : l ≠ []) (f : AttD → AttD) : modLast l f ≠ [] := by
 obtain ⟨l0, t, rfl⟩ := snoc_of h
 rw [modLast_snoc]
 simp
theorem cur_mem {l : List AttD} (h : l ≠ []) : cur l ∈ l := by
 obtain ⟨l0, t, rfl⟩ := snoc_of h
 rw [cur_snoc]
 simp
theorem all_mod {P : AttD → Prop} {l : List AttD} {f : AttD → AttD} (h : ∀ t ∈ l, P t) (hf : P (f (cur l))) : ∀ t ∈ modLast l f, P t := by
 by_cases hl : l = []
 ·subst hl
  intro t ht
  simp [modLast] at ht
 ·obtain ⟨l0, t, rfl⟩ := snoc_of hl
  rw [modLast_snoc]
  rw [cur_snoc] at hf
  intro x hx
  rcases List.mem_append.1 hx with hx | hx
  ·exact h x (List.mem_append_left _ hx)
  ·rw [List.mem_singleton.1 hx]; exact hf
end Go.Proofs.YtejadojilncbjabGreat
