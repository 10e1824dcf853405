import Derived.Test.YtejadojilncbjabGreatH15
import Derived.Test.YtejadojilncbjabGreatH07
import Derived.Test.YtejadojilncbjabGreatH02
import Derived.Test.YtejadojilncbjabGreatH01
namespace Go.Proofs.YtejadojilncbjabGreat
set_option linter.unusedVariables false

/-! Where one thread has all the jobs no attempt fails. -/

/-- What is true of the one thread that works. -/
def NfSt (K : Cx) (m : Int → Int) (h : Th) : Prop := match h.st with
  | .idle => True
  | .start => True
  | .rHeld _ _ => h.x.valid = m 0
  | .rVer _ _ => h.x.valid = m 0
  | .rWord _ a one => h.x.valid = m 0 ∧ m (3 + a.tmod K.c.s) = one
  | .rAgain _ a one _ => h.x.valid = m 0 ∧ m (3 + a.tmod K.c.s) = one
  | .gStat _ _ => h.x.valid = m 0
  | .gOwn _ _ => h.x.valid = m 0
  | .gVer _ _ => h.x.valid = m 0
  | .tTake => h.x.valid = m 0 ∧ m (hSta K K.me) = 0
  | .tShow => h.x.valid = m 0 ∧ m (hSta K K.me) = 0
  | .cStat => h.x.valid = m 0
  | .cGate => h.x.valid = m 0
  | .cClock => h.x.valid = m 0
  | .cShut _ _ => True
  | .cStamp _ => True
  | .cLeave _ => True
  | .cWord _ _ => True
  | .cOpen _ _ => True
  | .cOwn _ _ => True
  | .free _ _ => True
  | .fin _ => True
  | _ => False
structure Nf (K : Cx) (m : Int → Int) (h : Th) : Prop where
  rk : h.rank = 0 → m (hSta K K.me) = 0
  mr : (m (hSta K K.me)).tmod 8 = 0
  st : NfSt K m h

theorem nf_go {K : Cx} {m : Int → Int} {h : Th} (g : GoSt h.st) (hv : h.x.valid = m 0) : NfSt K m h := by
  unfold NfSt
  cases hst : h.st <;> rw [hst] at g <;> first
    | exact hv
    | trivial
    | exact g.elim

theorem nf_got {K : Cx} {m : Int → Int} {h : Th} {i : InsD} {a v : Int} (hb : (h.x.begun : Int) ≤ K.c.f) (hv : h.x.valid = m 0) : NfSt K m (hGot K i a v h) ∧ (hGot K i a v h).rank = h.rank := by
  unfold hGot
  have := god_go (K := K) (h := ({ h with x := setReg h.x i.a v } : Th).noted 7 a v) hb
  exact ⟨nf_go this.2 (this.1.valid.trans hv), this.1.rank⟩
theorem nf_wrote {K : Cx} {m : Int → Int} {h : Th} {i : InsD} {a : Int} (hb : (h.x.begun : Int) ≤ K.c.f) (hv : h.x.valid = m 0) (hr : h.rank = 0 → m (hSta K K.me) = 0) : NfSt K m (hWrote K i a h) ∧ (hWrote K i a h).rank = h.rank := by
  unfold hWrote
  split
  · have := god_go (K := K) (h := hPut i a h) hb
    exact ⟨nf_go this.2 (this.1.valid.trans hv), this.1.rank⟩
  · rename_i hn
    exact ⟨⟨hv, hr (by omega)⟩, rfl⟩

/-- The cells that matter here are as they were. -/
theorem Nf.same {K : Cx} {m m' : Int → Int} {h : Th} (e0 : m' 0 = m 0) (es : m' (hSta K K.me) = m (hSta K K.me)) (ev : ∀ s, 0 ≤ s → s < K.c.s → m' (3 + s) = m (3 + s)) (s1 : 1 ≤ K.c.s) {k : Int} (A : StepOk K k h) (N : Nf K m h) : Nf K m' h := by
  refine ⟨by rw [es]; exact N.rk, by rw [es]; exact N.mr, ?_⟩
  have S := N.st
  unfold NfSt at S ⊢
  unfold StepOk at A
  cases hst : h.st with
  | rWord i a one =>
    rw [hst] at S A
    have b := tmodP s1 A.1.1
    exact ⟨by rw [e0]; exact S.1, by rw [ev _ b.1 b.2]; exact S.2⟩
  | rAgain i a one w =>
    rw [hst] at S A
    have b := tmodP s1 A.1.1
    exact ⟨by rw [e0]; exact S.1, by rw [ev _ b.1 b.2]; exact S.2⟩
  | tTake => rw [hst] at S; exact ⟨by rw [e0]; exact S.1, by rw [es]; exact S.2⟩
  | tShow => rw [hst] at S; exact ⟨by rw [e0]; exact S.1, by rw [es]; exact S.2⟩
  | rHeld i a => rw [hst] at S; exact S.trans e0.symm
  | rVer i a => rw [hst] at S; exact S.trans e0.symm
  | gStat i a => rw [hst] at S; exact S.trans e0.symm
  | gOwn i a => rw [hst] at S; exact S.trans e0.symm
  | gVer i a => rw [hst] at S; exact S.trans e0.symm
  | cStat => rw [hst] at S; exact S.trans e0.symm
  | cGate => rw [hst] at S; exact S.trans e0.symm
  | cClock => rw [hst] at S; exact S.trans e0.symm
  | _ => rw [hst] at S; exact S

/-- One access of the one thread: over the cells ahead of it. -/
theorem nf_next {K : Cx} {m : Int → Int} {k : Int} {h : Th} (hc : cfgB K.c = true) (A : ThOk K k h) (hver : ∀ s, 0 ≤ s → s < K.c.s → m (3 + s) ≤ m 0) (hown : ∀ s, 0 ≤ s → s < K.c.s → ¬ Holds h s → m (hOwn K s) = 0)
    (v : AnsD) (hv : (hOut K h).kind ≠ 0 → v.seen = m (hOut K h).cell) (N : Nf K m h) (hnt : h.st ≠ .tShow) (hnf : ∀ e, h.st ≠ .fin e) : Nf K m (hNext K h v) := by
  obtain ⟨⟨t1, t2⟩, ⟨w1, w2⟩, ⟨s1, s2⟩, _, _, _, ⟨f1, f2⟩⟩ := cfgB_true hc
  have hx := A.x
  have hb := hx.bg
  have hs := A.step
  have S := N.st
  have N0 := N
  unfold StepOk at hs
  unfold NfSt at S
  unfold hOut at hv
  have st : ∀ {i : InsD} {a : Int}, AOk K i a → 0 ≤ a.tmod K.c.s ∧ a.tmod K.c.s < K.c.s := fun ha => tmodP s1 ha.1
  have mk : ∀ {h' : Th}, NfSt K m h' ∧ h'.rank = h.rank → Nf K m h' := fun {h'} x => ⟨by rw [x.2]; exact N.rk, N.mr, x.1⟩
  unfold hNext
  cases hst : h.st with
  | idle => exact N0
  | start =>
    rw [hst] at hv
    have e : v.seen = m 0 := hv (by simp)
    have := god_go (K := K) (h := { h with list := h.list ++ [⟨K.me, h.job, v.num, 0, v.seen, 0, 0, []⟩], x := newTS (K.jobs.getD h.job (0, [])).2 v.seen, st := .start }) (by show ((0 : Nat) : Int) ≤ _; omega)
    exact mk ⟨nf_go this.2 (this.1.valid.trans e), this.1.rank⟩
  | rHeld i a => rw [hst] at S; exact mk (nf_got hb S)
  | rVer i a =>
    rw [hst] at hv S
    have e : v.seen = m (3 + a.tmod K.c.s) := hv (by simp)
    simp only
    split
    · exact N0
    · exact mk ⟨⟨S, e.symm⟩, rfl⟩
  | rWord i a one => rw [hst] at S; exact mk ⟨⟨S.1, S.2⟩, rfl⟩
  | rAgain i a one w =>
    rw [hst] at hv S hs
    have e : v.seen = m (3 + a.tmod K.c.s) := hv (by simp)
    simp only
    rw [if_neg (by rw [e, S.2]; simp)]
    have e1 : (if (entIdx h.x.reads (a.tmod K.c.s)).isSome then h.x else { h.x with reads := h.x.reads ++ [⟨a.tmod K.c.s, one⟩] }).valid = h.x.valid := by split <;> rfl
    have e4 : (if (entIdx h.x.reads (a.tmod K.c.s)).isSome then h.x else { h.x with reads := h.x.reads ++ [⟨a.tmod K.c.s, one⟩] }).begun = h.x.begun := by split <;> rfl
    generalize (if (entIdx h.x.reads (a.tmod K.c.s)).isSome then h.x else { h.x with reads := h.x.reads ++ [⟨a.tmod K.c.s, one⟩] }) = y at *
    have := hver _ (st hs.1).1 (st hs.1).2
    rw [if_pos (by rw [e1, S.1]; omega)]
    exact mk (nf_got (h := { h with x := y, st := .rAgain i a one w }) (by rw [e4]; exact hb) (e1.trans S.1))
  | gStat i a =>
    rw [hst] at hv S
    have e : v.seen = m (hSta K K.me) := hv (by simp)
    simp only
    rw [if_neg (by rw [e, N.mr]; omega)]
    exact mk ⟨S, rfl⟩
  | gOwn i a =>
    rw [hst] at hv S hs
    have e : v.seen = m (hOwn K (a.tmod K.c.s)) := hv (by simp)
    have z := hown _ (st hs.1).1 (st hs.1).2 (by simp only [Holds, hst]; exact held_false hs.2)
    simp only
    rw [if_pos (by rw [e, z])]
    exact mk ⟨S, rfl⟩
  | gVer i a =>
    rw [hst] at hv S hs
    have e : v.seen = m (3 + a.tmod K.c.s) := hv (by simp)
    have := hver _ (st hs).1 (st hs).2
    simp only
    rw [if_neg (by rw [e]; omega)]
    exact mk (nf_wrote hb S N.rk)
  | tTake =>
    rw [hst] at S
    exact ⟨fun _ => S.2, N.mr, ⟨S.1, S.2⟩⟩
  | tShow => exact absurd hst hnt
  | cStat =>
    rw [hst] at hv S
    have e : v.seen = m (hSta K K.me) := hv (by simp)
    simp only
    rw [if_neg (by rw [e, N.mr]; omega)]
    exact mk ⟨S, rfl⟩
  | cGate =>
    rw [hst] at S
    simp only
    by_cases h0 : v.seen = 0
    · rw [if_pos h0]; exact mk ⟨S, rfl⟩
    · rw [if_neg h0]; exact mk ⟨S, rfl⟩
  | cClock =>
    rw [hst] at hv S
    have e : v.seen = m 0 := hv (by simp)
    simp only
    rw [if_neg (by rw [e, S]; simp)]
    cases h.x.held with
    | nil => exact mk ⟨trivial, rfl⟩
    | cons q r => exact mk ⟨trivial, rfl⟩
  | cShut c r =>
    cases r with
    | nil => exact N0
    | cons q r =>
      show Nf K m (hShutAt c r h)
      cases r with
      | nil => exact mk ⟨trivial, rfl⟩
      | cons p r => exact mk ⟨trivial, rfl⟩
  | cStamp c => exact mk ⟨trivial, rfl⟩
  | cLeave c =>
    show Nf K m (hWordAt c h.x.writes h)
    cases h.x.writes with
    | nil =>
      show Nf K m (hOpenAt c h.x.held h)
      cases h.x.held with
      | nil => exact mk ⟨trivial, rfl⟩
      | cons q r => exact mk ⟨trivial, rfl⟩
    | cons q r => exact mk ⟨trivial, rfl⟩
  | cWord c r =>
    cases r with
    | nil => exact N0
    | cons q r =>
      show Nf K m (hWordAt c r h)
      cases r with
      | nil =>
        show Nf K m (hOpenAt c h.x.held h)
        cases h.x.held with
        | nil => exact mk ⟨trivial, rfl⟩
        | cons q r => exact mk ⟨trivial, rfl⟩
      | cons p r => exact mk ⟨trivial, rfl⟩
  | cOpen c r =>
    cases r with
    | nil => exact N0
    | cons q r => exact mk ⟨trivial, rfl⟩
  | cOwn c r =>
    cases r with
    | nil => exact N0
    | cons q r =>
      show Nf K m (hOpenAt c r h)
      cases r with
      | nil => exact mk ⟨trivial, rfl⟩
      | cons p r => exact mk ⟨trivial, rfl⟩
  | free e r =>
    cases r with
    | nil => exact N0
    | cons q r =>
      show Nf K m (hFreeAt e r h)
      cases r with
      | nil => exact mk ⟨trivial, rfl⟩
      | cons p r => exact mk ⟨trivial, rfl⟩
  | fin e => exact absurd hst (hnf e)
  | xClock x => rw [hst] at S; exact S.elim
  | xVer x c r => rw [hst] at S; exact S.elim
  | gTheir i a u => rw [hst] at S; exact S.elim
  | gMark i a u q => rw [hst] at S; exact S.elim
  | cVer c r => rw [hst] at S; exact S.elim
  | fGate => rw [hst] at S; exact S.elim
  | fOwn r => rw [hst] at S; exact S.elim
  | fTake => rw [hst] at S; exact S.elim
  | fStat => rw [hst] at S; exact S.elim
  | wait w => rw [hst] at S; exact S.elim
  | rest n => rw [hst] at S; exact S.elim

/-- The states that only name the status' cell to read it. -/
theorem out_sta {K : Cx} {k : Int} {h : Th} {m : Int → Int} (hc : cfgB K.c = true) (hm : 0 ≤ K.me ∧ K.me < K.c.t) (A : StepOk K k h) (N : NfSt K m h) (h1 : h.st ≠ .tShow) (h2 : ∀ e, h.st ≠ .fin e) : mNext m (hOut K h) (hSta K K.me) = m (hSta K K.me) := by
  obtain ⟨⟨t1, t2⟩, ⟨w1, w2⟩, ⟨s1, s2⟩, _⟩ := cfgB_true hc
  have ld : ∀ x : Int, mNext m ⟨1, x, 0, 0⟩ (hSta K K.me) = m (hSta K K.me) := fun x => by rw [mNext_load]
  have no : mNext m ⟨0, 0, 0, 0⟩ (hSta K K.me) = m (hSta K K.me) := by rw [mNext_none]
  have off : ∀ q : AskD, (q.cell < 3 + 2 * K.c.s ∨ 3 + 2 * K.c.s + K.c.t ≤ q.cell) → mNext m q (hSta K K.me) = m (hSta K K.me) := fun q hq => mNext_off m q (by unfold hSta; omega)
  unfold StepOk at A
  unfold NfSt at N
  unfold hOut
  cases hst : h.st with
  | idle => exact no
  | start => exact ld _
  | rHeld i a => exact ld _
  | rVer i a => exact ld _
  | rWord i a one => exact ld _
  | rAgain i a one w => exact ld _
  | gStat i a => exact ld _
  | gOwn i a =>
    rw [hst] at A
    have b := tmodP s1 A.1.1
    exact off _ (Or.inl (by show hOwn K _ < _; unfold hOwn; omega))
  | gVer i a => exact ld _
  | tTake => exact off _ (Or.inl (by show (1 : Int) < _; omega))
  | tShow => exact absurd hst h1
  | cStat => exact ld _
  | cGate => exact off _ (Or.inl (by show (2 : Int) < _; omega))
  | cClock => exact ld _
  | cShut c r =>
    rw [hst] at A
    cases r with
    | nil => exact no
    | cons q r => exact off _ (Or.inl (by have := A.2.2 q List.mem_cons_self; show hVer q < _; unfold hVer; omega))
  | cStamp c => exact off _ (Or.inl (by show (0 : Int) < _; omega))
  | cLeave c => exact off _ (Or.inl (by show (2 : Int) < _; omega))
  | cWord c r =>
    rw [hst] at A
    cases r with
    | nil => exact no
    | cons q r => exact off _ (Or.inr (by have := (A.2.2 q List.mem_cons_self).1; show _ ≤ hWrd K q.what; unfold hWrd; omega))
  | cOpen c r =>
    rw [hst] at A
    cases r with
    | nil => exact no
    | cons q r => exact off _ (Or.inl (by have := A.2.2 q List.mem_cons_self; show hVer q < _; unfold hVer; omega))
  | cOwn c r =>
    rw [hst] at A
    cases r with
    | nil => exact no
    | cons q r => exact off _ (Or.inl (by have := A.2.2 q List.mem_cons_self; show hOwn K q < _; unfold hOwn; omega))
  | free e r =>
    rw [hst] at A
    cases r with
    | nil => exact no
    | cons q r => exact off _ (Or.inl (by have := A.2 q List.mem_cons_self; show hOwn K q < _; unfold hOwn; omega))
  | fin e => exact absurd hst (h2 e)
  | xClock x => rw [hst] at N; exact N.elim
  | xVer x c r => rw [hst] at N; exact N.elim
  | gTheir i a u => rw [hst] at N; exact N.elim
  | gMark i a u q => rw [hst] at N; exact N.elim
  | cVer c r => rw [hst] at N; exact N.elim
  | fGate => rw [hst] at N; exact N.elim
  | fOwn r => rw [hst] at N; exact N.elim
  | fTake => rw [hst] at N; exact N.elim
  | fStat => rw [hst] at N; exact N.elim
  | wait w => rw [hst] at N; exact N.elim
  | rest n => rw [hst] at N; exact N.elim

/-- Behind the loud accesses of a commit nothing is asked of the cells. -/
theorem nf_loud {K : Cx} {m m' : Int → Int} {k : Int} {h : Th} {v : AnsD} (A : StepOk K k h) (hq : ¬ Quiet h) (es : m' (hSta K K.me) = m (hSta K K.me)) (N : Nf K m h) : Nf K m' (hNext K h v) := by
  have mk : ∀ {h' : Th}, NfSt K m' h' ∧ h'.rank = h.rank → Nf K m' h' := fun {h'} x => ⟨by rw [x.2, es]; exact N.rk, by rw [es]; exact N.mr, x.1⟩
  unfold Quiet at hq
  unfold StepOk at A
  unfold hNext
  cases hst : h.st with
  | cShut c r =>
    rw [hst] at A
    cases r with
    | nil => exact absurd rfl A.2.1
    | cons q r =>
      show Nf K m' (hShutAt c r h)
      cases r with
      | nil => exact mk ⟨trivial, rfl⟩
      | cons p r => exact mk ⟨trivial, rfl⟩
  | cStamp c => exact mk ⟨trivial, rfl⟩
  | cWord c r =>
    rw [hst] at A
    cases r with
    | nil => exact absurd rfl A.2.1
    | cons q r =>
      show Nf K m' (hWordAt c r h)
      cases r with
      | nil =>
        show Nf K m' (hOpenAt c h.x.held h)
        cases h.x.held with
        | nil => exact mk ⟨trivial, rfl⟩
        | cons q r => exact mk ⟨trivial, rfl⟩
      | cons p r => exact mk ⟨trivial, rfl⟩
  | cOpen c r =>
    rw [hst] at A
    cases r with
    | nil => exact absurd rfl A.2.1
    | cons q r => exact mk ⟨trivial, rfl⟩
  | _ => rw [hst] at hq; exact absurd trivial hq

end Go.Proofs.YtejadojilncbjabGreat

namespace Go.Proofs.YtejadojilncbjabGreat
set_option linter.unusedVariables false

/-! Where one thread has all the jobs no attempt fails, part 2. -/

/-- All jobs are thread u's. -/
def Rn.One (R : Rn) (u : Int) : Prop := ∀ j, j < R.jobs.length → (R.jobs.getD j (0, [])).1 = u

theorem idle_init {R : Rn} {u t : Int} (H : R.One u) (ht : t ≠ u) : (hInit (R.K t)).st = .idle ∧ (hInit (R.K t)).list = [] := by
  unfold hInit
  rcases to_job (R.K t) 0 ⟨0, 0, [], (R.K t).jobs.map fun _ => ⟨0, 0, 0, 0, 0⟩, 0, newTS [] 0, .idle⟩ with ⟨k, k0, k1, k2, k3, e⟩ | ⟨k3, e⟩
  · have h1 := H k k1
    have h2 : (R.jobs.getD k (0, [])).1 = t := k2
    rw [h1] at h2
    exact absurd h2.symm ht
  · rw [e]; exact ⟨rfl, rfl⟩

theorem idleO_at {R : Rn} {u : Int} (H : R.One u) (t : Int) (t0 : 0 ≤ t) (t1 : t < R.c.t) (ht : t ≠ u) : ∀ k : Nat, ((R.g k).th t).st = .idle ∧ ((R.g k).th t).list = []
  | 0 => idle_init H ht
  | k + 1 => by
    have ih := idleO_at H t t0 t1 ht k
    by_cases hp : (R.pk k).thread = t
    · rw [R.at k hp t0 t1]
      unfold hNext
      rw [ih.1]
      exact ih
    · rw [R.off k hp]; exact ih

theorem nf_at {R : Rn} (O : R.Ok) {u : Int} (u0 : 0 ≤ u) (u1 : u < R.c.t) (H : R.One u) : ∀ k : Nat, Nf (R.K u) (R.g k).m ((R.g k).th u)
  | 0 => by
    obtain ⟨⟨t1, t2⟩, _, ⟨s1, s2⟩, _⟩ := cfgB_true O.c
    have z : (R.g 0).m (hSta (R.K u) (R.K u).me) = 0 := by
      show startVal R.c R.mem (3 + 2 * R.c.s + u) = 0
      unfold startVal wordBase
      rw [if_neg (by omega)]
    refine ⟨fun _ => z, by rw [z]; rfl, ?_⟩
    show NfSt _ _ (hInit (R.K u))
    unfold hInit hTo
    split <;> trivial
  | k + 1 => by
    have N := nf_at O u0 u1 H k
    obtain ⟨⟨t1, t2⟩, ⟨w1, w2⟩, ⟨s1, s2⟩, _, _, _, ⟨f1, f2⟩⟩ := cfgB_true O.c
    have hcK : cfgB (R.K u).c = true := O.c
    by_cases hp : (R.pk k).thread = u
    · have hr : 0 ≤ (R.pk k).thread ∧ (R.pk k).thread < R.c.t := by rw [hp]; exact ⟨u0, u1⟩
      have A := Rn.okT O k u u0 u1
      have I := Rn.okL O k
      have M : CellsOk R.c k (R.g k).m := (gat_ok O.c O.w O.m R.jobs R.ps k).m
      have P : PI R.c R.jobs (R.g k).m (R.g k).th (R.gh k) := pi_at O.c O.w O.m R.jobs R.ps k
      have hm : 0 ≤ (R.K u).me ∧ (R.K u).me < (R.K u).c.t := ⟨u0, u1⟩
      rw [R.at k hp u0 u1, R.mem_at k hr, hp]
      have outE : R.out k u = hOut (R.K u) ((R.g k).th u) := rfl
      have hv : (hOut (R.K u) ((R.g k).th u)).kind ≠ 0 → (⟨(accBy (R.g k).m (R.out k u)).seen, (R.pk k).draw, (k : Int) + 1⟩ : AnsD).seen = (R.g k).m (hOut (R.K u) ((R.g k).th u)).cell := fun h0 => acc_seen h0
      have hver : ∀ s, 0 ≤ s → s < R.c.s → (R.g k).m (3 + s) ≤ (R.g k).m 0 := fun s a b => by
        by_cases h : (R.g k).m (3 + s) = -1
        · have := (M 0 (by omega) (by unfold total; omega)).cnt (Or.inl rfl)
          omega
        · exact (P.ver s a b h).2
      have hown : ∀ s, 0 ≤ s → s < R.c.s → ¬ Holds ((R.g k).th u) s → (R.g k).m (hOwn (R.K u) s) = 0 := fun s a b hn => by
        have hb := (M (hOwn (R.K u) s) (by show 0 ≤ 3 + R.c.s + s; omega) (by show 3 + R.c.s + s < total R.c; unfold total; omega)).own (by show 3 + R.c.s ≤ 3 + R.c.s + s; omega) (by show 3 + R.c.s + s < 3 + 2 * R.c.s; omega)
        by_cases h : (R.g k).m (hOwn (R.K u) s) = 0
        · exact h
        · exfalso
          have e := (I.own s a b ((R.g k).m (hOwn (R.K u) s) - 1) (by omega) (by omega)).1 (by show (R.g k).m (hOwn (R.K u) s) = _; omega)
          by_cases hu : (R.g k).m (hOwn (R.K u) s) - 1 = u
          · rw [hu] at e; exact hn e
          · have := (idleO_at H _ (by omega) (by omega) hu k).1
            simp [Holds, this] at e
      have A' : ThOk (R.K u) (k + 1) (hNext (R.K u) ((R.g k).th u) ⟨(accBy (R.g k).m (R.out k u)).seen, (R.pk k).draw, (k : Int) + 1⟩) := by
        have := Rn.okT O (k + 1) u u0 u1
        rw [R.at k hp u0 u1] at this
        exact this
      rw [outE] at *
      generalize (⟨(accBy (R.g k).m (hOut (R.K u) ((R.g k).th u))).seen, (R.pk k).draw, (k : Int) + 1⟩ : AnsD) = v at *
      generalize (R.g k).th u = h at *
      generalize (R.g k).m = m at *
      by_cases h1 : h.st = .tShow
      · have S := N.st
        unfold NfSt at S
        rw [h1] at S
        have ho : hOut (R.K u) h = ⟨3, hSta (R.K u) (R.K u).me, 0, 8 * h.rank⟩ := by unfold hOut; rw [h1]
        rw [ho] at hv ⊢
        have e : v.seen = 0 := by
          have := hv (by simp)
          rw [this]; exact S.2
        rw [mNext_swap m _ _ _ S.2]
        have hn : hNext (R.K u) h v = hGo (R.K u) h := by
          unfold hNext
          rw [h1]
          simp only
          rw [if_neg (by rw [e]; simp)]
        rw [hn]
        have g := god_go (K := R.K u) (h := h) A.x.bg
        refine ⟨fun hr' => ?_, ?_, nf_go g.2 ?_⟩
        · rw [upd_at]
          rw [g.1.rank] at hr'
          omega
        · rw [upd_at]
          have := A.rank.1
          rw [Int.tmod_eq_emod_of_nonneg (by omega)]
          omega
        · rw [g.1.valid, S.1]
          exact (upd_off (by show (0 : Int) ≠ 3 + 2 * R.c.s + u; omega)).symm
      · by_cases h2 : ∃ e, h.st = .fin e
        · obtain ⟨e, h2⟩ := h2
          have ho : hOut (R.K u) h = ⟨2, hSta (R.K u) (R.K u).me, 0, 0⟩ := by unfold hOut; rw [h2]
          rw [ho, mNext_store]
          have hn : hNext (R.K u) h v = hTo (R.K u) (h.job + 1) { h.ended v.num e with ends := h.ends.set h.job ⟨e, regOf h.x 0, regOf h.x 1, regOf h.x 2, regOf h.x 3⟩ } := by unfold hNext; rw [h2]
          rw [hn]
          refine ⟨fun _ => upd_at _ _ _, by rw [upd_at]; rfl, ?_⟩
          unfold hTo
          split <;> trivial
        · have h2' : ∀ e, h.st ≠ .fin e := fun e x => h2 ⟨e, x⟩
          have es := out_sta (m := m) hcK hm A.step N.st h1 h2'
          by_cases hq : Quiet h
          · have E3 := same3_quiet (m := m) hcK hm A.step hq
            have N1 := nf_next hcK A hver hown v hv N h1 h2'
            exact Nf.same E3.clk es E3.ver s1 A'.step N1
          · exact nf_loud A.step hq es N
    · rw [R.off k hp]
      by_cases hr : 0 ≤ (R.pk k).thread ∧ (R.pk k).thread < R.c.t
      · rw [R.mem_at k hr]
        have := (idleO_at H _ hr.1 hr.2 hp k).1
        have ho : R.out k (R.pk k).thread = ⟨0, 0, 0, 0⟩ := by
          show hOut _ _ = _
          unfold hOut
          rw [this]
        rw [ho, mNext_none]
        exact N
      · rw [R.mem_off k hr]; exact N

/-- No attempt fails. -/
theorem nofail_at {R : Rn} (O : R.Ok) {u : Int} (u0 : 0 ≤ u) (u1 : u < R.c.t) (H : R.One u) : ∀ k : Nat, ∀ a ∈ R.l k u, a.fate ≠ 5
  | 0, a, ha => by
    have : R.l 0 u = [] := by
      show (hInit (R.K u)).list.map er = []
      unfold hInit hTo
      split <;> rfl
    rw [this] at ha
    cases ha
  | k + 1, a, ha => by
    have ih := nofail_at O u0 u1 H k
    obtain ⟨_, _, ⟨s1, s2⟩, _, _, _, ⟨f1, f2⟩⟩ := cfgB_true O.c
    by_cases hp : (R.pk k).thread = u
    · have T := ti_at O u u0 u1 k
      have N := (nf_at O u0 u1 H k).st
      have L := leff_next (K := R.K u) (by show 0 ≤ R.c.f; omega) (Rn.okT O k u u0 u1) ⟨(accBy (R.g k).m (R.out k u)).seen, (R.pk k).draw, (k : Int) + 1⟩
      unfold Rn.l at ha ih
      rw [R.at k hp u0 u1] at ha
      generalize (R.g k).th u = y at *
      generalize (⟨(accBy (R.g k).m (R.out k u)).seen, (R.pk k).draw, (k : Int) + 1⟩ : AnsD) = v at *
      generalize hNext (R.K u) y v = y' at *
      cases L with
      | note E O' J N P Z => rw [E] at ha; exact ih a ha
      | new e E O' J N P =>
        rw [E] at ha
        rcases List.mem_append.1 ha with ha | ha
        · exact ih a ha
        · rw [List.mem_singleton.1 ha]; show (0 : Int) ≠ 5; omega
      | valid c e E O' J N P =>
        obtain ⟨l0, q, E0, q1, q2, _⟩ := T.ne (by rcases e with ⟨x, e, _⟩ | ⟨x, r, e⟩ <;> simp [Opn, e])
        rw [E, er_mod (f := fun t => { t with valid := c }) (fun _ => rfl), E0, modLast_snoc] at ha
        rcases List.mem_append.1 ha with ha | ha
        · exact ih a (by rw [E0]; exact List.mem_append_left _ ha)
        · rw [List.mem_singleton.1 ha]; show q.fate ≠ 5; omega
      | stamp c e E O' J N P =>
        obtain ⟨l0, q, E0, q1, q2, _⟩ := T.ne (by simp [Opn, e])
        rw [E, er_mod (f := fun t => { t with stamp := c + 1 }) (fun _ => rfl), E0, modLast_snoc] at ha
        rcases List.mem_append.1 ha with ha | ha
        · exact ih a (by rw [E0]; exact List.mem_append_left _ ha)
        · rw [List.mem_singleton.1 ha]; show q.fate ≠ 5; omega
      | failed e E O' J N' Z =>
        unfold NfSt at N
        rw [e] at N
        exact N.elim
      | fin f e E =>
        obtain ⟨l0, q, E0, q1, q2, q3, q4, q5⟩ := T.ne (by simp [Opn, e])
        have hf : (1 ≤ f ∧ f ≤ 4) ∧ (q.stamp = 0 ∨ f = 1) := by unfold Ph at q5; rw [e] at q5; exact q5
        have e1 : y'.list = modLast y.list fun t => { t with fin := v.num, fate := f } := by
          rw [E]; unfold hTo; split <;> rfl
        rw [e1, er_mod (f := fun t => { t with fin := v.num, fate := f }) (fun _ => rfl), E0, modLast_snoc] at ha
        rcases List.mem_append.1 ha with ha | ha
        · exact ih a (by rw [E0]; exact List.mem_append_left _ ha)
        · rw [List.mem_singleton.1 ha]; show f ≠ 5; omega
    · unfold Rn.l at ha
      rw [R.off k hp] at ha
      exact ih a ha

end Go.Proofs.YtejadojilncbjabGreat

namespace Go.Proofs.YtejadojilncbjabGreat
open Go.RowKit
set_option linter.unusedVariables false
attribute [local go_sem ↓] Go.wp_at_zero Go.wp_at_succ

/-- A setup of the document's kind. -/
structure SetupOk (c : Cfg) (mem : List Int) (jobs : List (Int × List InsD)) : Prop where
  cfg : cfgB c = true
  mw : (mem.length : Int) = c.wd
  mb : memB mem = true
  j8 : jobs.length ≤ 8
  cd : ∀ j ∈ jobs, j.2.length ≤ 20

end Go.Proofs.YtejadojilncbjabGreat

namespace Go.Proofs.YtejadojilncbjabGreat
open Go.RowKit
set_option linter.unusedVariables false
attribute [local go_sem ↓] Go.wp_at_zero Go.wp_at_succ

/-- What Check answers, by the jobs themselves. -/
def errS (c : Cfg) (mem : List Int) (jobs : List (Int × List InsD)) : Int :=
  if machN c mem = 0 then (if jobs.length ≤ 8 ∧ (jobs.all fun j => inB j.1 0 (c.t - 1)) = true then (if (jobs.all fun j => decide ((j.2.length : Int) ≤ 20)) = true then 0 else 4) else 3) else machN c mem

theorem errS_ok {c : Cfg} {mem : List Int} {jobs : List (Int × List InsD)} (h : errS c mem jobs = 0) : SetupOk c mem jobs ∧ ∀ j ∈ jobs, 0 ≤ j.1 ∧ j.1 < c.t := by
  unfold errS at h
  by_cases h1 : machN c mem = 0
  · rw [if_pos h1] at h
    by_cases h2 : jobs.length ≤ 8 ∧ (jobs.all fun j => inB j.1 0 (c.t - 1)) = true
    · rw [if_pos h2] at h
      by_cases h3 : (jobs.all fun j => decide ((j.2.length : Int) ≤ 20)) = true
      · have hm : cfgB c = true ∧ (mem.length : Int) = c.wd ∧ memB mem = true := by
          unfold machN at h1
          by_cases a : cfgB c = true
          · rw [if_pos a] at h1
            by_cases b : (mem.length : Int) = c.wd ∧ memB mem = true
            · exact ⟨a, b.1, b.2⟩
            · rw [if_neg b] at h1; cases h1
          · rw [if_neg a] at h1; cases h1
        rw [List.all_eq_true] at h3
        have h4 := h2.2
        rw [List.all_eq_true] at h4
        refine ⟨⟨hm.1, hm.2.1, hm.2.2, h2.1, fun j hj => ?_⟩, fun j hj => ?_⟩
        · have := h3 j hj
          simp at this
          omega
        · have := inB_true (h4 j hj)
          omega
      · rw [if_neg h3] at h; cases h
    · rw [if_neg h2] at h; cases h
  · rw [if_neg h1] at h; exact absurd h h1

theorem all_at {α : Type} (l : List α) (p : α → Bool) (d : α) : l.all p = true ↔ ∀ i, i < l.length → p (l.getD i d) = true := by
  rw [List.all_eq_true]
  constructor
  · intro h i hi
    rw [show l.getD i d = l[i] from by simp [List.getD, List.getElem?_eq_getElem hi]]
    exact h _ (List.getElem_mem hi)
  · intro h x hx
    obtain ⟨i, hi, rfl⟩ := List.mem_iff_getElem.1 hx
    have := h i hi
    rwa [show l.getD i d = l[i] from by simp [List.getD, List.getElem?_eq_getElem hi]] at this

theorem check_err {c : Cfg} {mem : List Int} {jobs : List (Int × List InsD)} {js : List JobD} (h1 : js.length = jobs.length) (h2 : ∀ i, i < js.length → (jobAt js i).t = (jobs.getD i (0, [])).1 ∧ (jobAt js i).len = (jobs.getD i (0, [])).2.length) : checkN c mem js = errS c mem jobs := by
  have e1 : thrB c.t js = (jobs.all fun j => inB j.1 0 (c.t - 1)) := by
    rw [Bool.eq_iff_iff]
    unfold thrB
    rw [all_at js _ ⟨0, none, 0, 0⟩, all_at jobs _ (0, []), h1]
    constructor <;> intro h i hi
    · rw [← (h2 i (by omega)).1]; exact h i hi
    · have := h i hi
      rw [← (h2 i (by omega)).1] at this
      exact this
  have e2 : lenB js = (jobs.all fun j => decide ((j.2.length : Int) ≤ 20)) := by
    rw [Bool.eq_iff_iff]
    unfold lenB
    rw [all_at js _ ⟨0, none, 0, 0⟩, all_at jobs _ (0, []), h1]
    constructor <;> intro h i hi
    · rw [← (h2 i (by omega)).2]; exact h i hi
    · have := h i hi
      rw [← (h2 i (by omega)).2] at this
      exact this
  unfold checkN errS
  rw [h1, e1, e2]

theorem refCheck_rep (c : Cfg) (mem : List Int) (jobs : List (Int × List InsD)) (ma ja : Option Addr) (mc jc : Nat) (w : World) (hml : mem.length ≤ maxLen) (hjl : jobs.length ≤ maxLen) (hm : Ints w w.heap.size ma mem) (hj : JobsRep w w.heap.size ja jobs) :
    Calls Tryz.prog 35 #[.agg #[.int .i64 c.t, .int .i64 c.wd, .int .i64 c.s, .int .i64 c.g, .int .i64 c.r, .int .i64 c.cp, .int .i64 c.f, .slice ma mem.length mc, .slice ja jobs.length jc]] w fun e w' =>
      e = .returned (.int .i64 (errS c mem jobs)) ∧ Below w.heap.size w w' := by
  obtain ⟨js, h1, h2, h3⟩ := hj
  have := refCheck_core c.t c.wd c.s c.g c.r c.cp c.f ma mem.length mc mem ja jobs.length jc js w rfl hml hm h1 hjl h2
  rw [show (⟨c.t, c.wd, c.s, c.g, c.r, c.cp, c.f⟩ : Cfg) = c from rfl, check_err h1 (fun i hi => ⟨(h3 i hi).1, (h3 i hi).2.1⟩)] at this
  exact this

theorem PicksIn.up2 {w w' : World} {a : Option Addr} {l : List PickD} (h : PicksIn w w.heap.size a l) (hb : Below w.heap.size w w') : PicksIn w' w'.heap.size a l := by
  intro i hi
  obtain ⟨b, off, h1, h2, h3, h4⟩ := h.up hb i hi
  exact ⟨b, off, h1, Nat.lt_of_lt_of_le h2 hb.size, h3, h4⟩
theorem JobsRep.up2 {w w' : World} {a : Option Addr} {l : List (Int × List InsD)} (h : JobsRep w w.heap.size a l) (hb : Below w.heap.size w w') : JobsRep w' w'.heap.size a l := (h.up hb).mono hb.size

end Go.Proofs.YtejadojilncbjabGreat

namespace Go.Proofs.YtejadojilncbjabGreat
open Go.RowKit
set_option linter.unusedVariables false
attribute [local go_sem ↓] Go.wp_at_zero Go.wp_at_succ

/-- The program's machine. -/
structure MS where
  regs : List Int
  place : Nat
  begun : Nat
  into : Int

def mArr (m : MS) : Array Value := #[.int .i64 (m.regs.getD 0 0), .int .i64 (m.regs.getD 1 0), .int .i64 (m.regs.getD 2 0), .int .i64 (m.regs.getD 3 0), .int .i64 m.place, .int .i64 m.begun, .int .i64 m.into]

end Go.Proofs.YtejadojilncbjabGreat

namespace Go.Proofs.YtejadojilncbjabGreat
open Go.RowKit
set_option linter.unusedVariables false

def MOk (m : MS) : Prop := m.regs.length = 4 ∧ ∀ v ∈ m.regs, 0 ≤ v ∧ v ≤ 65535
def mReg (m : MS) (i : Int) : Int := m.regs.getD i.toNat 0

/-- An instruction that needs nothing but the registers. -/
def pComp (m : MS) (i : InsD) : MS :=
  if i.op = 2 then { m with regs := m.regs.set i.a.toNat i.b }
  else if i.op = 3 then { m with regs := m.regs.set i.a.toNat ((mReg m i.b + mReg m i.c).tmod 65536) }
  else if i.op = 4 then { m with regs := m.regs.set i.a.toNat ((mReg m i.b + 65535 + 1 - mReg m i.c).tmod 65536) }
  else if i.op = 5 then { m with place := i.c.toNat }
  else if mReg m i.a < mReg m i.b then { m with place := i.c.toNat } else m

theorem formed2 {i : InsD} {n : Int} (h : formedB i n = true) (o : i.op = 2) : (0 ≤ i.a ∧ i.a ≤ 3) ∧ (0 ≤ i.b ∧ i.b ≤ 65535) := by
  simp [formedB, o, inB] at h
  omega
theorem formed34 {i : InsD} {n : Int} (h : formedB i n = true) (o : i.op = 3 ∨ i.op = 4) : (0 ≤ i.a ∧ i.a ≤ 3) ∧ (0 ≤ i.b ∧ i.b ≤ 3) ∧ (0 ≤ i.c ∧ i.c ≤ 3) := by
  unfold formedB at h
  rw [if_neg (by omega), if_neg (by omega), if_pos o] at h
  simp [inB] at h
  omega
theorem formed5 {i : InsD} {n : Int} (h : formedB i n = true) (o : i.op = 5) : 0 ≤ i.c ∧ i.c ≤ n := by
  simp [formedB, o, inB] at h
  omega
theorem formed6 {i : InsD} {n : Int} (h : formedB i n = true) (o : i.op = 6) : (0 ≤ i.a ∧ i.a ≤ 3) ∧ (0 ≤ i.b ∧ i.b ≤ 3) ∧ (0 ≤ i.c ∧ i.c ≤ n) := by
  simp [formedB, o, inB] at h
  omega
theorem formed78 {i : InsD} {n : Int} (h : formedB i n = true) (o : i.op = 7 ∨ i.op = 8) : (0 ≤ i.a ∧ i.a ≤ 3) ∧ (0 ≤ i.b ∧ i.b ≤ 3) := by
  unfold formedB at h
  rw [if_neg (by omega), if_neg (by omega), if_neg (by omega), if_neg (by omega), if_neg (by omega), if_pos o] at h
  simp [inB] at h
  omega
theorem formed_op {i : InsD} {n : Int} (h : formedB i n = true) : 0 ≤ i.op ∧ i.op ≤ 8 := by
  unfold formedB at h
  by_cases h1 : i.op = 0 ∨ i.op = 1
  · omega
  rw [if_neg h1] at h
  by_cases h2 : i.op = 2
  · omega
  rw [if_neg h2] at h
  by_cases h3 : i.op = 3 ∨ i.op = 4
  · omega
  rw [if_neg h3] at h
  by_cases h5 : i.op = 5
  · omega
  rw [if_neg h5] at h
  by_cases h6 : i.op = 6
  · omega
  rw [if_neg h6] at h
  by_cases h7 : i.op = 7 ∨ i.op = 8
  · omega
  rw [if_neg h7] at h
  cases h

/-- What Next tells. -/
structure TurnD where
  fate : Int
  op : Int
  addr : Int
  val : Int

def turnCells (t : TurnD) : Array Value := #[.int .i64 t.fate, .int .i64 t.op, .int .i64 t.addr, .int .i64 t.val]

/-- A Read or Write comes up. -/
def pWord (wd : Int) (m : MS) (i : InsD) : TurnD × MS :=
  if i.op = 7 then ((if inB (mReg m i.b) 0 (wd - 1) then ⟨0, 7, mReg m i.b, 0⟩ else ⟨3, 0, 0, 0⟩), { m with into := i.a })
  else ((if inB (mReg m i.a) 0 (wd - 1) then ⟨0, 8, mReg m i.a, mReg m i.b⟩ else ⟨3, 0, 0, 0⟩), m)

/-- Next. -/
def pNext (f wd : Int) (code : List InsD) : Nat → MS → TurnD × MS
  | 0, m => (⟨0, 0, 0, 0⟩, m)
  | n + 1, m =>
    if code.length ≤ m.place then (⟨1, 0, 0, 0⟩, m) else if f ≤ m.begun then (⟨4, 0, 0, 0⟩, m) else
      let i := insAt code m.place
      if formedB i code.length = false then (⟨3, 0, 0, 0⟩, { m with begun := m.begun + 1 }) else
        let m2 : MS := { m with begun := m.begun + 1, place := m.place + 1 }
        if i.op = 0 then (⟨1, 0, 0, 0⟩, m2) else if i.op = 1 then (⟨2, 0, 0, 0⟩, m2) else if i.op = 7 ∨ i.op = 8 then pWord wd m2 i else pNext f wd code n (pComp m2 i)

theorem MOk.comp {m : MS} {i : InsD} {n : Int} (h : MOk m) (hf : formedB i n = true) (ho : 2 ≤ i.op ∧ i.op ≤ 6) : MOk (pComp m i) := by
  have hreg : ∀ k : Int, 0 ≤ mReg m k ∧ mReg m k ≤ 65535 := fun k => by
    unfold mReg
    by_cases hk : k.toNat < m.regs.length
    · rw [show m.regs.getD k.toNat 0 = m.regs[k.toNat] from by simp [List.getD, List.getElem?_eq_getElem hk]]
      exact h.2 _ (List.getElem_mem hk)
    · rw [show m.regs.getD k.toNat 0 = 0 from by simp [List.getD, List.getElem?_eq_none (Nat.le_of_not_lt hk)]]
      omega
  have hset : ∀ (k : Nat) (v : Int), 0 ≤ v → v ≤ 65535 → MOk { m with regs := m.regs.set k v } := fun k v h0 h1 => by
    refine ⟨by simp [h.1], fun u hu => ?_⟩
    rcases List.mem_or_eq_of_mem_set hu with h2 | h2
    · exact h.2 u h2
    · omega
  have hmod : ∀ v : Int, 0 ≤ v → 0 ≤ v.tmod 65536 ∧ v.tmod 65536 ≤ 65535 := fun v hv => ⟨Int.tmod_nonneg _ hv, by have := Int.tmod_lt_of_pos v (b := 65536) (by omega); omega⟩
  unfold pComp
  split
  · rename_i o
    obtain ⟨_, b0, b1⟩ := formed2 hf o
    exact hset _ _ b0 b1
  split
  · have h1 := hreg i.b
    have h2 := hreg i.c
    have := hmod (mReg m i.b + mReg m i.c) (by omega)
    exact hset _ _ this.1 this.2
  split
  · have h1 := hreg i.b
    have h2 := hreg i.c
    have := hmod (mReg m i.b + 65535 + 1 - mReg m i.c) (by omega)
    exact hset _ _ this.1 this.2
  split
  · exact h
  split
  · exact h
  · exact h

end Go.Proofs.YtejadojilncbjabGreat
