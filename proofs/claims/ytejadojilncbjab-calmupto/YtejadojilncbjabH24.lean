import Derived.Test.YtejadojilncbjabH23
import Derived.Test.YtejadojilncbjabH07
import Derived.Test.YtejadojilncbjabH15
import Derived.Test.YtejadojilncbjabH01
namespace Go.Proofs.Ytejadojilncbjab
set_option linter.unusedVariables false

/-! All jobs come to their end, part 17: somebody goes on. -/

theorem phv_zero {K : Cx} {m : Int → Int} {h : Th} {s : Int} {w : Nat} {u th : Int} (z : phv K m h s w u th = 0) : mrk K.c m K.me = 0 ∧ m (hOwn K s) ≠ 0 ∧ mrk K.c m (m (hOwn K s) - 1) ≠ 0 := by
  unfold phv at z
  by_cases c0 : mrk K.c m K.me ≠ 0
  · rw [if_pos c0] at z
    repeat' split at z
    all_goals omega
  · rw [if_neg c0] at z
    by_cases c1 : m (hOwn K s) = 0 ∨ h.rank = 0
    · rw [if_pos c1] at z
      repeat' split at z
      all_goals omega
    · rw [if_neg c1] at z
      by_cases c2 : 0 < shn K.c m (m (hOwn K s) - 1) ∧ shn K.c m (m (hOwn K s) - 1) < h.rank
      · rw [if_pos c2] at z
        repeat' split at z
        all_goals omega
      · rw [if_neg c2] at z
        by_cases c3 : mrk K.c m (m (hOwn K s) - 1) = 0
        · rw [if_pos c3] at z
          repeat' split at z
          all_goals omega
        · exact ⟨by omega, fun e => c1 (Or.inl e), c3⟩

/-- In the loop that gets a stripe. -/
def Gst : St → Prop
  | .gStat _ _ => True
  | .gOwn _ _ => True
  | .gTheir _ _ _ => True
  | .gMark _ _ _ _ => True
  | _ => False

theorem get_zero {K : Cx} {k : Int} {m : Int → Int} {h : Th} (s1 : 1 ≤ K.c.s) (A : ThOk K k h) (g : Gst h.st) (z : ph K m h = 0) : mrk K.c m K.me = 0 ∧ ∃ s, 0 ≤ s ∧ s < K.c.s ∧ m (3 + K.c.s + s) ≠ 0 ∧ mrk K.c m (m (3 + K.c.s + s) - 1) ≠ 0 := by
  have hs := A.step
  unfold StepOk at hs
  unfold ph at z
  have key : ∀ (a : Int) (w : Nat) (u th : Int), 0 ≤ a → phv K m h (a.tmod K.c.s) w u th = 0 → mrk K.c m K.me = 0 ∧ ∃ s, 0 ≤ s ∧ s < K.c.s ∧ m (3 + K.c.s + s) ≠ 0 ∧ mrk K.c m (m (3 + K.c.s + s) - 1) ≠ 0 := fun a w u th a0 q => by
    have b := tmodP s1 a0
    have p := phv_zero q
    unfold hOwn at p
    exact ⟨p.1, _, b.1, b.2, p.2.1, p.2.2⟩
  cases hst : h.st with
  | gStat i a => rw [hst] at z hs; exact key a _ _ _ hs.1.1 z
  | gOwn i a => rw [hst] at z hs; exact key a _ _ _ hs.1.1 z
  | gTheir i a u => rw [hst] at z hs; exact key a _ _ _ hs.1.1.1 z
  | gMark i a u th => rw [hst] at z hs; exact key a _ _ _ hs.1.1.1 z
  | _ => rw [hst] at g; exact g.elim

/-- A thread that leads nowhere. -/
theorem neut_cases {K : Cx} {m : Int → Int} {h : Th} (n : Neut K m h) : h.st = .idle ∨ (∃ i a, h.st = .rVer i a ∧ m (3 + a.tmod K.c.s) = -1) ∨ (h.st = .cGate ∧ m 2 ≠ 0) ∨ (Gst h.st ∧ ph K m h = 0) ∨ (∃ w, h.st = .wait w ∧ 0 < shn K.c m w ∧ (h.rank = 0 ∨ shn K.c m w ≤ h.rank)) := by
  unfold Neut at n
  cases hst : h.st with
  | idle => exact Or.inl rfl
  | rVer i a => rw [hst] at n; exact Or.inr (Or.inl ⟨i, a, rfl, n⟩)
  | cGate => rw [hst] at n; exact Or.inr (Or.inr (Or.inl ⟨rfl, n⟩))
  | gStat i a => rw [hst] at n; exact Or.inr (Or.inr (Or.inr (Or.inl ⟨trivial, n⟩)))
  | gOwn i a => rw [hst] at n; exact Or.inr (Or.inr (Or.inr (Or.inl ⟨trivial, n⟩)))
  | gTheir i a u => rw [hst] at n; exact Or.inr (Or.inr (Or.inr (Or.inl ⟨trivial, n⟩)))
  | gMark i a u x => rw [hst] at n; exact Or.inr (Or.inr (Or.inr (Or.inl ⟨trivial, n⟩)))
  | wait w => rw [hst] at n; exact Or.inr (Or.inr (Or.inr (Or.inr ⟨w, rfl, n⟩)))
  | _ => rw [hst] at n; exact n.elim

theorem progress {R : Rn} (O : R.Ok) {k : Nat} (hk : k ≤ R.ps.length) {t : Int} (t0 : 0 ≤ t) (t1 : t < R.c.t) (hi : ((R.g k).th t).st ≠ .idle) : ∃ u, 0 ≤ u ∧ u < R.c.t ∧ ¬ Neut (R.K u) (R.g k).m ((R.g k).th u) := by
  refine Classical.byContradiction fun no => ?_
  have N : ∀ u, 0 ≤ u → u < R.c.t → Neut (R.K u) (R.g k).m ((R.g k).th u) := fun u a b => Classical.byContradiction fun q => no ⟨u, a, b, q⟩
  obtain ⟨⟨c1, c2⟩, ⟨w1, w2⟩, ⟨z1, z2⟩, _⟩ := cfgB_true O.c
  have C := ci_at O k hk
  have Q := ri_at O.c O.w O.m R.jobs R.ps k hk
  have I := li_at O.c O.w O.m R.jobs R.ps k
  have G := gat_ok O.c O.w O.m R.jobs R.ps k
  change GOk R.c R.jobs k (R.g k) at G
  change RI R.c R.jobs (R.g k).m (R.g k).th _ at Q
  change LI R.c R.jobs (R.g k).m (R.g k).th at I
  -- no stripe is shut
  have noR : ∀ u, 0 ≤ u → u < R.c.t → ∀ i a, ((R.g k).th u).st = .rVer i a → (R.g k).m (3 + a.tmod R.c.s) ≠ -1 := fun u a b i x e q => by
    have hs := (G.th u a b).step
    unfold StepOk at hs
    rw [e] at hs
    have bb := tmodP (s := R.c.s) z1 hs.1
    obtain ⟨p, p0, p1, sh⟩ := (I.shut _ bb.1 bb.2).1 q
    rcases neut_cases (N p p0 p1) with h | ⟨_, _, h, _⟩ | ⟨h, _⟩ | ⟨h, _⟩ | ⟨_, h, _⟩
    · unfold Shuts at sh; rw [h] at sh; exact sh
    · unfold Shuts at sh; rw [h] at sh; exact sh
    · unfold Shuts at sh; rw [h] at sh; exact sh
    · unfold Shuts at sh
      cases hh : ((R.g k).th p).st <;> rw [hh] at h sh <;> first
        | exact h
        | exact sh
    · unfold Shuts at sh; rw [h] at sh; exact sh
  -- nobody is in the gate
  have noG : (R.g k).m 2 = 0 := Classical.byContradiction fun q => by
    have gb := (G.m 2 (by omega) (by rw [total_eq]; omega)).gate rfl
    have h := (I.gate ((R.g k).m 2 - 1) (by omega) (by omega)).1 (by omega)
    have n := neut_cases (N ((R.g k).m 2 - 1) (by omega) (by omega))
    generalize (R.g k).m 2 - 1 = p at *
    unfold hGate at h
    rcases n with e | ⟨_, _, e, _⟩ | ⟨e, _⟩ | ⟨e, _⟩ | ⟨_, e, _⟩
    · rw [e] at h; cases h
    · rw [e] at h; cases h
    · rw [e] at h; cases h
    · cases hh : ((R.g k).th p).st <;> rw [hh] at e h <;> first
        | exact e
        | cases h
    · rw [e] at h; cases h
  -- nobody is in the loop
  have noL : ∀ u, 0 ≤ u → u < R.c.t → Gst ((R.g k).th u).st → ph (R.K u) (R.g k).m ((R.g k).th u) = 0 → False := fun u a b g z => by
    obtain ⟨_, s, s0, s1, o1, o2⟩ := get_zero (K := R.K u) z1 (G.th u a b) g z
    have s1' : s < R.c.s := s1
    have o1' : (R.g k).m (3 + R.c.s + s) ≠ 0 := o1
    have o2' : mrk R.c (R.g k).m ((R.g k).m (3 + R.c.s + s) - 1) ≠ 0 := o2
    have ob := (G.m (3 + R.c.s + s) (by omega) (by rw [total_eq]; omega)).own (by omega) (by omega)
    have hol := (I.own s s0 s1' ((R.g k).m (3 + R.c.s + s) - 1) (by omega) (by omega)).1 (by omega)
    have n := neut_cases (N ((R.g k).m (3 + R.c.s + s) - 1) (by omega) (by omega))
    have T := G.th ((R.g k).m (3 + R.c.s + s) - 1) (by omega) (by omega)
    have rr := noR ((R.g k).m (3 + R.c.s + s) - 1) (by omega) (by omega)
    generalize (R.g k).m (3 + R.c.s + s) - 1 = p at *
    unfold Holds at hol
    rcases n with e | ⟨i, x, e, q⟩ | ⟨e, q⟩ | ⟨e, q⟩ | ⟨_, e, _⟩
    · rw [e] at hol; exact hol
    · exact rr i x e q
    · exact q noG
    · exact o2' (get_zero (K := R.K p) z1 T e q).1
    · rw [e] at hol; exact hol
  -- so all wait
  have W : ∀ u, 0 ≤ u → u < R.c.t → ((R.g k).th u).st ≠ .idle → ∃ w, (0 ≤ w ∧ w < R.c.t ∧ w ≠ u) ∧ ((R.g k).th w).st ≠ .idle ∧ shn R.c (R.g k).m u = ((R.g k).th u).rank ∧ 0 < shn R.c (R.g k).m w ∧ (((R.g k).th u).rank = 0 ∨ shn R.c (R.g k).m w ≤ ((R.g k).th u).rank) := fun u a b ni => by
    rcases neut_cases (N u a b) with e | ⟨i, x, e, q⟩ | ⟨e, q⟩ | ⟨e, q⟩ | ⟨w, e, q1, q2⟩
    · exact absurd e ni
    · exact absurd q (noR u a b i x e)
    · exact absurd noG q
    · exact (noL u a b e q).elim
    · have hs := (G.th u a b).step
      unfold StepOk at hs
      rw [e] at hs
      have h0 : 0 ≤ w := hs.1
      have h1 : w < R.c.t := hs.2
      have q1' : 0 < shn R.c (R.g k).m w := q1
      refine ⟨w, ⟨h0, h1, (C.yt u a b).ww w e⟩, fun z => ?_, Q.s2 u a b (by unfold Vis; rw [e]), q1, q2⟩
      have := C.idl w h0 h1 z
      omega
  have D : ∀ n : Nat, ∀ u, 0 ≤ u → u < R.c.t → ((R.g k).th u).st ≠ .idle → 0 < ((R.g k).th u).rank → ((R.g k).th u).rank ≤ (n : Int) → False := fun n => by
    induction n with
    | zero => intro u _ _ _ p q; omega
    | succ n ih =>
      intro u a b ni p q
      obtain ⟨w, ⟨w0, w1', wu⟩, wi, e1, e2, e3⟩ := W u a b ni
      obtain ⟨_, _, _, f1, _, _⟩ := W w w0 w1' wi
      have r1 := Q.rk u a b (by omega)
      have r2 := Q.rk w w0 w1' (by omega)
      have r3 := Q.uq u w a b w0 w1' (fun e => wu e.symm) (by omega)
      exact ih w w0 w1' wi (by omega) (by omega)
  obtain ⟨w, ⟨w0, w1', wu⟩, wi, e1, e2, e3⟩ := W t t0 t1 hi
  obtain ⟨_, _, _, f1, _, _⟩ := W w w0 w1' wi
  exact D (((R.g k).th w).rank.toNat) w w0 w1' wi (by omega) (by omega)

end Go.Proofs.Ytejadojilncbjab

namespace Go.Proofs.Ytejadojilncbjab
set_option linter.unusedVariables false

/-! All jobs come to their end, part 18: rounds. -/

theorem neut_upd {K : Cx} {k : Int} {m : Int → Int} {h : Th} {x z : Int} (s1 : 1 ≤ K.c.s) (A : ThOk K k h) (x0 : 0 ≤ x) (hx : h.st ≠ .idle → x ≠ K.me) (hz : z / 8 = m (hSta K x) / 8) (hn : ∀ s, 0 ≤ s → s < K.c.s → m (3 + K.c.s + s) ≠ x + 1) (n : Neut K (upd m (hSta K x) z) h) : Neut K m h := by
  have hs := A.step
  unfold StepOk at hs
  by_cases hi : h.st = .idle
  · unfold Neut; rw [hi]; trivial
  · have p := ph_off (z := z) s1 A.step (hx hi) x0 hn
    unfold Neut at n ⊢
    rw [p] at n
    cases hst : h.st with
    | rVer i a =>
      rw [hst] at n hs
      have b := tmodP s1 hs.1
      have n' : upd m (hSta K x) z (3 + a.tmod K.c.s) = -1 := n
      rw [upd_off (by unfold hSta; omega)] at n'
      exact n'
    | cGate =>
      rw [hst] at n
      have n' : upd m (hSta K x) z 2 ≠ 0 := n
      rw [upd_off (by unfold hSta; omega)] at n'
      exact n'
    | wait w =>
      rw [hst] at n
      have n' : 0 < shn K.c (upd m (hSta K x) z) w ∧ (h.rank = 0 ∨ shn K.c (upd m (hSta K x) z) w ≤ h.rank) := n
      have e : shn K.c (upd m (hSta K x) z) w = shn K.c m w := by
        unfold shn
        by_cases q : w = x
        · rw [q, show 3 + 2 * K.c.s + x = hSta K x from rfl, upd_at]; exact hz
        · rw [upd_off (by unfold hSta; omega)]
      rw [e] at n'
      exact n'
    | _ => rw [hst] at n; exact n

theorem keep_step {R : Rn} (O : R.Ok) {k : Nat} (hk : k < R.ps.length) (hs : R.phi k ≤ R.phi (k + 1)) {u : Int} (u0 : 0 ≤ u) (u1 : u < R.c.t) (hu : (R.pk k).thread ≠ u) (n : Neut (R.K u) (R.g (k + 1)).m ((R.g (k + 1)).th u)) : Neut (R.K u) (R.g k).m ((R.g k).th u) := by
  by_cases h : 0 ≤ (R.pk k).thread ∧ (R.pk k).thread < R.c.t
  · rw [R.off k hu, R.mem_at k h] at n
    have nt : Neut (R.K (R.pk k).thread) (R.g k).m ((R.g k).th (R.pk k).thread) := by
      rcases phi_step O hk h with q | q
      · exact q.1
      · omega
    by_cases ni : ((R.g k).th (R.pk k).thread).st = .idle
    · rw [show R.out k (R.pk k).thread = ⟨0, 0, 0, 0⟩ from by unfold Rn.out hOut; rw [ni]] at n
      rw [mNext_none] at n
      exact n
    have H := hy_at O hk h ni
    have Q := ri_at O.c O.w O.m R.jobs R.ps k (by omega)
    have I := li_at O.c O.w O.m R.jobs R.ps k
    have G := gat_ok O.c O.w O.m R.jobs R.ps k
    change GOk R.c R.jobs k (R.g k) at G
    change RI R.c R.jobs (R.g k).m (R.g k).th _ at Q
    change LI R.c R.jobs (R.g k).m (R.g k).th at I
    obtain ⟨⟨c1, c2⟩, ⟨w1, w2⟩, ⟨z1, z2⟩, _⟩ := cfgB_true O.c
    have ph1 : R.phi (k + 1) = Phi R.c R.jobs (mNext (R.g k).m (R.out k (R.pk k).thread)) (thSet (R.g k).th (R.pk k).thread (hNext (R.K (R.pk k).thread) ((R.g k).th (R.pk k).thread) ⟨(accBy (R.g k).m (R.out k (R.pk k).thread)).seen, (R.pk k).draw, (k : Int) + 1⟩)) := by
      unfold Rn.phi
      rw [R.mem_at k h, th_step R k h]
    rw [ph1] at hs
    generalize (⟨(accBy (R.g k).m (R.out k (R.pk k).thread)).seen, (R.pk k).draw, (k : Int) + 1⟩ : AnsD) = v at *
    have hh := (H.T _ h.1 h.2).step
    unfold StepOk at hh
    have t0 := h.1
    have t1 := h.2
    generalize (R.pk k).thread = t at *
    unfold Neut at nt
    have vs := Q.s2 t t0 t1
    cases hst : ((R.g k).th t).st with
    | idle => exact absurd hst ni
    | rVer i a => rw [show R.out k t = ⟨1, hVer (a.tmod R.c.s), 0, 0⟩ from by unfold Rn.out hOut; rw [hst]; rfl, mNext_load] at n; exact n
    | gStat i a => rw [show R.out k t = ⟨1, hSta (R.K t) t, 0, 0⟩ from by unfold Rn.out hOut; rw [hst]; rfl, mNext_load] at n; exact n
    | gTheir i a w => rw [show R.out k t = ⟨1, hSta (R.K t) (w - 1), 0, 0⟩ from by unfold Rn.out hOut; rw [hst], mNext_load] at n; exact n
    | wait w => rw [show R.out k t = ⟨1, hSta (R.K t) w, 0, 0⟩ from by unfold Rn.out hOut; rw [hst], mNext_load] at n; exact n
    | cGate =>
      rw [hst] at nt
      rw [show R.out k t = ⟨3, 2, 0, t + 1⟩ from by unfold Rn.out hOut; rw [hst]; rfl, mNext_miss _ _ _ _ nt] at n; exact n
    | gOwn i a =>
      rw [hst] at nt
      have z : phv (R.K t) (R.g k).m ((R.g k).th t) (a.tmod R.c.s) 1 0 0 = 0 := by
        have nt' : ph (R.K t) (R.g k).m ((R.g k).th t) = 0 := nt
        unfold ph at nt'
        rw [hst] at nt'
        exact nt'
      rw [show R.out k t = ⟨3, hOwn (R.K t) (a.tmod R.c.s), 0, t + 1⟩ from by unfold Rn.out hOut; rw [hst]; rfl, mNext_miss _ _ _ _ (phv_zero z).2.1] at n; exact n
    | gMark i a w x =>
      rw [hst] at hh
      have e : R.out k t = ⟨3, 3 + 2 * R.c.s + (w - 1), x, x + t + 1⟩ := by unfold Rn.out hOut; rw [hst]; rfl
      by_cases q : (R.g k).m (3 + 2 * R.c.s + (w - 1)) = x
      · have l2 := H.L2
        unfold Loc2 at l2
        rw [hst] at l2
        have v1 : 1 ≤ w := hh.2.1.1
        have v2 : w ≤ R.c.t := hh.2.1.2
        have x8 : x % 8 = 0 := hh.2.2.2
        have l3 : w ≠ t + 1 := l2.1.2
        have l1 := l2.1.1
        have vt := vs (by unfold Vis; rw [hst])
        have hol : ((R.g k).th (w - 1)).st = .idle → ∀ s, 0 ≤ s → s < R.c.s → (R.g k).m (3 + R.c.s + s) ≠ w := fun e s s0 s1 o => by
          have o' := (I.own s s0 s1 (w - 1) (by omega) (by omega)).1 (by rw [o]; omega)
          unfold Holds at o'
          rw [e] at o'
          exact o'
        rcases phi_mark H hst q vt (fun e => by
          have a1 := Q.s1 (w - 1) (by omega) (by omega)
          unfold shn at e
          have a2 : ((R.g k).th (w - 1)).rank = ((R.g k).th t).rank := by omega
          have a3 := Q.rk t t0 t1 l1
          have a4 := Q.rk (w - 1) (by omega) (by omega) (by omega)
          exact Q.uq t (w - 1) t0 t1 (by omega) (by omega) (by omega) (by omega) (by omega)) hol with z | z
        · have id := z.1.1
          rw [e, mNext_swap _ _ _ _ q] at n
          refine neut_upd (K := R.K u) (x := w - 1) (z := x + t + 1) z1 (G.th u u0 u1) (by omega) (fun y => ?_) ?_ (fun s s0 s1 => ?_) n
          · intro f
            have f' : w - 1 = u := f
            rw [f'] at id
            exact y id
          · show (x + t + 1) / 8 = (R.g k).m (3 + 2 * R.c.s + (w - 1)) / 8
            rw [q]; omega
          · have := hol id s s0 s1
            show (R.g k).m (3 + R.c.s + s) ≠ _
            omega
        · have z' : Phi R.c R.jobs (mNext (R.g k).m (R.out k t)) (thSet (R.g k).th t (hNext (R.K t) ((R.g k).th t) v)) + 1 ≤ R.phi k := z
          omega
      · rw [e, mNext_miss _ _ _ _ q] at n; exact n
    | _ => rw [hst] at nt; exact nt.elim
  · rw [th_none R k h] at n; exact n

theorem phi_mono {R : Rn} (O : R.Ok) {a : Nat} : ∀ b : Nat, a ≤ b → b ≤ R.ps.length → R.phi b ≤ R.phi a
  | 0, h, _ => by rw [show a = 0 from by omega]; exact Int.le_refl _
  | b + 1, h, hb => by
    by_cases e : a = b + 1
    · rw [e]; exact Int.le_refl _
    · have ih := phi_mono O (a := a) b (by omega) (by omega)
      by_cases g : 0 ≤ (R.pk b).thread ∧ (R.pk b).thread < R.c.t
      · rcases phi_step O (k := b) (by omega) g with q | q <;> omega
      · have : R.phi (b + 1) = R.phi b := by unfold Rn.phi; rw [th_none R b g]
        omega

/-- A round in which each thread is picked lowers the potential, unless all are idle. -/
theorem round_falls {R : Rn} (O : R.Ok) {a b : Nat} (hb : b ≤ R.ps.length) (hall : ∀ t, 0 ≤ t → t < R.c.t → ∃ j, a ≤ j ∧ j < b ∧ (R.pk j).thread = t) {t : Int} (t0 : 0 ≤ t) (t1 : t < R.c.t) (hi : ((R.g a).th t).st ≠ .idle) : R.phi b + 1 ≤ R.phi a := by
  refine Classical.byContradiction fun no => ?_
  obtain ⟨j, j1, j2, _⟩ := hall t t0 t1
  obtain ⟨u, u0, u1, nu⟩ := progress O (k := a) (by omega) t0 t1 hi
  have eq : ∀ i, a ≤ i → i ≤ b → R.phi i = R.phi a := fun i i1 i2 => by
    have x := phi_mono O i i1 (by omega)
    have y := phi_mono O b i2 hb
    omega
  have key : ∀ n : Nat, a + n ≤ b → ¬ Neut (R.K u) (R.g (a + n)).m ((R.g (a + n)).th u) ∧ ∀ i, a ≤ i → i < a + n → (R.pk i).thread ≠ u := fun n => by
    induction n with
    | zero => intro _; exact ⟨nu, fun i x y => by omega⟩
    | succ n ih =>
      intro hn
      obtain ⟨p, q⟩ := ih (by omega)
      have e1 := eq (a + n) (by omega) (by omega)
      have e2 := eq (a + n + 1) (by omega) (by omega)
      have d : (R.pk (a + n)).thread ≠ u := fun f => by
        rcases phi_step O (k := a + n) (by omega) (by rw [f]; exact ⟨u0, u1⟩) with z | z
        · rw [f] at z; exact p z.1
        · omega
      refine ⟨fun z => p (keep_step O (by omega) (by omega) u0 u1 d z), fun i x y => ?_⟩
      by_cases f : i = a + n
      · rw [f]; exact d
      · exact q i x (by omega)
  obtain ⟨i, i1, i2, i3⟩ := hall u u0 u1
  exact (key (b - a) (by omega)).2 i i1 (by omega) i3

theorem idle_step (R : Rn) (k : Nat) {t : Int} (t0 : 0 ≤ t) (t1 : t < R.c.t) (h : ((R.g k).th t).st = .idle) : ((R.g (k + 1)).th t).st = .idle := by
  by_cases e : (R.pk k).thread = t
  · rw [R.at k e t0 t1]
    unfold hNext
    rw [h]
    exact h
  · rw [R.off k e]; exact h
theorem idle_mono (R : Rn) {a : Nat} {t : Int} (t0 : 0 ≤ t) (t1 : t < R.c.t) (h : ((R.g a).th t).st = .idle) : ∀ b : Nat, a ≤ b → ((R.g b).th t).st = .idle
  | 0, hb => by rw [show a = 0 from by omega] at h; exact h
  | b + 1, hb => by
    by_cases e : a = b + 1
    · rw [← e]; exact h
    · exact idle_step R b t0 t1 (idle_mono R t0 t1 h b (by omega))

/-- Behind enough rounds all are idle. -/
theorem calm_idle {R : Rn} (O : R.Ok) (hj : R.jobs.length ≤ 8) (f : Nat → Nat) (n : Nat) (hn : 405920 < n) (hf : ∀ i, i < n → f i ≤ f (i + 1) ∧ f (i + 1) ≤ R.ps.length ∧ ∀ t, 0 ≤ t → t < R.c.t → ∃ j, f i ≤ j ∧ j < f (i + 1) ∧ (R.pk j).thread = t) {t : Int} (t0 : 0 ≤ t) (t1 : t < R.c.t) : ((R.g (f n)).th t).st = .idle := by
  refine Classical.byContradiction fun no => ?_
  have up : ∀ d i, i + d = n → f i ≤ f n := fun d => by
    induction d with
    | zero => intro i h; rw [show i = n from by omega]; exact Nat.le_refl _
    | succ d ih => intro i h; have := ih (i + 1) (by omega); have := (hf i (by omega)).1; omega
  have ni : ∀ i, i ≤ n → ((R.g (f i)).th t).st ≠ .idle := fun i h e => no (idle_mono R t0 t1 e (f n) (up (n - i) i (by omega)))
  have le : ∀ i, i ≤ n → f i ≤ R.ps.length := fun i h => by
    have a := up (n - i) i (by omega)
    have b := (hf (n - 1) (by omega)).2.1
    rw [show n - 1 + 1 = n from by omega] at b
    omega
  have key : ∀ i : Nat, i ≤ n → R.phi (f i) + (i : Int) ≤ 405920 := fun i => by
    induction i with
    | zero =>
      intro _
      have a := phi_mono O (a := 0) (f 0) (by omega) (le 0 (by omega))
      have b := phi_start O hj
      omega
    | succ i ih =>
      intro h
      have x := ih (by omega)
      have y := round_falls O (le (i + 1) h) (hf i (by omega)).2.2 t0 t1 (ni i (by omega))
      omega
  have a := key n (Nat.le_refl _)
  have b := phi_pos O (le n (Nat.le_refl _))
  omega

/-- Behind enough rounds each job has an end. -/
theorem calm_ends {R : Rn} (O : R.Ok) (hj : R.jobs.length ≤ 8) (f : Nat → Nat) (n : Nat) (hn : 405920 < n) (hf : ∀ i, i < n → f i ≤ f (i + 1) ∧ f (i + 1) ≤ R.ps.length ∧ ∀ t, 0 ≤ t → t < R.c.t → ∃ j, f i ≤ j ∧ j < f (i + 1) ∧ (R.pk j).thread = t) {t : Int} (t0 : 0 ≤ t) (t1 : t < R.c.t) {j : Nat} (h1 : j < R.jobs.length) (h2 : (R.jobs.getD j (0, [])).1 = t) : (endOf ((R.g (f n)).th t) j).fate ≠ 0 := by
  rcases (ti_at O t t0 t1 (f n)).ed j h1 h2 with q | q
  · exact q
  · exact absurd (calm_idle O hj f n hn hf t0 t1) q.1

end Go.Proofs.Ytejadojilncbjab

namespace Go.Proofs.Ytejadojilncbjab
open Go.RowKit
set_option linter.unusedVariables false
attribute [local go_sem ↓] Go.wp_at_zero Go.wp_at_succ

/-- A setup of the document's kind. -/
structure SetupOk (c : Cfg) (mem : List Int) (jobs : List (Int × List InsD)) : Prop where
  cfg : cfgB c = true
  mw : (mem.length : Int) = c.wd
  mb : memB mem = true
  j8 : jobs.length ≤ 8
  cd : ∀ j ∈ jobs, j.2.length ≤ 20

end Go.Proofs.Ytejadojilncbjab

namespace Go.Proofs.Ytejadojilncbjab
open Go.RowKit
set_option linter.unusedVariables false
attribute [local go_sem ↓] Go.wp_at_zero Go.wp_at_succ

/-- What Check answers, by the jobs themselves. -/
def errS (c : Cfg) (mem : List Int) (jobs : List (Int × List InsD)) : Int :=
  if machN c mem = 0 then (if jobs.length ≤ 8 ∧ (jobs.all fun j => inB j.1 0 (c.t - 1)) = true then (if (jobs.all fun j => decide ((j.2.length : Int) ≤ 20)) = true then 0 else 4) else 3) else machN c mem

theorem errS_ok {c : Cfg} {mem : List Int} {jobs : List (Int × List InsD)} (h : errS c mem jobs = 0) : SetupOk c mem jobs ∧ ∀ j ∈ jobs, 0 ≤ j.1 ∧ j.1 < c.t := by
  unfold errS at h
  by_cases h1 : machN c mem = 0
  · rw [if_pos h1] at h
    by_cases h2 : jobs.length ≤ 8 ∧ (jobs.all fun j => inB j.1 0 (c.t - 1)) = true
    · rw [if_pos h2] at h
      by_cases h3 : (jobs.all fun j => decide ((j.2.length : Int) ≤ 20)) = true
      · have hm : cfgB c = true ∧ (mem.length : Int) = c.wd ∧ memB mem = true := by
          unfold machN at h1
          by_cases a : cfgB c = true
          · rw [if_pos a] at h1
            by_cases b : (mem.length : Int) = c.wd ∧ memB mem = true
            · exact ⟨a, b.1, b.2⟩
            · rw [if_neg b] at h1; cases h1
          · rw [if_neg a] at h1; cases h1
        rw [List.all_eq_true] at h3
        have h4 := h2.2
        rw [List.all_eq_true] at h4
        refine ⟨⟨hm.1, hm.2.1, hm.2.2, h2.1, fun j hj => ?_⟩, fun j hj => ?_⟩
        · have := h3 j hj
          simp at this
          omega
        · have := inB_true (h4 j hj)
          omega
      · rw [if_neg h3] at h; cases h
    · rw [if_neg h2] at h; cases h
  · rw [if_neg h1] at h; exact absurd h h1

theorem all_at {α : Type} (l : List α) (p : α → Bool) (d : α) : l.all p = true ↔ ∀ i, i < l.length → p (l.getD i d) = true := by
  rw [List.all_eq_true]
  constructor
  · intro h i hi
    rw [show l.getD i d = l[i] from by simp [List.getD, List.getElem?_eq_getElem hi]]
    exact h _ (List.getElem_mem hi)
  · intro h x hx
    obtain ⟨i, hi, rfl⟩ := List.mem_iff_getElem.1 hx
    have := h i hi
    rwa [show l.getD i d = l[i] from by simp [List.getD, List.getElem?_eq_getElem hi]] at this

theorem check_err {c : Cfg} {mem : List Int} {jobs : List (Int × List InsD)} {js : List JobD} (h1 : js.length = jobs.length) (h2 : ∀ i, i < js.length → (jobAt js i).t = (jobs.getD i (0, [])).1 ∧ (jobAt js i).len = (jobs.getD i (0, [])).2.length) : checkN c mem js = errS c mem jobs := by
  have e1 : thrB c.t js = (jobs.all fun j => inB j.1 0 (c.t - 1)) := by
    rw [Bool.eq_iff_iff]
    unfold thrB
    rw [all_at js _ ⟨0, none, 0, 0⟩, all_at jobs _ (0, []), h1]
    constructor <;> intro h i hi
    · rw [← (h2 i (by omega)).1]; exact h i hi
    · have := h i hi
      rw [← (h2 i (by omega)).1] at this
      exact this
  have e2 : lenB js = (jobs.all fun j => decide ((j.2.length : Int) ≤ 20)) := by
    rw [Bool.eq_iff_iff]
    unfold lenB
    rw [all_at js _ ⟨0, none, 0, 0⟩, all_at jobs _ (0, []), h1]
    constructor <;> intro h i hi
    · rw [← (h2 i (by omega)).2]; exact h i hi
    · have := h i hi
      rw [← (h2 i (by omega)).2] at this
      exact this
  unfold checkN errS
  rw [h1, e1, e2]

theorem refCheck_rep (c : Cfg) (mem : List Int) (jobs : List (Int × List InsD)) (ma ja : Option Addr) (mc jc : Nat) (w : World) (hml : mem.length ≤ maxLen) (hjl : jobs.length ≤ maxLen) (hm : Ints w w.heap.size ma mem) (hj : JobsRep w w.heap.size ja jobs) :
    Calls Try.prog 5 #[.agg #[.int .i64 c.t, .int .i64 c.wd, .int .i64 c.s, .int .i64 c.g, .int .i64 c.r, .int .i64 c.cp, .int .i64 c.f, .slice ma mem.length mc, .slice ja jobs.length jc]] w fun e w' =>
      e = .returned (.int .i64 (errS c mem jobs)) ∧ Below w.heap.size w w' := by
  obtain ⟨js, h1, h2, h3⟩ := hj
  have := refCheck_core c.t c.wd c.s c.g c.r c.cp c.f ma mem.length mc mem ja jobs.length jc js w rfl hml hm h1 hjl h2
  rw [show (⟨c.t, c.wd, c.s, c.g, c.r, c.cp, c.f⟩ : Cfg) = c from rfl, check_err h1 (fun i hi => ⟨(h3 i hi).1, (h3 i hi).2.1⟩)] at this
  exact this

theorem PicksIn.up2 {w w' : World} {a : Option Addr} {l : List PickD} (h : PicksIn w w.heap.size a l) (hb : Below w.heap.size w w') : PicksIn w' w'.heap.size a l := by
  intro i hi
  obtain ⟨b, off, h1, h2, h3, h4⟩ := h.up hb i hi
  exact ⟨b, off, h1, Nat.lt_of_lt_of_le h2 hb.size, h3, h4⟩
theorem JobsRep.up2 {w w' : World} {a : Option Addr} {l : List (Int × List InsD)} (h : JobsRep w w.heap.size a l) (hb : Below w.heap.size w w') : JobsRep w' w'.heap.size a l := (h.up hb).mono hb.size

end Go.Proofs.Ytejadojilncbjab

namespace Go.Proofs.Ytejadojilncbjab
set_option linter.unusedVariables false

/-! The program's thread as plain functions, call by call. -/

structure PT where
  c : Cfg
  num : Int
  mine : List Int
  cur : Nat
  res : List ResD
  rank : Int
  fails : Int
  rest : Int
  step : Int
  order : AskD
  aTh : Int
  aJob : Int
  aStart : Int
  aEnd : Int
  valid : Int
  aStamp : Int
  aFate : Int
  notes : List NoteD
  m : MS
  turn : TurnD
  reads : List EntD
  writes : List EntD
  held : List Int
  version : Int
  value : Int
  rival : Int
  wayTo : Int
  clock : Int
  at_ : Nat

/-- What is told of its attempt. -/
def PT.told (t : PT) : AttD := ⟨t.aTh, t.aJob, t.aStart, t.aEnd, t.valid, t.aStamp, t.aFate, t.notes⟩

def cOwnOf (c : Cfg) (s : Int) : Int := 3 + c.s + s
def cStaOf (c : Cfg) (t : Int) : Int := 3 + 2 * c.s + t
def cWrdOf (c : Cfg) (a : Int) : Int := 3 + 2 * c.s + c.t + a

def yLoad (step cell : Int) (t : PT) : PT := { t with step := step, order := ⟨1, cell, 0, 0⟩ }
def yStore (step cell put : Int) (t : PT) : PT := { t with step := step, order := ⟨2, cell, 0, put⟩ }
def ySwap (step cell frm put : Int) (t : PT) : PT := { t with step := step, order := ⟨3, cell, frm, put⟩ }
def yTake (step cell : Int) (t : PT) : PT := { t with step := step, order := ⟨4, cell, 0, 0⟩ }
def PT.sta (t : PT) : Int := cStaOf t.c t.num
def PT.staOf (t : PT) (name : Int) : Int := cStaOf t.c (name - 1)
def PT.stripe (t : PT) : Int := t.turn.addr.tmod t.c.s
def PT.holds (t : PT) (s : Int) : Bool := t.held.any fun h => h == s

def yBegin (t : PT) : PT := if t.cur < t.mine.length then yLoad 2 0 t else { t with step := 0 }
def yEnd (t : PT) : PT := yStore 27 t.sta 0 t
def yRes (t : PT) : ResD := ⟨t.turn.fate, t.m.regs.getD 0 0, t.m.regs.getD 1 0, t.m.regs.getD 2 0, t.m.regs.getD 3 0⟩
def yConc (fate num : Int) (t : PT) : PT := { t with aFate := fate, aEnd := num }
def yNextJob (num : Int) (t : PT) : PT := yBegin { t with aFate := t.turn.fate, aEnd := num, res := t.res ++ [yRes t], cur := t.cur + 1, rank := 0, fails := 0 }
def yGiveBack (step : Int) (t : PT) : PT := yStore step (cOwnOf t.c (t.held.getD t.at_ 0)) 0 t
def yLetGo (t : PT) : PT := if t.at_ < t.held.length then yGiveBack 26 t else yEnd t
def yFinish (t : PT) : PT := if t.held.length = 0 then yEnd t else yLoad 16 t.sta t

def yShow (t : PT) : PT := yStore 31 t.sta (8 * t.rank) t
def yCount (t : PT) : PT := if t.rank = 0 ∧ t.c.r < t.fails + 1 then yTake 30 1 { t with fails := t.fails + 1 } else yShow { t with fails := t.fails + 1 }
def yUndo (t : PT) : PT := if t.at_ < t.held.length then yGiveBack 29 t else yCount t
def yFail (t : PT) : PT := yUndo { t with at_ := 0 }
def yFailGate (t : PT) : PT := yStore 28 2 0 t
def yFollowFail (put : Int) (t : PT) : PT :=
  if t.step = 28 then yFail t else if t.step = 29 then yUndo { t with at_ := t.at_ + 1 } else if t.step = 30 then yShow { t with rank := put } else t
def yRestBy (t : PT) (draw : Int) : Int := if draw < 0 then 0 else draw.tmod (1 + if t.c.cp < t.fails then t.c.cp else t.fails)
def yWinner (t : PT) (status : Int) : Int := if status.tmod 8 = 0 then t.wayTo else status.tmod 8
def yLose (status draw : Int) (t : PT) : PT := if yWinner t status ≠ 0 then yLoad 32 (t.staOf (yWinner t status)) t else yBegin { t with rest := yRestBy t draw }
def yAwait (status : Int) (t : PT) : PT := if status.tdiv 8 = 0 ∨ (0 < t.rank ∧ t.rank < status.tdiv 8) then yBegin t else t

def yLook (st v : Int) (t : PT) : PT := if (entIdx t.reads st).isSome then t else { t with reads := t.reads ++ [⟨st, v⟩] }
def yLog (a v : Int) (t : PT) : PT := { t with notes := t.notes ++ [⟨t.turn.op, a, v⟩], writes := putEnt t.writes a v }
def yGive (v : Int) (t : PT) : PT := { t with m := { t.m with regs := t.m.regs.set t.m.into.toNat v }, notes := t.notes ++ [⟨t.turn.op, t.turn.addr, v⟩], step := 1 }

def yGet (t : PT) : PT := yLoad 7 t.sta t
def yMeet (rival : Int) (t : PT) : PT := if t.rank = 0 then yFail t else yLoad 9 (t.staOf rival) { t with rival := rival }
def yWeigh (status : Int) (t : PT) : PT :=
  if 0 < status.tdiv 8 ∧ status.tdiv 8 < t.rank then yFail { t with wayTo := t.rival } else if status.tmod 8 ≠ 0 then yGet t else ySwap 10 (t.staOf t.rival) status (status + (t.num + 1)) t
def yWriteGot (t : PT) : PT := if t.rank = 0 ∧ 0 < t.c.g ∧ (t.held.length : Int) = t.c.g then yTake 14 1 (yLog t.turn.addr t.turn.val t) else { yLog t.turn.addr t.turn.val t with step := 1 }
def yFollowTicket (seen put : Int) (t : PT) : PT :=
  if t.step = 14 then ySwap 15 t.sta 0 (8 * put) { t with rank := put } else if t.step = 15 then (if seen ≠ 0 then yFail t else { t with step := 1 }) else t
def yExtend (t : PT) : PT := yLoad 12 0 t
def yEndExt (t : PT) : PT := if t.turn.op = 7 then yGive t.value t else yWriteGot t
def yExtNext (t : PT) : PT := if t.at_ < t.reads.length then yLoad 13 (hVer (t.reads.getD t.at_ ⟨0, 0⟩).what) t else yEndExt { t with valid := t.clock }
def yFollowExt (seen : Int) (t : PT) : PT :=
  if t.step = 12 then yExtNext { t with clock := seen, at_ := 0 } else if t.step = 13 then (if seen ≠ (t.reads.getD t.at_ ⟨0, 0⟩).val then yFail t else yExtNext { t with at_ := t.at_ + 1 }) else yExtNext t
def yFollowGet (seen : Int) (t : PT) : PT :=
  if t.step = 7 then (if seen.tmod 8 ≠ 0 then yFail t else ySwap 8 (cOwnOf t.c t.stripe) 0 (t.num + 1) t)
  else if t.step = 8 then (if seen ≠ 0 then yMeet seen t else yLoad 11 (hVer t.stripe) { t with held := t.held ++ [t.stripe] })
  else if t.step = 9 then yWeigh seen t
  else if t.step = 10 then yGet t
  else if t.step = 11 then (if t.valid < seen then yExtend t else yWriteGot t)
  else t

def yRead (t : PT) : PT := match entIdx t.writes t.turn.addr with
  | some k => yGive (t.writes.getD k ⟨0, 0⟩).val t
  | none => if t.holds t.stripe then yLoad 3 (cWrdOf t.c t.turn.addr) t else yLoad 4 (hVer t.stripe) t
def yTrust (version : Int) (t : PT) : PT :=
  if version ≠ t.version then yLoad 4 (hVer t.stripe) t
  else if t.valid < version then yExtend (yLook t.stripe version t) else yGive t.value (yLook t.stripe version t)
def yFollowRead (seen : Int) (t : PT) : PT :=
  if t.step = 3 then yGive seen t
  else if t.step = 4 then (if seen ≠ -1 then yLoad 5 (cWrdOf t.c t.turn.addr) { t with version := seen } else t)
  else if t.step = 5 then yLoad 6 (hVer t.stripe) { t with value := seen }
  else if t.step = 6 then yTrust seen t
  else t
def yWrite (t : PT) : PT := if t.holds t.stripe then { yLog t.turn.addr t.turn.val t with step := 1 } else yGet t
def yTouch (t : PT) : PT := if t.turn.op = 7 then yRead t else yWrite t
def yTurned (u : TurnD × MS) (t : PT) : PT :=
  if u.1.fate = 0 then yTouch { t with m := u.2, turn := u.1 } else if u.1.fate = 1 then yFinish { t with m := u.2, turn := u.1 } else yLetGo { t with m := u.2, turn := u.1, at_ := 0 }
/-- Rounds enough for the machine's turns. -/
def yRounds : Nat := 50
def yTurn (code : List InsD) (t : PT) : PT := yTurned (pNext t.c.f t.c.wd code yRounds t.m) t
def yTurns (code : List InsD) : Nat → PT → PT
  | 0, t => t
  | n + 1, t => if t.step = 1 then yTurns code n (yTurn code t) else t

def yShut (t : PT) : PT := if t.at_ < t.held.length then yStore 20 (hVer (t.held.getD t.at_ 0)) (-1) t else yStore 21 0 (t.clock + 1) t
def yRelease (t : PT) : PT := if t.at_ < t.held.length then yStore 24 (hVer (t.held.getD t.at_ 0)) (t.clock + 1) t else yEnd t
def yPut (t : PT) : PT := if t.at_ < t.writes.length then yStore 23 (cWrdOf t.c (t.writes.getD t.at_ ⟨0, 0⟩).what) (t.writes.getD t.at_ ⟨0, 0⟩).val t else yRelease { t with at_ := 0 }
/-- From the place at on: n places are left. -/
def yCheckN : Nat → PT → PT
  | 0, t => yShut { t with at_ := 0 }
  | n + 1, t => if t.clock ≠ t.valid then (if t.holds (t.reads.getD t.at_ ⟨0, 0⟩).what then yCheckN n { t with at_ := t.at_ + 1 } else yLoad 19 (hVer (t.reads.getD t.at_ ⟨0, 0⟩).what) t) else yShut { t with at_ := 0 }
def yCheck (t : PT) : PT := yCheckN (t.reads.length - t.at_) t
def yFollowCommit (seen : Int) (t : PT) : PT :=
  if t.step = 16 then (if seen.tmod 8 ≠ 0 then yFail t else ySwap 17 2 0 (t.num + 1) t)
  else if t.step = 17 then (if seen = 0 then yLoad 18 0 t else t)
  else if t.step = 18 then yCheck { t with clock := seen, at_ := 0 }
  else if t.step = 19 then (if seen ≠ (t.reads.getD t.at_ ⟨0, 0⟩).val then yFailGate t else yCheck { t with at_ := t.at_ + 1 })
  else t
def yFollowStore (t : PT) : PT :=
  if t.step = 20 then yShut { t with at_ := t.at_ + 1 }
  else if t.step = 21 then yStore 22 2 0 { t with aStamp := t.clock + 1 }
  else if t.step = 22 then yPut { t with at_ := 0 }
  else if t.step = 23 then yPut { t with at_ := t.at_ + 1 }
  else if t.step = 24 then yStore 25 (cOwnOf t.c (t.held.getD t.at_ 0)) 0 t
  else if t.step = 25 then yRelease { t with at_ := t.at_ + 1 }
  else t

def yNew (t : PT) (seen num : Int) : PT := { t with aTh := t.num, aJob := t.mine.getD t.cur 0, aStart := num, aEnd := 0, aStamp := 0, aFate := 0, notes := [], m := ⟨[0, 0, 0, 0], 0, 0, 0⟩, turn := ⟨0, 0, 0, 0⟩, valid := seen, reads := [], writes := [], held := [], version := 0, value := 0, rival := 0, wayTo := 0, clock := 0, at_ := 0, step := 1 }
def yFollow (seen put num draw : Int) (t : PT) : PT :=
  if t.step = 2 then yNew t seen num
  else if 3 ≤ t.step ∧ t.step ≤ 6 then yFollowRead seen t
  else if 7 ≤ t.step ∧ t.step ≤ 11 then yFollowGet seen t
  else if 12 ≤ t.step ∧ t.step ≤ 13 then yFollowExt seen t
  else if 14 ≤ t.step ∧ t.step ≤ 15 then yFollowTicket seen put t
  else if 16 ≤ t.step ∧ t.step ≤ 19 then yFollowCommit seen t
  else if 20 ≤ t.step ∧ t.step ≤ 25 then yFollowStore t
  else if t.step = 26 then yLetGo { t with at_ := t.at_ + 1 }
  else if t.step = 27 then yNextJob num t
  else if 28 ≤ t.step ∧ t.step ≤ 30 then yFollowFail put t
  else if t.step = 31 then yLose seen draw (yConc 5 num t)
  else if t.step = 32 then yAwait seen t
  else t

end Go.Proofs.Ytejadojilncbjab
