import Derived.Test.YtejadojilncbjabH19
namespace Go.Proofs.Ytejadojilncbjab
set_option linter.unusedVariables false

/-! All jobs come to their end, part 7: the quiet accesses. -/

/-- The accesses that turn no clock, version, owner or status. -/
def ClsA (K : Cx) (m : Int → Int) (h : Th) (v : AnsD) : Prop := match h.st with
  | .gOwn _ _ => v.seen ≠ 0
  | .gMark _ _ u th => m (hSta K (u - 1)) ≠ th
  | .tShow => v.seen ≠ 0
  | .cShut _ _ => False
  | .cStamp _ => False
  | .cOpen _ _ => False
  | .cOwn _ _ => False
  | .free _ _ => False
  | .fin _ => False
  | .fOwn _ => False
  | .fStat => False
  | _ => True

theorem cls_same {K : Cx} {k : Int} {m : Int → Int} {h : Th} {v : AnsD} (hc : cfgB K.c = true) (A : StepOk K k h) (hv : (hOut K h).kind ≠ 0 → v.seen = m (hOut K h).cell) (hA : ClsA K m h v) : Same4 K.c m (mNext m (hOut K h)) := by
  obtain ⟨⟨t1, t2⟩, ⟨w1, w2⟩, ⟨s1, s2⟩, _⟩ := cfgB_true hc
  have rf : Same4 K.c m m := ⟨rfl, fun _ _ _ => rfl, fun _ _ _ => rfl⟩
  have ld : ∀ x : Int, Same4 K.c m (mNext m ⟨1, x, 0, 0⟩) := fun x => by rw [mNext_load]; exact rf
  have no : Same4 K.c m (mNext m ⟨0, 0, 0, 0⟩) := by rw [mNext_none]; exact rf
  have off : ∀ q : AskD, (q.cell = 1 ∨ q.cell = 2 ∨ 3 + 2 * K.c.s + K.c.t ≤ q.cell) → Same4 K.c m (mNext m q) := fun q hq => ⟨mNext_off m q (by omega), fun s a b => mNext_off m q (by omega), fun x a b => mNext_off m q (by omega)⟩
  unfold StepOk at A
  unfold ClsA at hA
  unfold hOut at hv ⊢
  cases hst : h.st with
  | idle => exact no
  | start => exact ld _
  | rHeld i a => exact ld _
  | rVer i a => exact ld _
  | rWord i a one => exact ld _
  | rAgain i a one w => exact ld _
  | xClock x => exact ld _
  | xVer x c r =>
    cases r with
    | nil => exact no
    | cons q r => exact ld _
  | gStat i a => exact ld _
  | gOwn i a =>
    rw [hst] at hv hA
    have e := hv (by simp)
    rw [mNext_miss m _ _ _ (by rw [← e]; exact hA)]
    exact rf
  | gTheir i a u => exact ld _
  | gMark i a u th =>
    rw [hst] at hA
    rw [mNext_miss m _ _ _ hA]
    exact rf
  | gVer i a => exact ld _
  | tTake => exact off _ (Or.inl rfl)
  | tShow =>
    rw [hst] at hv hA
    have e := hv (by simp)
    rw [mNext_miss m _ _ _ (by rw [← e]; exact hA)]
    exact rf
  | cStat => exact ld _
  | cGate => exact off _ (Or.inr (Or.inl rfl))
  | cClock => exact ld _
  | cVer c r =>
    cases r with
    | nil => exact no
    | cons q r => exact ld _
  | cShut c r => rw [hst] at hA; exact hA.elim
  | cStamp c => rw [hst] at hA; exact hA.elim
  | cLeave c => exact off _ (Or.inr (Or.inl rfl))
  | cWord c r =>
    rw [hst] at A
    cases r with
    | nil => exact no
    | cons q r => exact off _ (Or.inr (Or.inr (by have := (A.2.2 q List.mem_cons_self).1; show _ ≤ hWrd K q.what; unfold hWrd; omega)))
  | cOpen c r => rw [hst] at hA; exact hA.elim
  | cOwn c r => rw [hst] at hA; exact hA.elim
  | free e r => rw [hst] at hA; exact hA.elim
  | fin e => rw [hst] at hA; exact hA.elim
  | fGate => exact off _ (Or.inr (Or.inl rfl))
  | fOwn r => rw [hst] at hA; exact hA.elim
  | fTake => exact off _ (Or.inl rfl)
  | fStat => rw [hst] at hA; exact hA.elim
  | wait w => exact ld _
  | rest n => exact no

theorem cnt_pos (jobs : List (Int × List InsD)) (t : Int) (j : Nat) : 0 ≤ cntJ jobs t j := by unfold cntJ; omega
theorem us_le (jobs : List (Int × List InsD)) (t : Int) (h : Th) (hi : h.st ≠ .idle) : usH jobs t h ≤ cntJ jobs t h.job ∧ cntJ jobs t h.job - 1 ≤ usH jobs t h := by
  unfold usH
  cases hst : h.st <;> first
    | exact absurd hst hi
    | (simp only; omega)

/-- What a quiet access leaves of job and idleness, of stamps to come, of what it waits for. -/
theorem cls_keep {K : Cx} {k : Int} {m : Int → Int} {h : Th} {v : AnsD} (hf : 0 ≤ K.c.f) (A : ThOk K k h) (hA : ClsA K m h v) (hi : h.st ≠ .idle) : (hNext K h v).st ≠ .idle ∧ (hNext K h v).job = h.job := by
  have L := leff_next (K := K) hf A v
  unfold ClsA at hA
  generalize hNext K h v = h' at *
  have on : Opn h' = true → h'.st ≠ .idle := fun o e => by simp [Opn, e] at o
  cases L with
  | note E O J N P Z => exact ⟨fun e => hi (Z.2 e), J⟩
  | new e E O J N P => exact ⟨on O, J⟩
  | valid c e E O J N P => exact ⟨on O, J⟩
  | stamp c e E O J N P => rw [e] at hA; exact hA.elim
  | failed e E O J N Z => rw [e] at hA; exact hA.elim
  | fin f e E => rw [e] at hA; exact hA.elim

theorem us_word {K : Cx} {jobs : List (Int × List InsD)} {t c : Int} {h : Th} (r : List EntD) : usH jobs t (hWordAt c r h) = cntJ jobs t h.job - 1 := by
  cases r with
  | nil =>
    show usH jobs t (hOpenAt c h.x.held h) = _
    cases h.x.held <;> rfl
  | cons q r => rfl
theorem cls_us {K : Cx} {k : Int} {m : Int → Int} {jobs : List (Int × List InsD)} {t : Int} {h : Th} {v : AnsD} (hf : 0 ≤ K.c.f) (A : ThOk K k h) (hA : ClsA K m h v) (hi : h.st ≠ .idle) : usH jobs t (hNext K h v) ≤ usH jobs t h := by
  obtain ⟨k1, k2⟩ := cls_keep hf A hA hi
  have u' := us_le jobs t _ k1
  rw [k2] at u'
  by_cases hw : (∃ c, h.st = .cLeave c) ∨ (∃ c r, h.st = .cWord c r)
  · have hs := A.step
    unfold StepOk at hs
    rcases hw with ⟨c, hst⟩ | ⟨c, r, hst⟩
    · have e : hNext K h v = hWordAt c h.x.writes h := by unfold hNext; rw [hst]
      have e2 : usH jobs t h = cntJ jobs t h.job - 1 := by unfold usH; rw [hst]
      rw [e, us_word (K := K), e2]
      exact Int.le_refl _
    · rw [hst] at hs
      cases r with
      | nil => exact absurd rfl hs.2.1
      | cons q r =>
        have e : hNext K h v = hWordAt c r h := by unfold hNext; rw [hst]
        have e2 : usH jobs t h = cntJ jobs t h.job - 1 := by unfold usH; rw [hst]
        rw [e, us_word (K := K), e2]
        exact Int.le_refl _
  · have e2 : usH jobs t h = cntJ jobs t h.job := by
      unfold usH
      unfold ClsA at hA
      cases hst : h.st with
      | idle => exact absurd hst hi
      | cLeave c => exact absurd (Or.inl ⟨c, hst⟩) hw
      | cWord c r => exact absurd (Or.inr ⟨c, r, hst⟩) hw
      | cOpen c r => rw [hst] at hA; exact hA.elim
      | cOwn c r => rw [hst] at hA; exact hA.elim
      | fin e => rw [hst] at hA; exact hA.elim
      | _ => rfl
    rw [e2]
    exact u'.1

/-- The way of a failure. -/
def FlP : St → Prop
  | .fGate => True
  | .fOwn _ => True
  | .fTake => True
  | .fStat => True
  | _ => False
theorem wU_fl {c : Cfg} {m : Int → Int} {t u : Int} {h : Th} (g : FlP h.st) : wU c m t h u = if (h.x.way = u ∧ mrk c m t = 0) ∧ 0 < shn c m u ∧ (h.rank = 0 ∨ shn c m u < h.rank) then 1120 else 0 := by
  unfold wU
  cases hst : h.st <;> rw [hst] at g <;> first
    | exact g.elim
    | rfl
theorem wU_no {c : Cfg} {m : Int → Int} {t u : Int} {h : Th} (g : ¬ FlP h.st) : wU c m t h u = 0 := by
  unfold wU
  cases hst : h.st <;> rw [hst] at g <;> first
    | exact absurd trivial g
    | rfl
theorem fU_no {c : Cfg} {m : Int → Int} {u : Int} {h : Th} (g : ∀ w, h.st ≠ .wait w) : fU c m h u = 0 := by
  unfold fU
  cases hst : h.st with
  | wait w => exact absurd hst (g w)
  | _ => rfl
theorem fl_failown {K : Cx} {h : Th} (r : List Int) : FlP (hFailOwn K r h).st ∧ (hFailOwn K r h).x.way = h.x.way ∧ (hFailOwn K r h).rank = h.rank := by
  unfold hFailOwn hCount
  split
  · split <;> exact ⟨trivial, rfl, rfl⟩
  · exact ⟨trivial, rfl, rfl⟩
theorem fl_fail {K : Cx} {h : Th} : FlP (hFail K h).st ∧ (hFail K h).x.way = h.x.way ∧ (hFail K h).rank = h.rank := by
  unfold hFail
  split
  · exact ⟨trivial, rfl, rfl⟩
  · exact fl_failown _

theorem cls_wait {K : Cx} {k : Int} {c : Cfg} {m : Int → Int} {t u : Int} {h : Th} {v : AnsD} (hcK : K.c = c) (hc : cfgB K.c = true) (A : ThOk K k h) (M : CellsOk K.c k m) (hv : (hOut K h).kind ≠ 0 → v.seen = m (hOut K h).cell) (hA : ClsA K m h v) (htk : shn c m u ≤ m 1) : fU c m h u + wU c m t h u ≤ fU c m (hNext K h v) u + wU c m t (hNext K h v) u := by
  obtain ⟨⟨t1, t2⟩, ⟨w1, w2⟩, ⟨s1, s2⟩, _⟩ := cfgB_true hc
  have P := u_le c m t u (hNext K h v)
  by_cases hw : ∃ w, h.st = .wait w
  · obtain ⟨w, hst⟩ := hw
    have z : wU c m t h u = 0 := wU_no (by rw [hst]; exact fun f => f)
    have hs := A.step
    unfold StepOk at hs
    rw [hst] at hs
    unfold hOut at hv
    rw [hst] at hv
    have e : v.seen = m (hSta K w) := hv (by simp)
    have so : SOk K.c k (m (hSta K w)) := (M (hSta K w) (by unfold hSta; omega) (by unfold hSta total; omega)).sta (by unfold hSta; omega) (by unfold hSta; omega)
    have e3 : v.seen.tdiv 8 = shn c m w := by rw [e, (sok_mod so).2]; unfold shn hSta; rw [hcK]
    by_cases hq : v.seen.tdiv 8 = 0 ∨ (0 < h.rank ∧ h.rank < v.seen.tdiv 8)
    · have f0 : fU c m h u = 0 := by
        unfold fU
        rw [hst]
        simp only
        rw [if_neg]
        rintro ⟨q1, q2, q3⟩
        rw [e3, q1] at hq
        have := A.rank.1
        omega
      rw [z, f0]
      omega
    · have hn : hNext K h v = h := by
        unfold hNext
        rw [hst]
        simp only
        rw [if_neg hq]
      rw [hn]
      exact Int.le_refl _
  · have f0 : fU c m h u = 0 := fU_no (fun w e => hw ⟨w, e⟩)
    by_cases hg : FlP h.st
    · have hh : FlP (hNext K h v).st ∧ (hNext K h v).x.way = h.x.way ∧ ((hNext K h v).rank = h.rank ∨ (hNext K h v).rank = m 1 + 1) := by
        unfold ClsA at hA
        unfold hOut at hv
        unfold hNext
        cases hst : h.st with
        | fGate =>
          have := fl_failown (K := K) (h := h) h.x.held
          exact ⟨this.1, this.2.1, Or.inl this.2.2⟩
        | fTake =>
          rw [hst] at hv
          have e := hv (by simp)
          exact ⟨trivial, rfl, Or.inr (by show v.seen + 1 = m 1 + 1; rw [e])⟩
        | fOwn r => rw [hst] at hA; exact hA.elim
        | fStat => rw [hst] at hA; exact hA.elim
        | _ => rw [hst] at hg; exact hg.elim
      rw [f0] 
      have P3 := P.2.2.1
      rw [wU_fl hg, wU_fl hh.1, hh.2.1]
      by_cases q : (h.x.way = u ∧ mrk c m t = 0) ∧ 0 < shn c m u ∧ (h.rank = 0 ∨ shn c m u < h.rank)
      · rw [if_pos q, if_pos ⟨q.1, q.2.1, by rcases hh.2.2 with r | r <;> rw [r] <;> omega⟩]
        omega
      · rw [if_neg q]
        split <;> omega
    · rw [wU_no hg, f0]
      omega

end Go.Proofs.Ytejadojilncbjab

namespace Go.Proofs.Ytejadojilncbjab
set_option linter.unusedVariables false

/-! All jobs come to their end, part 8: what each access does to the whole. -/

/-- What is known ahead of an access of thread t. -/
structure Hy (c : Cfg) (jobs : List (Int × List InsD)) (m : Int → Int) (th : Int → Th) (k t : Int) (G : Gh) (v : AnsD) : Prop where
  hc : cfgB c = true
  t0 : 0 ≤ t
  t1 : t < c.t
  M : CellsOk c k m
  T : ∀ u, 0 ≤ u → u < c.t → ThOk (cxOf c jobs u) k (th u)
  S : SI (cxOf c jobs t) G m (th t)
  L2 : Loc2 (cxOf c jobs t) (th t)
  Z : Zk (cxOf c jobs t) m (th t)
  vc : (th t).x.valid ≤ m 0
  lh : LenOk (th t)
  hv : (hOut (cxOf c jobs t) (th t)).kind ≠ 0 → v.seen = m (hOut (cxOf c jobs t) (th t)).cell
  lh' : LenOk (hNext (cxOf c jobs t) (th t) v)
  A' : ThOk (cxOf c jobs t) (k + 1) (hNext (cxOf c jobs t) (th t) v)
  ni : (th t).st ≠ .idle
  tk : ∀ u, 0 ≤ u → u < c.t → shn c m u ≤ m 1

theorem Hy.pos {c : Cfg} {jobs : List (Int × List InsD)} {m : Int → Int} {th : Int → Th} {k t : Int} {G : Gh} {v : AnsD} (H : Hy c jobs m th k t G v) : ∀ s, 0 ≤ s → s < c.s → 0 ≤ m (3 + c.s + s) ∧ m (3 + c.s + s) ≤ c.t := fun s a b => by
  obtain ⟨⟨t1, t2⟩, ⟨w1, w2⟩, ⟨s1, s2⟩, _⟩ := cfgB_true H.hc
  exact (H.M (3 + c.s + s) (by omega) (by unfold total; omega)).own (by omega) (by omega)

/-- A quiet access. -/
theorem phi_A {c : Cfg} {jobs : List (Int × List InsD)} {m : Int → Int} {th : Int → Th} {k t : Int} {G : Gh} {v : AnsD} (H : Hy c jobs m th k t G v) (hA : ClsA (cxOf c jobs t) m (th t) v) :
    (Neut (cxOf c jobs t) m (th t) ∧ Phi c jobs (mNext m (hOut (cxOf c jobs t) (th t))) (thSet th t (hNext (cxOf c jobs t) (th t) v)) ≤ Phi c jobs m th) ∨ Phi c jobs (mNext m (hOut (cxOf c jobs t) (th t))) (thSet th t (hNext (cxOf c jobs t) (th t) v)) + 1 ≤ Phi c jobs m th := by
  obtain ⟨⟨t1, t2⟩, ⟨w1, w2⟩, ⟨s1, s2⟩, _, _, _, ⟨f1, f2⟩⟩ := cfgB_true H.hc
  have hcK : cfgB (cxOf c jobs t).c = true := H.hc
  have A := H.T t H.t0 H.t1
  have E : Same4 c m (mNext m (hOut (cxOf c jobs t) (th t))) := cls_same hcK A.step H.hv hA
  have kp := cls_keep (K := cxOf c jobs t) (by show 0 ≤ c.f; omega) A hA H.ni
  have us := cls_us (K := cxOf c jobs t) (jobs := jobs) (t := t) (by show 0 ≤ c.f; omega) A hA H.ni
  have cw : ∀ u, 0 ≤ u → u < c.t → u ≠ t → fU c m (th t) u + wU c m t (th t) u ≤ fU c m (hNext (cxOf c jobs t) (th t) v) u + wU c m t (hNext (cxOf c jobs t) (th t) v) u := fun u u0 u1 _ => cls_wait (K := cxOf c jobs t) rfl hcK A H.M H.hv hA (H.tk u u0 u1)
  rcases ow_next hcK ⟨H.t0, H.t1⟩ A H.M H.S H.L2 H.Z H.vc H.lh v H.hv H.lh' hA with q | ⟨q1, q2⟩ | ⟨⟨i, a, u, g1, g2, g3, g4, g5⟩, q2⟩
  · have := phi_quiet (d := 1) (e := 0) s1 H.t0 H.t1 t2 H.T H.pos E H.ni kp.1 kp.2 us H.A' (by omega) (cr_own cw)
    exact Or.inr this
  · have := phi_quiet (d := 0) (e := 0) s1 H.t0 H.t1 t2 H.T H.pos E H.ni kp.1 kp.2 us H.A' (by omega) (cr_own cw)
    exact Or.inl ⟨q1, by omega⟩
  · have hs := A.step
    unfold StepOk at hs
    rw [g1] at hs
    have l2 := H.L2
    unfold Loc2 at l2
    rw [g1] at l2
    have hu : u ≠ t + 1 := l2.2
    have hu2 : u ≤ c.t := hs.2.2
    have hu1 := hs.2.1
    have h0 : ∀ w, fU c m (th t) w = 0 ∧ wU c m t (th t) w = 0 := fun w => ⟨fU_no (by rw [g1]; simp), wU_no (by rw [g1]; exact fun f => f)⟩
    have fl := fl_fail (K := cxOf c jobs t) (h := { th t with x := { (th t).x with way := u - 1 } })
    have hw : wU c m t (hNext (cxOf c jobs t) (th t) v) (u - 1) = 1120 := by
      rw [g5, wU_fl fl.1, fl.2.1, fl.2.2, if_pos ⟨⟨rfl, g4⟩, g2, Or.inr g3⟩]
    have := phi_quiet (d := 1) (e := 1120) s1 H.t0 H.t1 t2 H.T H.pos E H.ni kp.1 kp.2 us H.A' (by omega) (cr_gave t2 (by omega) (by omega) (by omega) h0 hw)
    exact Or.inr this

/-- The others, where owners or the status of t may have turned and no job is finished. -/
theorem pt_other {c : Cfg} {jobs : List (Int × List InsD)} {m m' : Int → Int} {th : Int → Th} {k t u p : Int} {h' : Th} (u0 : 0 ≤ u) (u1 : u ≤ 3) (hu : u ≠ t) (p0 : 0 ≤ p) (hcu : CU c jobs m' (thSet th t h') ≤ CU c jobs m th)
    (ho : u < c.t → ow (cxOf c jobs u) m' (th u) ≤ ow (cxOf c jobs u) m (th u) + p) (hy : u < c.t → shn c m' u = shn c m u) (hcr : u < c.t → S4 (cr c jobs m' (thSet th t h') u) ≤ S4 (cr c jobs m th u)) : pt c jobs m' (thSet th t h') u ≤ pt c jobs m th u + p := by
  by_cases h1 : u < c.t
  · by_cases h2 : (th u).st = .idle
    · unfold pt
      rw [if_pos h1, if_pos h1, thset_off hu, h2]
      show (0 : Int) ≤ 0 + p
      omega
    · rw [pt_of h1 (by rw [thset_off hu]; exact h2), pt_of h1 h2]
      unfold pb
      rw [thset_off hu, hy h1]
      have := ho h1
      have := hcr h1
      omega
  · unfold pt
    rw [if_neg h1, if_neg h1]
    omega

/-- An owner turns. -/
theorem phi_own {c : Cfg} {jobs : List (Int × List InsD)} {m m' : Int → Int} {th : Int → Th} {k t : Int} {h' : Th} (s1 : 1 ≤ c.s) (t0 : 0 ≤ t) (t1 : t < c.t) (t4 : c.t ≤ 4) (T : ∀ u, 0 ≤ u → u < c.t → ThOk (cxOf c jobs u) k (th u)) (e0 : m' 0 = m 0) (ev : ∀ s, 0 ≤ s → s < c.s → m' (3 + s) = m (3 + s)) (es : ∀ u, 0 ≤ u → u < c.t → m' (3 + 2 * c.s + u) = m (3 + 2 * c.s + u))
    (hi : (th t).st ≠ .idle) (hi' : h'.st ≠ .idle) (hj : h'.job = (th t).job) (hus : usH jobs t h' ≤ usH jobs t (th t)) (ho : ow (cxOf c jobs t) m' h' + 19 ≤ ow (cxOf c jobs t) m (th t))
    (hf : ∀ u, 0 ≤ u → u < c.t → u ≠ t → fU c m (th t) u + wU c m t (th t) u ≤ fU c m h' u + wU c m t h' u) : Phi c jobs m' (thSet th t h') + 1 ≤ Phi c jobs m th := by
  have hn := nj_same (jobs := jobs) (t := t) hi hi' hj
  have hcu := cu_le (c := c) (jobs := jobs) (m := m) (m' := m') (th := th) (t := t) (d := 0) (h' := h') t0 t1 t4 (by rw [e0]; omega) (by omega)
  have st : ∀ u, 0 ≤ u → u < c.t → shn c m' u = shn c m u ∧ mrk c m' u = mrk c m u := fun u a b => by unfold shn mrk; rw [es u a b]; exact ⟨rfl, rfl⟩
  unfold Phi
  refine S4_step (t := t) (p := 6) t0 (by omega) (fun u u0 u1 hu => ?_) (by omega) ?_
  · exact pt_other (k := k) u0 u1 hu (by omega) hcu (fun h1 => ow_ph (K := cxOf c jobs u) s1 (T u u0 h1) ev (es u u0 h1)) (fun h1 => (st u u0 h1).1) (fun h1 => cr_other st hn u0 h1 hu)
  · rw [pt_of t1 (by rw [thset_at]; exact hi'), pt_of t1 hi]
    unfold pb
    rw [thset_at, hn, (st t t0 t1).1]
    have e2 : S4 (cr c jobs m' (thSet th t h') t) ≤ S4 (cr c jobs m th t) := S4_le (fun u u0 u1 => by
      unfold cr
      by_cases hv : u < c.t ∧ u ≠ t
      · rw [if_pos hv, if_pos hv, thset_at, thset_off hv.2]
        have e1 : aU c m' t u = aU c m t u := by unfold aU; rw [(st t t0 t1).1, (st t t0 t1).2, (st u u0 hv.1).1]
        have e2 : fU c m' h' u = fU c m h' u := by unfold fU; rw [(st u u0 hv.1).1]
        have e3 : wU c m' t h' u = wU c m t h' u := by unfold wU; rw [(st t t0 t1).2, (st u u0 hv.1).1]
        rw [e1, e2, e3]
        have := hf u u0 hv.1 hv.2
        omega
      · rw [if_neg hv, if_neg hv]; exact Int.le_refl _)
    omega

end Go.Proofs.Ytejadojilncbjab

namespace Go.Proofs.Ytejadojilncbjab
set_option linter.unusedVariables false

/-! All jobs come to their end, part 9: the loud accesses. -/

theorem Hy.fw0 {c : Cfg} {m : Int → Int} {t : Int} {h : Th} {h' : Th} (g : ¬ FlP h.st) (g2 : ∀ w, h.st ≠ .wait w) (u : Int) : fU c m h u + wU c m t h u ≤ fU c m h' u + wU c m t h' u := by
  rw [wU_no g, fU_no g2]
  have := u_le c m t u h'
  omega

/-- It gets a stripe. -/
theorem phi_got {c : Cfg} {jobs : List (Int × List InsD)} {m : Int → Int} {th : Int → Th} {k t : Int} {G : Gh} {v : AnsD} (H : Hy c jobs m th k t G v) {i : InsD} {a : Int} (hst : (th t).st = .gOwn i a) (hs : v.seen = 0) : Phi c jobs (mNext m (hOut (cxOf c jobs t) (th t))) (thSet th t (hNext (cxOf c jobs t) (th t) v)) + 1 ≤ Phi c jobs m th := by
  obtain ⟨⟨t1, t2⟩, ⟨w1, w2⟩, ⟨s1, s2⟩, _⟩ := cfgB_true H.hc
  have A := H.T t H.t0 H.t1
  have B := A.step
  unfold StepOk at B
  rw [hst] at B
  have b := tmodP s1 B.1.1
  have ho : hOut (cxOf c jobs t) (th t) = ⟨3, hOwn (cxOf c jobs t) (a.tmod c.s), 0, t + 1⟩ := by unfold hOut; rw [hst]; rfl
  have e := H.hv (by rw [ho]; simp)
  rw [ho] at e ⊢
  rw [mNext_swap m _ _ _ (by rw [← e]; exact hs)]
  have hn : hNext (cxOf c jobs t) (th t) v = { th t with x := { (th t).x with held := (th t).x.held ++ [a.tmod c.s] }, st := .gVer i a } := by
    unfold hNext
    rw [hst]
    simp only
    rw [if_pos hs]
    rfl
  have O1 := ow_got1 (K := cxOf c jobs t) (m := m) (v := v) s1 A H.t0 hst hs
  refine phi_own s1 H.t0 H.t1 t2 H.T (upd_off (by unfold hOwn; show (0 : Int) ≠ 3 + c.s + a.tmod c.s; have := b.1; omega)) (fun s x y => upd_off (by unfold hOwn; show 3 + s ≠ 3 + c.s + a.tmod c.s; have := b.1; omega)) (fun u x y => upd_off (by unfold hOwn; show 3 + 2 * c.s + u ≠ 3 + c.s + a.tmod c.s; have : a.tmod c.s < c.s := b.2; omega)) H.ni (by rw [hn]; simp) (by rw [hn]) (by rw [hn]; unfold usH; rw [hst]; exact Int.le_refl _) ?_ (fun u _ _ _ => Hy.fw0 (by rw [hst]; exact fun f => f) (by rw [hst]; simp) u)
  have O2 : ow (cxOf c jobs t) (upd m (hOwn (cxOf c jobs t) (a.tmod c.s)) (t + 1)) (hNext (cxOf c jobs t) (th t) v) + 21 ≤ ow (cxOf c jobs t) m (th t) := O1
  omega

/-- It gives a stripe back. -/
theorem phi_gave {c : Cfg} {jobs : List (Int × List InsD)} {m : Int → Int} {th : Int → Th} {k t : Int} {G : Gh} {v : AnsD} (H : Hy c jobs m th k t G v) {s : Int} {r : List Int} (hst : (∃ cc, (th t).st = .cOwn cc (s :: r)) ∨ (∃ e, (th t).st = .free e (s :: r)) ∨ (th t).st = .fOwn (s :: r)) : Phi c jobs (mNext m (hOut (cxOf c jobs t) (th t))) (thSet th t (hNext (cxOf c jobs t) (th t) v)) + 1 ≤ Phi c jobs m th := by
  obtain ⟨⟨t1, t2⟩, ⟨w1, w2⟩, ⟨s1, s2⟩, _⟩ := cfgB_true H.hc
  have A := H.T t H.t0 H.t1
  have B := A.step
  unfold StepOk at B
  have bs : 0 ≤ s ∧ s < c.s := by
    rcases hst with ⟨cc, q⟩ | ⟨e, q⟩ | q
    · rw [q] at B; exact B.2.2 s List.mem_cons_self
    · rw [q] at B; exact B.2 s List.mem_cons_self
    · rw [q] at B; exact B.2 s List.mem_cons_self
  have ho : hOut (cxOf c jobs t) (th t) = ⟨2, hOwn (cxOf c jobs t) s, 0, 0⟩ := by
    unfold hOut
    rcases hst with ⟨cc, q⟩ | ⟨e, q⟩ | q <;> rw [q]
  have O : ow (cxOf c jobs t) (upd m (hOwn (cxOf c jobs t) s) 0) (hNext (cxOf c jobs t) (th t) v) + 19 ≤ ow (cxOf c jobs t) m (th t) := by
    rcases hst with ⟨cc, q⟩ | ⟨e, q⟩ | q
    · exact ow_own1 q H.lh'
    · have := ow_free1 (K := cxOf c jobs t) (m := m) (m' := upd m (hOwn (cxOf c jobs t) s) 0) (v := v) q
      omega
    · have := ow_fown1 (K := cxOf c jobs t) (m := m) (m' := upd m (hOwn (cxOf c jobs t) s) 0) (v := v) q H.lh'
      omega
  have keep : (hNext (cxOf c jobs t) (th t) v).st ≠ .idle ∧ (hNext (cxOf c jobs t) (th t) v).job = (th t).job ∧ usH jobs t (hNext (cxOf c jobs t) (th t) v) ≤ usH jobs t (th t) ∧ ∀ u, fU c m (th t) u + wU c m t (th t) u ≤ fU c m (hNext (cxOf c jobs t) (th t) v) u + wU c m t (hNext (cxOf c jobs t) (th t) v) u := by
    rcases hst with ⟨cc, q⟩ | ⟨e, q⟩ | q
    · have hn : hNext (cxOf c jobs t) (th t) v = hOpenAt cc r (th t) := by unfold hNext; rw [q]
      rw [hn]
      refine ⟨by cases r <;> (intro f; cases f), by cases r <;> rfl, ?_, fun u => Hy.fw0 (by rw [q]; exact fun f => f) (by rw [q]; simp) u⟩
      have e1 : usH jobs t (th t) = cntJ jobs t (th t).job - 1 := by unfold usH; rw [q]
      rw [e1]
      cases r <;> exact Int.le_refl _
    · have hn : hNext (cxOf c jobs t) (th t) v = hFreeAt e r (th t) := by unfold hNext; rw [q]
      rw [hn]
      refine ⟨by cases r <;> (intro f; cases f), by cases r <;> rfl, ?_, fun u => Hy.fw0 (by rw [q]; exact fun f => f) (by rw [q]; simp) u⟩
      have e1 : usH jobs t (th t) = cntJ jobs t (th t).job := by unfold usH; rw [q]
      rw [e1]
      cases r with
      | nil => show cntJ jobs t (th t).job - 1 ≤ _; omega
      | cons p r => exact Int.le_refl _
    · have hn : hNext (cxOf c jobs t) (th t) v = hFailOwn (cxOf c jobs t) r (th t) := by unfold hNext; rw [q]
      rw [hn]
      have fl := fl_failown (K := cxOf c jobs t) (h := th t) r
      have e1 : usH jobs t (th t) = cntJ jobs t (th t).job := by unfold usH; rw [q]
      have jb : (hFailOwn (cxOf c jobs t) r (th t)).job = (th t).job := by
        unfold hFailOwn hCount
        split
        · split <;> rfl
        · rfl
      have ni' : (hFailOwn (cxOf c jobs t) r (th t)).st ≠ .idle := fun f => by rw [f] at fl; exact fl.1
      refine ⟨ni', jb, ?_, fun u => ?_⟩
      · rw [e1, ← jb]; exact (us_le jobs t _ ni').1
      · rw [fU_no (h := th t) (by rw [q]; simp), wU_fl (h := th t) (by rw [q]; trivial), wU_fl fl.1, fl.2.1, fl.2.2]
        have := u_le c m t u (hFailOwn (cxOf c jobs t) r (th t))
        omega
  rw [ho, mNext_store]
  exact phi_own s1 H.t0 H.t1 t2 H.T (upd_off (by unfold hOwn; show (0 : Int) ≠ 3 + c.s + s; omega)) (fun s' x y => upd_off (by unfold hOwn; show 3 + s' ≠ 3 + c.s + s; omega)) (fun u x y => upd_off (by unfold hOwn; show 3 + 2 * c.s + u ≠ 3 + c.s + s; omega)) H.ni keep.1 keep.2.1 keep.2.2.1 O (fun u _ _ _ => keep.2.2.2 u)

/-- A version turns: a stripe is shut, or opened. -/
theorem phi_ver {c : Cfg} {jobs : List (Int × List InsD)} {m : Int → Int} {th : Int → Th} {k t : Int} {G : Gh} {v : AnsD} (H : Hy c jobs m th k t G v) {cc s : Int} {r : List Int} (hst : (th t).st = .cShut cc (s :: r) ∨ ((th t).st = .cOpen cc (s :: r) ∧ m (3 + s) = -1)) : Phi c jobs (mNext m (hOut (cxOf c jobs t) (th t))) (thSet th t (hNext (cxOf c jobs t) (th t) v)) + 1 ≤ Phi c jobs m th := by
  obtain ⟨⟨t1, t2⟩, ⟨w1, w2⟩, ⟨s1, s2⟩, _⟩ := cfgB_true H.hc
  have A := H.T t H.t0 H.t1
  have B := A.step
  unfold StepOk at B
  have bs : 0 ≤ s ∧ s < c.s := by
    rcases hst with q | ⟨q, _⟩
    · rw [q] at B; exact B.2.2 s List.mem_cons_self
    · rw [q] at B; exact B.2.2 s List.mem_cons_self
  obtain ⟨w, ho⟩ : ∃ w, hOut (cxOf c jobs t) (th t) = ⟨2, 3 + s, 0, w⟩ := by
    unfold hOut
    rcases hst with q | ⟨q, _⟩
    · rw [q]; exact ⟨-1, rfl⟩
    · rw [q]; exact ⟨cc + 1, rfl⟩
  rw [ho, mNext_store]
  have keep : (hNext (cxOf c jobs t) (th t) v).st ≠ .idle ∧ (hNext (cxOf c jobs t) (th t) v).job = (th t).job ∧ usH jobs t (hNext (cxOf c jobs t) (th t) v) ≤ usH jobs t (th t) := by
    rcases hst with q | ⟨q, _⟩
    · have hn : hNext (cxOf c jobs t) (th t) v = hShutAt cc r (th t) := by unfold hNext; rw [q]
      rw [hn]
      have e1 : usH jobs t (th t) = cntJ jobs t (th t).job := by unfold usH; rw [q]
      rw [e1]
      cases r with
      | nil => exact ⟨(by intro f; cases f), rfl, Int.le_refl _⟩
      | cons p r => exact ⟨(by intro f; cases f), rfl, Int.le_refl _⟩
    · have hn : hNext (cxOf c jobs t) (th t) v = { th t with st := .cOwn cc (s :: r) } := by unfold hNext; rw [q]
      rw [hn]
      have e1 : usH jobs t (th t) = cntJ jobs t (th t).job - 1 := by unfold usH; rw [q]
      rw [e1]
      exact ⟨(by intro f; cases f), rfl, Int.le_refl _⟩
  have fw : ∀ u, fU c m (th t) u + wU c m t (th t) u ≤ fU c m (hNext (cxOf c jobs t) (th t) v) u + wU c m t (hNext (cxOf c jobs t) (th t) v) u := fun u => by
    rcases hst with q | ⟨q, _⟩
    · exact Hy.fw0 (by rw [q]; exact fun f => f) (by rw [q]; simp) u
    · exact Hy.fw0 (by rw [q]; exact fun f => f) (by rw [q]; simp) u
  have hn := nj_same (jobs := jobs) (t := t) H.ni keep.1 keep.2.1
  have off : ∀ x, x ≠ 3 + s → upd m (3 + s) w x = m x := fun x hx => upd_off hx
  have hcu := cu_le (c := c) (jobs := jobs) (m := m) (m' := upd m (3 + s) w) (th := th) (t := t) (d := 0) (h' := hNext (cxOf c jobs t) (th t) v) H.t0 H.t1 t2 (by rw [off 0 (by omega)]; omega) (by have := keep.2.2; omega)
  have st : ∀ u, 0 ≤ u → u < c.t → shn c (upd m (3 + s) w) u = shn c m u ∧ mrk c (upd m (3 + s) w) u = mrk c m u := fun u a b => by unfold shn mrk; rw [off _ (by omega)]; exact ⟨rfl, rfl⟩
  have own : S4 (cr c jobs (upd m (3 + s) w) (thSet th t (hNext (cxOf c jobs t) (th t) v)) t) ≤ S4 (cr c jobs m th t) := S4_le (fun u u0 u1 => by
    unfold cr
    by_cases hv : u < c.t ∧ u ≠ t
    · rw [if_pos hv, if_pos hv, thset_at, thset_off hv.2]
      have e1 : aU c (upd m (3 + s) w) t u = aU c m t u := by unfold aU; rw [(st t H.t0 H.t1).1, (st t H.t0 H.t1).2, (st u u0 hv.1).1]
      have e2 : fU c (upd m (3 + s) w) (hNext (cxOf c jobs t) (th t) v) u = fU c m (hNext (cxOf c jobs t) (th t) v) u := by unfold fU; rw [(st u u0 hv.1).1]
      have e3 : wU c (upd m (3 + s) w) t (hNext (cxOf c jobs t) (th t) v) u = wU c m t (hNext (cxOf c jobs t) (th t) v) u := by unfold wU; rw [(st t H.t0 H.t1).2, (st u u0 hv.1).1]
      rw [e1, e2, e3]
      have := fw u
      omega
    · rw [if_neg hv, if_neg hv]; exact Int.le_refl _)
  unfold Phi
  rcases hst with q | ⟨q, hz⟩
  · have O := ow_shut1 (K := cxOf c jobs t) (m := m) (m' := upd m (3 + s) w) (v := v) q
    refine S4_step (t := t) (p := 1123) H.t0 (by have := H.t1; omega) (fun u u0 u1 hu => ?_) (by omega) ?_
    · exact pt_other (k := k) u0 u1 hu (by omega) hcu (fun h1 => ow_ver (K := cxOf c jobs u) (fun x hx => off x (by have : 3 + c.s ≤ x := hx; omega)) ⟨u0, h1⟩ s1 (H.T u u0 h1).step H.pos) (fun h1 => (st u u0 h1).1) (fun h1 => cr_other st hn u0 h1 hu)
    · rw [pt_of H.t1 (by rw [thset_at]; exact keep.1), pt_of H.t1 H.ni]
      unfold pb
      rw [thset_at, hn, (st t H.t0 H.t1).1]
      omega
  · have O := ow_open1 (K := cxOf c jobs t) (m := m) (m' := upd m (3 + s) w) (v := v) q
    refine S4_step (t := t) (p := 0) H.t0 (by have := H.t1; omega) (fun u u0 u1 hu => ?_) (by omega) ?_
    · exact pt_other (k := k) u0 u1 hu (by omega) hcu (fun h1 => by have := ow_opened (K := cxOf c jobs u) (v := w) ⟨u0, h1⟩ s1 bs (H.T u u0 h1) H.pos hz; omega) (fun h1 => (st u u0 h1).1) (fun h1 => cr_other st hn u0 h1 hu)
    · rw [pt_of H.t1 (by rw [thset_at]; exact keep.1), pt_of H.t1 H.ni]
      unfold pb
      rw [thset_at, hn, (st t H.t0 H.t1).1]
      omega

/-- A stamp is drawn. -/
theorem phi_stamp {c : Cfg} {jobs : List (Int × List InsD)} {m : Int → Int} {th : Int → Th} {k t : Int} {G : Gh} {v : AnsD} (H : Hy c jobs m th k t G v) {cc : Int} (hst : (th t).st = .cStamp cc) (hcl : m 0 = cc) : Phi c jobs (mNext m (hOut (cxOf c jobs t) (th t))) (thSet th t (hNext (cxOf c jobs t) (th t) v)) + 1 ≤ Phi c jobs m th := by
  obtain ⟨⟨t1, t2⟩, ⟨w1, w2⟩, ⟨s1, s2⟩, _⟩ := cfgB_true H.hc
  have ho : hOut (cxOf c jobs t) (th t) = ⟨2, 0, 0, cc + 1⟩ := by unfold hOut; rw [hst]
  rw [ho, mNext_store]
  have hn' : hNext (cxOf c jobs t) (th t) v = { th t with list := modLast (th t).list (fun q => { q with stamp := cc + 1 }), st := .cLeave cc } := by unfold hNext; rw [hst]
  have ni' : (hNext (cxOf c jobs t) (th t) v).st ≠ .idle := by rw [hn']; simp
  have hn := nj_same (jobs := jobs) (t := t) H.ni ni' (by rw [hn'])
  have off : ∀ x, x ≠ 0 → upd m 0 (cc + 1) x = m x := fun x hx => upd_off hx
  have hus : usH jobs t (hNext (cxOf c jobs t) (th t) v) + 1 ≤ usH jobs t (th t) := by
    have e1 : usH jobs t (th t) = cntJ jobs t (th t).job := by unfold usH; rw [hst]
    rw [hn', e1]
    show cntJ jobs t (th t).job - 1 + 1 ≤ _
    omega
  have hcu := cu_le (c := c) (jobs := jobs) (m := m) (m' := upd m 0 (cc + 1)) (th := th) (t := t) (d := 1) (h' := hNext (cxOf c jobs t) (th t) v) H.t0 H.t1 t2 (by rw [upd_at]; omega) hus
  have st : ∀ u, 0 ≤ u → u < c.t → shn c (upd m 0 (cc + 1)) u = shn c m u ∧ mrk c (upd m 0 (cc + 1)) u = mrk c m u := fun u a b => by unfold shn mrk; rw [off _ (by omega)]; exact ⟨rfl, rfl⟩
  have own : S4 (cr c jobs (upd m 0 (cc + 1)) (thSet th t (hNext (cxOf c jobs t) (th t) v)) t) ≤ S4 (cr c jobs m th t) := S4_le (fun u u0 u1 => by
    unfold cr
    by_cases hv : u < c.t ∧ u ≠ t
    · rw [if_pos hv, if_pos hv, thset_at, thset_off hv.2]
      have e1 : aU c (upd m 0 (cc + 1)) t u = aU c m t u := by unfold aU; rw [(st t H.t0 H.t1).1, (st t H.t0 H.t1).2, (st u u0 hv.1).1]
      rw [e1]
      have f1 := u_le c (upd m 0 (cc + 1)) t u (hNext (cxOf c jobs t) (th t) v)
      rw [fU_no (h := th t) (by rw [hst]; simp), wU_no (h := th t) (by rw [hst]; exact fun f => f)]
      omega
    · rw [if_neg hv, if_neg hv]; exact Int.le_refl _)
  have O := ow_stamp1 (K := cxOf c jobs t) (m := m) (m' := upd m 0 (cc + 1)) (v := v) hst
  unfold Phi
  refine S4_step (t := t) (p := 0) H.t0 (by have := H.t1; omega) (fun u u0 u1 hu => ?_) (by omega) ?_
  · refine pt_other (k := k) u0 u1 hu (by omega) hcu (fun h1 => ?_) (fun h1 => (st u u0 h1).1) (fun h1 => cr_other st hn u0 h1 hu)
    have e := Same4.ow (jobs := jobs) (m := m) (m' := fun x => if x = 0 then m 0 else upd m 0 (cc + 1) x) ⟨rfl, fun s a b => by rw [if_neg (by omega)]; exact off _ (by omega), fun x a b => by rw [if_neg (by omega)]; exact off _ (by omega)⟩ s1 u0 h1 (H.T u u0 h1) H.pos
    have e2 : ow (cxOf c jobs u) (upd m 0 (cc + 1)) (th u) = ow (cxOf c jobs u) (fun x => if x = 0 then m 0 else upd m 0 (cc + 1) x) (th u) := by
      have E5 : (∀ s, 0 ≤ s → s < c.s → (fun x => if x = 0 then m 0 else upd m 0 (cc + 1) x) (3 + s) = upd m 0 (cc + 1) (3 + s)) := fun s a b => if_neg (by omega)
      have E6 : (∀ x, 3 + c.s ≤ x → x < 3 + 2 * c.s + c.t → (fun x => if x = 0 then m 0 else upd m 0 (cc + 1) x) x = upd m 0 (cc + 1) x) := fun x a b => if_neg (by omega)
      unfold ow
      rw [att_same (K := cxOf c jobs u) (m := upd m 0 (cc + 1)) (m' := fun x => if x = 0 then m 0 else upd m 0 (cc + 1) x) s1 (H.T u u0 h1).step E5, dd_same (K := cxOf c jobs u) (m := upd m 0 (cc + 1)) (m' := fun x => if x = 0 then m 0 else upd m 0 (cc + 1) x) (H.T u u0 h1).x E5, mm_same (K := cxOf c jobs u) (m := upd m 0 (cc + 1)) (m' := fun x => if x = 0 then m 0 else upd m 0 (cc + 1) x) (E6 _ (by show 3 + c.s ≤ 3 + 2 * c.s + u; omega) (by show 3 + 2 * c.s + u < _; omega)), ph_same (K := cxOf c jobs u) (m := upd m 0 (cc + 1)) (m' := fun x => if x = 0 then m 0 else upd m 0 (cc + 1) x) E6 ⟨u0, h1⟩ s1 (H.T u u0 h1).step (fun s a b => by rw [off _ (by show 3 + c.s + s ≠ 0; have : s < c.s := b; omega)]; exact H.pos s a b)]
    rw [e2, e]
    omega
  · rw [pt_of H.t1 (by rw [thset_at]; exact ni'), pt_of H.t1 H.ni]
    unfold pb
    rw [thset_at, hn, (st t H.t0 H.t1).1]
    omega

end Go.Proofs.Ytejadojilncbjab
