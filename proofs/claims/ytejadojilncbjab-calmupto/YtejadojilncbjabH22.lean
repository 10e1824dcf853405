import Derived.Test.YtejadojilncbjabH21
import Derived.Test.YtejadojilncbjabH14
namespace Go.Proofs.Ytejadojilncbjab
set_option linter.unusedVariables false

/-! All jobs come to their end, part 12: a job is finished. -/

theorem cnt_at {jobs : List (Int × List InsD)} {t : Int} {j : Nat} (hj : j < jobs.length) : cntJ jobs t j = cntJ jobs t (j + 1) + if (jobs.getD j (0, [])).1 = t then 1 else 0 := by
  unfold cntJ
  have e : jobs.getD j (0, []) = jobs[j] := by simp [List.getD, hj]
  rw [e, List.drop_eq_getElem_cons hj, List.filter_cons]
  by_cases q : jobs[j].1 = t
  · rw [if_pos (by simp [q]), if_pos q, List.length_cons]; omega
  · rw [if_neg (by simp [q]), if_neg q]; omega
theorem cnt_skip {jobs : List (Int × List InsD)} {t : Int} {j : Nat} : ∀ n : Nat, j + n ≤ jobs.length → (∀ i, j ≤ i → i < j + n → (jobs.getD i (0, [])).1 ≠ t) → cntJ jobs t j = cntJ jobs t (j + n)
  | 0, _, _ => rfl
  | n + 1, hl, hn => by
    rw [cnt_skip n (by omega) (fun i a b => hn i a (by omega)), cnt_at (j := j + n) (by omega), if_neg (hn _ (by omega) (by omega))]
    rw [show j + n + 1 = j + (n + 1) from by omega]; omega
theorem cnt_none {jobs : List (Int × List InsD)} {t : Int} {j : Nat} (hn : ∀ i, j ≤ i → i < jobs.length → (jobs.getD i (0, [])).1 ≠ t) : cntJ jobs t j = 0 := by
  have z : ∀ n, jobs.length ≤ n → cntJ jobs t n = 0 := fun n q => by unfold cntJ; rw [List.drop_eq_nil_of_le q]; rfl
  by_cases h : jobs.length ≤ j
  · exact z j h
  · rw [cnt_skip (jobs.length - j) (by omega) (fun i a b => hn i a (by omega))]
    exact z _ (by omega)

theorem fw_le (c : Cfg) (m : Int → Int) (t u : Int) (h : Th) : aU c m t u + fU c m h u + wU c m t h u ≤ 2290 := by
  have P := u_le c m t u h
  by_cases g : FlP h.st
  · have : fU c m h u = 0 := fU_no (fun w e => by rw [e] at g; exact g)
    omega
  · have : wU c m t h u = 0 := wU_no g
    omega

theorem to_cnt {c : Cfg} {jobs : List (Int × List InsD)} {t : Int} {h : Th} {j : Nat} (hj : j < jobs.length) (hm : (jobs.getD j (0, [])).1 = t) : (((hTo (cxOf c jobs t) (j + 1) h).st = .start ∧ (hTo (cxOf c jobs t) (j + 1) h).rank = 0 ∧ (hTo (cxOf c jobs t) (j + 1) h).fails = 0) ∨ ((hTo (cxOf c jobs t) (j + 1) h).st = .idle ∧ cntJ jobs t j = 1)) ∧ (hTo (cxOf c jobs t) (j + 1) h).x = h.x ∧ njH jobs t (hTo (cxOf c jobs t) (j + 1) h) = cntJ jobs t j - 1 ∧ usH jobs t (hTo (cxOf c jobs t) (j + 1) h) = cntJ jobs t j - 1 := by
  have e := cnt_at (t := t) hj
  rw [if_pos hm] at e
  rcases to_job (cxOf c jobs t) (j + 1) h with ⟨k, k1, k2, k3, k4, q⟩ | ⟨k1, q⟩
  · have k2' : k < jobs.length := k2
    have e2 : cntJ jobs t (j + 1) = cntJ jobs t k := by
      have := cnt_skip (jobs := jobs) (t := t) (j := j + 1) (k - (j + 1)) (by omega) (fun i a b => k4 i a (by omega))
      rw [this, show j + 1 + (k - (j + 1)) = k from by omega]
    have n : njH jobs t (hTo (cxOf c jobs t) (j + 1) h) = cntJ jobs t k := by rw [q]; rfl
    have u : usH jobs t (hTo (cxOf c jobs t) (j + 1) h) = cntJ jobs t k := by rw [q]; rfl
    refine ⟨Or.inl (by rw [q]; exact ⟨rfl, rfl, rfl⟩), by rw [q], by omega, by omega⟩
  · have e2 : cntJ jobs t (j + 1) = 0 := cnt_none k1
    have n : njH jobs t (hTo (cxOf c jobs t) (j + 1) h) = 0 := by rw [q]; rfl
    have u : usH jobs t (hTo (cxOf c jobs t) (j + 1) h) = 0 := by rw [q]; rfl
    refine ⟨Or.inr ⟨by rw [q], by omega⟩, by rw [q], by omega, by omega⟩

/-- A job is finished. -/
theorem phi_fin {c : Cfg} {jobs : List (Int × List InsD)} {m : Int → Int} {th : Int → Th} {k t e : Int} {G : Gh} {v : AnsD} (H : Hy c jobs m th k t G v) (hst : (th t).st = .fin e) (hj : (th t).job < jobs.length ∧ (jobs.getD (th t).job (0, [])).1 = t) (hjo : ∀ u, 0 ≤ u → u < c.t → (th u).st ≠ .idle → 1 ≤ cntJ jobs u (th u).job) (hid : ∀ u, 0 ≤ u → u < c.t → (th u).st = .idle → shn c m u = 0) :
    Phi c jobs (mNext m (hOut (cxOf c jobs t) (th t))) (thSet th t (hNext (cxOf c jobs t) (th t) v)) + 1 ≤ Phi c jobs m th := by
  obtain ⟨⟨t1, t2⟩, ⟨w1, w2⟩, ⟨s1, s2⟩, _, ⟨r1, r2⟩, _, ⟨f1, f2⟩⟩ := cfgB_true H.hc
  have tt0 := H.t0
  have tt1 := H.t1
  have ho : hOut (cxOf c jobs t) (th t) = ⟨2, 3 + 2 * c.s + t, 0, 0⟩ := by unfold hOut; rw [hst]; rfl
  rw [ho, mNext_store]
  have hn' : ∃ X : Th, X.x = (th t).x ∧ hNext (cxOf c jobs t) (th t) v = hTo (cxOf c jobs t) ((th t).job + 1) X := by exact ⟨{ (th t).ended v.num e with ends := (th t).ends.set (th t).job ⟨e, regOf (th t).x 0, regOf (th t).x 1, regOf (th t).x 2, regOf (th t).x 3⟩ }, rfl, by unfold hNext; rw [hst]⟩
  obtain ⟨X, hX, hn'⟩ := hn'
  obtain ⟨F, fx, fn, fu⟩ := to_cnt (c := c) (h := X) hj.1 hj.2
  rw [← hn'] at F fx fn fu
  rw [hX] at fx
  have n0 : njH jobs t (th t) = cntJ jobs t (th t).job := by unfold njH; rw [hst]
  have u0' : usH jobs t (th t) = cntJ jobs t (th t).job - 1 := by unfold usH; rw [hst]
  have off : ∀ y, y ≠ 3 + 2 * c.s + t → upd m (3 + 2 * c.s + t) 0 y = m y := fun y hy => upd_off hy
  have shT : shn c (upd m (3 + 2 * c.s + t) 0) t = 0 := by unfold shn; rw [upd_at]; rfl
  have mkT : mrk c (upd m (3 + 2 * c.s + t) 0) t = 0 := by unfold mrk; rw [upd_at]; rfl
  have st : ∀ u, u ≠ t → shn c (upd m (3 + 2 * c.s + t) 0) u = shn c m u ∧ mrk c (upd m (3 + 2 * c.s + t) 0) u = mrk c m u := fun u q => by unfold shn mrk; rw [off _ (by omega)]; exact ⟨rfl, rfl⟩
  generalize upd m (3 + 2 * c.s + t) 0 = m' at *
  generalize hNext (cxOf c jobs t) (th t) v = h' at *
  have hcu := cu_le (c := c) (jobs := jobs) (m := m) (m' := m') (th := th) (t := t) (d := 0) (h' := h') tt0 tt1 t2 (by rw [off 0 (by omega)]; omega) (by omega)
  have nz : ∀ u, 0 ≤ u → u < c.t → 0 ≤ njH jobs u (th u) ∧ 0 ≤ usH jobs u (th u) ∧ (0 < shn c m u → 1 ≤ njH jobs u (th u)) := fun u a b => by
    by_cases q : (th u).st = .idle
    · refine ⟨by unfold njH; rw [q]; exact Int.le_refl _, by unfold usH; rw [q]; exact Int.le_refl _, fun z => ?_⟩
      have := hid u a b q; omega
    · have c1 := hjo u a b q
      have us := us_le jobs u (th u) q
      have e : njH jobs u (th u) = cntJ jobs u (th u).job := by
        unfold njH
        cases hs : (th u).st <;> first
          | exact absurd hs q
          | rfl
      omega
  have crt : ∀ y, 0 ≤ y → y ≤ 3 → 0 ≤ cr c jobs m th t y ∧ (h'.st = .start → cr c jobs m' (thSet th t h') t y ≤ cr c jobs m th t y + 1145) := fun y y0 y3 => by
    unfold cr
    by_cases hv : y < c.t ∧ y ≠ t
    · rw [if_pos hv, if_pos hv, thset_at, thset_off hv.2, fU_no (h := th t) (by rw [hst]; simp), wU_no (h := th t) (by rw [hst]; exact fun f => f)]
      have z := nz y y0 hv.1
      have P := u_le c m t y (th t)
      have P' := u_le c m' t y h'
      refine ⟨?_, fun _ => by omega⟩
      by_cases q : 0 < shn c m y
      · have := z.2.2 q; omega
      · have : aU c m t y = 0 := by unfold aU; rw [if_neg (fun r => q r.2.1)]
        omega
    · rw [if_neg hv, if_neg hv]; exact ⟨Int.le_refl _, fun _ => by omega⟩
  unfold Phi
  refine S4_step (t := t) (p := 6) tt0 (by omega) (fun u u0 u1 hu => ?_) (by omega) ?_
  · refine pt_other (k := k) u0 u1 hu (by omega) hcu (fun h1 => ow_ph (K := cxOf c jobs u) s1 (H.T u u0 h1) (fun s a b => off _ (by have : s < c.s := b; omega)) (off _ (by show 3 + 2 * c.s + u ≠ _; omega))) (fun h1 => (st u hu).1) (fun h1 => S4_le (fun y y0 y1 => ?_))
    unfold cr
    by_cases hv : y < c.t ∧ y ≠ u
    · rw [if_pos hv, if_pos hv, thset_off hu]
      by_cases ht : y = t
      · rw [ht, thset_at]
        have P := fw_le c m u t (th u)
        have P' := u_le c m' u t (th u)
        omega
      · rw [thset_off ht]
        have g1 : aU c m' u y = aU c m u y := by unfold aU; rw [(st u hu).1, (st u hu).2, (st y ht).1]
        have g2 : fU c m' (th u) y = fU c m (th u) y := by unfold fU; rw [(st y ht).1]
        have g3 : wU c m' u (th u) y = wU c m u (th u) y := by unfold wU; rw [(st u hu).2, (st y ht).1]
        rw [g1, g2, g3]; exact Int.le_refl _
    · rw [if_neg hv, if_neg hv]; exact Int.le_refl _
  · have c1 := hjo t tt0 tt1 H.ni
    have z : 0 ≤ ra (cxOf c jobs t) (th t) := by
      unfold ra
      split
      · rename_i r0
        rw [hst]
        have := (H.Z.fr r0).2 (by rw [hst]; simp)
        show 0 ≤ (cxOf c jobs t).c.r + 1 - (th t).fails
        omega
      · exact Int.le_refl _
    have o1 : ow (cxOf c jobs t) m (th t) = 20 + 1120 * ra (cxOf c jobs t) (th t) - 13 * (th t).x.valid := by
      unfold ow att ph dd mm shl
      rw [hst]
      simp only
      omega
    have y0 : 0 ≤ (if shn c m t = 0 then (1145 : Int) else 0) := by split <;> omega
    have c0 := crt 0 (by omega) (by omega)
    have c2 := crt 1 (by omega) (by omega)
    have c3 := crt 2 (by omega) (by omega)
    have c4 := crt 3 (by omega) (by omega)
    rw [pt_of tt1 H.ni]
    rcases F with ⟨a1, a2, a3⟩ | ⟨a1, a2⟩
    · rw [pt_of tt1 (by rw [thset_at, a1]; simp)]
      unfold pb
      rw [thset_at, shT, if_pos rfl]
      have o2 : ow (cxOf c jobs t) m' h' ≤ 901 + 1120 * (c.r + 1) + 26960 - 13 * (th t).x.valid := by
        have e1 : att (cxOf c jobs t) m' h' = 881 + r0 h' := by unfold att; rw [a1]
        have e2 : r0 h' ≤ 20 := by unfold r0; split <;> omega
        have e3 : ph (cxOf c jobs t) m' h' = 0 := by unfold ph; rw [a1]
        have e4 : dd m' h' = 0 := by unfold dd; rw [a1]
        have e5 : mm (cxOf c jobs t) m' h' = 0 := by unfold mm; rw [a1]; exact if_neg (fun q => q mkT)
        have e6 : shl h' = 8 := by unfold shl; rw [a1]
        have e7 : ra (cxOf c jobs t) h' = c.r + 1 := by unfold ra; rw [if_pos a2, a1, a3]; show c.r + 1 - 0 = _; omega
        unfold ow
        rw [e1, e3, e4, e5, e6, e7, fx]
        omega
      have d0 := c0.2 a1
      have d2 := c2.2 a1
      have d3 := c3.2 a1
      have d4 := c4.2 a1
      unfold S4
      omega
    · have e1 : pt c jobs m' (thSet th t h') t = 0 := by unfold pt; rw [if_pos tt1, thset_at, a1]
      rw [e1]
      have cu : (th t).x.valid ≤ CU c jobs m th := by
        have g : ∀ u, 0 ≤ u → 0 ≤ (if u < c.t then usH jobs u (th u) else 0) := fun u a => by
          split
          · rename_i b; exact (nz u a b).2.1
          · exact Int.le_refl _
        have g0 := g 0 (by omega)
        have g1 := g 1 (by omega)
        have g2 := g 2 (by omega)
        have g3 := g 3 (by omega)
        have vc := H.vc
        unfold CU S4
        simp only
        omega
      unfold pb S4
      omega

end Go.Proofs.Ytejadojilncbjab

namespace Go.Proofs.Ytejadojilncbjab
set_option linter.unusedVariables false

/-! All jobs come to their end, part 13: what stays true of a thread. -/

structure Yt (K : Cx) (clk : Int) (Q : Prop) (h : Th) : Prop where
  fl : 0 ≤ h.fails
  fr : h.rank = 0 → (h.st = .fTake → h.fails ≤ K.c.r + 1) ∧ (h.st ≠ .fTake → h.fails ≤ K.c.r)
  va : h.x.valid ≤ clk
  xc : ∀ k, h.st = .xClock k → h.x.valid < clk
  xv : ∀ k c r, h.st = .xVer k c r → h.x.valid < c ∧ c ≤ clk
  wy : h.x.way ≠ K.me
  ww : ∀ w, h.st = .wait w → w ≠ K.me
  rs : ∀ n, h.st = .rest n → n ≤ 8
  ts : h.st = .tShow → Q

theorem Yt.mono {K : Cx} {c c' : Int} {Q : Prop} {h : Th} (Y : Yt K c Q h) (q : c ≤ c') : Yt K c' Q h :=
  ⟨Y.fl, Y.fr, Int.le_trans Y.va q, fun k e => Int.lt_of_lt_of_le (Y.xc k e) q, fun k d r e => ⟨(Y.xv k d r e).1, Int.le_trans (Y.xv k d r e).2 q⟩, Y.wy, Y.ww, Y.rs, Y.ts⟩

/-- The states of which nothing more is asked. -/
def Pln : St → Prop
  | .fTake => False
  | .wait _ => False
  | .xClock _ => False
  | .xVer _ _ _ => False
  | .rest _ => False
  | .tShow => False
  | _ => True

/-- What an access leaves of the numbers. -/
structure Sm (h h' : Th) : Prop where
  rank : h'.rank = h.rank
  fails : h'.fails = h.fails
  way : h'.x.way = h.x.way
  valid : h'.x.valid = h.x.valid

theorem Sm.of {h h' : Th} (d : GoD h h') : Sm h h' := ⟨d.rank, d.fails, d.way, d.valid⟩
theorem Sm.trans {a b c : Th} (x : Sm a b) (y : Sm b c) : Sm a c := ⟨y.rank.trans x.rank, y.fails.trans x.fails, y.way.trans x.way, y.valid.trans x.valid⟩

theorem yt_pln {K : Cx} {clk : Int} {Q : Prop} {h h' : Th} (Y : Yt K clk Q h) (e : h.st ≠ .fTake) (hr : h'.rank = h.rank) (hf : h'.fails = h.fails) (hw : h'.x.way ≠ K.me) (hv : h'.x.valid ≤ clk) (g : Pln h'.st) : Yt K clk Q h' := by
  refine ⟨by rw [hf]; exact Y.fl, fun q => ?_, hv, fun k q => ?_, fun k d r q => ?_, hw, fun w q => ?_, fun n q => ?_, fun q => ?_⟩
  · rw [hf]
    have := (Y.fr (by rw [← hr]; exact q)).2 e
    exact ⟨fun _ => by omega, fun _ => this⟩
  · rw [q] at g; exact g.elim
  · rw [q] at g; exact g.elim
  · rw [q] at g; exact g.elim
  · rw [q] at g; exact g.elim
  · rw [q] at g; exact g.elim
theorem yt_sm {K : Cx} {clk : Int} {Q : Prop} {h h' : Th} (Y : Yt K clk Q h) (e : h.st ≠ .fTake) (S : Sm h h') (g : Pln h'.st) : Yt K clk Q h' := yt_pln Y e S.rank S.fails (by rw [S.way]; exact Y.wy) (by rw [S.valid]; exact Y.va) g

theorem pln_go {s : St} (g : GoSt s) : Pln s := by cases s <;> first | trivial | exact g.elim
theorem sm_go {K : Cx} {h : Th} (hb : (h.x.begun : Int) ≤ K.c.f) : Sm h (hGo K h) ∧ Pln (hGo K h).st := ⟨Sm.of (god_go hb).1, pln_go (god_go hb).2⟩
theorem sm_got {K : Cx} {h : Th} {i : InsD} {a v : Int} (hb : (h.x.begun : Int) ≤ K.c.f) : Sm h (hGot K i a v h) ∧ Pln (hGot K i a v h).st := by
  unfold hGot
  have := god_go (K := K) (h := ({ h with x := setReg h.x i.a v } : Th).noted 7 a v) hb
  exact ⟨(Sm.of (god_rd h i.a a v)).trans (Sm.of this.1), pln_go this.2⟩
theorem sm_wrote {K : Cx} {h : Th} {i : InsD} {a : Int} (hb : (h.x.begun : Int) ≤ K.c.f) : Sm h (hWrote K i a h) ∧ Pln (hWrote K i a h).st := by
  unfold hWrote
  split
  · have := god_go (K := K) (h := hPut i a h) hb
    exact ⟨(Sm.of (god_put h i a)).trans (Sm.of this.1), pln_go this.2⟩
  · exact ⟨⟨rfl, rfl, rfl, rfl⟩, trivial⟩
theorem sm_shut {h : Th} {c : Int} (r : List Int) : Sm h (hShutAt c r h) ∧ Pln (hShutAt c r h).st := by cases r <;> exact ⟨⟨rfl, rfl, rfl, rfl⟩, trivial⟩
theorem sm_still {h : Th} {c : Int} : ∀ r : List EntD, Sm h (hStillAt c r h) ∧ Pln (hStillAt c r h).st
  | [] => sm_shut _
  | e :: r => by
    unfold hStillAt
    split
    · exact sm_still r
    · exact ⟨⟨rfl, rfl, rfl, rfl⟩, trivial⟩
theorem sm_open {h : Th} {c : Int} (r : List Int) : Sm h (hOpenAt c r h) ∧ Pln (hOpenAt c r h).st := by cases r <;> exact ⟨⟨rfl, rfl, rfl, rfl⟩, trivial⟩
theorem sm_word {h : Th} {c : Int} (r : List EntD) : Sm h (hWordAt c r h) ∧ Pln (hWordAt c r h).st := by
  cases r with
  | nil => exact sm_open _
  | cons q r => exact ⟨⟨rfl, rfl, rfl, rfl⟩, trivial⟩
theorem sm_free {h : Th} {e : Int} (r : List Int) : Sm h (hFreeAt e r h) ∧ Pln (hFreeAt e r h).st := by cases r <;> exact ⟨⟨rfl, rfl, rfl, rfl⟩, trivial⟩

theorem yt_failown {K : Cx} {clk : Int} {Q : Prop} {h : Th} (Y : Yt K clk Q h) (e : h.st ≠ .fTake) (r : List Int) : Yt K clk Q (hFailOwn K r h) := by
  cases r with
  | cons s r => exact yt_sm Y e ⟨rfl, rfl, rfl, rfl⟩ trivial
  | nil =>
    show Yt K clk Q (hCount K h)
    have fl := Y.fl
    unfold hCount
    split
    · rename_i q
      have := (Y.fr q.1).2 e
      exact ⟨by show 0 ≤ h.fails + 1; omega, fun _ => ⟨fun _ => by show h.fails + 1 ≤ _; omega, fun n => absurd rfl n⟩, Y.va, fun k f => (by cases f), fun k c r f => (by cases f), Y.wy, fun w f => (by cases f), fun n f => (by cases f), fun f => (by cases f)⟩
    · rename_i q
      refine ⟨by show 0 ≤ h.fails + 1; omega, fun z => ⟨fun f => (by cases f), fun _ => ?_⟩, Y.va, fun k f => (by cases f), fun k c r f => (by cases f), Y.wy, fun w f => (by cases f), fun n f => (by cases f), fun f => (by cases f)⟩
      show h.fails + 1 ≤ K.c.r
      have z' : h.rank = 0 := z
      have : ¬ K.c.r < h.fails + 1 := fun p => q ⟨z', p⟩
      omega
theorem yt_fail {K : Cx} {clk : Int} {Q : Prop} {h : Th} (Y : Yt K clk Q h) (e : h.st ≠ .fTake) : Yt K clk Q (hFail K h) := by
  unfold hFail
  split
  · exact yt_sm Y e ⟨rfl, rfl, rfl, rfl⟩ trivial
  · exact yt_failown Y e _

theorem yt_exdone {K : Cx} {clk : Int} {Q : Prop} {h : Th} (Y : Yt K clk Q h) (e : h.st ≠ .fTake) (hb : (h.x.begun : Int) ≤ K.c.f) {k : Ex} {c : Int} (hc : c ≤ clk) : Yt K clk Q (hExDone K k c h) := by
  unfold hExDone
  cases k with
  | rd i a w =>
    have S := sm_got (K := K) (h := { h with list := modLast h.list (fun t => { t with valid := c }), x := { h.x with valid := c } }) (i := i) (a := a) (v := w) hb
    exact yt_pln Y e S.1.rank S.1.fails (by rw [S.1.way]; exact Y.wy) (by rw [S.1.valid]; exact hc) S.2
  | wr i a =>
    have S := sm_wrote (K := K) (h := { h with list := modLast h.list (fun t => { t with valid := c }), x := { h.x with valid := c } }) (i := i) (a := a) hb
    exact yt_pln Y e S.1.rank S.1.fails (by rw [S.1.way]; exact Y.wy) (by rw [S.1.valid]; exact hc) S.2
theorem yt_exstill {K : Cx} {clk : Int} {Q : Prop} {h : Th} (Y : Yt K clk Q h) (e : h.st ≠ .fTake) (hb : (h.x.begun : Int) ≤ K.c.f) {k : Ex} {c : Int} (hc : c ≤ clk) (hv : h.x.valid < c) (r : List EntD) : Yt K clk Q (hExStill K k c r h) := by
  cases r with
  | nil => exact yt_exdone Y e hb hc
  | cons q r =>
    refine ⟨Y.fl, fun z => ?_, Y.va, fun k f => (by cases f), fun k' c' r' f => ?_, Y.wy, fun w f => (by cases f), fun n f => (by cases f), fun f => (by cases f)⟩
    · have := (Y.fr z).2 e
      exact ⟨fun f => (by cases f), fun _ => this⟩
    · injection f with f1 f2 f3
      subst f2
      exact ⟨hv, hc⟩
theorem yt_xclock {K : Cx} {clk : Int} {Q : Prop} {h : Th} (Y : Yt K clk Q h) (e : h.st ≠ .fTake) {k : Ex} (hv : h.x.valid < clk) : Yt K clk Q { h with st := .xClock k } := by
  refine ⟨Y.fl, fun z => ?_, Y.va, fun k f => hv, fun k' c' r' f => (by cases f), Y.wy, fun w f => (by cases f), fun n f => (by cases f), fun f => (by cases f)⟩
  have := (Y.fr z).2 e
  exact ⟨fun f => (by cases f), fun _ => this⟩

theorem yt_go {K : Cx} {clk : Int} {Q : Prop} {h h1 : Th} (Y : Yt K clk Q h) (e : h.st ≠ .fTake) (hr : h1.rank = h.rank) (hf : h1.fails = h.fails) (hw : h1.x.way ≠ K.me) (hv : h1.x.valid ≤ clk) (hb : (h1.x.begun : Int) ≤ K.c.f) : Yt K clk Q (hGo K h1) := by
  have S := sm_go (K := K) (h := h1) hb
  exact yt_pln Y e (S.1.rank.trans hr) (S.1.fails.trans hf) (by rw [S.1.way]; exact hw) (by rw [S.1.valid]; exact hv) S.2
theorem yt_got {K : Cx} {clk : Int} {Q : Prop} {h h1 : Th} {i : InsD} {a w : Int} (Y : Yt K clk Q h) (e : h.st ≠ .fTake) (hr : h1.rank = h.rank) (hf : h1.fails = h.fails) (hw : h1.x.way ≠ K.me) (hv : h1.x.valid ≤ clk) (hb : (h1.x.begun : Int) ≤ K.c.f) : Yt K clk Q (hGot K i a w h1) := by
  have S := sm_got (K := K) (h := h1) (i := i) (a := a) (v := w) hb
  exact yt_pln Y e (S.1.rank.trans hr) (S.1.fails.trans hf) (by rw [S.1.way]; exact hw) (by rw [S.1.valid]; exact hv) S.2
theorem yt_fail2 {K : Cx} {clk : Int} {Q : Prop} {h h1 : Th} (Y : Yt K clk Q h) (e : h.st ≠ .fTake) (hr : h1.rank = h.rank) (hf : h1.fails = h.fails) (hw : h1.x.way ≠ K.me) (hv : h1.x.valid ≤ clk) (g : Pln h1.st) : Yt K clk Q (hFail K h1) :=
  yt_fail (yt_pln Y e hr hf hw hv g) (fun q => by rw [q] at g; exact g)

theorem yt_next {K : Cx} {k : Int} {m : Int → Int} {Q : Prop} {h : Th} (hf : 0 ≤ K.c.f) (hr : 0 ≤ K.c.r) (hme : 0 ≤ K.me) (s1 : 1 ≤ K.c.s) (A : ThOk K k h) (L2 : Loc2 K h) (Y : Yt K (m 0) Q h) (v : AnsD) (hv : (hOut K h).kind ≠ 0 → v.seen = m (hOut K h).cell) (hver : ∀ s, 0 ≤ s → s < K.c.s → m (3 + s) ≤ m 0) (m1 : 0 ≤ m 1) (hcp : 0 ≤ K.c.cp ∧ K.c.cp ≤ 8) (hmk : h.st = .fStat → v.seen.tmod 8 ≠ K.me + 1) (hts : h.st = .tTake → Q) : Yt K (m 0) Q (hNext K h v) := by
  have hb := A.x.bg
  have hs := A.step
  unfold StepOk at hs
  unfold Loc2 at L2
  unfold hOut at hv
  unfold hNext
  cases hst : h.st with
  | idle => simp only; exact Y
  | start =>
    rw [hst] at hv
    have e : v.seen = m 0 := hv (by simp)
    simp only
    exact yt_go Y (by rw [hst]; simp) rfl rfl (by show (-1 : Int) ≠ _; omega) (by show v.seen ≤ _; omega) (by show ((0 : Nat) : Int) ≤ _; omega)
  | rHeld i a => have S := sm_got (K := K) (h := h) (i := i) (a := a) (v := v.seen) hb; exact yt_sm Y (by rw [hst]; simp) S.1 S.2
  | rVer i a =>
    simp only
    split
    · exact Y
    · exact yt_sm Y (by rw [hst]; simp) ⟨rfl, rfl, rfl, rfl⟩ trivial
  | rWord i a one => exact yt_sm Y (by rw [hst]; simp) ⟨rfl, rfl, rfl, rfl⟩ trivial
  | rAgain i a one w =>
    rw [hst] at hv hs
    have e : v.seen = m (3 + a.tmod K.c.s) := hv (by simp)
    have b := tmodP s1 hs.1.1
    have vb := hver _ b.1 b.2
    simp only
    by_cases hq : v.seen ≠ one
    · rw [if_pos hq]; exact yt_sm Y (by rw [hst]; simp) ⟨rfl, rfl, rfl, rfl⟩ trivial
    · rw [if_neg hq]
      by_cases hp : (entIdx h.x.reads (a.tmod K.c.s)).isSome = true
      · rw [if_pos hp]
        by_cases hz : one ≤ h.x.valid
        · rw [if_pos hz]
          exact yt_got Y (by rw [hst]; simp) rfl rfl Y.wy Y.va hb
        · rw [if_neg hz]
          exact yt_xclock (h := h) Y (by rw [hst]; simp) (by omega)
      · rw [if_neg hp]
        by_cases hz : one ≤ h.x.valid
        · rw [if_pos hz]
          exact yt_got Y (by rw [hst]; simp) rfl rfl Y.wy Y.va hb
        · rw [if_neg hz]
          have n : h.st ≠ .fTake := by rw [hst]; simp
          refine ⟨Y.fl, fun z => ⟨fun f => (by cases f), fun _ => (Y.fr z).2 n⟩, Y.va, fun k f => ?_, fun k' c' r' f => (by cases f), Y.wy, fun w f => (by cases f), fun n f => (by cases f), fun f => (by cases f)⟩
          show h.x.valid < m 0
          omega
  | xClock x =>
    rw [hst] at hv
    have e : v.seen = m 0 := hv (by simp)
    have q := Y.xc x hst
    exact yt_exstill Y (by rw [hst]; simp) hb (by omega) (by omega) _
  | xVer x c r =>
    have q := Y.xv x c r hst
    cases r with
    | nil => exact Y
    | cons d r =>
      simp only
      split
      · exact yt_fail Y (by rw [hst]; simp)
      · exact yt_exstill Y (by rw [hst]; simp) hb q.2 q.1 _
  | gStat i a =>
    simp only
    split
    · exact yt_fail Y (by rw [hst]; simp)
    · exact yt_sm Y (by rw [hst]; simp) ⟨rfl, rfl, rfl, rfl⟩ trivial
  | gOwn i a =>
    simp only
    split
    · exact yt_sm Y (by rw [hst]; simp) ⟨rfl, rfl, rfl, rfl⟩ trivial
    · split
      · exact yt_fail Y (by rw [hst]; simp)
      · exact yt_sm Y (by rw [hst]; simp) ⟨rfl, rfl, rfl, rfl⟩ trivial
  | gTheir i a u =>
    rw [hst] at L2
    have l : u ≠ K.me + 1 := L2.2
    simp only
    split
    · exact yt_fail2 Y (by rw [hst]; simp) rfl rfl (by show u - 1 ≠ _; omega) Y.va trivial
    · split <;> exact yt_sm Y (by rw [hst]; simp) ⟨rfl, rfl, rfl, rfl⟩ trivial
  | gMark i a u th => exact yt_sm Y (by rw [hst]; simp) ⟨rfl, rfl, rfl, rfl⟩ trivial
  | gVer i a =>
    rw [hst] at hv hs
    have e : v.seen = m (3 + a.tmod K.c.s) := hv (by simp)
    have b := tmodP s1 hs.1
    have vb := hver _ b.1 b.2
    simp only
    split
    · exact yt_xclock Y (by rw [hst]; simp) (by omega)
    · have S := sm_wrote (K := K) (h := h) (i := i) (a := a) hb
      exact yt_sm Y (by rw [hst]; simp) S.1 S.2
  | tTake =>
    rw [hst] at L2
    have n : h.st ≠ .fTake := by rw [hst]; simp
    have l : h.rank = 0 := L2
    exact ⟨Y.fl, fun z => ⟨fun f => (by cases f), fun _ => (Y.fr l).2 n⟩, Y.va, fun k f => (by cases f), fun k' c' r' f => (by cases f), Y.wy, fun w f => (by cases f), fun n f => (by cases f), fun _ => hts hst⟩
  | tShow =>
    simp only
    split
    · exact yt_fail Y (by rw [hst]; simp)
    · have S := sm_go (K := K) (h := h) hb
      exact yt_sm Y (by rw [hst]; simp) S.1 S.2
  | cStat =>
    simp only
    split
    · exact yt_fail Y (by rw [hst]; simp)
    · exact yt_sm Y (by rw [hst]; simp) ⟨rfl, rfl, rfl, rfl⟩ trivial
  | cGate =>
    refine yt_sm Y (by rw [hst]; simp) ⟨rfl, rfl, rfl, rfl⟩ ?_
    show Pln (if v.seen = 0 then .cClock else .cGate)
    split <;> trivial
  | cClock =>
    simp only
    split
    · have S := sm_still (h := h) (c := v.seen) h.x.reads
      exact yt_sm Y (by rw [hst]; simp) S.1 S.2
    · have S := sm_shut (h := h) (c := v.seen) h.x.held
      exact yt_sm Y (by rw [hst]; simp) S.1 S.2
  | cVer c r =>
    cases r with
    | nil => exact Y
    | cons d r =>
      simp only
      split
      · exact yt_fail Y (by rw [hst]; simp)
      · have S := sm_still (h := h) (c := c) r
        exact yt_sm Y (by rw [hst]; simp) S.1 S.2
  | cShut c r =>
    cases r with
    | nil => exact Y
    | cons d r => have S := sm_shut (h := h) (c := c) r; exact yt_sm Y (by rw [hst]; simp) S.1 S.2
  | cStamp c => exact yt_sm Y (by rw [hst]; simp) ⟨rfl, rfl, rfl, rfl⟩ trivial
  | cLeave c => have S := sm_word (h := h) (c := c) h.x.writes; exact yt_sm Y (by rw [hst]; simp) S.1 S.2
  | cWord c r =>
    cases r with
    | nil => exact Y
    | cons d r => have S := sm_word (h := h) (c := c) r; exact yt_sm Y (by rw [hst]; simp) S.1 S.2
  | cOpen c r =>
    cases r with
    | nil => exact Y
    | cons d r => exact yt_sm Y (by rw [hst]; simp) ⟨rfl, rfl, rfl, rfl⟩ trivial
  | cOwn c r =>
    cases r with
    | nil => exact Y
    | cons d r => have S := sm_open (h := h) (c := c) r; exact yt_sm Y (by rw [hst]; simp) S.1 S.2
  | free e r =>
    cases r with
    | nil => exact Y
    | cons d r => have S := sm_free (h := h) (e := e) r; exact yt_sm Y (by rw [hst]; simp) S.1 S.2
  | fin e =>
    simp only
    unfold hTo
    split
    · exact ⟨Int.le_refl _, fun _ => ⟨fun f => (by cases f), fun _ => hr⟩, Y.va, fun k f => (by cases f), fun k' c' r' f => (by cases f), Y.wy, fun w f => (by cases f), fun n f => (by cases f), fun f => (by cases f)⟩
    · exact yt_sm Y (by rw [hst]; simp) ⟨rfl, rfl, rfl, rfl⟩ trivial
  | fGate => exact yt_failown Y (by rw [hst]; simp) _
  | fOwn r =>
    cases r with
    | nil => exact Y
    | cons d r => exact yt_failown Y (by rw [hst]; simp) _
  | fTake =>
    rw [hst] at hv
    have e : v.seen = m 1 := hv (by simp)
    refine ⟨Y.fl, fun z => ?_, Y.va, fun k f => (by cases f), fun k' c' r' f => (by cases f), Y.wy, fun w f => (by cases f), fun n f => (by cases f), fun f => (by cases f)⟩
    have z' : v.seen + 1 = 0 := z
    omega
  | fStat =>
    have q := hmk hst
    have n : h.st ≠ .fTake := by rw [hst]; simp
    have hw : (if 0 < v.seen.tmod 8 then v.seen.tmod 8 - 1 else h.x.way) ≠ K.me := by
      split
      · omega
      · exact Y.wy
    simp only
    generalize (if 0 < v.seen.tmod 8 then v.seen.tmod 8 - 1 else h.x.way) = win at *
    by_cases h0 : 0 ≤ win
    · rw [if_pos h0]
      refine ⟨Y.fl, fun z => ⟨fun f => (by cases f), fun _ => (Y.fr z).2 n⟩, Y.va, fun k f => (by cases f), fun k' c' r' f => (by cases f), Y.wy, fun w f => ?_, fun n f => (by cases f), fun f => (by cases f)⟩
      injection f with f
      subst f
      exact hw
    · rw [if_neg h0]
      unfold hRest
      simp only
      have hy : 0 < v.draw → (v.draw.tmod ((if (h.ended v.num 5).fails < K.c.cp then (h.ended v.num 5).fails else K.c.cp) + 1)).toNat ≤ 8 := fun d0 => by
        have f0 : 0 ≤ (h.ended v.num 5).fails := Y.fl
        have b : 0 ≤ (if (h.ended v.num 5).fails < K.c.cp then (h.ended v.num 5).fails else K.c.cp) ∧ (if (h.ended v.num 5).fails < K.c.cp then (h.ended v.num 5).fails else K.c.cp) ≤ 8 := by split <;> omega
        have := tmodP (s := (if (h.ended v.num 5).fails < K.c.cp then (h.ended v.num 5).fails else K.c.cp) + 1) (a := v.draw) (by omega) (by omega)
        omega
      generalize (v.draw.tmod ((if (h.ended v.num 5).fails < K.c.cp then (h.ended v.num 5).fails else K.c.cp) + 1)).toNat = y at *
      split
      · rename_i dd
        exact ⟨Y.fl, fun z => ⟨fun f => (by cases f), fun _ => (Y.fr z).2 n⟩, Y.va, fun k f => (by cases f), fun k' c' r' f => (by cases f), Y.wy, fun w f => (by cases f), fun z f => (by injection f with f; subst f; exact hy dd.1), fun f => (by cases f)⟩
      · exact yt_sm Y n ⟨rfl, rfl, rfl, rfl⟩ trivial
  | wait w =>
    simp only
    split
    · exact yt_sm Y (by rw [hst]; simp) ⟨rfl, rfl, rfl, rfl⟩ trivial
    · exact Y
  | rest n =>
    have b := Y.rs n hst
    have nf : h.st ≠ .fTake := by rw [hst]; simp
    simp only
    split
    · exact yt_sm Y nf ⟨rfl, rfl, rfl, rfl⟩ trivial
    · exact ⟨Y.fl, fun z => ⟨fun f => (by cases f), fun _ => (Y.fr z).2 nf⟩, Y.va, fun k f => (by cases f), fun k' c' r' f => (by cases f), Y.wy, fun w f => (by cases f), fun z f => (by injection f with f; subst f; omega), fun f => (by cases f)⟩

/-- It is about to show its rank just behind the ticket. -/
theorem ts_next {K : Cx} {k : Int} {m : Int → Int} {Q : Prop} {h : Th} (hf : 0 ≤ K.c.f) (hr : 0 ≤ K.c.r) (hme : 0 ≤ K.me) (s1 : 1 ≤ K.c.s) (A : ThOk K k h) (L2 : Loc2 K h) (Y : Yt K (m 0) Q h) (v : AnsD) (hv : (hOut K h).kind ≠ 0 → v.seen = m (hOut K h).cell) (hver : ∀ s, 0 ≤ s → s < K.c.s → m (3 + s) ≤ m 0) (m1 : 0 ≤ m 1) (hcp : 0 ≤ K.c.cp ∧ K.c.cp ≤ 8) (hmk : h.st = .fStat → v.seen.tmod 8 ≠ K.me + 1) (q : (hNext K h v).st = .tShow) : h.st = .tTake := by
  have Y' : Yt K (m 0) (h.st = .tTake ∨ h.st = .tShow) h := ⟨Y.fl, Y.fr, Y.va, Y.xc, Y.xv, Y.wy, Y.ww, Y.rs, Or.inr⟩
  rcases (yt_next hf hr hme s1 A L2 Y' v hv hver m1 hcp hmk Or.inl).ts q with e | e
  · exact e
  · exfalso
    unfold hNext at q
    rw [e] at q
    simp only at q
    by_cases hz : v.seen ≠ 0
    · rw [if_pos hz] at q
      have := (fl_fail (K := K) (h := h)).1
      rw [q] at this
      exact this
    · rw [if_neg hz] at q
      have := (god_go (K := K) (h := h) A.x.bg).2
      rw [q] at this
      exact this

end Go.Proofs.Ytejadojilncbjab
