import Derived.Test.YtejadojilncbjabH20
namespace Go.Proofs.Ytejadojilncbjab
set_option linter.unusedVariables false

/-! All jobs come to their end, part 10: a thread's own status. -/

theorem cr_sta {c : Cfg} {jobs : List (Int × List InsD)} {m m' : Int → Int} {th : Int → Th} {t : Int} {h' : Th} (hst : ∀ u, 0 ≤ u → u < c.t → u ≠ t → shn c m' u = shn c m u ∧ mrk c m' u = mrk c m u) (hup : 0 < shn c m t → shn c m' t = shn c m t) (hn : njH jobs t h' = njH jobs t (th t)) {u : Int} (u0 : 0 ≤ u) (u1 : u < c.t) (hu : u ≠ t) : S4 (cr c jobs m' (thSet th t h') u) ≤ S4 (cr c jobs m th u) := by
  refine S4_le (fun v v0 v1 => ?_)
  unfold cr
  by_cases hv : v < c.t ∧ v ≠ u
  · rw [if_pos hv, if_pos hv, thset_off hu]
    have eu := hst u u0 u1 hu
    by_cases hvt : v = t
    · subst hvt
      rw [thset_at, hn]
      by_cases hz : 0 < shn c m v
      · have e := hup hz
        have e1 : aU c m' u v = aU c m u v := by unfold aU; rw [eu.1, eu.2, e]
        have e2 : fU c m' (th u) v = fU c m (th u) v := by unfold fU; rw [e]
        have e3 : wU c m' u (th u) v = wU c m u (th u) v := by unfold wU; rw [eu.2, e]
        omega
      · have e1 : aU c m u v = 0 := by unfold aU; rw [if_neg (fun q => hz q.2.1)]
        have e2 : fU c m (th u) v = 0 := by
          unfold fU
          split
          · rw [if_neg (fun q => hz q.2.1)]
          · rfl
        have e3 : wU c m u (th u) v = 0 := by
          unfold wU
          split <;> first
            | rw [if_neg (fun q => hz q.2.1)]
            | rfl
        have P := u_le c m' u v (th u)
        omega
    · have ev := hst v v0 hv.1 hvt
      have e1 : aU c m' u v = aU c m u v := by unfold aU; rw [eu.1, eu.2, ev.1]
      have e2 : fU c m' (th u) v = fU c m (th u) v := by unfold fU; rw [ev.1]
      have e3 : wU c m' u (th u) v = wU c m u (th u) v := by unfold wU; rw [eu.2, ev.1]
      rw [e1, e2, e3, thset_off hvt]
      exact Int.le_refl _
  · rw [if_neg hv, if_neg hv]; exact Int.le_refl _

/-- Its status turns, and no job is finished. -/
theorem phi_sta {c : Cfg} {jobs : List (Int × List InsD)} {m : Int → Int} {th : Int → Th} {k t w g : Int} {h' : Th} (s1 : 1 ≤ c.s) (t0 : 0 ≤ t) (t1 : t < c.t) (t4 : c.t ≤ 4) (T : ∀ u, 0 ≤ u → u < c.t → ThOk (cxOf c jobs u) k (th u)) (hup : 0 < shn c m t → shn c (upd m (3 + 2 * c.s + t) w) t = shn c m t)
    (hi : (th t).st ≠ .idle) (hi' : h'.st ≠ .idle) (hj : h'.job = (th t).job) (hus : usH jobs t h' ≤ usH jobs t (th t)) (ho : ow (cxOf c jobs t) (upd m (3 + 2 * c.s + t) w) h' + 19 ≤ ow (cxOf c jobs t) m (th t))
    (hy : (if shn c (upd m (3 + 2 * c.s + t) w) t = 0 then (1145 : Int) else 0) + g ≤ (if shn c m t = 0 then 1145 else 0)) (hcr : S4 (cr c jobs (upd m (3 + 2 * c.s + t) w) (thSet th t h') t) ≤ S4 (cr c jobs m th t) + g) : Phi c jobs (upd m (3 + 2 * c.s + t) w) (thSet th t h') + 1 ≤ Phi c jobs m th := by
  have hn := nj_same (jobs := jobs) (t := t) hi hi' hj
  have off : ∀ x, x ≠ 3 + 2 * c.s + t → upd m (3 + 2 * c.s + t) w x = m x := fun x hx => upd_off hx
  have hcu := cu_le (c := c) (jobs := jobs) (m := m) (m' := upd m (3 + 2 * c.s + t) w) (th := th) (t := t) (d := 0) (h' := h') t0 t1 t4 (by rw [off 0 (by omega)]; omega) (by omega)
  have st : ∀ u, 0 ≤ u → u < c.t → u ≠ t → shn c (upd m (3 + 2 * c.s + t) w) u = shn c m u ∧ mrk c (upd m (3 + 2 * c.s + t) w) u = mrk c m u := fun u a b e => by unfold shn mrk; rw [off _ (by omega)]; exact ⟨rfl, rfl⟩
  unfold Phi
  refine S4_step (t := t) (p := 6) t0 (by omega) (fun u u0 u1 hu => ?_) (by omega) ?_
  · exact pt_other (k := k) u0 u1 hu (by omega) hcu (fun h1 => ow_ph (K := cxOf c jobs u) s1 (T u u0 h1) (fun s a b => off _ (by have : s < c.s := b; omega)) (off _ (by show 3 + 2 * c.s + u ≠ _; omega))) (fun h1 => (st u u0 h1 hu).1) (fun h1 => cr_sta st hup hn u0 h1 hu)
  · rw [pt_of t1 (by rw [thset_at]; exact hi'), pt_of t1 hi]
    unfold pb
    rw [thset_at, hn]
    omega

/-- It shows its rank. -/
theorem phi_show {c : Cfg} {jobs : List (Int × List InsD)} {m : Int → Int} {th : Int → Th} {k t : Int} {G : Gh} {v : AnsD} (H : Hy c jobs m th k t G v) (hst : (th t).st = .tShow) (hs : v.seen = 0) : Phi c jobs (mNext m (hOut (cxOf c jobs t) (th t))) (thSet th t (hNext (cxOf c jobs t) (th t) v)) + 1 ≤ Phi c jobs m th := by
  obtain ⟨⟨t1, t2⟩, ⟨w1, w2⟩, ⟨s1, s2⟩, _, _, _, ⟨f1, f2⟩⟩ := cfgB_true H.hc
  have A := H.T t H.t0 H.t1
  have l2 := H.L2
  unfold Loc2 at l2
  rw [hst] at l2
  have rk := A.rank.1
  have ho : hOut (cxOf c jobs t) (th t) = ⟨3, 3 + 2 * c.s + t, 0, 8 * (th t).rank⟩ := by unfold hOut; rw [hst]; rfl
  have e := H.hv (by rw [ho]; simp)
  rw [ho] at e ⊢
  have z : m (3 + 2 * c.s + t) = 0 := by rw [← e]; exact hs
  rw [mNext_swap m _ _ _ z]
  have hn' : hNext (cxOf c jobs t) (th t) v = hGo (cxOf c jobs t) (th t) := by
    unfold hNext
    rw [hst]
    simp only
    rw [if_neg (by rw [hs]; simp)]
  obtain ⟨d, gs⟩ := god_go (K := cxOf c jobs t) (h := th t) A.x.bg
  have ni' : (hNext (cxOf c jobs t) (th t) v).st ≠ .idle := by rw [hn']; intro f; rw [f] at gs; exact gs
  have sh0 : shn c m t = 0 := by unfold shn; rw [z]; rfl
  have mk0 : mrk c m t = 0 := by unfold mrk; rw [z]; rfl
  have O : ow (cxOf c jobs t) (upd m (3 + 2 * c.s + t) (8 * (th t).rank)) (hNext (cxOf c jobs t) (th t) v) + 23 ≤ ow (cxOf c jobs t) m (th t) := ow_show1 (K := cxOf c jobs t) (m := m) (v := v) s1 A H.t0 hst hs H.lh'
  refine phi_sta (g := 0) s1 H.t0 H.t1 t2 H.T (fun q => by omega) H.ni ni' (by rw [hn']; exact d.job) ?_ (by omega) ?_ ?_
  · have e1 : usH jobs t (th t) = cntJ jobs t (th t).job := by unfold usH; rw [hst]
    have u1 := (us_le jobs t _ ni').1
    have jb : (hNext (cxOf c jobs t) (th t) v).job = (th t).job := by rw [hn']; exact d.job
    rw [jb] at u1
    rw [e1]
    exact u1
  · rw [if_pos sh0]; split <;> omega
  · refine Int.le_trans (S4_le (f := cr c jobs m th t) (fun u u0 u1 => ?_)) (by omega)
    unfold cr
    by_cases hv : u < c.t ∧ u ≠ t
    · rw [if_pos hv, if_pos hv, thset_at, thset_off hv.2]
      have P := u_le c (upd m (3 + 2 * c.s + t) (8 * (th t).rank)) t u (hNext (cxOf c jobs t) (th t) v)
      have e1 : aU c m t u = 0 := by unfold aU; rw [if_neg (by rintro ⟨q, _⟩; omega)]
      rw [e1, fU_no (h := th t) (by rw [hst]; simp), wU_no (h := th t) (by rw [hst]; exact fun f => f)]
      omega
    · rw [if_neg hv, if_neg hv]; exact Int.le_refl _

/-- A failure is over. -/
theorem phi_stat {c : Cfg} {jobs : List (Int × List InsD)} {m : Int → Int} {th : Int → Th} {k t : Int} {G : Gh} {v : AnsD} (H : Hy c jobs m th k t G v) (hst : (th t).st = .fStat) (hs1 : shn c m t = 0 ∨ shn c m t = (th t).rank) (hmi : mrk c m t ≠ t + 1) : Phi c jobs (mNext m (hOut (cxOf c jobs t) (th t))) (thSet th t (hNext (cxOf c jobs t) (th t) v)) + 1 ≤ Phi c jobs m th := by
  obtain ⟨⟨t1, t2⟩, ⟨w1, w2⟩, ⟨s1, s2⟩, _, _, _, ⟨f1, f2⟩⟩ := cfgB_true H.hc
  have A := H.T t H.t0 H.t1
  have rk := A.rank.1
  have tt0 := H.t0
  have tt1 := H.t1
  have ho : hOut (cxOf c jobs t) (th t) = ⟨2, 3 + 2 * c.s + t, 0, 8 * (th t).rank⟩ := by unfold hOut; rw [hst]; rfl
  have e := H.hv (by rw [ho]; simp)
  rw [ho] at e ⊢
  have e' : v.seen = m (3 + 2 * c.s + t) := e
  rw [mNext_store]
  have so : SOk c k (m (3 + 2 * c.s + t)) := (H.M (3 + 2 * c.s + t) (by omega) (by unfold total; omega)).sta (by omega) (by omega)
  have em : v.seen.tmod 8 = mrk c m t := by rw [e', (sok_mod so).1]; rfl
  have mr : 0 ≤ mrk c m t ∧ mrk c m t ≤ c.t := ⟨by unfold mrk; omega, so.2.1⟩
  have sh' : shn c (upd m (3 + 2 * c.s + t) (8 * (th t).rank)) t = (th t).rank := by unfold shn; rw [upd_at]; omega
  have mk' : mrk c (upd m (3 + 2 * c.s + t) (8 * (th t).rank)) t = 0 := by unfold mrk; rw [upd_at]; omega
  have sto : ∀ u, 0 ≤ u → u ≠ t → shn c (upd m (3 + 2 * c.s + t) (8 * (th t).rank)) u = shn c m u := fun u a b => by unfold shn; rw [upd_off (by omega)]
  -- what comes next
  have nx : (hNext (cxOf c jobs t) (th t) v).st ≠ .idle ∧ (hNext (cxOf c jobs t) (th t) v).job = (th t).job ∧ (hNext (cxOf c jobs t) (th t) v).rank = (th t).rank ∧ (0 ≤ (if 0 < mrk c m t then mrk c m t - 1 else (th t).x.way) → (hNext (cxOf c jobs t) (th t) v).st = .wait (if 0 < mrk c m t then mrk c m t - 1 else (th t).x.way)) := by
    unfold hNext
    rw [hst]
    simp only
    rw [em]
    generalize (if 0 < mrk c m t then mrk c m t - 1 else (th t).x.way) = win
    by_cases hw : 0 ≤ win
    · rw [if_pos hw]; exact ⟨fun f => (by cases f), rfl, rfl, fun _ => rfl⟩
    · rw [if_neg hw]
      unfold hRest
      simp only
      generalize (v.draw.tmod ((if ((th t).ended v.num 5).fails < (cxOf c jobs t).c.cp then ((th t).ended v.num 5).fails else (cxOf c jobs t).c.cp) + 1)).toNat = n
      split
      · exact ⟨fun f => (by cases f), rfl, rfl, fun q => absurd q hw⟩
      · exact ⟨fun f => (by cases f), rfl, rfl, fun q => absurd q hw⟩
  obtain ⟨n1, n2, n3, n4⟩ := nx
  have O : ow (cxOf c jobs t) (upd m (3 + 2 * c.s + t) (8 * (th t).rank)) (hNext (cxOf c jobs t) (th t) v) + 21 ≤ ow (cxOf c jobs t) m (th t) := ow_stat1 (K := cxOf c jobs t) (k := k) (m := m) (v := v) H.t0 hst H.lh'
  have us' : usH jobs t (hNext (cxOf c jobs t) (th t) v) ≤ usH jobs t (th t) := by
    have e1 : usH jobs t (th t) = cntJ jobs t (th t).job := by unfold usH; rw [hst]
    have u1 := (us_le jobs t _ n1).1
    rw [n2] at u1
    rw [e1]; exact u1
  have up : 0 < shn c m t → shn c (upd m (3 + 2 * c.s + t) (8 * (th t).rank)) t = shn c m t := fun q => by rw [sh']; omega
  have wfl : ∀ u, wU c m t (th t) u = if ((th t).x.way = u ∧ mrk c m t = 0) ∧ 0 < shn c m u ∧ ((th t).rank = 0 ∨ shn c m u < (th t).rank) then 1120 else 0 := fun u => wU_fl (by rw [hst]; trivial)
  have f0 : ∀ u, fU c m (th t) u = 0 := fun u => fU_no (by rw [hst]; simp)
  have P : ∀ u, _ := fun u => u_le c (upd m (3 + 2 * c.s + t) (8 * (th t).rank)) t u (hNext (cxOf c jobs t) (th t) v)
  have fw : ∀ w, (hNext (cxOf c jobs t) (th t) v).st = .wait w → 0 ≤ w → w ≠ t → 0 < shn c m w → ((th t).rank = 0 ∨ shn c m w < (th t).rank) → fU c (upd m (3 + 2 * c.s + t) (8 * (th t).rank)) (hNext (cxOf c jobs t) (th t) v) w = 1145 := fun w q a b p r => by
    unfold fU
    rw [q]
    simp only
    rw [if_pos ⟨trivial, by rw [sto w a b]; exact p, by rw [sto w a b, n3]; exact r⟩]
  by_cases hk : 0 < mrk c m t
  · -- it bears a mark
    rw [if_pos hk] at n4
    have nw := n4 (by omega)
    have base : ∀ u, 0 ≤ u → u ≤ 3 → u ≠ mrk c m t - 1 → cr c jobs (upd m (3 + 2 * c.s + t) (8 * (th t).rank)) (thSet th t (hNext (cxOf c jobs t) (th t) v)) t u ≤ cr c jobs m th t u := fun u u0 u1 hu => by
      unfold cr
      by_cases hv : u < c.t ∧ u ≠ t
      · rw [if_pos hv, if_pos hv, thset_at, thset_off hv.2, f0, wfl]
        have e1 : aU c m t u = 0 := by unfold aU; rw [if_neg (by rintro ⟨q, _⟩; omega)]
        rw [e1, if_neg (by rintro ⟨⟨_, q⟩, _⟩; omega)]
        have := P u
        omega
      · rw [if_neg hv, if_neg hv]; exact Int.le_refl _
    have wt : mrk c m t - 1 ≠ t := by omega
    by_cases hx : aU c m t (mrk c m t - 1) = 0 ∨ ((th t).rank = 0 ∨ shn c m (mrk c m t - 1) < (th t).rank)
    · refine phi_sta (g := 0) s1 H.t0 H.t1 t2 H.T up H.ni n1 n2 us' (by omega) ?_ ?_
      · rw [sh']
        rcases hs1 with q | q
        · rw [if_pos q]; split <;> omega
        · rw [q]; omega
      · refine S4_one (t := mrk c m t - 1) (by omega) (by omega) base ?_
        unfold cr
        rw [if_pos ⟨by omega, wt⟩, if_pos ⟨by omega, wt⟩, thset_at, thset_off wt, f0, wfl, if_neg (by rintro ⟨⟨_, q⟩, _⟩; omega)]
        have p := P (mrk c m t - 1)
        rcases hx with q | q
        · rw [q]; omega
        · by_cases ha : aU c m t (mrk c m t - 1) = 0
          · rw [ha]; omega
          · have : 0 < shn c m (mrk c m t - 1) := by
              unfold aU at ha
              split at ha
              · rename_i z; exact z.2.1
              · exact absurd rfl ha
            rw [fw _ nw (by omega) wt this q]
            have b := (u_le c m t (mrk c m t - 1) (th t)).2.1
            omega
    · -- a ticket that was taken ahead of the marker's
      have hx1 : aU c m t (mrk c m t - 1) ≠ 0 := fun q => hx (Or.inl q)
      have hx2 : ¬ ((th t).rank = 0 ∨ shn c m (mrk c m t - 1) < (th t).rank) := fun q => hx (Or.inr q)
      have cond : 0 < shn c m (mrk c m t - 1) ∧ (shn c m t = 0 ∨ shn c m (mrk c m t - 1) < shn c m t) := by
        unfold aU at hx1
        split at hx1
        · rename_i z; exact z.2
        · exact absurd rfl hx1
      have z0 : shn c m t = 0 := by
        rcases cond.2 with q | q
        · exact q
        · rcases hs1 with q1 | q1
          · exact q1
          · omega
      refine phi_sta (g := 1145) s1 H.t0 H.t1 t2 H.T up H.ni n1 n2 us' (by omega) ?_ ?_
      · rw [sh', if_pos z0, if_neg (by omega)]
        omega
      · refine S4_one (t := mrk c m t - 1) (by omega) (by omega) base ?_
        unfold cr
        rw [if_pos ⟨by omega, wt⟩, if_pos ⟨by omega, wt⟩, thset_at, thset_off wt, f0, wfl, if_neg (by rintro ⟨⟨_, q⟩, _⟩; omega)]
        have p := P (mrk c m t - 1)
        have b := (u_le c m t (mrk c m t - 1) (th t)).2.1
        omega
  · -- it bears none
    have m0 : mrk c m t = 0 := by omega
    rw [if_neg hk] at n4
    refine phi_sta (g := 0) s1 H.t0 H.t1 t2 H.T up H.ni n1 n2 us' (by omega) ?_ ?_
    · rw [sh']
      rcases hs1 with q | q
      · rw [if_pos q]; split <;> omega
      · rw [q]; omega
    · refine Int.le_trans (S4_le (f := cr c jobs m th t) (fun u u0 u1 => ?_)) (by omega)
      unfold cr
      by_cases hv : u < c.t ∧ u ≠ t
      · rw [if_pos hv, if_pos hv, thset_at, thset_off hv.2, f0, wfl]
        have e1 : aU c m t u = 0 := by unfold aU; rw [if_neg (by rintro ⟨q, _⟩; omega)]
        rw [e1]
        have p := P u
        by_cases q : ((th t).x.way = u ∧ mrk c m t = 0) ∧ 0 < shn c m u ∧ ((th t).rank = 0 ∨ shn c m u < (th t).rank)
        · rw [if_pos q]
          have nw := n4 (by rw [q.1.1]; exact u0)
          rw [q.1.1] at nw
          rw [fw u nw u0 hv.2 q.2.1 q.2.2]
          omega
        · rw [if_neg q]
          omega
      · rw [if_neg hv, if_neg hv]; exact Int.le_refl _

end Go.Proofs.Ytejadojilncbjab

namespace Go.Proofs.Ytejadojilncbjab
set_option linter.unusedVariables false

/-! All jobs come to their end, part 11: another's status gets a mark. -/

theorem phv_off {K : Cx} {m : Int → Int} {h : Th} {s x z : Int} (w : Nat) (u th : Int) (hx : x ≠ K.me) (x0 : 0 ≤ x) (b : 0 ≤ s ∧ s < K.c.s) (hn : m (hOwn K s) ≠ x + 1) : phv K (upd m (hSta K x) z) h s w u th = phv K m h s w u th := by
  have e1 : upd m (hSta K x) z (hOwn K s) = m (hOwn K s) := upd_off (by unfold hSta hOwn; omega)
  have e2 : mrk K.c (upd m (hSta K x) z) K.me = mrk K.c m K.me := by unfold mrk; rw [upd_off (by unfold hSta; omega)]
  have e3 : shn K.c (upd m (hSta K x) z) (m (hOwn K s) - 1) = shn K.c m (m (hOwn K s) - 1) := by unfold shn; rw [upd_off (by unfold hSta; omega)]
  have e4 : mrk K.c (upd m (hSta K x) z) (m (hOwn K s) - 1) = mrk K.c m (m (hOwn K s) - 1) := by unfold mrk; rw [upd_off (by unfold hSta; omega)]
  have e5 : (u = m (hOwn K s) ∧ th = upd m (hSta K x) z (hSta K (u - 1))) ↔ (u = m (hOwn K s) ∧ th = m (hSta K (u - 1))) := by
    constructor
    · rintro ⟨a, b⟩; exact ⟨a, by rw [b]; exact upd_off (by unfold hSta; omega)⟩
    · rintro ⟨a, b⟩; exact ⟨a, by rw [b]; exact (upd_off (by unfold hSta; omega)).symm⟩
  unfold phv
  rw [e1, e2, e3, e4]
  simp only [e5]

theorem ph_off {K : Cx} {k : Int} {m : Int → Int} {h : Th} {x z : Int} (s1 : 1 ≤ K.c.s) (A : StepOk K k h) (hx : x ≠ K.me) (x0 : 0 ≤ x) (hn : ∀ s, 0 ≤ s → s < K.c.s → m (3 + K.c.s + s) ≠ x + 1) : ph K (upd m (hSta K x) z) h = ph K m h := by
  have key : ∀ (a : Int) (w : Nat) (u th : Int), 0 ≤ a → phv K (upd m (hSta K x) z) h (a.tmod K.c.s) w u th = phv K m h (a.tmod K.c.s) w u th := fun a w u th a0 => by
    have b := tmodP s1 a0
    exact phv_off w u th hx x0 b (by unfold hOwn; exact hn _ b.1 b.2)
  unfold StepOk at A
  unfold ph
  cases hst : h.st with
  | gStat i a => rw [hst] at A; exact key a 0 0 0 A.1.1
  | gOwn i a => rw [hst] at A; exact key a 1 0 0 A.1.1
  | gTheir i a u => rw [hst] at A; exact key a 2 u 0 A.1.1.1
  | gMark i a u th => rw [hst] at A; exact key a 3 u th A.1.1.1
  | _ => rfl

/-- The other threads, where the one that is marked has nothing. -/
theorem ow_off {K : Cx} {k : Int} {m : Int → Int} {h : Th} {x z : Int} (s1 : 1 ≤ K.c.s) (A : ThOk K k h) (hx : x ≠ K.me) (x0 : 0 ≤ x) (hn : ∀ s, 0 ≤ s → s < K.c.s → m (3 + K.c.s + s) ≠ x + 1) : ow K (upd m (hSta K x) z) h = ow K m h := by
  have ev : ∀ s, 0 ≤ s → s < K.c.s → upd m (hSta K x) z (3 + s) = m (3 + s) := fun s a b => upd_off (by unfold hSta; omega)
  unfold ow
  rw [att_same s1 A.step ev, dd_same A.x ev, mm_same (upd_off (by unfold hSta; omega)), ph_off s1 A.step hx x0 hn]

/-- The marker, likewise. -/
theorem ow_mark2 {K : Cx} {k : Int} {m : Int → Int} {h : Th} {i : InsD} {a u th z : Int} {v : AnsD} (s1 : 1 ≤ K.c.s) (A : ThOk K k h) (hu : u - 1 ≠ K.me) (hu1 : 1 ≤ u) (hst : h.st = .gMark i a u th) (hn : ∀ s, 0 ≤ s → s < K.c.s → m (3 + K.c.s + s) ≠ u) :
    ow K (upd m (hSta K (u - 1)) z) (hNext K h v) + 1 ≤ ow K m h ∨ (Neut K m h ∧ ow K (upd m (hSta K (u - 1)) z) (hNext K h v) ≤ ow K m h) := by
  have hn' : hNext K h v = { h with st := .gStat i a } := by unfold hNext; rw [hst]
  have hs := A.step
  unfold StepOk at hs
  rw [hst] at hs
  have a0 : 0 ≤ a := hs.1.1.1
  have b := tmodP s1 a0
  have ev : ∀ s, 0 ≤ s → s < K.c.s → upd m (hSta K (u - 1)) z (3 + s) = m (3 + s) := fun s x y => upd_off (by unfold hSta; omega)
  have e1 : STl (upd m (hSta K (u - 1)) z) { h with st := .gStat i a } = STl m h := by
    unfold STl
    rw [show stl (upd m (hSta K (u - 1)) z) { h with st := .gStat i a } = stl (upd m (hSta K (u - 1)) z) h from rfl, stl_same A.x ev]
  have e2 : MK K (upd m (hSta K (u - 1)) z) = MK K m := by
    unfold MK mrk
    rw [upd_off (by unfold hSta; omega)]
  have no : m (hOwn K (a.tmod K.c.s)) ≠ u := by unfold hOwn; exact hn _ b.1 b.2
  have ea : att K m h = b0 K h + 4 + r0 h := by unfold att; rw [hst]
  have p0 : ph K m h = phv K m h (a.tmod K.c.s) 3 u th := by unfold ph; rw [hst]
  have p2 : ph K (upd m (hSta K (u - 1)) z) { h with st := .gStat i a } = phv K m h (a.tmod K.c.s) 0 0 0 := phv_off 0 0 0 hu (by omega) b (by omega)
  have key : phv K m h (a.tmod K.c.s) 0 0 0 + 1 ≤ phv K m h (a.tmod K.c.s) 3 u th ∨ (phv K m h (a.tmod K.c.s) 3 u th = 0 ∧ phv K m h (a.tmod K.c.s) 0 0 0 = 0) := by
    unfold phv
    by_cases c0 : mrk K.c m K.me ≠ 0
    · rw [if_pos c0, if_pos c0]; exact Or.inl (by simp)
    · rw [if_neg c0, if_neg c0]
      by_cases c1 : m (hOwn K (a.tmod K.c.s)) = 0 ∨ h.rank = 0
      · rw [if_pos c1, if_pos c1]; exact Or.inl (by simp)
      · rw [if_neg c1, if_neg c1]
        by_cases c2 : 0 < shn K.c m (m (hOwn K (a.tmod K.c.s)) - 1) ∧ shn K.c m (m (hOwn K (a.tmod K.c.s)) - 1) < h.rank
        · rw [if_pos c2, if_pos c2]; exact Or.inl (by simp)
        · rw [if_neg c2, if_neg c2]
          by_cases c3 : mrk K.c m (m (hOwn K (a.tmod K.c.s)) - 1) = 0
          · rw [if_pos c3, if_pos c3]
            have : ¬ (u = m (hOwn K (a.tmod K.c.s)) ∧ th = m (hSta K (u - 1))) := fun q => no q.1.symm
            exact Or.inl (by simp [this])
          · rw [if_neg c3, if_neg c3]; exact Or.inr ⟨rfl, rfl⟩
  rw [hn', ow_run (h := h) (by rw [hst]; trivial), ow_run (h := { h with st := .gStat i a }) trivial, e1, e2, ea, p2]
  show b0 K h + 4 + r0 h + _ + 1120 * RA K h + 1120 * STl m h + 1120 * MK K m + 26960 - 13 * h.x.valid + 1 ≤ _ ∨ (_ ∧ b0 K h + 4 + r0 h + _ + 1120 * RA K h + 1120 * STl m h + 1120 * MK K m + 26960 - 13 * h.x.valid ≤ _)
  rcases key with q | q
  · exact Or.inl (by omega)
  · exact Or.inr ⟨by unfold Neut; rw [hst]; show ph K m h = 0; omega, by omega⟩

theorem wsum_le (c : Cfg) (m : Int → Int) (t : Int) (h : Th) : S4 (wU c m t h) ≤ 1120 ∧ (¬ FlP h.st → S4 (wU c m t h) = 0) := by
  refine ⟨?_, fun g => by unfold S4; rw [wU_no g, wU_no g, wU_no g, wU_no g]; rfl⟩
  have q : ∀ u, wU c m t h u ≤ if h.x.way = u then 1120 else 0 := fun u => by
    by_cases g : FlP h.st
    · rw [wU_fl g]
      by_cases e : h.x.way = u
      · rw [if_pos e]; split <;> omega
      · rw [if_neg e, if_neg (fun r => e r.1.1)]; exact Int.le_refl _
    · rw [wU_no g]; split <;> omega
  have q0 := q 0; have q1 := q 1; have q2 := q 2; have q3 := q 3
  unfold S4
  by_cases e0 : h.x.way = 0
  · rw [if_pos e0] at q0; rw [if_neg (by omega)] at q1 q2 q3; omega
  · rw [if_neg e0] at q0
    by_cases e1 : h.x.way = 1
    · rw [if_pos e1] at q1; rw [if_neg (by omega)] at q2 q3; omega
    · rw [if_neg e1] at q1
      by_cases e2 : h.x.way = 2
      · rw [if_pos e2] at q2; rw [if_neg (by omega)] at q3; omega
      · rw [if_neg e2] at q2
        have : (if h.x.way = 3 then (1120 : Int) else 0) ≤ 1120 := by split <;> omega
        omega

/-- A mark hits. -/
theorem phi_mark {c : Cfg} {jobs : List (Int × List InsD)} {m : Int → Int} {th : Int → Th} {k t : Int} {G : Gh} {v : AnsD} {i : InsD} {a u x : Int} (H : Hy c jobs m th k t G v) (hst : (th t).st = .gMark i a u x) (hit : m (3 + 2 * c.s + (u - 1)) = x) (hvis : shn c m t = (th t).rank) (hun : shn c m (u - 1) ≠ (th t).rank) (hid : (th (u - 1)).st = .idle → ∀ s, 0 ≤ s → s < c.s → m (3 + c.s + s) ≠ u) :
    (((th (u - 1)).st = .idle ∧ Neut (cxOf c jobs t) m (th t)) ∧ Phi c jobs (mNext m (hOut (cxOf c jobs t) (th t))) (thSet th t (hNext (cxOf c jobs t) (th t) v)) ≤ Phi c jobs m th) ∨ Phi c jobs (mNext m (hOut (cxOf c jobs t) (th t))) (thSet th t (hNext (cxOf c jobs t) (th t) v)) + 1 ≤ Phi c jobs m th := by
  obtain ⟨⟨t1, t2⟩, ⟨w1, w2⟩, ⟨s1, s2⟩, _, _, _, ⟨f1, f2⟩⟩ := cfgB_true H.hc
  have A := H.T t H.t0 H.t1
  have tt0 := H.t0
  have tt1 := H.t1
  have rk := A.rank.1
  have hs := A.step
  unfold StepOk at hs
  rw [hst] at hs
  obtain ⟨_, ⟨u1, u2⟩, so, x8⟩ := hs
  have u2' : u ≤ c.t := u2
  have l2 := H.L2
  unfold Loc2 at l2
  rw [hst] at l2
  obtain ⟨⟨l1, l3⟩, l4⟩ := l2
  have l3' : u ≠ t + 1 := l3
  have ho : hOut (cxOf c jobs t) (th t) = ⟨3, 3 + 2 * c.s + (u - 1), x, x + t + 1⟩ := by unfold hOut; rw [hst]; rfl
  rw [ho, mNext_swap m _ _ _ hit]
  have hn' : hNext (cxOf c jobs t) (th t) v = { th t with st := .gStat i a } := by unfold hNext; rw [hst]
  have ni' : (hNext (cxOf c jobs t) (th t) v).st ≠ .idle := by rw [hn']; intro f; cases f
  have nj' : (hNext (cxOf c jobs t) (th t) v).job = (th t).job := by rw [hn']
  have us' : usH jobs t (hNext (cxOf c jobs t) (th t) v) ≤ usH jobs t (th t) := by
    have e1 : usH jobs t (th t) = cntJ jobs t (th t).job := by unfold usH; rw [hst]
    have q := (us_le jobs t _ ni').1
    rw [nj'] at q
    rw [e1]; exact q
  have hN := nj_same (jobs := jobs) (t := t) H.ni ni' nj'
  have f0 : ∀ (m : Int → Int) w, fU c m (th t) w = 0 ∧ wU c m t (th t) w = 0 := fun m w => ⟨fU_no (by rw [hst]; simp), wU_no (by rw [hst]; exact fun f => f)⟩
  have f1 : ∀ (m : Int → Int) w, fU c m (hNext (cxOf c jobs t) (th t) v) w = 0 ∧ wU c m t (hNext (cxOf c jobs t) (th t) v) w = 0 := fun m w => ⟨fU_no (by rw [hn']; simp), wU_no (by rw [hn']; exact fun f => f)⟩
  have O1 : ow (cxOf c jobs t) (upd m (3 + 2 * c.s + (u - 1)) (x + t + 1)) (hNext (cxOf c jobs t) (th t) v) ≤ ow (cxOf c jobs t) m (th t) + 6 := ow_mark1 (K := cxOf c jobs t) s1 A H.t0 (by show u - 1 ≠ t; omega) u1 hst
  have O2 : (th (u - 1)).st = .idle → (ow (cxOf c jobs t) (upd m (3 + 2 * c.s + (u - 1)) (x + t + 1)) (hNext (cxOf c jobs t) (th t) v) + 1 ≤ ow (cxOf c jobs t) m (th t) ∨ (Neut (cxOf c jobs t) m (th t) ∧ ow (cxOf c jobs t) (upd m (3 + 2 * c.s + (u - 1)) (x + t + 1)) (hNext (cxOf c jobs t) (th t) v) ≤ ow (cxOf c jobs t) m (th t))) := fun q => ow_mark2 (K := cxOf c jobs t) (z := x + t + 1) (v := v) s1 A (by show u - 1 ≠ t; omega) u1 hst (hid q)
  have O3 : (th (u - 1)).st = .idle → ∀ w, 0 ≤ w → w < c.t → w ≠ u - 1 → ow (cxOf c jobs w) (upd m (3 + 2 * c.s + (u - 1)) (x + t + 1)) (th w) = ow (cxOf c jobs w) m (th w) := fun q w a0 a1 a2 => ow_off (K := cxOf c jobs w) s1 (H.T w a0 a1) (by show u - 1 ≠ w; omega) (by omega) (fun s b0 b1 => by have := hid q s b0 b1; show m (3 + c.s + s) ≠ _; omega)
  have ev : ∀ s, 0 ≤ s → s < c.s → upd m (3 + 2 * c.s + (u - 1)) (x + t + 1) (3 + s) = m (3 + s) := fun s a b => upd_off (by omega)
  have sto : ∀ w, shn c (upd m (3 + 2 * c.s + (u - 1)) (x + t + 1)) w = shn c m w := fun w => by
    unfold shn
    by_cases e : w = u - 1
    · rw [e, upd_at, hit]; omega
    · rw [upd_off (by omega)]
  have mko : ∀ w, w ≠ u - 1 → mrk c (upd m (3 + 2 * c.s + (u - 1)) (x + t + 1)) w = mrk c m w := fun w e => by unfold mrk; rw [upd_off (by omega)]
  have mk1 : mrk c (upd m (3 + 2 * c.s + (u - 1)) (x + t + 1)) (u - 1) = t + 1 := by unfold mrk; rw [upd_at]; omega
  have mk0 : mrk c m (u - 1) = 0 := by unfold mrk; rw [hit]; exact x8
  have su : shn c m (u - 1) = x / 8 := by unfold shn; rw [hit]
  have e0 : upd m (3 + 2 * c.s + (u - 1)) (x + t + 1) 0 = m 0 := upd_off (by omega)
  have esw : ∀ w, 0 ≤ w → w ≠ u - 1 → upd m (3 + 2 * c.s + (u - 1)) (x + t + 1) (3 + 2 * c.s + w) = m (3 + 2 * c.s + w) := fun w _ e => upd_off (by omega)
  generalize upd m (3 + 2 * c.s + (u - 1)) (x + t + 1) = m' at *
  generalize hNext (cxOf c jobs t) (th t) v = h' at *
  have hcu := cu_le (c := c) (jobs := jobs) (m := m) (m' := m') (th := th) (t := t) (d := 0) (h' := h') H.t0 H.t1 t2 (by rw [e0]; omega) (by omega)
  have njw : ∀ w, njH jobs w (thSet th t h' w) = njH jobs w (th w) := fun w => by
    by_cases e : w = t
    · rw [e, thset_at]; exact hN
    · rw [thset_off e]
  -- the credit of those that are not marked
  have crw : ∀ w, 0 ≤ w → w ≠ u - 1 → S4 (cr c jobs m' (thSet th t h') w) ≤ S4 (cr c jobs m th w) := fun w w0 hw => S4_le (fun y y0 y1 => by
    unfold cr
    by_cases hv : y < c.t ∧ y ≠ w
    · rw [if_pos hv, if_pos hv, njw]
      have g1 : aU c m' w y = aU c m w y := by unfold aU; rw [sto, sto, mko w hw]
      rw [g1]
      by_cases e : w = t
      · rw [e, thset_at, (f0 m y).1, (f0 m y).2, (f1 m' y).1, (f1 m' y).2]
        exact Int.le_refl _
      · rw [thset_off e]
        have g2 : fU c m' (th w) y = fU c m (th w) y := by unfold fU; rw [sto]
        have g3 : wU c m' w (th w) y = wU c m w (th w) y := by unfold wU; rw [sto, mko w hw]
        rw [g2, g3]
        exact Int.le_refl _
    · rw [if_neg hv, if_neg hv]; exact Int.le_refl _)
  by_cases hi : (th (u - 1)).st = .idle
  · -- the marked one has nothing
    have oth : ∀ w, 0 ≤ w → w ≤ 3 → w ≠ t → pt c jobs m' (thSet th t h') w ≤ pt c jobs m th w + 0 := fun w w0 w3 hw => by
      by_cases e : w = u - 1
      · unfold pt
        rw [thset_off hw, e, hi]
        split <;> exact Int.le_refl _
      · exact pt_other (k := k) w0 w3 hw (Int.le_refl _) hcu (fun h1 => by have := O3 hi w w0 h1 e; omega) (fun _ => sto w) (fun _ => crw w w0 e)
    have own : ∀ d, ow (cxOf c jobs t) m' h' + d ≤ ow (cxOf c jobs t) m (th t) → pt c jobs m' (thSet th t h') t + 3 * 0 + d ≤ pt c jobs m th t := fun d q => by
      rw [pt_of H.t1 (by rw [thset_at]; exact ni'), pt_of H.t1 H.ni]
      unfold pb
      rw [thset_at, hN, sto]
      have := crw t tt0 (by omega)
      omega
    unfold Phi
    rcases O2 hi with q | ⟨q1, q2⟩
    · exact Or.inr (S4_step (t := t) (p := 0) tt0 (by omega) oth (Int.le_refl _) (own 1 q))
    · have := S4_step (t := t) (p := 0) tt0 (by omega) oth (Int.le_refl _) (own 0 (by have := q2; omega))
      exact Or.inl ⟨⟨hi, q1⟩, by omega⟩
  · -- the marked one pays
    refine Or.inr ?_
    unfold Phi
    refine S4_step (t := u - 1) (p := 6) (by omega) (by omega) (fun w w0 w3 hw => ?_) (by omega) ?_
    · by_cases e : w = t
      · rw [e, pt_of H.t1 (by rw [thset_at]; exact ni'), pt_of H.t1 H.ni]
        unfold pb
        rw [thset_at, hN, sto]
        have := crw t tt0 (by omega)
        omega
      · exact pt_other (k := k) w0 w3 e (by omega) hcu (fun h1 => ow_ph (K := cxOf c jobs w) s1 (H.T w w0 h1) ev (esw w w0 hw)) (fun _ => sto w) (fun _ => crw w w0 hw)
    · have hvt : u - 1 ≠ t := by omega
      rw [pt_of (by omega) (by rw [thset_off hvt]; exact hi), pt_of (by omega) hi]
      unfold pb
      rw [thset_off hvt, sto]
      have W := wsum_le c m (u - 1) (th (u - 1))
      have C : S4 (cr c jobs m' (thSet th t h') (u - 1)) + 1145 ≤ S4 (cr c jobs m th (u - 1)) + S4 (wU c m (u - 1) (th (u - 1))) := by
        have g : ∀ y, 0 ≤ y → y ≤ 3 → cr c jobs m' (thSet th t h') (u - 1) y + (if y = t then 1145 else 0) ≤ cr c jobs m th (u - 1) y + wU c m (u - 1) (th (u - 1)) y := fun y y0 y3 => by
          have P' := u_le c m' (u - 1) y (th (u - 1))
          have P := u_le c m (u - 1) y (th (u - 1))
          unfold cr
          by_cases hv : y < c.t ∧ y ≠ u - 1
          · rw [if_pos hv, if_pos hv, njw, thset_off hvt]
            have g2 : fU c m' (th (u - 1)) y = fU c m (th (u - 1)) y := by unfold fU; rw [sto]
            have g1 : aU c m (u - 1) y = 0 := by unfold aU; rw [if_neg (by rintro ⟨q, _⟩; omega)]
            have g3 : (if y = t then (1145 : Int) else 0) ≤ aU c m' (u - 1) y := by
              by_cases e : y = t
              · rw [if_pos e]
                unfold aU
                rw [if_pos ⟨by rw [mk1, e], by rw [sto, e, hvis]; omega, by rw [sto, sto, e, hvis]; omega⟩]
                exact Int.le_refl _
              · rw [if_neg e]; exact P'.1
            omega
          · rw [if_neg hv, if_neg hv, if_neg (by omega)]
            omega
        have a0 := g 0 (by omega) (by omega)
        have a1 := g 1 (by omega) (by omega)
        have a2 := g 2 (by omega) (by omega)
        have a3 := g 3 (by omega) (by omega)
        unfold S4
        have cs : t = 0 ∨ t = 1 ∨ t = 2 ∨ t = 3 := by omega
        rcases cs with q | q | q | q <;> rw [q] at a0 a1 a2 a3 ⊢ <;> simp at a0 a1 a2 a3 <;> omega
      have Tv := H.T (u - 1) (by omega) (by omega)
      by_cases g : FlP (th (u - 1)).st
      · have W1 := W.1
        have E : ow (cxOf c jobs (u - 1)) m' (th (u - 1)) = ow (cxOf c jobs (u - 1)) m (th (u - 1)) := ow_mk0 (K := cxOf c jobs (u - 1)) s1 Tv ev (by
          cases e : (th (u - 1)).st <;> rw [e] at g <;> first
            | exact g.elim
            | exact Or.inl rfl
            | exact Or.inr (Or.inl ⟨_, rfl⟩)
            | exact Or.inr (Or.inr (Or.inl rfl))
            | exact Or.inr (Or.inr (Or.inr rfl)))
        omega
      · have W2 := W.2 g
        have E : ow (cxOf c jobs (u - 1)) m' (th (u - 1)) ≤ ow (cxOf c jobs (u - 1)) m (th (u - 1)) + 1126 := ow_mk (K := cxOf c jobs (u - 1)) s1 Tv ev
        omega

end Go.Proofs.Ytejadojilncbjab
