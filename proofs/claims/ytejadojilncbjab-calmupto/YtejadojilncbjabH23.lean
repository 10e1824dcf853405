import Derived.Test.YtejadojilncbjabH22
import Derived.Test.YtejadojilncbjabH15
namespace Go.Proofs.Ytejadojilncbjab
set_option linter.unusedVariables false

/-! All jobs come to their end, part 14: what stays true of all threads. -/

theorem len_of {K : Cx} {k : Int} {G : Gh} {m : Int → Int} {h : Th} (hc : cfgB K.c = true) (A : ThOk K k h) (L : Loc K h) (S : SI K G m h) (rs : ∀ n, h.st = .rest n → n ≤ 8) : LenOk h := by
  obtain ⟨⟨t1, t2⟩, ⟨w1, w2⟩, ⟨s1, s2⟩, _⟩ := cfgB_true hc
  have key : ∀ (n : Int) (l : List Int), n ≤ 8 → 0 ≤ n → l.Nodup → (∀ x ∈ l, 0 ≤ x ∧ x < n) → l.length ≤ 8 := fun n l n8 n0 hn hr => by
    have := len_nodup n.toNat l hn (fun x hx => by have := hr x hx; omega)
    omega
  have rd : h.x.reads.length ≤ 8 := by
    have := key K.c.s (h.x.reads.map (·.what)) s2 (by omega) A.x.rn (fun x hx => by
      obtain ⟨e, he, q⟩ := List.mem_map.1 hx
      have := A.x.rd e he
      omega)
    simpa using this
  have hs := A.step
  unfold StepOk at hs
  unfold Loc at L
  unfold SI at S
  refine ⟨key K.c.s h.x.held s2 (by omega) A.x.hn A.x.hd, ?_⟩
  cases hst : h.st with
  | xVer x c r =>
    rw [hst] at S
    obtain ⟨_, _, _, pre, q, _⟩ := S
    rw [q, List.length_append] at rd
    show r.length ≤ 8
    omega
  | cVer c r =>
    rw [hst] at S
    obtain ⟨_, _, _, pre, q, _⟩ := S
    rw [q, List.length_append] at rd
    show r.length ≤ 8
    omega
  | cShut c r => rw [hst] at L hs; exact key K.c.s r s2 (by omega) L.2.1 hs.2.2
  | cWord c r =>
    rw [hst] at S hs
    have := key K.c.wd (r.map (·.what)) w2 (by omega) S.2.2.1 (fun x hx => by
      obtain ⟨e, he, q⟩ := List.mem_map.1 hx
      have := hs.2.2 e he
      omega)
    simpa using this
  | cOpen c r => rw [hst] at L hs; exact key K.c.s r s2 (by omega) L hs.2.2
  | cOwn c r => rw [hst] at L hs; exact key K.c.s r s2 (by omega) L hs.2.2
  | free e r => rw [hst] at L hs; exact key K.c.s r s2 (by omega) L hs.2
  | fOwn r => rw [hst] at L hs; exact key K.c.s r s2 (by omega) L hs.2
  | rest n => exact rs n hst
  | _ => trivial

structure CI (c : Cfg) (jobs : List (Int × List InsD)) (m : Int → Int) (th : Int → Th) : Prop where
  mrkd : ∀ t, 0 ≤ t → t < c.t → mrk c m t ≠ t + 1
  idl : ∀ t, 0 ≤ t → t < c.t → (th t).st = .idle → shn c m t = 0
  yt : ∀ t, 0 ≤ t → t < c.t → Yt (cxOf c jobs t) (m 0) (shn c m t = 0) (th t)

theorem Yt.ch {K : Cx} {clk : Int} {Q Q' : Prop} {h : Th} (Y : Yt K clk Q h) (q : h.st = .tShow → Q') : Yt K clk Q' h := ⟨Y.fl, Y.fr, Y.va, Y.xc, Y.xv, Y.wy, Y.ww, Y.rs, q⟩

theorem ci_step {c : Cfg} {jobs : List (Int × List InsD)} {m : Int → Int} {th : Int → Th} {tick : Int → Int} {k t : Int} {v : AnsD} (hc : cfgB c = true) (t0 : 0 ≤ t) (t1 : t < c.t) (M : CellsOk c k m) (A : ThOk (cxOf c jobs t) k (th t)) (R : RI c jobs m th tick) (C : CI c jobs m th) (hv : (hOut (cxOf c jobs t) (th t)).kind ≠ 0 → v.seen = m (hOut (cxOf c jobs t) (th t)).cell)
    (hver : ∀ s, 0 ≤ s → s < c.s → m (3 + s) ≤ m 0) (hclk : m 0 ≤ mNext m (hOut (cxOf c jobs t) (th t)) 0) (E : REff (cxOf c jobs t) m (mNext m (hOut (cxOf c jobs t) (th t))) (th t) (hNext (cxOf c jobs t) (th t) v) (hOut (cxOf c jobs t) (th t))) :
    CI c jobs (mNext m (hOut (cxOf c jobs t) (th t))) (thSet th t (hNext (cxOf c jobs t) (th t) v)) := by
  obtain ⟨⟨c1, c2⟩, ⟨w1, w2⟩, ⟨s1, s2⟩, _, ⟨r1, r2⟩, ⟨p1, p2⟩, ⟨f1, f2⟩⟩ := cfgB_true hc
  have m1 : 0 ≤ m 1 := ((M 1 (by omega) (by rw [total_eq]; omega)).cnt (Or.inr rfl)).1
  have hmk : (th t).st = .fStat → v.seen.tmod 8 ≠ (cxOf c jobs t).me + 1 := fun q => by
    have ho : hOut (cxOf c jobs t) (th t) = ⟨2, 3 + 2 * c.s + t, 0, 8 * (th t).rank⟩ := by unfold hOut; rw [q]; rfl
    have e := hv (by rw [ho]; simp)
    rw [ho] at e
    have e' : v.seen = m (3 + 2 * c.s + t) := e
    have so : SOk c k (m (3 + 2 * c.s + t)) := (M (3 + 2 * c.s + t) (by omega) (by rw [total_eq]; omega)).sta (by omega) (by omega)
    rw [e', (sok_mod so).1]
    exact C.mrkd t t0 t1
  have Y1 := yt_next (K := cxOf c jobs t) (Q := True) (m := m) (h := th t) (by show 0 ≤ c.f; omega) r1 t0 s1 A (R.l2 t t0 t1) ((C.yt t t0 t1).ch (fun _ => trivial)) v hv hver m1 ⟨p1, p2⟩ hmk (fun _ => trivial)
  have T1 := ts_next (K := cxOf c jobs t) (Q := True) (m := m) (h := th t) (by show 0 ≤ c.f; omega) r1 t0 s1 A (R.l2 t t0 t1) ((C.yt t t0 t1).ch (fun _ => trivial)) v hv hver m1 ⟨p1, p2⟩ hmk
  have cs : hSta (cxOf c jobs t) (cxOf c jobs t).me = 3 + 2 * c.s + t := rfl
  have F1 : ∀ u, 0 ≤ u → u < c.t → u ≠ t → shn c (mNext m (hOut (cxOf c jobs t) (th t))) u = shn c m u := fun u u0 u1 hu => by
    unfold shn
    cases E with
    | same Q M' _ _ => rw [M' _ (Or.inr ⟨by show 3 + 2 * c.s ≤ _; omega, by show _ < 3 + 2 * c.s + c.t; omega⟩)]
    | take Q _ M' _ _ => rw [M', upd_off (by omega)]
    | shows Q M' _ => rw [M', cs, upd_off (by omega)]
    | zero Q M' _ => rw [M', cs, upd_off (by omega)]
    | mark Q w x b e M' _ _ =>
      have ew : hSta (cxOf c jobs t) w = 3 + 2 * c.s + w := rfl
      rw [M', ew]
      by_cases hw : u = w
      · have b1 : w < c.t := b.2.1
        rw [hw, upd_at, ← ew, e.1]
        show (x + t + 1) / 8 = x / 8
        have := e.2
        omega
      · rw [upd_off (by omega)]
  have F2 : ∀ u, 0 ≤ u → u < c.t → mrk c (mNext m (hOut (cxOf c jobs t) (th t))) u ≠ u + 1 := fun u u0 u1 => by
    have old := C.mrkd u u0 u1
    unfold mrk at old ⊢
    cases E with
    | same Q M' _ _ => rw [M' _ (Or.inr ⟨by show 3 + 2 * c.s ≤ _; omega, by show _ < 3 + 2 * c.s + c.t; omega⟩)]; exact old
    | take Q _ M' _ _ => rw [M', upd_off (by omega)]; exact old
    | shows Q M' _ =>
      rw [M', cs]
      by_cases hu : u = t
      · rw [hu, upd_at]; omega
      · rw [upd_off (by omega)]; exact old
    | zero Q M' _ =>
      rw [M', cs]
      by_cases hu : u = t
      · rw [hu, upd_at]; omega
      · rw [upd_off (by omega)]; exact old
    | mark Q w x b e M' _ _ =>
      have ew : hSta (cxOf c jobs t) w = 3 + 2 * c.s + w := rfl
      rw [M', ew]
      by_cases hw : u = w
      · have b1 : w < c.t := b.2.1
        have b2 : w ≠ t := b.2.2
        rw [hw, upd_at]
        show (x + t + 1) % 8 ≠ w + 1
        have := e.2
        omega
      · rw [upd_off (by omega)]; exact old
  have F3 : (hNext (cxOf c jobs t) (th t) v).st = .idle → shn c (mNext m (hOut (cxOf c jobs t) (th t))) t = 0 := fun q => by
    have L := leff_next (K := cxOf c jobs t) (by show 0 ≤ c.f; omega) A v
    have on : Opn (hNext (cxOf c jobs t) (th t) v) = true → False := fun o => by simp [Opn, q] at o
    cases L with
    | note _ _ _ _ _ Z =>
      have i := Z.2 q
      have ho : hOut (cxOf c jobs t) (th t) = ⟨0, 0, 0, 0⟩ := by unfold hOut; rw [i]
      rw [ho, mNext_none]
      exact C.idl t t0 t1 i
    | new _ _ O _ _ _ => exact (on O).elim
    | valid _ _ _ O _ _ _ => exact (on O).elim
    | stamp _ _ _ O _ _ _ => exact (on O).elim
    | failed _ _ _ _ _ Z => exact absurd q Z
    | fin f e _ =>
      have ho : hOut (cxOf c jobs t) (th t) = ⟨2, 3 + 2 * c.s + t, 0, 0⟩ := by unfold hOut; rw [e]; rfl
      rw [ho, mNext_store]
      unfold shn
      rw [upd_at]
      rfl
  have F4 : (hNext (cxOf c jobs t) (th t) v).st = .tShow → shn c (mNext m (hOut (cxOf c jobs t) (th t))) t = 0 := fun q => by
    have e := T1 q
    have ho : hOut (cxOf c jobs t) (th t) = ⟨4, 1, 0, 0⟩ := by unfold hOut; rw [e]
    have l2 := R.l2 t t0 t1
    unfold Loc2 at l2
    rw [e] at l2
    have s2 := R.s2 t t0 t1 (by unfold Vis; rw [e])
    have l2' : (th t).rank = 0 := l2
    rw [ho]
    unfold shn
    rw [mNext_off m _ (by show 3 + 2 * c.s + t ≠ 1; omega), s2]
    exact l2'
  refine ⟨F2, fun u u0 u1 q => ?_, fun u u0 u1 => ?_⟩
  · by_cases hu : u = t
    · rw [hu, thset_at] at q
      rw [hu]; exact F3 q
    · rw [thset_off hu] at q
      rw [F1 u u0 u1 hu]; exact C.idl u u0 u1 q
  · by_cases hu : u = t
    · rw [hu, thset_at]; exact (Y1.mono hclk).ch F4
    · rw [thset_off hu, F1 u u0 u1 hu]; exact (C.yt u u0 u1).mono hclk

end Go.Proofs.Ytejadojilncbjab

namespace Go.Proofs.Ytejadojilncbjab
set_option linter.unusedVariables false

/-! All jobs come to their end, part 15: the potential, pick by pick. -/

theorem reff_at {R : Rn} (O : R.Ok) {k : Nat} (hk : k ≤ R.ps.length) {t : Int} (t0 : 0 ≤ t) (t1 : t < R.c.t) (v : AnsD) (hv : (R.out k t).kind ≠ 0 → v.seen = (R.g k).m (R.out k t).cell) : REff (R.K t) (R.g k).m (mNext (R.g k).m (R.out k t)) ((R.g k).th t) (hNext (R.K t) ((R.g k).th t) v) (R.out k t) := by
  have Q := ri_at O.c O.w O.m R.jobs R.ps k hk
  have I := li_at O.c O.w O.m R.jobs R.ps k
  have G := gat_ok O.c O.w O.m R.jobs R.ps k
  have hcK : cfgB (cxOf R.c R.jobs t).c = true := O.c
  exact (reff_step hcK ⟨t0, t1⟩ (G.th t t0 t1) (Q.l2 t t0 t1) (gAt R.c R.mem R.jobs R.ps k).m v hv (fun h0 => by
    have e : v.seen = (gAt R.c R.mem R.jobs R.ps k).m (hOut (cxOf R.c R.jobs t) ((gAt R.c R.mem R.jobs R.ps k).th t)).cell := hv h0
    rw [e]
    obtain ⟨hcell, _⟩ := ask_ok hcK ⟨t0, t1⟩ (by omega) (G.th t t0 t1) h0
    exact G.m _ hcell.1 hcell.2) (fun i a hg e => by
    have hs := (G.th t t0 t1).step
    unfold StepOk at hs
    rw [hg] at hs
    obtain ⟨_, _, ⟨z1, _⟩, _⟩ := cfgB_true O.c
    have b := tmodP z1 hs.1.1
    have := (I.own _ b.1 b.2 t t0 t1).1 e
    simp [Holds, hg] at this
    exact held_false hs.2 this) (fun _ => Q.s1 t t0 t1)).2

theorem ver_le {R : Rn} (O : R.Ok) (k : Nat) (s : Int) (s0 : 0 ≤ s) (s1 : s < R.c.s) : (R.g k).m (3 + s) ≤ (R.g k).m 0 := by
  obtain ⟨⟨c1, c2⟩, ⟨w1, w2⟩, ⟨z1, z2⟩, _⟩ := cfgB_true O.c
  have P := pi_at O.c O.w O.m R.jobs R.ps k
  have G := gat_ok O.c O.w O.m R.jobs R.ps k
  have m0 : 0 ≤ (R.g k).m 0 := ((G.m 0 (by omega) (by rw [total_eq]; omega)).cnt (Or.inl rfl)).1
  by_cases h : (R.g k).m (3 + s) = -1
  · omega
  · exact (P.ver s s0 s1 h).2

theorem ci_start {R : Rn} (O : R.Ok) : CI R.c R.jobs (R.g 0).m (R.g 0).th := by
  obtain ⟨⟨c1, c2⟩, ⟨w1, w2⟩, ⟨z1, z2⟩, _, ⟨r1, r2⟩, _⟩ := cfgB_true O.c
  have lo : ∀ x, x < wordBase R.c → (R.g 0).m x = 0 := fun x h => by show startVal R.c R.mem x = 0; unfold startVal; rw [if_neg (by omega)]
  unfold wordBase at lo
  refine ⟨fun t t0 t1 => ?_, fun t t0 t1 _ => ?_, fun t t0 t1 => ?_⟩
  · unfold mrk; rw [lo _ (by omega)]; omega
  · unfold shn; rw [lo _ (by omega)]; rfl
  · rw [lo 0 (by omega)]
    show Yt _ _ _ (hInit (cxOf R.c R.jobs t))
    unfold hInit hTo
    split
    · exact ⟨Int.le_refl _, fun _ => ⟨fun f => (by cases f), fun _ => r1⟩, Int.le_refl _, fun k f => (by cases f), fun k c r f => (by cases f), by show (-1 : Int) ≠ t; omega, fun w f => (by cases f), fun n f => (by cases f), fun f => (by cases f)⟩
    · exact ⟨Int.le_refl _, fun _ => ⟨fun f => (by cases f), fun _ => r1⟩, Int.le_refl _, fun k f => (by cases f), fun k c r f => (by cases f), by show (-1 : Int) ≠ t; omega, fun w f => (by cases f), fun n f => (by cases f), fun f => (by cases f)⟩

theorem th_step (R : Rn) (k : Nat) (h : 0 ≤ (R.pk k).thread ∧ (R.pk k).thread < R.c.t) : (R.g (k + 1)).th = thSet (R.g k).th (R.pk k).thread (hNext (R.K (R.pk k).thread) ((R.g k).th (R.pk k).thread) ⟨(accBy (R.g k).m (R.out k (R.pk k).thread)).seen, (R.pk k).draw, (k : Int) + 1⟩) := by
  funext u
  by_cases e : u = (R.pk k).thread
  · rw [e, thset_at]; exact R.at k rfl h.1 h.2
  · rw [thset_off e]; exact R.off k (fun q => e q.symm)
theorem th_none (R : Rn) (k : Nat) (h : ¬ (0 ≤ (R.pk k).thread ∧ (R.pk k).thread < R.c.t)) : R.g (k + 1) = R.g k := by
  rw [R.step]
  unfold gStep
  rw [if_neg h]

theorem ci_at {R : Rn} (O : R.Ok) : ∀ k : Nat, k ≤ R.ps.length → CI R.c R.jobs (R.g k).m (R.g k).th
  | 0, _ => ci_start O
  | k + 1, hk => by
    have C := ci_at O k (by omega)
    have Q := ri_at O.c O.w O.m R.jobs R.ps k (by omega)
    have G := gat_ok O.c O.w O.m R.jobs R.ps k
    by_cases h : 0 ≤ (R.pk k).thread ∧ (R.pk k).thread < R.c.t
    · have cl := R.clk_step O k
      unfold Rn.clk at cl
      rw [R.mem_at k h] at cl ⊢
      rw [th_step R k h]
      exact ci_step O.c h.1 h.2 G.m (G.th _ h.1 h.2) Q C (fun h0 => acc_seen h0) (ver_le O k) cl (reff_at O (by omega) h.1 h.2 _ (fun h0 => acc_seen h0))
    · rw [th_none R k h]; exact C

theorem len_at {R : Rn} (O : R.Ok) {k : Nat} (hk : k ≤ R.ps.length) {t : Int} (t0 : 0 ≤ t) (t1 : t < R.c.t) : LenOk ((R.g k).th t) :=
  len_of (K := R.K t) (show cfgB (R.K t).c = true from O.c) ((gat_ok O.c O.w O.m R.jobs R.ps k).th t t0 t1) ((li_at O.c O.w O.m R.jobs R.ps k).loc t t0 t1) ((pi_at O.c O.w O.m R.jobs R.ps k).th t t0 t1) ((ci_at O k hk).yt t t0 t1).rs

theorem hy_at {R : Rn} (O : R.Ok) {k : Nat} (hk : k < R.ps.length) (h : 0 ≤ (R.pk k).thread ∧ (R.pk k).thread < R.c.t) (ni : ((R.g k).th (R.pk k).thread).st ≠ .idle) : Hy R.c R.jobs (R.g k).m (R.g k).th k (R.pk k).thread (R.gh k) ⟨(accBy (R.g k).m (R.out k (R.pk k).thread)).seen, (R.pk k).draw, (k : Int) + 1⟩ := by
  have C := ci_at O k (by omega)
  have Q := ri_at O.c O.w O.m R.jobs R.ps k (by omega)
  have G := gat_ok O.c O.w O.m R.jobs R.ps k
  have G' := gat_ok O.c O.w O.m R.jobs R.ps (k + 1)
  have Y := C.yt _ h.1 h.2
  have ea := R.at k rfl h.1 h.2
  refine ⟨O.c, h.1, h.2, G.m, G.th, (pi_at O.c O.w O.m R.jobs R.ps k).th _ h.1 h.2, Q.l2 _ h.1 h.2, ⟨Y.fl, Y.fr, Y.xc, fun a b c d => (Y.xv a b c d).1, Y.ts⟩, Y.va, len_at O (by omega) h.1 h.2, fun h0 => acc_seen h0, ?_, ?_, ni, fun u u0 u1 => ?_⟩
  · have := len_at O (k := k + 1) (by omega) h.1 h.2
    rw [ea] at this
    exact this
  · have := G'.th _ h.1 h.2
    have e2 : (gAt R.c R.mem R.jobs R.ps (k + 1)).th (R.pk k).thread = _ := ea
    rw [e2] at this
    exact this
  · have a := Q.s1 u u0 u1
    have b := Q.tk u u0 u1
    have d := Q.rk u u0 u1
    unfold shn
    show (gAt R.c R.mem R.jobs R.ps k).m _ / 8 ≤ (gAt R.c R.mem R.jobs R.ps k).m 1
    by_cases z : ((gAt R.c R.mem R.jobs R.ps k).th u).rank = 0
    · omega
    · have := d z; omega

def Rn.phi (R : Rn) (k : Nat) : Int := Phi R.c R.jobs (R.g k).m (R.g k).th

theorem phi_step {R : Rn} (O : R.Ok) {k : Nat} (hk : k < R.ps.length) (h : 0 ≤ (R.pk k).thread ∧ (R.pk k).thread < R.c.t) : (Neut (R.K (R.pk k).thread) (R.g k).m ((R.g k).th (R.pk k).thread) ∧ R.phi (k + 1) ≤ R.phi k) ∨ R.phi (k + 1) + 1 ≤ R.phi k := by
  by_cases ni : ((R.g k).th (R.pk k).thread).st = .idle
  · refine Or.inl ⟨by unfold Neut; rw [ni]; trivial, ?_⟩
    have e1 : (R.g (k + 1)).m = (R.g k).m := by
      rw [R.mem_at k h, show R.out k (R.pk k).thread = ⟨0, 0, 0, 0⟩ from by unfold Rn.out hOut; rw [ni]]
      exact mNext_none _
    have e2 : (R.g (k + 1)).th = (R.g k).th := by
      rw [th_step R k h]
      funext u
      by_cases e : u = (R.pk k).thread
      · rw [e, thset_at]; unfold hNext; rw [ni]
      · exact thset_off e
    unfold Rn.phi
    rw [e1, e2]
    exact Int.le_refl _
  · have H := hy_at O hk h ni
    have C := ci_at O k (by omega)
    have Q := ri_at O.c O.w O.m R.jobs R.ps k (by omega)
    have I := li_at O.c O.w O.m R.jobs R.ps k
    have T := fun u u0 u1 => ti_at O u u0 u1 k
    have hs := (H.T _ h.1 h.2).step
    obtain ⟨⟨c1, c2⟩, ⟨w1, w2⟩, ⟨z1, z2⟩, _⟩ := cfgB_true O.c
    have t0 := h.1
    have t1 := h.2
    unfold Rn.phi
    rw [R.mem_at k h, th_step R k h]
    have hv := H.hv
    generalize (⟨(accBy (R.g k).m (R.out k (R.pk k).thread)).seen, (R.pk k).draw, (k : Int) + 1⟩ : AnsD) = v at *
    unfold StepOk at hs
    have QA := fun a => phi_A H a
    change RI R.c R.jobs (R.g k).m (R.g k).th _ at Q
    change LI R.c R.jobs (R.g k).m (R.g k).th at I
    change (ClsA _ _ _ _ → (Neut (R.K (R.pk k).thread) (R.g k).m ((R.g k).th (R.pk k).thread) ∧ Phi R.c R.jobs (mNext (R.g k).m (R.out k (R.pk k).thread)) (thSet (R.g k).th (R.pk k).thread (hNext (R.K (R.pk k).thread) ((R.g k).th (R.pk k).thread) v)) ≤ Phi R.c R.jobs (R.g k).m (R.g k).th) ∨ Phi R.c R.jobs (mNext (R.g k).m (R.out k (R.pk k).thread)) (thSet (R.g k).th (R.pk k).thread (hNext (R.K (R.pk k).thread) ((R.g k).th (R.pk k).thread) v)) + 1 ≤ Phi R.c R.jobs (R.g k).m (R.g k).th) at QA
    generalize (R.pk k).thread = t at *
    have vs := Q.s2 t t0 t1
    cases hst : ((R.g k).th t).st with
    | gOwn i a =>
      by_cases q : v.seen = 0
      · exact Or.inr (phi_got H hst q)
      · exact QA (by unfold ClsA; rw [hst]; exact q)
    | gMark i a u x =>
      rw [hst] at hs
      by_cases q : (R.g k).m (3 + 2 * R.c.s + (u - 1)) = x
      · have l2 := H.L2
        unfold Loc2 at l2
        rw [hst] at l2
        have u1 : 1 ≤ u := hs.2.1.1
        have u2 : u ≤ R.c.t := hs.2.1.2
        have l3 : u ≠ t + 1 := l2.1.2
        have l1 := l2.1.1
        have vt := vs (by unfold Vis; rw [hst])
        refine Or.imp (fun z => ⟨z.1.2, z.2⟩) id (phi_mark H hst q vt (fun e => ?_) (fun e s s0 s1 o => ?_))
        · have a1 := Q.s1 (u - 1) (by omega) (by omega)
          unfold shn at e
          have a2 : ((R.g k).th (u - 1)).rank = ((R.g k).th t).rank := by omega
          have a3 := Q.rk t t0 t1 l1
          have a4 := Q.rk (u - 1) (by omega) (by omega) (by omega)
          exact Q.uq t (u - 1) t0 t1 (by omega) (by omega) (by omega) (by omega) (by omega)
        · have o' := (I.own s s0 s1 (u - 1) (by omega) (by omega)).1 (by rw [o]; omega)
          unfold Holds at o'
          rw [e] at o'
          exact o'
      · exact QA (by unfold ClsA; rw [hst]; exact q)
    | tShow =>
      by_cases q : v.seen = 0
      · exact Or.inr (phi_show H hst q)
      · exact QA (by unfold ClsA; rw [hst]; exact q)
    | cShut c r =>
      rw [hst] at hs
      cases r with
      | nil => exact absurd rfl hs.2.1
      | cons s r => exact Or.inr (phi_ver H (Or.inl hst))
    | cStamp c => exact Or.inr (phi_stamp H hst (I.clk t t0 t1 c (by unfold hClk; rw [hst])))
    | cOpen c r =>
      rw [hst] at hs
      cases r with
      | nil => exact absurd rfl hs.2.1
      | cons s r =>
        have b := hs.2.2 s List.mem_cons_self
        exact Or.inr (phi_ver H (Or.inr ⟨hst, (I.shut s b.1 b.2).2 ⟨t, t0, t1, by unfold Shuts; rw [hst]; exact List.mem_cons_self⟩⟩))
    | cOwn c r =>
      rw [hst] at hs
      cases r with
      | nil => exact absurd rfl hs.2.1
      | cons s r => exact Or.inr (phi_gave H (Or.inl ⟨c, hst⟩))
    | free e r =>
      rw [hst] at hs
      cases r with
      | nil => exact absurd rfl hs.1
      | cons s r => exact Or.inr (phi_gave H (Or.inr (Or.inl ⟨e, hst⟩)))
    | fOwn r =>
      rw [hst] at hs
      cases r with
      | nil => exact absurd rfl hs.1
      | cons s r => exact Or.inr (phi_gave H (Or.inr (Or.inr hst)))
    | fin e =>
      exact Or.inr (phi_fin H hst ((T t t0 t1).jn H.ni) (fun u u0 u1 n => by
        have j := (T u u0 u1).jn n
        have q := cnt_at (t := u) j.1
        rw [if_pos j.2] at q
        have := cnt_pos R.jobs u (((R.g k).th u).job + 1)
        omega) C.idl)
    | fStat => exact Or.inr (phi_stat H hst (Q.s1 t t0 t1) (C.mrkd t t0 t1))
    | idle => exact absurd hst H.ni
    | _ => exact QA (by unfold ClsA; rw [hst]; trivial)

end Go.Proofs.Ytejadojilncbjab

namespace Go.Proofs.Ytejadojilncbjab
set_option linter.unusedVariables false

/-! All jobs come to their end, part 16: how great the potential is. -/

theorem cnt_sum (jobs : List (Int × List InsD)) : cntJ jobs 0 0 + cntJ jobs 1 0 + cntJ jobs 2 0 + cntJ jobs 3 0 ≤ (jobs.length : Int) := by
  induction jobs with
  | nil => exact Int.le_refl _
  | cons b r ih =>
    have key : ∀ n : Int, cntJ (b :: r) n 0 = cntJ r n 0 + if b.1 = n then 1 else 0 := fun n => by
      unfold cntJ
      rw [List.drop_zero, List.drop_zero, List.filter_cons]
      by_cases q : b.1 = n
      · rw [if_pos (by simp [q]), if_pos q, List.length_cons]; omega
      · rw [if_neg (by simp [q]), if_neg q]; omega
    rw [key 0, key 1, key 2, key 3, List.length_cons]
    by_cases e0 : b.1 = 0
    · rw [if_pos e0, if_neg (by omega), if_neg (by omega), if_neg (by omega)]; omega
    · rw [if_neg e0]
      by_cases e1 : b.1 = 1
      · rw [if_pos e1, if_neg (by omega), if_neg (by omega)]; omega
      · rw [if_neg e1]
        by_cases e2 : b.1 = 2
        · rw [if_pos e2, if_neg (by omega)]; omega
        · rw [if_neg e2]
          split <;> omega

theorem init_nj (c : Cfg) (jobs : List (Int × List InsD)) (t : Int) : njH jobs t (hInit (cxOf c jobs t)) = cntJ jobs t 0 ∧ usH jobs t (hInit (cxOf c jobs t)) = cntJ jobs t 0 ∧ (((hInit (cxOf c jobs t)).st = .start ∧ (hInit (cxOf c jobs t)).rank = 0 ∧ (hInit (cxOf c jobs t)).fails = 0 ∧ (hInit (cxOf c jobs t)).x.valid = 0 ∧ 1 ≤ cntJ jobs t 0) ∨ (hInit (cxOf c jobs t)).st = .idle) := by
  unfold hInit
  rcases to_job (cxOf c jobs t) 0 ⟨0, 0, [], (cxOf c jobs t).jobs.map fun _ => ⟨0, 0, 0, 0, 0⟩, 0, newTS [] 0, .idle⟩ with ⟨k, k1, k2, k3, k4, q⟩ | ⟨k1, q⟩
  · have k2' : k < jobs.length := k2
    have k3' : (jobs.getD k (0, [])).1 = t := k3
    have e := cnt_skip (jobs := jobs) (t := t) (j := 0) k (by omega) (fun i a b => k4 i a (by omega))
    rw [Nat.zero_add] at e
    have e2 := cnt_at (t := t) k2'
    rw [if_pos k3'] at e2
    have e3 := cnt_pos jobs t (k + 1)
    rw [q]
    exact ⟨e.symm, e.symm, Or.inl ⟨rfl, rfl, rfl, rfl, by omega⟩⟩
  · have e : cntJ jobs t 0 = 0 := cnt_none k1
    rw [q, e]
    exact ⟨rfl, rfl, Or.inr rfl⟩

theorem phi_start {R : Rn} (O : R.Ok) (hj : R.jobs.length ≤ 8) : R.phi 0 ≤ 405920 := by
  obtain ⟨⟨c1, c2⟩, ⟨w1, w2⟩, ⟨z1, z2⟩, _, ⟨r1, r2⟩, _⟩ := cfgB_true O.c
  have lo : ∀ x, x < wordBase R.c → (R.g 0).m x = 0 := fun x h => by show startVal R.c R.mem x = 0; unfold startVal; rw [if_neg (by omega)]
  unfold wordBase at lo
  have I := fun t => init_nj R.c R.jobs t
  have S := cnt_sum R.jobs
  have P := fun t => cnt_pos R.jobs t 0
  have cu : CU R.c R.jobs (R.g 0).m (R.g 0).th ≤ 8 := by
    have g : ∀ u, (if u < R.c.t then usH R.jobs u ((R.g 0).th u) else 0) ≤ cntJ R.jobs u 0 := fun u => by
      split
      · rw [show (R.g 0).th u = hInit (cxOf R.c R.jobs u) from rfl, (I u).2.1]; exact Int.le_refl _
      · exact P u
    have g0 := g 0; have g1 := g 1; have g2 := g 2; have g3 := g 3
    unfold CU S4
    rw [lo 0 (by omega)]
    simp only
    omega
  have key : ∀ t, 0 ≤ t → t ≤ 3 → pt R.c R.jobs (R.g 0).m (R.g 0).th t ≤ 50740 * cntJ R.jobs t 0 := fun t t0 t3 => by
    have p := P t
    by_cases h1 : t < R.c.t
    · rcases (I t).2.2 with ⟨a1, a2, a3, a4, a5⟩ | a1
      · rw [pt_of h1 (by show (hInit _).st ≠ _; rw [a1]; simp)]
        unfold pb
        rw [show (R.g 0).th t = hInit (cxOf R.c R.jobs t) from rfl, (I t).1]
        have o2 : ow (cxOf R.c R.jobs t) (R.g 0).m (hInit (cxOf R.c R.jobs t)) ≤ 901 + 1120 * (R.c.r + 1) + 26960 := by
          have mk0 : mrk R.c (R.g 0).m t = 0 := by unfold mrk; rw [lo _ (by omega)]; rfl
          generalize hInit (cxOf R.c R.jobs t) = h' at *
          have e1 : att (cxOf R.c R.jobs t) (R.g 0).m h' = 881 + r0 h' := by unfold att; rw [a1]
          have e2 : r0 h' ≤ 20 := by unfold r0; split <;> omega
          have e3 : ph (cxOf R.c R.jobs t) (R.g 0).m h' = 0 := by unfold ph; rw [a1]
          have e4 : dd (R.g 0).m h' = 0 := by unfold dd; rw [a1]
          have e5 : mm (cxOf R.c R.jobs t) (R.g 0).m h' = 0 := by unfold mm; rw [a1]; exact if_neg (fun q => q mk0)
          have e6 : shl h' = 8 := by unfold shl; rw [a1]
          have e7 : ra (cxOf R.c R.jobs t) h' = R.c.r + 1 := by unfold ra; rw [if_pos a2, a1, a3]; show R.c.r + 1 - 0 = _; omega
          unfold ow
          rw [e1, e3, e4, e5, e6, e7, a4]
          omega
        have y0 : (if shn R.c (R.g 0).m t = 0 then (1145 : Int) else 0) ≤ 1145 := by split <;> omega
        have cq : ∀ u, cr R.c R.jobs (R.g 0).m (R.g 0).th t u ≤ if u = t then 0 else 2290 * cntJ R.jobs u 0 := fun u => by
          have pu := P u
          unfold cr
          by_cases hv : u < R.c.t ∧ u ≠ t
          · rw [if_pos hv, if_neg hv.2, show (R.g 0).th u = hInit (cxOf R.c R.jobs u) from rfl, (I u).1]
            have := u_le R.c (R.g 0).m t u ((R.g 0).th t)
            omega
          · rw [if_neg hv]; split <;> omega
        have q0 := cq 0; have q1 := cq 1; have q2 := cq 2; have q3 := cq 3
        have sc : S4 (cr R.c R.jobs (R.g 0).m (R.g 0).th t) ≤ 2290 * (8 - cntJ R.jobs t 0) := by
          unfold S4
          have cs : t = 0 ∨ t = 1 ∨ t = 2 ∨ t = 3 := by omega
          rcases cs with q | q | q | q <;> rw [q] at q0 q1 q2 q3 ⊢ <;> simp at q0 q1 q2 q3 <;> omega
        omega
      · unfold pt
        rw [if_pos h1, show (R.g 0).th t = hInit (cxOf R.c R.jobs t) from rfl, a1]
        show (0 : Int) ≤ _
        omega
    · unfold pt
      rw [if_neg h1]
      omega
  have k0 := key 0 (by omega) (by omega)
  have k1 := key 1 (by omega) (by omega)
  have k2 := key 2 (by omega) (by omega)
  have k3 := key 3 (by omega) (by omega)
  unfold Rn.phi Phi S4
  omega

theorem att_pos {K : Cx} {k : Int} {m : Int → Int} {h : Th} (A : ThOk K k h) (L : LenOk h) : 0 ≤ att K m h := by
  have hb : 240 ≤ b0 K h := by
    have := A.x.bg
    have := L.1
    unfold b0
    omega
  have hr : 0 ≤ r0 h := by unfold r0; split <;> omega
  unfold att
  split <;> first
    | omega
    | (split <;> omega)

theorem phi_pos {R : Rn} (O : R.Ok) {k : Nat} (hk : k ≤ R.ps.length) : 0 ≤ R.phi k := by
  obtain ⟨⟨c1, c2⟩, ⟨w1, w2⟩, ⟨z1, z2⟩, _, ⟨r1, r2⟩, _⟩ := cfgB_true O.c
  have C := ci_at O k hk
  have G := gat_ok O.c O.w O.m R.jobs R.ps k
  change GOk R.c R.jobs k (R.g k) at G
  have nz : ∀ u, 0 ≤ u → u < R.c.t → 0 ≤ njH R.jobs u ((R.g k).th u) ∧ 0 ≤ usH R.jobs u ((R.g k).th u) ∧ (0 < shn R.c (R.g k).m u → 1 ≤ njH R.jobs u ((R.g k).th u)) ∧ (((R.g k).th u).st ≠ .idle → 1 ≤ njH R.jobs u ((R.g k).th u)) := fun u a b => by
    by_cases q : ((R.g k).th u).st = .idle
    · refine ⟨by unfold njH; rw [q]; exact Int.le_refl _, by unfold usH; rw [q]; exact Int.le_refl _, fun z => ?_, fun z => absurd q z⟩
      have := C.idl u a b q; omega
    · have j := (ti_at O u a b k).jn q
      have c1 := cnt_at (t := u) j.1
      rw [if_pos j.2] at c1
      have c2 := cnt_pos R.jobs u (((R.g k).th u).job + 1)
      have us := us_le R.jobs u ((R.g k).th u) q
      have e : njH R.jobs u ((R.g k).th u) = cntJ R.jobs u ((R.g k).th u).job := by
        unfold njH
        cases hs : ((R.g k).th u).st <;> first
          | exact absurd hs q
          | rfl
      omega
  have cu : (R.g k).m 0 ≤ CU R.c R.jobs (R.g k).m (R.g k).th := by
    have g : ∀ u, 0 ≤ u → 0 ≤ (if u < R.c.t then usH R.jobs u ((R.g k).th u) else 0) := fun u a => by
      split
      · rename_i b; exact (nz u a b).2.1
      · exact Int.le_refl _
    have g0 := g 0 (by omega); have g1 := g 1 (by omega); have g2 := g 2 (by omega); have g3 := g 3 (by omega)
    unfold CU S4
    simp only
    omega
  have key : ∀ t, 0 ≤ t → 0 ≤ pt R.c R.jobs (R.g k).m (R.g k).th t := fun t t0 => by
    by_cases h1 : t < R.c.t
    · by_cases hi : ((R.g k).th t).st = .idle
      · unfold pt; rw [if_pos h1, hi]; exact Int.le_refl _
      · rw [pt_of h1 hi]
        have n1 := (nz t t0 h1).2.2.2 hi
        have Y := C.yt t t0 h1
        have va := Y.va
        have A := att_pos (m := (R.g k).m) (G.th t t0 h1) (len_at O hk t0 h1)
        have p := ph_le (cxOf R.c R.jobs t) (R.g k).m ((R.g k).th t)
        have d := dd_le (R.g k).m ((R.g k).th t)
        have q := mm_le (cxOf R.c R.jobs t) (R.g k).m ((R.g k).th t)
        have sh : 0 ≤ shl ((R.g k).th t) := by unfold shl; split <;> omega
        have z : 0 ≤ ra (cxOf R.c R.jobs t) ((R.g k).th t) := by
          unfold ra
          split
          · rename_i r0
            have fr := Y.fr r0
            have fr1 : ((R.g k).th t).st = .fTake → ((R.g k).th t).fails ≤ (cxOf R.c R.jobs t).c.r + 1 := fr.1
            have fr2 : ((R.g k).th t).st ≠ .fTake → ((R.g k).th t).fails ≤ (cxOf R.c R.jobs t).c.r := fr.2
            cases hs : ((R.g k).th t).st <;> simp only <;> first
              | (have := fr1 hs; omega)
              | (have := fr2 (by rw [hs]; simp); omega)
          · exact Int.le_refl _
        have y0 : 0 ≤ (if shn R.c (R.g k).m t = 0 then (1145 : Int) else 0) := by split <;> omega
        have cq : ∀ u, 0 ≤ u → 0 ≤ cr R.c R.jobs (R.g k).m (R.g k).th t u := fun u u0 => by
          unfold cr
          by_cases hv : u < R.c.t ∧ u ≠ t
          · rw [if_pos hv]
            have n := nz u u0 hv.1
            by_cases s0 : 0 < shn R.c (R.g k).m u
            · have := n.2.2.1 s0
              have := fw_le R.c (R.g k).m t u ((R.g k).th t)
              omega
            · have e1 : aU R.c (R.g k).m t u = 0 := by unfold aU; rw [if_neg (fun q => s0 q.2.1)]
              have e2 : fU R.c (R.g k).m ((R.g k).th t) u = 0 := by
                unfold fU
                split
                · rw [if_neg (fun q => s0 q.2.1)]
                · rfl
              have e3 : wU R.c (R.g k).m t ((R.g k).th t) u = 0 := by
                unfold wU
                split <;> first
                  | rw [if_neg (fun q => s0 q.2.1)]
                  | rfl
              omega
          · rw [if_neg hv]; exact Int.le_refl _
        have q0 := cq 0 (by omega); have q1 := cq 1 (by omega); have q2 := cq 2 (by omega); have q3 := cq 3 (by omega)
        unfold pb ow S4
        omega
    · unfold pt; rw [if_neg h1]; exact Int.le_refl _
  have k0 := key 0 (by omega); have k1 := key 1 (by omega); have k2 := key 2 (by omega); have k3 := key 3 (by omega)
  unfold Rn.phi Phi S4
  omega

end Go.Proofs.Ytejadojilncbjab
