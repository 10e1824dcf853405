import Derived.Test.YtejadojilncbjabH16
namespace Go.Proofs.Ytejadojilncbjab
set_option linter.unusedVariables false

/-! Ranks, part 2: the cells show them, and nobody has another's. -/

structure RI (c : Cfg) (jobs : List (Int × List InsD)) (m : Int → Int) (th : Int → Th) (tick : Int → Int) : Prop where
  tk : ∀ t, 0 ≤ t → t < c.t → 0 ≤ tick t ∧ tick t ≤ m 1
  uq : ∀ t u, 0 ≤ t → t < c.t → 0 ≤ u → u < c.t → t ≠ u → tick t ≠ 0 → tick t ≠ tick u
  rk : ∀ t, 0 ≤ t → t < c.t → (th t).rank ≠ 0 → (th t).rank = tick t
  s1 : ∀ t, 0 ≤ t → t < c.t → m (3 + 2 * c.s + t) / 8 = 0 ∨ m (3 + 2 * c.s + t) / 8 = (th t).rank
  s2 : ∀ t, 0 ≤ t → t < c.t → Vis (th t) = true → m (3 + 2 * c.s + t) / 8 = (th t).rank
  l2 : ∀ t, 0 ≤ t → t < c.t → Loc2 (cxOf c jobs t) (th t)

theorem ri_step {c : Cfg} {jobs : List (Int × List InsD)} {m m' : Int → Int} {th : Int → Th} {tick : Int → Int} {t : Int} {h' : Th} {q : AskD} (hc : cfgB c = true) (t0 : 0 ≤ t) (t1 : t < c.t) (m1 : 0 ≤ m 1) (I : RI c jobs m th tick) (hl : Loc2 (cxOf c jobs t) h') (E : REff (cxOf c jobs t) m m' (th t) h' q) :
    RI c jobs m' (thSet th t h') (if q.kind = 4 then upd tick t (m 1 + 1) else tick) := by
  obtain ⟨⟨c1, c2⟩, _, ⟨z1, z2⟩, _⟩ := cfgB_true hc
  have at_t : thSet th t h' t = h' := if_pos rfl
  have off : ∀ {u}, u ≠ t → thSet th t h' u = th u := fun hu => if_neg hu
  have loc' : ∀ u, 0 ≤ u → u < c.t → Loc2 (cxOf c jobs u) (thSet th t h' u) := fun u u0 u1 => by
    by_cases hu : u = t
    · rw [hu, at_t]; exact hl
    · rw [off hu]; exact I.l2 u u0 u1
  have rkS : h'.rank = (th t).rank → ∀ u, 0 ≤ u → u < c.t → (thSet th t h' u).rank ≠ 0 → (thSet th t h' u).rank = tick u := fun R u a b x => by
    by_cases hu : u = t
    · rw [hu, at_t, R] at x ⊢; exact I.rk t t0 t1 x
    · rw [off hu] at x ⊢; exact I.rk u a b x
  have cs : hSta (cxOf c jobs t) (cxOf c jobs t).me = 3 + 2 * c.s + t := rfl
  cases E with
  | same Q M R V =>
    rw [if_neg Q]
    have M' : ∀ x, (x = 1 ∨ (3 + 2 * c.s ≤ x ∧ x < 3 + 2 * c.s + c.t)) → m' x = m x := M
    refine ⟨fun u a b => ?_, I.uq, rkS R, fun u a b => ?_, fun u a b x => ?_, loc'⟩
    · rw [M' 1 (by omega)]; exact I.tk u a b
    · rw [M' _ (by omega)]
      by_cases hu : u = t
      · rw [hu, at_t, R]; exact I.s1 t t0 t1
      · rw [off hu]; exact I.s1 u a b
    · rw [M' _ (by omega)]
      by_cases hu : u = t
      · rw [hu, at_t] at x ⊢
        rw [R]; exact I.s2 t t0 t1 (V x)
      · rw [off hu] at x ⊢; exact I.s2 u a b x
  | take Q e M R V =>
    rw [if_pos Q]
    have e1 : m' 1 = m 1 + 1 := by rw [M]; exact upd_at _ _ _
    have M2 : ∀ x, x ≠ 1 → m' x = m x := fun x hx => by rw [M]; exact upd_off hx
    have ta : upd tick t (m 1 + 1) t = m 1 + 1 := upd_at _ _ _
    have tb : ∀ {u}, u ≠ t → upd tick t (m 1 + 1) u = tick u := fun hu => upd_off hu
    refine ⟨fun u a b => ?_, fun u v a b d f huv x => ?_, fun u a b x => ?_, fun u a b => ?_, fun u a b x => ?_, loc'⟩
    · by_cases hu : u = t
      · rw [hu, ta, e1]; omega
      · rw [tb hu, e1]
        have := I.tk u a b
        omega
    · by_cases hu : u = t
      · have hv : v ≠ t := fun e => huv (hu.trans e.symm)
        rw [hu, ta, tb hv]
        have := I.tk v d f
        omega
      · by_cases hv : v = t
        · rw [hv, ta, tb hu]
          have := I.tk u a b
          omega
        · rw [tb hu] at x ⊢
          rw [tb hv]
          exact I.uq u v a b d f huv x
    · by_cases hu : u = t
      · rw [hu, at_t, ta]; exact R
      · rw [off hu] at x ⊢
        rw [tb hu]; exact I.rk u a b x
    · rw [M2 _ (by omega)]
      by_cases hu : u = t
      · rw [hu, at_t]
        left
        rcases I.s1 t t0 t1 with y | y
        · exact y
        · rw [y]; exact e.1
      · rw [off hu]; exact I.s1 u a b
    · by_cases hu : u = t
      · rw [hu, at_t, V] at x; cases x
      · rw [M2 _ (by omega)]
        rw [off hu] at x ⊢; exact I.s2 u a b x
  | shows Q M R =>
    rw [if_neg Q]
    rw [cs] at M
    have e1 : m' (3 + 2 * c.s + t) = 8 * (th t).rank := by rw [M]; exact upd_at _ _ _
    have M2 : ∀ x, x ≠ 3 + 2 * c.s + t → m' x = m x := fun x hx => by rw [M]; exact upd_off hx
    refine ⟨fun u a b => ?_, I.uq, rkS R, fun u a b => ?_, fun u a b x => ?_, loc'⟩
    · rw [M2 1 (by omega)]; exact I.tk u a b
    · by_cases hu : u = t
      · rw [hu, at_t, e1, R]; right; omega
      · rw [M2 _ (by omega), off hu]; exact I.s1 u a b
    · by_cases hu : u = t
      · rw [hu, at_t, e1, R]; omega
      · rw [M2 _ (by omega)]
        rw [off hu] at x ⊢; exact I.s2 u a b x
  | zero Q M R =>
    rw [if_neg Q]
    rw [cs] at M
    have e1 : m' (3 + 2 * c.s + t) = 0 := by rw [M]; exact upd_at _ _ _
    have M2 : ∀ x, x ≠ 3 + 2 * c.s + t → m' x = m x := fun x hx => by rw [M]; exact upd_off hx
    refine ⟨fun u a b => ?_, I.uq, fun u a b x => ?_, fun u a b => ?_, fun u a b x => ?_, loc'⟩
    · rw [M2 1 (by omega)]; exact I.tk u a b
    · by_cases hu : u = t
      · rw [hu, at_t] at x ⊢
        rcases R with y | y
        · exact absurd y x
        · rw [y.1] at x ⊢; exact I.rk t t0 t1 x
      · rw [off hu] at x ⊢; exact I.rk u a b x
    · by_cases hu : u = t
      · rw [hu, at_t, e1]; left; rfl
      · rw [M2 _ (by omega), off hu]; exact I.s1 u a b
    · by_cases hu : u = t
      · rw [hu, at_t] at x ⊢
        rw [e1]
        rcases R with y | y
        · rw [y]; rfl
        · rw [y.2] at x; cases x
      · rw [M2 _ (by omega)]
        rw [off hu] at x ⊢; exact I.s2 u a b x
  | mark Q w g b e M R V =>
    rw [if_neg Q]
    have b0 := b.1
    have b1 : w < c.t := b.2.1
    have b2 : w ≠ t := b.2.2
    have cw : hSta (cxOf c jobs t) w = 3 + 2 * c.s + w := rfl
    rw [cw] at M e
    have e1 : m' (3 + 2 * c.s + w) = g + t + 1 := by rw [M]; exact upd_at _ _ _
    have e2 : m' (3 + 2 * c.s + w) / 8 = m (3 + 2 * c.s + w) / 8 := by rw [e1, e.1]; have := e.2.1; have := e.2.2; omega
    have M2 : ∀ x, x ≠ 3 + 2 * c.s + w → m' x = m x := fun x hx => by rw [M]; exact upd_off hx
    have M3 : ∀ u, m' (3 + 2 * c.s + u) / 8 = m (3 + 2 * c.s + u) / 8 := fun u => by
      by_cases hu : u = w
      · rw [hu]; exact e2
      · rw [M2 _ (by omega)]
    refine ⟨fun u a b => ?_, I.uq, rkS R, fun u a b => ?_, fun u a b x => ?_, loc'⟩
    · rw [M2 1 (by omega)]; exact I.tk u a b
    · rw [M3]
      by_cases hu : u = t
      · rw [hu, at_t, R]; exact I.s1 t t0 t1
      · rw [off hu]; exact I.s1 u a b
    · rw [M3]
      by_cases hu : u = t
      · rw [hu, at_t] at x ⊢
        rw [R]; exact I.s2 t t0 t1 (V x)
      · rw [off hu] at x ⊢; exact I.s2 u a b x

/-- By thread the ticket that it took last, behind k picks. -/
def tickAt (c : Cfg) (mem : List Int) (jobs : List (Int × List InsD)) (ps : List PickD) : Nat → Int → Int
  | 0 => fun _ => 0
  | k + 1 => fun t => if (pickAt ps k).thread = t ∧ (accAt (accs c mem jobs ps) k).kind = 4 then (accAt (accs c mem jobs ps) k).put else tickAt c mem jobs ps k t

theorem take_ask {K : Cx} {h : Th} (e : (hOut K h).kind = 4) : hOut K h = ⟨4, 1, 0, 0⟩ := by
  unfold hOut at e ⊢
  split at e <;> first
    | rfl
    | (simp at e)

theorem ri_start {c : Cfg} (hc : cfgB c = true) {mem : List Int} (jobs : List (Int × List InsD)) : RI c jobs (gStart c mem jobs).m (gStart c mem jobs).th (fun _ => 0) := by
  obtain ⟨⟨t1, t2⟩, _, ⟨s1, s2⟩, _⟩ := cfgB_true hc
  have lo : ∀ x, x < wordBase c → startVal c mem x = 0 := fun x h => by unfold startVal; rw [if_neg (by omega)]
  unfold wordBase at lo
  have hto : ∀ t, (hInit (cxOf c jobs t)).rank = 0 ∧ Loc2 (cxOf c jobs t) (hInit (cxOf c jobs t)) := fun t => by
    unfold hInit hTo
    split
    · exact ⟨rfl, trivial⟩
    · exact ⟨rfl, trivial⟩
  refine ⟨fun t a b => ?_, fun t u a b d e h x => absurd rfl x, fun t a b x => absurd (hto t).1 x, fun t a b => ?_, fun t a b x => ?_, fun t a b => (hto t).2⟩
  · rw [show (gStart c mem jobs).m 1 = 0 from lo _ (by omega)]; omega
  · rw [show (gStart c mem jobs).m (3 + 2 * c.s + t) = 0 from lo _ (by omega)]; left; rfl
  · rw [show (gStart c mem jobs).m (3 + 2 * c.s + t) = 0 from lo _ (by omega), show (gStart c mem jobs).th t = hInit (cxOf c jobs t) from rfl, (hto t).1]; rfl

theorem ri_at {c : Cfg} (hc : cfgB c = true) {mem : List Int} (hmw : (mem.length : Int) = c.wd) (hmb : memB mem = true) (jobs : List (Int × List InsD)) (ps : List PickD) : ∀ k : Nat, k ≤ ps.length → RI c jobs (gAt c mem jobs ps k).m (gAt c mem jobs ps k).th (tickAt c mem jobs ps k)
  | 0, _ => ri_start hc jobs
  | k + 1, hk => by
    have R := ri_at hc hmw hmb jobs ps k (by omega)
    have I := li_at hc hmw hmb jobs ps k
    have G := gat_ok hc hmw hmb jobs ps k
    have ha := accs_get c mem jobs ps k (by omega)
    by_cases ht : 0 ≤ (pickAt ps k).thread ∧ (pickAt ps k).thread < c.t
    · have hcK : cfgB (cxOf c jobs (pickAt ps k).thread).c = true := hc
      rw [gstep_in ht] at ha
      have hst : gAt c mem jobs ps (k + 1) = ⟨mNext (gAt c mem jobs ps k).m (hOut (cxOf c jobs (pickAt ps k).thread) ((gAt c mem jobs ps k).th (pickAt ps k).thread)), thSet (gAt c mem jobs ps k).th (pickAt ps k).thread (hNext (cxOf c jobs (pickAt ps k).thread) ((gAt c mem jobs ps k).th (pickAt ps k).thread) ⟨(gAcc c jobs (gAt c mem jobs ps k) (pickAt ps k).thread).seen, (pickAt ps k).draw, (k : Int) + 1⟩)⟩ := by
        show (gStep c jobs (gAt c mem jobs ps k) _ (pickAt ps k)).1 = _
        unfold gStep
        rw [if_pos ht]
        rfl
      rw [hst]
      generalize gAt c mem jobs ps k = g at *
      generalize htt : (pickAt ps k).thread = t at *
      have seen : (hOut (cxOf c jobs t) (g.th t)).kind ≠ 0 → (gAcc c jobs g t).seen = g.m (hOut (cxOf c jobs t) (g.th t)).cell := fun h0 => by
        unfold gAcc
        rw [acc_some h0]
      have m1 : 0 ≤ g.m 1 := ((G.m 1 (by omega) (by rw [total_eq]; obtain ⟨⟨c1, c2⟩, ⟨x1, x2⟩, ⟨z1, z2⟩, _⟩ := cfgB_true hc; omega)).cnt (Or.inr rfl)).1
      obtain ⟨hl, E⟩ := reff_step hcK ht (G.th t ht.1 ht.2) (R.l2 t ht.1 ht.2) g.m ⟨(gAcc c jobs g t).seen, (pickAt ps k).draw, (k : Int) + 1⟩ seen (fun h0 => by
          show VOk c k _ (gAcc c jobs g t).seen
          rw [seen h0]
          obtain ⟨hcell, _⟩ := ask_ok hcK ht (by omega) (G.th t ht.1 ht.2) h0
          exact G.m _ hcell.1 hcell.2) (fun i a hg e => by
          have hs := (G.th t ht.1 ht.2).step
          unfold StepOk at hs
          rw [hg] at hs
          obtain ⟨_, _, ⟨z1, _⟩, _⟩ := cfgB_true hc
          have b := tmodP z1 hs.1.1
          have := (I.own _ b.1 b.2 t ht.1 ht.2).1 e
          simp [Holds, hg] at this
          exact held_false hs.2 this) (fun _ => R.s1 t ht.1 ht.2)
      have S := ri_step hc ht.1 ht.2 m1 R hl E
      have e : tickAt c mem jobs ps (k + 1) = if (hOut (cxOf c jobs t) (g.th t)).kind = 4 then upd (tickAt c mem jobs ps k) t (g.m 1 + 1) else tickAt c mem jobs ps k := by
        funext u
        show (if (pickAt ps k).thread = u ∧ (accAt (accs c mem jobs ps) k).kind = 4 then (accAt (accs c mem jobs ps) k).put else tickAt c mem jobs ps k u) = _
        rw [htt, ha]
        by_cases h4 : (hOut (cxOf c jobs t) (g.th t)).kind = 4
        · rw [if_pos h4, acc_some (by rw [h4]; decide)]
          have hq := take_ask h4
          by_cases hu : t = u
          · rw [if_pos ⟨hu, h4⟩, ← hu, upd_at, hq]
            simp [putV]
          · rw [if_neg (fun a => hu a.1), upd_off (fun a => hu a.symm)]
        · rw [if_neg h4, if_neg]
          rintro ⟨_, b⟩
          by_cases h0 : (hOut (cxOf c jobs t) (g.th t)).kind = 0
          · rw [acc_none h0] at b
            simp [noAcc] at b
          · rw [acc_some h0] at b
            exact h4 b
      rw [e]
      exact S
    · have hst : gAt c mem jobs ps (k + 1) = gAt c mem jobs ps k := by
        show (gStep c jobs (gAt c mem jobs ps k) _ (pickAt ps k)).1 = _
        unfold gStep
        rw [if_neg ht]
      have e : tickAt c mem jobs ps (k + 1) = tickAt c mem jobs ps k := by
        funext u
        show (if (pickAt ps k).thread = u ∧ (accAt (accs c mem jobs ps) k).kind = 4 then (accAt (accs c mem jobs ps) k).put else tickAt c mem jobs ps k u) = _
        rw [ha]
        unfold gStep
        rw [if_neg ht, if_neg (by simp [noAcc])]
      rw [hst, e]
      exact R

end Go.Proofs.Ytejadojilncbjab
