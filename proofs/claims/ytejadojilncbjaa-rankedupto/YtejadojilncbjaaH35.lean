import Derived.Test.YtejadojilncbjaaH34
import Derived.Test.YtejadojilncbjaaH32
namespace Go.Proofs.Ytejadojilncbjaa
set_option linter.unusedVariables false

/-! Ranks, part 2: the cells show them, and nobody has another's. -/

structure RI (c : Cfg) (jobs : List (Int × List InsD)) (m : Int → Int) (th : Int → Th) (tick : Int → Int) : Prop where
  tk : ∀ t, 0 ≤ t → t < c.t → 0 ≤ tick t ∧ tick t ≤ m 1
  uq : ∀ t u, 0 ≤ t → t < c.t → 0 ≤ u → u < c.t → t ≠ u → tick t ≠ 0 → tick t ≠ tick u
  rk : ∀ t, 0 ≤ t → t < c.t → (th t).rank ≠ 0 → (th t).rank = tick t
  s1 : ∀ t, 0 ≤ t → t < c.t → m (3 + 2 * c.s + t) / 8 = 0 ∨ m (3 + 2 * c.s + t) / 8 = (th t).rank
  s2 : ∀ t, 0 ≤ t → t < c.t → Vis (th t) = true → m (3 + 2 * c.s + t) / 8 = (th t).rank
  l2 : ∀ t, 0 ≤ t → t < c.t → Loc2 (cxOf c jobs t) (th t)

theorem ri_step {c : Cfg} {jobs : List (Int × List InsD)} {m m' : Int → Int} {th : Int → Th} {tick : Int → Int} {t : Int} {h' : Th} {q : AskD} (hc : cfgB c = true) (t0 : 0 ≤ t) (t1 : t < c.t) (m1 : 0 ≤ m 1) (I : RI c jobs m th tick) (hl : Loc2 (cxOf c jobs t) h') (E : REff (cxOf c jobs t) m m' (th t) h' q) :
    RI c jobs m' (thSet th t h') (if q.kind = 4 then upd tick t (m 1 + 1) else tick) := by
  obtain ⟨⟨c1, c2⟩, _, ⟨z1, z2⟩, _⟩ := cfgB_true hc
  have at_t : thSet th t h' t = h' := if_pos rfl
  have off : ∀ {u}, u ≠ t → thSet th t h' u = th u := fun hu => if_neg hu
  have loc' : ∀ u, 0 ≤ u → u < c.t → Loc2 (cxOf c jobs u) (thSet th t h' u) := fun u u0 u1 => by
    by_cases hu : u = t
    · rw [hu, at_t]; exact hl
    · rw [off hu]; exact I.l2 u u0 u1
  have rkS : h'.rank = (th t).rank → ∀ u, 0 ≤ u → u < c.t → (thSet th t h' u).rank ≠ 0 → (thSet th t h' u).rank = tick u := fun R u a b x => by
    by_cases hu : u = t
    · rw [hu, at_t, R] at x ⊢; exact I.rk t t0 t1 x
    · rw [off hu] at x ⊢; exact I.rk u a b x
  have cs : hSta (cxOf c jobs t) (cxOf c jobs t).me = 3 + 2 * c.s + t := rfl
  cases E with
  | same Q M R V =>
    rw [if_neg Q]
    have M' : ∀ x, (x = 1 ∨ (3 + 2 * c.s ≤ x ∧ x < 3 + 2 * c.s + c.t)) → m' x = m x := M
    refine ⟨fun u a b => ?_, I.uq, rkS R, fun u a b => ?_, fun u a b x => ?_, loc'⟩
    · rw [M' 1 (by omega)]; exact I.tk u a b
    · rw [M' _ (by omega)]
      by_cases hu : u = t
      · rw [hu, at_t, R]; exact I.s1 t t0 t1
      · rw [off hu]; exact I.s1 u a b
    · rw [M' _ (by omega)]
      by_cases hu : u = t
      · rw [hu, at_t] at x ⊢
        rw [R]; exact I.s2 t t0 t1 (V x)
      · rw [off hu] at x ⊢; exact I.s2 u a b x
  | take Q e M R V =>
    rw [if_pos Q]
    have e1 : m' 1 = m 1 + 1 := by rw [M]; exact upd_at _ _ _
    have M2 : ∀ x, x ≠ 1 → m' x = m x := fun x hx => by rw [M]; exact upd_off hx
    have ta : upd tick t (m 1 + 1) t = m 1 + 1 := upd_at _ _ _
    have tb : ∀ {u}, u ≠ t → upd tick t (m 1 + 1) u = tick u := fun hu => upd_off hu
    refine ⟨fun u a b => ?_, fun u v a b d f huv x => ?_, fun u a b x => ?_, fun u a b => ?_, fun u a b x => ?_, loc'⟩
    · by_cases hu : u = t
      · rw [hu, ta, e1]; omega
      · rw [tb hu, e1]
        have := I.tk u a b
        omega
    · by_cases hu : u = t
      · have hv : v ≠ t := fun e => huv (hu.trans e.symm)
        rw [hu, ta, tb hv]
        have := I.tk v d f
        omega
      · by_cases hv : v = t
        · rw [hv, ta, tb hu]
          have := I.tk u a b
          omega
        · rw [tb hu] at x ⊢
          rw [tb hv]
          exact I.uq u v a b d f huv x
    · by_cases hu : u = t
      · rw [hu, at_t, ta]; exact R
      · rw [off hu] at x ⊢
        rw [tb hu]; exact I.rk u a b x
    · rw [M2 _ (by omega)]
      by_cases hu : u = t
      · rw [hu, at_t]
        left
        rcases I.s1 t t0 t1 with y | y
        · exact y
        · rw [y]; exact e.1
      · rw [off hu]; exact I.s1 u a b
    · by_cases hu : u = t
      · rw [hu, at_t, V] at x; cases x
      · rw [M2 _ (by omega)]
        rw [off hu] at x ⊢; exact I.s2 u a b x
  | shows Q M R =>
    rw [if_neg Q]
    rw [cs] at M
    have e1 : m' (3 + 2 * c.s + t) = 8 * (th t).rank := by rw [M]; exact upd_at _ _ _
    have M2 : ∀ x, x ≠ 3 + 2 * c.s + t → m' x = m x := fun x hx => by rw [M]; exact upd_off hx
    refine ⟨fun u a b => ?_, I.uq, rkS R, fun u a b => ?_, fun u a b x => ?_, loc'⟩
    · rw [M2 1 (by omega)]; exact I.tk u a b
    · by_cases hu : u = t
      · rw [hu, at_t, e1, R]; right; omega
      · rw [M2 _ (by omega), off hu]; exact I.s1 u a b
    · by_cases hu : u = t
      · rw [hu, at_t, e1, R]; omega
      · rw [M2 _ (by omega)]
        rw [off hu] at x ⊢; exact I.s2 u a b x
  | zero Q M R =>
    rw [if_neg Q]
    rw [cs] at M
    have e1 : m' (3 + 2 * c.s + t) = 0 := by rw [M]; exact upd_at _ _ _
    have M2 : ∀ x, x ≠ 3 + 2 * c.s + t → m' x = m x := fun x hx => by rw [M]; exact upd_off hx
    refine ⟨fun u a b => ?_, I.uq, fun u a b x => ?_, fun u a b => ?_, fun u a b x => ?_, loc'⟩
    · rw [M2 1 (by omega)]; exact I.tk u a b
    · by_cases hu : u = t
      · rw [hu, at_t] at x ⊢
        rcases R with y | y
        · exact absurd y x
        · rw [y.1] at x ⊢; exact I.rk t t0 t1 x
      · rw [off hu] at x ⊢; exact I.rk u a b x
    · by_cases hu : u = t
      · rw [hu, at_t, e1]; left; rfl
      · rw [M2 _ (by omega), off hu]; exact I.s1 u a b
    · by_cases hu : u = t
      · rw [hu, at_t] at x ⊢
        rw [e1]
        rcases R with y | y
        · rw [y]; rfl
        · rw [y.2] at x; cases x
      · rw [M2 _ (by omega)]
        rw [off hu] at x ⊢; exact I.s2 u a b x
  | mark Q w g b e M R V =>
    rw [if_neg Q]
    have b0 := b.1
    have b1 : w < c.t := b.2.1
    have b2 : w ≠ t := b.2.2
    have cw : hSta (cxOf c jobs t) w = 3 + 2 * c.s + w := rfl
    rw [cw] at M e
    have e1 : m' (3 + 2 * c.s + w) = g + t + 1 := by rw [M]; exact upd_at _ _ _
    have e2 : m' (3 + 2 * c.s + w) / 8 = m (3 + 2 * c.s + w) / 8 := by rw [e1, e.1]; have := e.2.1; have := e.2.2; omega
    have M2 : ∀ x, x ≠ 3 + 2 * c.s + w → m' x = m x := fun x hx => by rw [M]; exact upd_off hx
    have M3 : ∀ u, m' (3 + 2 * c.s + u) / 8 = m (3 + 2 * c.s + u) / 8 := fun u => by
      by_cases hu : u = w
      · rw [hu]; exact e2
      · rw [M2 _ (by omega)]
    refine ⟨fun u a b => ?_, I.uq, rkS R, fun u a b => ?_, fun u a b x => ?_, loc'⟩
    · rw [M2 1 (by omega)]; exact I.tk u a b
    · rw [M3]
      by_cases hu : u = t
      · rw [hu, at_t, R]; exact I.s1 t t0 t1
      · rw [off hu]; exact I.s1 u a b
    · rw [M3]
      by_cases hu : u = t
      · rw [hu, at_t] at x ⊢
        rw [R]; exact I.s2 t t0 t1 (V x)
      · rw [off hu] at x ⊢; exact I.s2 u a b x

/-- By thread the ticket that it took last, behind k picks. -/
def tickAt (c : Cfg) (mem : List Int) (jobs : List (Int × List InsD)) (ps : List PickD) : Nat → Int → Int
  | 0 => fun _ => 0
  | k + 1 => fun t => if (pickAt ps k).thread = t ∧ (accAt (accs c mem jobs ps) k).kind = 4 then (accAt (accs c mem jobs ps) k).put else tickAt c mem jobs ps k t

theorem take_ask {K : Cx} {h : Th} (e : (hOut K h).kind = 4) : hOut K h = ⟨4, 1, 0, 0⟩ := by
  unfold hOut at e ⊢
  split at e <;> first
    | rfl
    | (simp at e)

theorem ri_start {c : Cfg} (hc : cfgB c = true) {mem : List Int} (jobs : List (Int × List InsD)) : RI c jobs (gStart c mem jobs).m (gStart c mem jobs).th (fun _ => 0) := by
  obtain ⟨⟨t1, t2⟩, _, ⟨s1, s2⟩, _⟩ := cfgB_true hc
  have lo : ∀ x, x < wordBase c → startVal c mem x = 0 := fun x h => by unfold startVal; rw [if_neg (by omega)]
  unfold wordBase at lo
  have hto : ∀ t, (hInit (cxOf c jobs t)).rank = 0 ∧ Loc2 (cxOf c jobs t) (hInit (cxOf c jobs t)) := fun t => by
    unfold hInit hTo
    split
    · exact ⟨rfl, trivial⟩
    · exact ⟨rfl, trivial⟩
  refine ⟨fun t a b => ?_, fun t u a b d e h x => absurd rfl x, fun t a b x => absurd (hto t).1 x, fun t a b => ?_, fun t a b x => ?_, fun t a b => (hto t).2⟩
  · rw [show (gStart c mem jobs).m 1 = 0 from lo _ (by omega)]; omega
  · rw [show (gStart c mem jobs).m (3 + 2 * c.s + t) = 0 from lo _ (by omega)]; left; rfl
  · rw [show (gStart c mem jobs).m (3 + 2 * c.s + t) = 0 from lo _ (by omega), show (gStart c mem jobs).th t = hInit (cxOf c jobs t) from rfl, (hto t).1]; rfl

theorem ri_at {c : Cfg} (hc : cfgB c = true) {mem : List Int} (hmw : (mem.length : Int) = c.wd) (hmb : memB mem = true) (jobs : List (Int × List InsD)) (ps : List PickD) : ∀ k : Nat, k ≤ ps.length → RI c jobs (gAt c mem jobs ps k).m (gAt c mem jobs ps k).th (tickAt c mem jobs ps k)
  | 0, _ => ri_start hc jobs
  | k + 1, hk => by
    have R := ri_at hc hmw hmb jobs ps k (by omega)
    have I := li_at hc hmw hmb jobs ps k
    have G := gat_ok hc hmw hmb jobs ps k
    have ha := accs_get c mem jobs ps k (by omega)
    by_cases ht : 0 ≤ (pickAt ps k).thread ∧ (pickAt ps k).thread < c.t
    · have hcK : cfgB (cxOf c jobs (pickAt ps k).thread).c = true := hc
      rw [gstep_in ht] at ha
      have hst : gAt c mem jobs ps (k + 1) = ⟨mNext (gAt c mem jobs ps k).m (hOut (cxOf c jobs (pickAt ps k).thread) ((gAt c mem jobs ps k).th (pickAt ps k).thread)), thSet (gAt c mem jobs ps k).th (pickAt ps k).thread (hNext (cxOf c jobs (pickAt ps k).thread) ((gAt c mem jobs ps k).th (pickAt ps k).thread) ⟨(gAcc c jobs (gAt c mem jobs ps k) (pickAt ps k).thread).seen, (pickAt ps k).draw, (k : Int) + 1⟩)⟩ := by
        show (gStep c jobs (gAt c mem jobs ps k) _ (pickAt ps k)).1 = _
        unfold gStep
        rw [if_pos ht]
        rfl
      rw [hst]
      generalize gAt c mem jobs ps k = g at *
      generalize htt : (pickAt ps k).thread = t at *
      have seen : (hOut (cxOf c jobs t) (g.th t)).kind ≠ 0 → (gAcc c jobs g t).seen = g.m (hOut (cxOf c jobs t) (g.th t)).cell := fun h0 => by
        unfold gAcc
        rw [acc_some h0]
      have m1 : 0 ≤ g.m 1 := ((G.m 1 (by omega) (by rw [total_eq]; obtain ⟨⟨c1, c2⟩, ⟨x1, x2⟩, ⟨z1, z2⟩, _⟩ := cfgB_true hc; omega)).cnt (Or.inr rfl)).1
      obtain ⟨hl, E⟩ := reff_step hcK ht (G.th t ht.1 ht.2) (R.l2 t ht.1 ht.2) g.m ⟨(gAcc c jobs g t).seen, (pickAt ps k).draw, (k : Int) + 1⟩ seen (fun h0 => by
          show VOk c k _ (gAcc c jobs g t).seen
          rw [seen h0]
          obtain ⟨hcell, _⟩ := ask_ok hcK ht (by omega) (G.th t ht.1 ht.2) h0
          exact G.m _ hcell.1 hcell.2) (fun i a hg e => by
          have hs := (G.th t ht.1 ht.2).step
          unfold StepOk at hs
          rw [hg] at hs
          obtain ⟨_, _, ⟨z1, _⟩, _⟩ := cfgB_true hc
          have b := tmodP z1 hs.1.1
          have := (I.own _ b.1 b.2 t ht.1 ht.2).1 e
          simp [Holds, hg] at this
          exact held_false hs.2 this) (fun _ => R.s1 t ht.1 ht.2)
      have S := ri_step hc ht.1 ht.2 m1 R hl E
      have e : tickAt c mem jobs ps (k + 1) = if (hOut (cxOf c jobs t) (g.th t)).kind = 4 then upd (tickAt c mem jobs ps k) t (g.m 1 + 1) else tickAt c mem jobs ps k := by
        funext u
        show (if (pickAt ps k).thread = u ∧ (accAt (accs c mem jobs ps) k).kind = 4 then (accAt (accs c mem jobs ps) k).put else tickAt c mem jobs ps k u) = _
        rw [htt, ha]
        by_cases h4 : (hOut (cxOf c jobs t) (g.th t)).kind = 4
        · rw [if_pos h4, acc_some (by rw [h4]; decide)]
          have hq := take_ask h4
          by_cases hu : t = u
          · rw [if_pos ⟨hu, h4⟩, ← hu, upd_at, hq]
            simp [putV]
          · rw [if_neg (fun a => hu a.1), upd_off (fun a => hu a.symm)]
        · rw [if_neg h4, if_neg]
          rintro ⟨_, b⟩
          by_cases h0 : (hOut (cxOf c jobs t) (g.th t)).kind = 0
          · rw [acc_none h0] at b
            simp [noAcc] at b
          · rw [acc_some h0] at b
            exact h4 b
      rw [e]
      exact S
    · have hst : gAt c mem jobs ps (k + 1) = gAt c mem jobs ps k := by
        show (gStep c jobs (gAt c mem jobs ps k) _ (pickAt ps k)).1 = _
        unfold gStep
        rw [if_neg ht]
      have e : tickAt c mem jobs ps (k + 1) = tickAt c mem jobs ps k := by
        funext u
        show (if (pickAt ps k).thread = u ∧ (accAt (accs c mem jobs ps) k).kind = 4 then (accAt (accs c mem jobs ps) k).put else tickAt c mem jobs ps k u) = _
        rw [ha]
        unfold gStep
        rw [if_neg ht, if_neg (by simp [noAcc])]
      rw [hst, e]
      exact R

end Go.Proofs.Ytejadojilncbjaa

namespace Go.Proofs.Ytejadojilncbjaa
set_option linter.unusedVariables false

/-! Ranks, part 3: what is asked of each access, as a test; and that it holds. -/

def rankedB (c : Cfg) (m tick : Int → Int) (t u : Int) (a : AccD) : Bool :=
  if a.kind = 1 then true
  else if a.kind = 2 then t == u && (a.put == 0 || a.put == 8 * tick t)
  else if a.kind ≠ 3 then false
  else if a.put = a.seen then true
  else if t = u then a.seen == 0 && a.put == 8 * tick t
  else if (m (3 + 2 * c.s + t)).tdiv 8 = 0 ∨ a.seen.tmod 8 ≠ 0 ∨ a.put ≠ a.seen + t + 1 then false
  else (a.seen.tdiv 8 == 0 || decide ((m (3 + 2 * c.s + t)).tdiv 8 < a.seen.tdiv 8))

theorem take_ok {c : Cfg} {jobs : List (Int × List InsD)} {k t : Int} {m tick : Int → Int} {th : Int → Th} (hc : cfgB c = true) (t0 : 0 ≤ t) (t1 : t < c.t) (M : CellsOk c k m) (R : RI c jobs m th tick) (h4 : (hOut (cxOf c jobs t) (th t)).kind = 4) : (m (3 + 2 * c.s + t)).tdiv 8 = 0 := by
  obtain ⟨⟨c1, c2⟩, ⟨w1, w2⟩, ⟨s1, s2⟩, _⟩ := cfgB_true hc
  have so := (M (3 + 2 * c.s + t) (by omega) (by rw [total_eq]; omega)).sta (by omega) (by omega)
  rw [(sok_mod so).2]
  have hr : (th t).rank = 0 := by
    have L := R.l2 t t0 t1
    unfold Loc2 at L
    unfold hOut at h4
    cases hq : (th t).st with
    | tTake => rw [hq] at L; exact L
    | fTake => rw [hq] at L; exact L
    | xVer e c r => rw [hq] at h4; cases r <;> simp at h4
    | cVer c r => rw [hq] at h4; cases r <;> simp at h4
    | cShut c r => rw [hq] at h4; cases r <;> simp at h4
    | cWord c r => rw [hq] at h4; cases r <;> simp at h4
    | cOpen c r => rw [hq] at h4; cases r <;> simp at h4
    | cOwn c r => rw [hq] at h4; cases r <;> simp at h4
    | free e r => rw [hq] at h4; cases r <;> simp at h4
    | fOwn r => rw [hq] at h4; cases r <;> simp at h4
    | _ => rw [hq] at h4; simp at h4
  rcases R.s1 t t0 t1 with y | y
  · exact y
  · rw [y, hr]

theorem ranked_ok {c : Cfg} {jobs : List (Int × List InsD)} {k t : Int} {m tick : Int → Int} {th : Int → Th} (hc : cfgB c = true) (t0 : 0 ≤ t) (t1 : t < c.t) (M : CellsOk c k m) (R : RI c jobs m th tick) (A : ThOk (cxOf c jobs t) k (th t)) (h0 : (hOut (cxOf c jobs t) (th t)).kind ≠ 0) (h4 : (hOut (cxOf c jobs t) (th t)).kind ≠ 4)
    (hl : 3 + 2 * c.s ≤ (hOut (cxOf c jobs t) (th t)).cell) (hh : (hOut (cxOf c jobs t) (th t)).cell < 3 + 2 * c.s + c.t) :
    rankedB c m tick t ((hOut (cxOf c jobs t) (th t)).cell - (3 + 2 * c.s)) (accBy m (hOut (cxOf c jobs t) (th t))) = true := by
  obtain ⟨⟨c1, c2⟩, ⟨w1, w2⟩, ⟨s1, s2⟩, _⟩ := cfgB_true hc
  have hs := A.step
  have hrb := A.rank
  have L := R.l2 t t0 t1
  rw [acc_some h0]
  unfold StepOk at hs
  unfold hOut at h0 h4 hl hh ⊢
  unfold Loc2 at L
  have eK : (cxOf c jobs t).c = c := rfl
  have so : ∀ u, 0 ≤ u → u < c.t → SOk c k (m (3 + 2 * c.s + u)) := fun u a b => (M (3 + 2 * c.s + u) (by omega) (by rw [total_eq]; omega)).sta (by omega) (by omega)
  have load : ∀ x y v : Int, rankedB c m tick t y ⟨1, x, v, putV ⟨1, x, 0, 0⟩ v⟩ = true := fun x y v => by simp [rankedB]
  -- one's own status
  have mine : ∀ p : Int, p = 0 ∨ p = 8 * tick t → rankedB c m tick t (3 + 2 * c.s + t - (3 + 2 * c.s)) ⟨2, 3 + 2 * c.s + t, m (3 + 2 * c.s + t), p⟩ = true := fun p hp => by
    rw [show 3 + 2 * c.s + t - (3 + 2 * c.s) = t from by omega]
    rcases hp with e | e <;> simp [rankedB, e]
  have rk8 : 8 * (th t).rank = 0 ∨ 8 * (th t).rank = 8 * tick t := by
    by_cases e : (th t).rank = 0
    · left; rw [e]; rfl
    · right; rw [R.rk t t0 t1 e]
  have out : ∀ {P : Prop} (x : Int), 3 + 2 * c.s ≤ x → x < 3 + 2 * c.s + c.t → (x < 3 + 2 * c.s ∨ 3 + 2 * c.s + c.t ≤ x) → P := fun x a b d => by omega
  have bOwn : ∀ s, s < c.s → hOwn (cxOf c jobs t) s < 3 + 2 * c.s := fun s a => by unfold hOwn; rw [eK]; omega
  have bVer : ∀ s, s < c.s → hVer s < 3 + 2 * c.s := fun s a => by unfold hVer; omega
  have bWrd : ∀ a, 0 ≤ a → 3 + 2 * c.s + c.t ≤ hWrd (cxOf c jobs t) a := fun a b => by unfold hWrd; rw [eK]; omega
  have mem1 : ∀ {q : Int} {r : List Int}, q ∈ q :: r := List.mem_cons_self
  cases hq : (th t).st with
  | idle => rw [hq] at h0; exact absurd rfl h0
  | start => exact load _ _ _
  | rHeld i a => exact load _ _ _
  | rVer i a => exact load _ _ _
  | rWord i a one => exact load _ _ _
  | rAgain i a one w => exact load _ _ _
  | xClock e => exact load _ _ _
  | xVer e c r =>
    rw [hq] at hs
    cases r with
    | nil => exact absurd rfl hs.2.2.1
    | cons q r => exact load _ _ _
  | gStat i a => exact load _ _ _
  | gOwn i a =>
    rw [hq] at hs hl hh
    exact out _ hl hh (Or.inl (bOwn _ (tmodP s1 hs.1.1).2))
  | gTheir i a u => exact load _ _ _
  | gMark i a u g =>
    rw [hq] at hs L
    obtain ⟨_, ⟨u0, u1⟩, ⟨q0, q1, q2⟩, q3⟩ := hs
    rw [eK] at u1
    have hne : u - 1 ≠ t := by have := L.1.2; show u - 1 ≠ t; intro e; exact this (by show u = t + 1; omega)
    have su := so (u - 1) (by omega) (by omega)
    have st := so t t0 t1
    have vt := R.s2 t t0 t1 (by simp [Vis, hq])
    have ru := R.s1 (u - 1) (by omega) (by omega)
    have rt := R.rk t t0 t1 L.1.1
    have uq := R.uq t (u - 1) t0 t1 (by omega) (by omega) (fun e => hne e.symm) (by rw [← rt]; exact L.1.1)
    have rku := R.rk (u - 1) (by omega) (by omega)
    show rankedB c m tick t (3 + 2 * c.s + (u - 1) - (3 + 2 * c.s)) ⟨3, 3 + 2 * c.s + (u - 1), m (3 + 2 * c.s + (u - 1)), putV ⟨3, 3 + 2 * c.s + (u - 1), g, g + t + 1⟩ (m (3 + 2 * c.s + (u - 1)))⟩ = true
    rw [show 3 + 2 * c.s + (u - 1) - (3 + 2 * c.s) = u - 1 from by omega]
    have dt := (sok_mod st).2
    have du := sok_mod su
    unfold rankedB
    simp only
    rw [if_neg (by omega), if_neg (by omega), if_neg (by omega)]
    by_cases he : m (3 + 2 * c.s + (u - 1)) = g
    · have hp : putV ⟨3, 3 + 2 * c.s + (u - 1), g, g + t + 1⟩ (m (3 + 2 * c.s + (u - 1))) = g + t + 1 := by simp [putV, he]
      rw [hp, if_neg (by omega), if_neg (fun e => hne e.symm), dt, vt, du.1, du.2, he]
      have l1 := L.1.1
      have l2 := L.2
      rw [he] at ru
      rw [if_neg (by omega)]
      have key : g / 8 = 0 ∨ (th t).rank < g / 8 := by
        by_cases z : g / 8 = 0
        · exact Or.inl z
        · right
          have e1 : g / 8 = (th (u - 1)).rank := ru.elim (fun y => absurd y z) id
          have e2 := rku (by rw [← e1]; exact z)
          omega
      rcases key with y | y
      · simp [y]
      · simp [y]
    · rw [if_pos (by simp [putV, he])]
  | gVer i a => exact load _ _ _
  | tTake => rw [hq] at h4; exact absurd rfl h4
  | tShow =>
    rw [hq] at L
    show rankedB c m tick t (3 + 2 * c.s + t - (3 + 2 * c.s)) ⟨3, 3 + 2 * c.s + t, m (3 + 2 * c.s + t), putV ⟨3, 3 + 2 * c.s + t, 0, 8 * (th t).rank⟩ (m (3 + 2 * c.s + t))⟩ = true
    rw [show 3 + 2 * c.s + t - (3 + 2 * c.s) = t from by omega]
    unfold rankedB
    simp only
    rw [if_neg (by omega), if_neg (by omega), if_neg (by omega)]
    by_cases he : m (3 + 2 * c.s + t) = 0
    · have rt := R.rk t t0 t1 L
      rw [show putV ⟨3, 3 + 2 * c.s + t, 0, 8 * (th t).rank⟩ (m (3 + 2 * c.s + t)) = 8 * (th t).rank from by simp [putV, he], he]
      have : (th t).rank ≠ 0 := L
      rw [if_neg (by omega), if_pos trivial, rt]
      simp
    · rw [if_pos (by simp [putV, he])]
  | cStat => exact load _ _ _
  | cGate => rw [hq] at hl; exact out _ hl (by rw [hq] at hh; exact hh) (Or.inl (by show (2 : Int) < _; omega))
  | cClock => exact load _ _ _
  | cVer c r =>
    rw [hq] at hs
    cases r with
    | nil => exact absurd rfl hs.2.1
    | cons q r => exact load _ _ _
  | cShut c1 r =>
    rw [hq] at hs hl hh
    cases r with
    | nil => exact absurd rfl hs.2.1
    | cons q r => exact out _ hl hh (Or.inl (bVer _ (hs.2.2 q mem1).2))
  | cStamp c1 => rw [hq] at hl hh; exact out _ hl hh (Or.inl (by show (0 : Int) < _; omega))
  | cLeave c1 => rw [hq] at hl hh; exact out _ hl hh (Or.inl (by show (2 : Int) < _; omega))
  | cWord c1 r =>
    rw [hq] at hs hl hh
    cases r with
    | nil => exact absurd rfl hs.2.1
    | cons q r => exact out _ hl hh (Or.inr (bWrd _ (hs.2.2 q List.mem_cons_self).1))
  | cOpen c1 r =>
    rw [hq] at hs hl hh
    cases r with
    | nil => exact absurd rfl hs.2.1
    | cons q r => exact out _ hl hh (Or.inl (bVer _ (hs.2.2 q mem1).2))
  | cOwn c1 r =>
    rw [hq] at hs hl hh
    cases r with
    | nil => exact absurd rfl hs.2.1
    | cons q r => exact out _ hl hh (Or.inl (bOwn _ (hs.2.2 q mem1).2))
  | free e r =>
    rw [hq] at hs hl hh
    cases r with
    | nil => exact absurd rfl hs.1
    | cons q r => exact out _ hl hh (Or.inl (bOwn _ (hs.2 q mem1).2))
  | fin e => exact mine _ (Or.inl rfl)
  | fGate => rw [hq] at hl hh; exact out _ hl hh (Or.inl (by show (2 : Int) < _; omega))
  | fOwn r =>
    rw [hq] at hs hl hh
    cases r with
    | nil => exact absurd rfl hs.1
    | cons q r => exact out _ hl hh (Or.inl (bOwn _ (hs.2 q mem1).2))
  | fTake => rw [hq] at h4; exact absurd rfl h4
  | fStat => exact mine _ rk8
  | wait win => exact load _ _ _
  | rest n => rw [hq] at h0; exact absurd rfl h0

end Go.Proofs.Ytejadojilncbjaa

namespace Go.Proofs.Ytejadojilncbjaa
open Go.RowKit
set_option linter.unusedVariables false
attribute [local go_sem ↓] Go.wp_at_zero Go.wp_at_succ

/-! Who has no job makes no access; the first access of who has one is its first attempt's. -/

theorem seek_none {me : Int} : ∀ (l : List (Int × List InsD)) (j : Nat), (∀ b ∈ l, b.1 ≠ me) → seek me j l = none
  | [], j, _ => rfl
  | b :: r, j, h => by
    unfold seek
    rw [if_neg (h b List.mem_cons_self)]
    exact seek_none r (j + 1) (fun q hq => h q (List.mem_cons_of_mem _ hq))
theorem seek_some {me : Int} : ∀ (l : List (Int × List InsD)) (j : Nat), (∃ b ∈ l, b.1 = me) → ∃ k, seek me j l = some k
  | [], j, h => by obtain ⟨b, hb, _⟩ := h; simp at hb
  | b :: r, j, h => by
    unfold seek
    by_cases e : b.1 = me
    · rw [if_pos e]; exact ⟨j, rfl⟩
    · rw [if_neg e]
      obtain ⟨q, hq, hm⟩ := h
      rcases List.mem_cons.1 hq with x | x
      · rw [x] at hm; exact absurd hm e
      · exact seek_some r (j + 1) ⟨q, x, hm⟩
theorem works_false {jobs : List (Int × List InsD)} {t : Int} (h : worksB jobs t = false) : ∀ b ∈ jobs, b.1 ≠ t := by
  unfold worksB at h
  rw [List.any_eq_false] at h
  intro b hb e
  have := h b hb
  simp [e] at this
theorem works_true {jobs : List (Int × List InsD)} {t : Int} (h : worksB jobs t = true) : ∃ b ∈ jobs, b.1 = t := by
  unfold worksB at h
  rw [List.any_eq_true] at h
  obtain ⟨b, hb, e⟩ := h
  exact ⟨b, hb, by simpa using e⟩

theorem idle_at (c : Cfg) (mem : List Int) (jobs : List (Int × List InsD)) (ps : List PickD) (t : Int) (h : worksB jobs t = false) : ∀ k, ((gAt c mem jobs ps k).th t).st = .idle
  | 0 => by
    show (hInit (cxOf c jobs t)).st = .idle
    unfold hInit hTo
    rw [show seek (cxOf c jobs t).me 0 ((cxOf c jobs t).jobs.drop 0) = none from seek_none _ _ (works_false h)]
  | k + 1 => by
    have ih := idle_at c mem jobs ps t h k
    show ((gStep c jobs (gAt c mem jobs ps k) _ (pickAt ps k)).1.th t).st = .idle
    unfold gStep
    split
    · simp only
      split
      · rename_i e
        rw [← e]
        have : hNext (cxOf c jobs t) ((gAt c mem jobs ps k).th t) ⟨(gAcc c jobs (gAt c mem jobs ps k) t).seen, (pickAt ps k).draw, (k : Int) + 1⟩ = (gAt c mem jobs ps k).th t := by
          unfold hNext
          rw [ih]
        rw [this]
        exact ih
      · exact ih
    · exact ih

theorem acc_idle {c : Cfg} {mem : List Int} {jobs : List (Int × List InsD)} {ps : List PickD} {k : Nat} (hk : k < ps.length) (h : worksB jobs (pickAt ps k).thread = false) : accAt (accs c mem jobs ps) k = noAcc := by
  rw [accs_get c mem jobs ps k hk]
  by_cases ht : 0 ≤ (pickAt ps k).thread ∧ (pickAt ps k).thread < c.t
  · rw [gstep_in ht]
    refine acc_none ?_
    unfold hOut
    rw [idle_at c mem jobs ps _ h k]
  · unfold gStep
    rw [if_neg ht]

theorem acc_first {c : Cfg} {mem : List Int} {jobs : List (Int × List InsD)} {ps : List PickD} {k : Nat} (hk : k < ps.length) (ht : 0 ≤ (pickAt ps k).thread ∧ (pickAt ps k).thread < c.t) (h : worksB jobs (pickAt ps k).thread = true) (hi : (gAt c mem jobs ps k).th (pickAt ps k).thread = hInit (cxOf c jobs (pickAt ps k).thread)) :
    (accAt (accs c mem jobs ps) k).kind = 1 ∧ (accAt (accs c mem jobs ps) k).cell = 0 := by
  rw [accs_get c mem jobs ps k hk, gstep_in ht, hi]
  have hs : (hInit (cxOf c jobs (pickAt ps k).thread)).st = .start := by
    unfold hInit hTo
    obtain ⟨j, hj⟩ := seek_some (me := (pickAt ps k).thread) jobs 0 (works_true h)
    rw [show seek (cxOf c jobs (pickAt ps k).thread).me 0 ((cxOf c jobs (pickAt ps k).thread).jobs.drop 0) = some j from hj]
  have hq : hOut (cxOf c jobs (pickAt ps k).thread) (hInit (cxOf c jobs (pickAt ps k).thread)) = ⟨1, 0, 0, 0⟩ := by
    unfold hOut
    rw [hs]
  rw [hq]
  exact ⟨rfl, rfl⟩

/-- Whose mark is not set has not been picked. -/
def MetOk (c : Cfg) (mem : List Int) (jobs : List (Int × List InsD)) (ps : List PickD) (k : Nat) (mt : List Bool) : Prop :=
  mt.length = 4 ∧ ∀ i : Nat, i < 4 → mt.getD i false = false → worksB jobs (i : Int) = true → (gAt c mem jobs ps k).th (i : Int) = hInit (cxOf c jobs (i : Int))

theorem met_start (c : Cfg) (mem : List Int) (jobs : List (Int × List InsD)) (ps : List PickD) : MetOk c mem jobs ps 0 [false, false, false, false] := ⟨rfl, fun i hi _ _ => rfl⟩
theorem th_other {c : Cfg} {mem : List Int} {jobs : List (Int × List InsD)} {ps : List PickD} {k : Nat} {t : Int} (h : (pickAt ps k).thread ≠ t) : (gAt c mem jobs ps (k + 1)).th t = (gAt c mem jobs ps k).th t := by
  show (gStep c jobs (gAt c mem jobs ps k) _ (pickAt ps k)).1.th t = _
  unfold gStep
  split
  · simp only
    rw [if_neg (fun e => h e.symm)]
  · rfl
theorem met_skip {c : Cfg} {mem : List Int} {jobs : List (Int × List InsD)} {ps : List PickD} {k : Nat} {mt : List Bool} (h : MetOk c mem jobs ps k mt) (hn : ∀ i : Nat, i < 4 → mt.getD i false = false → worksB jobs (i : Int) = true → (pickAt ps k).thread ≠ (i : Int)) : MetOk c mem jobs ps (k + 1) mt :=
  ⟨h.1, fun i hi hf hw => (th_other (hn i hi hf hw)).trans (h.2 i hi hf hw)⟩
theorem met_set {c : Cfg} {mem : List Int} {jobs : List (Int × List InsD)} {ps : List PickD} {k n : Nat} {mt : List Bool} (h : MetOk c mem jobs ps k mt) (hn : n < 4) (ht : (pickAt ps k).thread = (n : Int)) : MetOk c mem jobs ps (k + 1) (mt.set n true) := by
  refine ⟨by rw [List.length_set]; exact h.1, fun i hi hf hw => ?_⟩
  by_cases e : i = n
  · exfalso
    rw [e] at hf
    simp [List.getD, h.1, hn] at hf
  · have : (mt.set n true).getD i false = mt.getD i false := by simp [List.getD, show n ≠ i from fun x => e x.symm]
    rw [this] at hf
    exact (th_other (by rw [ht]; omega)).trans (h.2 i hi hf hw)

end Go.Proofs.Ytejadojilncbjaa
