import Derived.Test.YtejadojilncbjaaGreatE32
namespace Go.Proofs.YtejadojilncbjaaGreat
set_option linter.unusedVariables false

/-! Locks, part 3: the cells say who holds what. -/

structure LI (c : Cfg) (jobs : List (Int × List InsD)) (m : Int → Int) (th : Int → Th) : Prop where
  own : ∀ s, 0 ≤ s → s < c.s → ∀ t, 0 ≤ t → t < c.t → (m (3 + c.s + s) = t + 1 ↔ Holds (th t) s)
  gate : ∀ t, 0 ≤ t → t < c.t → (m 2 = t + 1 ↔ hGate (th t) = true)
  shut : ∀ s, 0 ≤ s → s < c.s → (m (3 + s) = -1 ↔ ∃ t, 0 ≤ t ∧ t < c.t ∧ Shuts (th t) s)
  clk : ∀ t, 0 ≤ t → t < c.t → ∀ v, hClk (th t) = some v → m 0 = v
  loc : ∀ t, 0 ≤ t → t < c.t → Loc (cxOf c jobs t) (th t)

theorem shuts_holds {h : Th} {s : Int} (a : Shuts h s) : Holds h s := by
  unfold Shuts at a
  unfold Holds
  cases hst : h.st <;> rw [hst] at a <;> simp only at a ⊢ <;> first
    | exact a.elim
    | exact a.1
    | exact a
    | exact List.mem_of_mem_tail a
theorem clk_gate {h : Th} {v : Int} (a : hClk h = some v) : hGate h = true := by
  unfold hClk at a
  unfold hGate
  cases hst : h.st <;> rw [hst] at a <;> simp only at a ⊢ <;> first
    | rfl
    | cases a

/-- Only one thread's machine goes on. -/
def thSet (th : Int → Th) (t : Int) (h' : Th) : Int → Th := fun u => if u = t then h' else th u

theorem li_step {c : Cfg} {jobs : List (Int × List InsD)} {m m' : Int → Int} {th : Int → Th} {t : Int} {h' : Th} (hc : cfgB c = true) (t0 : 0 ≤ t) (t1 : t < c.t) (I : LI c jobs m th) (hl : Loc (cxOf c jobs t) h') (E : Eff (cxOf c jobs t) m m' (th t) h') :
    LI c jobs m' (thSet th t h') := by
  obtain ⟨_, _, ⟨s1, s2⟩, _⟩ := cfgB_true hc
  have at_t : thSet th t h' t = h' := if_pos rfl
  have off : ∀ {u}, u ≠ t → thSet th t h' u = th u := fun hu => if_neg hu
  have loc' : ∀ u, 0 ≤ u → u < c.t → Loc (cxOf c jobs u) (thSet th t h' u) := fun u u0 u1 => by
    by_cases hu : u = t
    · rw [hu, at_t]; exact hl
    · rw [off hu]; exact I.loc u u0 u1
  have one : ∀ {s u v}, 0 ≤ s → s < c.s → 0 ≤ u → u < c.t → 0 ≤ v → v < c.t → Holds (th u) s → Holds (th v) s → u = v := fun {s u v} a b d e f g x y => by
    have h1 := (I.own s a b u d e).2 x
    have h2 := (I.own s a b v f g).2 y
    omega
  have oneG : ∀ {u v}, 0 ≤ u → u < c.t → 0 ≤ v → v < c.t → hGate (th u) = true → hGate (th v) = true → u = v := fun {u v} d e f g x y => by
    have h1 := (I.gate u d e).2 x
    have h2 := (I.gate v f g).2 y
    omega
  -- what stays as it was
  have ownS : (∀ s, 0 ≤ s → s < c.s → m' (3 + c.s + s) = m (3 + c.s + s)) → (∀ s, Holds h' s ↔ Holds (th t) s) → ∀ s, 0 ≤ s → s < c.s → ∀ u, 0 ≤ u → u < c.t → (m' (3 + c.s + s) = u + 1 ↔ Holds (thSet th t h' u) s) := fun M H s a b u d e => by
    rw [M s a b]
    by_cases hu : u = t
    · rw [hu, at_t, H]; rw [← hu]; exact I.own s a b u d e
    · rw [off hu]; exact I.own s a b u d e
  have gateS : m' 2 = m 2 → hGate h' = hGate (th t) → ∀ u, 0 ≤ u → u < c.t → (m' 2 = u + 1 ↔ hGate (thSet th t h' u) = true) := fun M G u d e => by
    rw [M]
    by_cases hu : u = t
    · rw [hu, at_t, G]; rw [← hu]; exact I.gate u d e
    · rw [off hu]; exact I.gate u d e
  have exS : (∀ s, Shuts h' s ↔ Shuts (th t) s) → ∀ s, (∃ u, 0 ≤ u ∧ u < c.t ∧ Shuts (thSet th t h' u) s) ↔ (∃ u, 0 ≤ u ∧ u < c.t ∧ Shuts (th u) s) := fun S s => by
    constructor
    · rintro ⟨u, d, e, x⟩
      by_cases hu : u = t
      · rw [hu, at_t, S] at x
        exact ⟨t, t0, t1, x⟩
      · rw [off hu] at x
        exact ⟨u, d, e, x⟩
    · rintro ⟨u, d, e, x⟩
      by_cases hu : u = t
      · refine ⟨t, t0, t1, ?_⟩
        rw [at_t, S, ← hu]; exact x
      · exact ⟨u, d, e, by rw [off hu]; exact x⟩
  have shutS : (∀ s, 0 ≤ s → s < c.s → m' (3 + s) = m (3 + s)) → (∀ s, Shuts h' s ↔ Shuts (th t) s) → ∀ s, 0 ≤ s → s < c.s → (m' (3 + s) = -1 ↔ ∃ u, 0 ≤ u ∧ u < c.t ∧ Shuts (thSet th t h' u) s) := fun M S s a b => by
    rw [M s a b, exS S s]
    exact I.shut s a b
  have clkS : m' 0 = m 0 → (∀ v, hClk h' = some v → m 0 = v) → ∀ u, 0 ≤ u → u < c.t → ∀ v, hClk (thSet th t h' u) = some v → m' 0 = v := fun M C u d e v x => by
    rw [M]
    by_cases hu : u = t
    · rw [hu, at_t] at x; exact C v x
    · rw [off hu] at x; exact I.clk u d e v x
  have cOwn' : ∀ s, hOwn (cxOf c jobs t) s = 3 + c.s + s := fun s => rfl
  have cVer' : ∀ s, hVer s = 3 + s := fun s => rfl
  cases E with
  | same M H G S C =>
    have M' : ∀ x, (x = 0 ∨ x = 2 ∨ (3 ≤ x ∧ x < 3 + 2 * c.s)) → m' x = m x := M
    refine ⟨ownS (fun s a b => M' _ (by omega)) H, gateS (M' _ (by omega)) G, shutS (fun s a b => M' _ (by omega)) S, clkS (M' _ (by omega)) (fun v x => ?_), loc'⟩
    rcases C v x with y | y
    · exact I.clk t t0 t1 v y
    · exact y.2
  | got s b e M H G S C =>
    rw [cOwn'] at e M
    have M2 : ∀ x, x ≠ 3 + c.s + s → m' x = m x := fun x hx => by rw [M]; exact upd_off hx
    refine ⟨fun u a b' v d e' => ?_, gateS (M2 _ (by omega)) G, shutS (fun u a b' => M2 _ (by have : u < c.s := b'; omega)) S, clkS (M2 _ (by omega)) (fun v x => by rw [C] at x; cases x), loc'⟩
    have b2 : s < c.s := b.2
    by_cases hu : u = s
    · subst hu
      rw [show m' (3 + c.s + u) = t + 1 from by rw [M]; exact upd_at _ _ _]
      by_cases hv : v = t
      · rw [hv, at_t, H]
        exact ⟨fun _ => Or.inr rfl, fun _ => rfl⟩
      · rw [off hv, ← I.own u a b' v d e', e]
        constructor <;> intro x <;> omega
    · rw [M2 _ (by omega)]
      by_cases hv : v = t
      · rw [hv, at_t, H, I.own u a b' t t0 t1]
        exact ⟨fun x => Or.inl x, fun x => x.elim id (fun y => absurd y hu)⟩
      · rw [off hv]; exact I.own u a b' v d e'
  | gave s b e M H G S C =>
    rw [cOwn'] at M
    have M2 : ∀ x, x ≠ 3 + c.s + s → m' x = m x := fun x hx => by rw [M]; exact upd_off hx
    have b2 : s < c.s := b.2
    have hown := (I.own s b.1 b2 t t0 t1).2 e.1
    refine ⟨fun u a b' v d e' => ?_, gateS (M2 _ (by omega)) G, shutS (fun u a b' => M2 _ (by have : u < c.s := b'; omega)) S, clkS (M2 _ (by omega)) (fun v x => by rw [C] at x; cases x), loc'⟩
    by_cases hu : u = s
    · subst hu
      rw [show m' (3 + c.s + u) = 0 from by rw [M]; exact upd_at _ _ _]
      by_cases hv : v = t
      · rw [hv, at_t, H]
        exact ⟨fun x => by omega, fun x => absurd rfl x.2⟩
      · rw [off hv, ← I.own u a b' v d e', hown]
        constructor <;> intro x <;> omega
    · rw [M2 _ (by omega)]
      by_cases hv : v = t
      · rw [hv, at_t, H, I.own u a b' t t0 t1]
        exact ⟨fun x => ⟨x, hu⟩, fun x => x.1⟩
      · rw [off hv]; exact I.own u a b' v d e'
  | into e M H G S C =>
    have M2 : ∀ x, x ≠ 2 → m' x = m x := fun x hx => by rw [M]; exact upd_off hx
    refine ⟨ownS (fun s a b => M2 _ (by omega)) H, fun u d e' => ?_, shutS (fun s a b => M2 _ (by omega)) S, clkS (M2 _ (by omega)) (fun v x => by rw [C] at x; cases x), loc'⟩
    rw [show m' 2 = t + 1 from by rw [M]; exact upd_at _ _ _]
    by_cases hu : u = t
    · rw [hu, at_t, G]; simp
    · rw [off hu, ← I.gate u d e', e]
      constructor <;> intro x <;> omega
  | out e M H G S C =>
    have M2 : ∀ x, x ≠ 2 → m' x = m x := fun x hx => by rw [M]; exact upd_off hx
    have hg := (I.gate t t0 t1).2 e
    refine ⟨ownS (fun s a b => M2 _ (by omega)) H, fun u d e' => ?_, shutS (fun s a b => M2 _ (by omega)) S, clkS (M2 _ (by omega)) (fun v x => by rw [C] at x; cases x), loc'⟩
    rw [show m' 2 = 0 from by rw [M]; exact upd_at _ _ _]
    by_cases hu : u = t
    · rw [hu, at_t, G]
      constructor <;> intro x
      · omega
      · cases x
    · rw [off hu, ← I.gate u d e', hg]
      constructor <;> intro x <;> omega
  | shut s b e M H G S C =>
    rw [cVer'] at M
    have M2 : ∀ x, x ≠ 3 + s → m' x = m x := fun x hx => by rw [M]; exact upd_off hx
    have b2 : s < c.s := b.2
    have b1 := b.1
    refine ⟨ownS (fun u a b' => M2 _ (by omega)) H, gateS (M2 _ (by omega)) G, fun u a b' => ?_, clkS (M2 _ (by omega)) (fun v x => I.clk t t0 t1 v (C v x)), loc'⟩
    by_cases hu : u = s
    · rw [hu]
      rw [show m' (3 + s) = -1 from by rw [M]; exact upd_at _ _ _]
      exact ⟨fun _ => ⟨t, t0, t1, by rw [at_t, S]; exact Or.inr rfl⟩, fun _ => rfl⟩
    · rw [M2 _ (by omega), I.shut u a b']
      constructor
      · rintro ⟨v, d, e', x⟩
        by_cases hv : v = t
        · exact ⟨t, t0, t1, by rw [at_t, S]; rw [hv] at x; exact Or.inl x⟩
        · exact ⟨v, d, e', by rw [off hv]; exact x⟩
      · rintro ⟨v, d, e', x⟩
        by_cases hv : v = t
        · rw [hv, at_t, S] at x
          exact ⟨t, t0, t1, x.elim id (fun y => absurd y hu)⟩
        · rw [off hv] at x
          exact ⟨v, d, e', x⟩
  | opened s w b p e M H G S C =>
    rw [cVer'] at M
    have M2 : ∀ x, x ≠ 3 + s → m' x = m x := fun x hx => by rw [M]; exact upd_off hx
    have b2 : s < c.s := b.2
    have b1 := b.1
    refine ⟨ownS (fun u a b' => M2 _ (by omega)) H, gateS (M2 _ (by omega)) G, fun u a b' => ?_, clkS (M2 _ (by omega)) (fun v x => by rw [C] at x; cases x), loc'⟩
    by_cases hu : u = s
    · subst hu
      rw [show m' (3 + u) = w from by rw [M]; exact upd_at _ _ _]
      constructor
      · intro x; omega
      · rintro ⟨v, d, e', x⟩
        by_cases hv : v = t
        · rw [hv, at_t, S] at x
          exact absurd rfl x.2
        · rw [off hv] at x
          exact absurd (one a b' d e' t0 t1 (shuts_holds x) e.1) hv
    · rw [M2 _ (by omega), I.shut u a b']
      constructor
      · rintro ⟨v, d, e', x⟩
        by_cases hv : v = t
        · exact ⟨t, t0, t1, by rw [at_t, S]; rw [hv] at x; exact ⟨x, hu⟩⟩
        · exact ⟨v, d, e', by rw [off hv]; exact x⟩
      · rintro ⟨v, d, e', x⟩
        by_cases hv : v = t
        · rw [hv, at_t, S] at x
          exact ⟨t, t0, t1, x.1⟩
        · rw [off hv] at x
          exact ⟨v, d, e', x⟩
  | stamp w e M H G S C =>
    have M2 : ∀ x, x ≠ 0 → m' x = m x := fun x hx => by rw [M]; exact upd_off hx
    refine ⟨ownS (fun u a b' => M2 _ (by omega)) H, gateS (M2 _ (by omega)) G, shutS (fun u a b' => M2 _ (by omega)) S, fun u d e' v x => ?_, loc'⟩
    by_cases hu : u = t
    · rw [hu, at_t, C] at x; cases x
    · rw [off hu] at x
      exact absurd (oneG d e' t0 t1 (clk_gate x) e.1) hu

theorem li_start {c : Cfg} (hc : cfgB c = true) {mem : List Int} (hmw : (mem.length : Int) = c.wd) (hmb : memB mem = true) (jobs : List (Int × List InsD)) : LI c jobs (gStart c mem jobs).m (gStart c mem jobs).th := by
  obtain ⟨⟨t1, t2⟩, _, ⟨s1, s2⟩, _⟩ := cfgB_true hc
  have lo : ∀ x, x < wordBase c → startVal c mem x = 0 := fun x h => by unfold startVal; rw [if_neg (by omega)]
  unfold wordBase at lo
  have hto : ∀ t, Cont (cxOf c jobs t) [] false (hInit (cxOf c jobs t)) := fun t => by
    unfold hInit hTo
    split
    · exact ⟨fun s => by simp [Holds], rfl, fun s => by simp [Shuts], rfl, rfl, trivial⟩
    · exact ⟨fun s => by simp [Holds], rfl, fun s => by simp [Shuts], rfl, rfl, trivial⟩
  refine ⟨fun s a b t d e => ?_, fun t d e => ?_, fun s a b => ?_, fun t d e v x => ?_, fun t d e => (hto t).loc⟩
  · rw [show (gStart c mem jobs).m (3 + c.s + s) = 0 from lo _ (by omega), show (gStart c mem jobs).th t = hInit (cxOf c jobs t) from rfl, (hto t).holds]
    constructor
    · intro x; omega
    · intro x; simp at x
  · rw [show (gStart c mem jobs).m 2 = 0 from lo _ (by omega), show (gStart c mem jobs).th t = hInit (cxOf c jobs t) from rfl, (hto t).gate]
    constructor
    · intro x; omega
    · intro x; cases x
  · rw [show (gStart c mem jobs).m (3 + s) = 0 from lo _ (by omega)]
    constructor
    · intro x; omega
    · rintro ⟨t, d, e, x⟩
      exact absurd x ((hto t).shuts s)
  · rw [show (gStart c mem jobs).th t = hInit (cxOf c jobs t) from rfl, (hto t).clk] at x
    cases x

theorem li_at {c : Cfg} (hc : cfgB c = true) {mem : List Int} (hmw : (mem.length : Int) = c.wd) (hmb : memB mem = true) (jobs : List (Int × List InsD)) (ps : List PickD) : ∀ k : Nat, LI c jobs (gAt c mem jobs ps k).m (gAt c mem jobs ps k).th
  | 0 => li_start hc hmw hmb jobs
  | k + 1 => by
    have I := li_at hc hmw hmb jobs ps k
    have G := gat_ok hc hmw hmb jobs ps k
    show LI c jobs (gStep c jobs (gAt c mem jobs ps k) _ (pickAt ps k)).1.m (gStep c jobs (gAt c mem jobs ps k) _ (pickAt ps k)).1.th
    unfold gStep
    by_cases ht : 0 ≤ (pickAt ps k).thread ∧ (pickAt ps k).thread < c.t
    · rw [if_pos ht]
      have hcK : cfgB (cxOf c jobs (pickAt ps k).thread).c = true := hc
      obtain ⟨hl, E⟩ := eff_step hcK ht (G.th _ ht.1 ht.2) (I.loc _ ht.1 ht.2) (gAt c mem jobs ps k).m ⟨(gAcc c jobs (gAt c mem jobs ps k) (pickAt ps k).thread).seen, (pickAt ps k).draw, (k : Int) + 1⟩ (fun h0 => by
        show (gAcc c jobs (gAt c mem jobs ps k) (pickAt ps k).thread).seen = _
        unfold gAcc
        rw [acc_some h0])
      exact li_step hc ht.1 ht.2 I hl E
    · rw [if_neg ht]
      exact I

end Go.Proofs.YtejadojilncbjaaGreat

namespace Go.Proofs.YtejadojilncbjaaGreat
set_option linter.unusedVariables false

/-! Locks, part 4: each access is one that the locks allow. -/

theorem stmp_step {K : Cx} {k : Int} {h : Th} (hc : cfgB K.c = true) (A : ThOk K k h) (L : Loc K h) (v : AnsD) (w : Int) (e : hStmp (hNext K h v) = some w) : hStmp h = some w ∨ ∃ c, h.st = .cStamp c ∧ w = c + 1 := by
  obtain ⟨_, _, ⟨s1, s2⟩, _, _, _, ⟨f1, f2⟩⟩ := cfgB_true hc
  have hx := A.x
  have hn := hx.hn
  have hb := hx.bg
  have hs := A.step
  unfold StepOk at hs
  unfold hNext at e
  unfold Loc at L
  have no : ∀ {h' : Th} {P : Prop}, hStmp h' = none → hStmp h' = some w → P := fun a b => by rw [a] at b; cases b
  cases hst : h.st with
  | idle => rw [hst] at e; exact Or.inl (by simpa using e)
  | start =>
    rw [hst] at e
    exact no (cont_go (K := K) (h := { h with list := h.list ++ [⟨K.me, h.job, v.num, 0, v.seen, 0, 0, []⟩], x := newTS (K.jobs.getD h.job (0, [])).2 v.seen, st := .start }) (by show ((0 : Nat) : Int) ≤ _; omega) (by simp [newTS]) (fun e he => by simp [newTS] at he) rfl).stmp e
  | rHeld i a => rw [hst] at e L; exact no (cont_got hb hn L.1 L.2).stmp e
  | rVer i a =>
    rw [hst] at e
    simp only at e
    split at e
    · exact Or.inl e
    · exact no rfl e
  | rWord i a one => rw [hst] at e; exact no rfl e
  | rAgain i a one y =>
    rw [hst] at e L
    simp only at e
    split at e
    · exact no rfl e
    · have e1 : (if (entIdx h.x.reads (a.tmod K.c.s)).isSome then h.x else { h.x with reads := h.x.reads ++ [⟨a.tmod K.c.s, one⟩] }).held = h.x.held := by split <;> rfl
      have e2 : (if (entIdx h.x.reads (a.tmod K.c.s)).isSome then h.x else { h.x with reads := h.x.reads ++ [⟨a.tmod K.c.s, one⟩] }).inGate = h.x.inGate := by split <;> rfl
      have e3 : (if (entIdx h.x.reads (a.tmod K.c.s)).isSome then h.x else { h.x with reads := h.x.reads ++ [⟨a.tmod K.c.s, one⟩] }).writes = h.x.writes := by split <;> rfl
      have e4 : (if (entIdx h.x.reads (a.tmod K.c.s)).isSome then h.x else { h.x with reads := h.x.reads ++ [⟨a.tmod K.c.s, one⟩] }).begun = h.x.begun := by split <;> rfl
      generalize (if (entIdx h.x.reads (a.tmod K.c.s)).isSome then h.x else { h.x with reads := h.x.reads ++ [⟨a.tmod K.c.s, one⟩] }) = x1 at *
      split at e
      · refine no (cont_got (K := K) (h := { h with x := x1, st := .rAgain i a one y }) (i := i) (a := a) (v := y) (by rw [e4]; exact hb) (by rw [e1]; exact hn) (fun q hq => ?_) (e2.trans L.2)).stmp e
        show q.what.tmod K.c.s ∈ x1.held
        rw [e1]; exact L.1 q (by rw [← e3]; exact hq)
      · exact no rfl e
  | xClock q => rw [hst] at e L; exact no (cont_exstill hb hn L.1.1 L.1.2 L.2 _).stmp e
  | xVer q c r =>
    rw [hst] at e L hs
    cases r with
    | nil => exact absurd rfl hs.2.2.1
    | cons p r =>
      simp only at e
      split at e
      · exact no (cont_fail hn).stmp e
      · exact no (cont_exstill hb hn L.1.1 L.1.2 L.2 _).stmp e
  | gStat i a =>
    rw [hst] at e
    simp only at e
    split at e
    · exact no (cont_fail hn).stmp e
    · exact no rfl e
  | gOwn i a =>
    rw [hst] at e
    simp only at e
    split at e
    · exact no rfl e
    · split at e
      · exact no (cont_fail hn).stmp e
      · exact no rfl e
  | gTheir i a u =>
    rw [hst] at e
    simp only at e
    split at e
    · exact no (cont_fail (h := { h with x := { h.x with way := u - 1 }, st := .gTheir i a u }) hn).stmp e
    · split at e
      · exact no rfl e
      · exact no rfl e
  | gMark i a u th => rw [hst] at e; exact no rfl e
  | gVer i a =>
    rw [hst] at e L
    simp only at e
    split at e
    · exact no rfl e
    · exact no (cont_wrote hb hn L.1.1 L.1.2 L.2).stmp e
  | tTake => rw [hst] at e; exact no rfl e
  | tShow =>
    rw [hst] at e L
    simp only at e
    split at e
    · exact no (cont_fail hn).stmp e
    · exact no (cont_go hb hn L.1 L.2).stmp e
  | cStat =>
    rw [hst] at e
    simp only at e
    split at e
    · exact no (cont_fail hn).stmp e
    · exact no rfl e
  | cGate =>
    rw [hst] at e
    simp only at e
    by_cases h0 : v.seen = 0
    · rw [if_pos h0] at e; exact no rfl e
    · rw [if_neg h0] at e; exact no rfl e
  | cClock =>
    rw [hst] at e
    have sh : hStmp (hShutAt v.seen h.x.held h) = none := by cases h.x.held <;> rfl
    have sl : ∀ r : List EntD, hStmp (hStillAt v.seen r h) = none := by
      intro r
      induction r with
      | nil => exact sh
      | cons q r ih =>
        unfold hStillAt
        split
        · exact ih
        · rfl
    simp only at e
    split at e
    · exact no (sl _) e
    · exact no sh e
  | cVer c r =>
    rw [hst] at e hs
    have sh : hStmp (hShutAt c h.x.held h) = none := by cases h.x.held <;> rfl
    have sl : ∀ r : List EntD, hStmp (hStillAt c r h) = none := by
      intro r
      induction r with
      | nil => exact sh
      | cons q r ih =>
        unfold hStillAt
        split
        · exact ih
        · rfl
    cases r with
    | nil => exact absurd rfl hs.2.1
    | cons q r =>
      simp only at e
      split at e
      · exact no (cont_fail hn).stmp e
      · exact no (sl _) e
  | cShut c r =>
    rw [hst] at e hs
    cases r with
    | nil => exact absurd rfl hs.2.1
    | cons q r => cases r <;> exact no rfl e
  | cStamp c =>
    rw [hst] at e
    refine Or.inr ⟨c, rfl, ?_⟩
    simp [hStmp] at e
    exact e.symm
  | cLeave c =>
    rw [hst] at e
    left
    have so : ∀ r, hStmp (hOpenAt c r h) = some w → w = c + 1 := fun r a => by
      cases r with
      | nil => simp [hOpenAt, hStmp] at a
      | cons q r => simp [hOpenAt, hStmp] at a; exact a.symm
    have : w = c + 1 := by
      cases hw : h.x.writes with
      | nil => rw [hw] at e; exact so _ e
      | cons q r => rw [hw] at e; simp [hWordAt, hStmp] at e; exact e.symm
    simp [hStmp, hst, this]
  | cWord c r =>
    rw [hst] at e hs
    left
    have so : ∀ r, hStmp (hOpenAt c r h) = some w → w = c + 1 := fun r a => by
      cases r with
      | nil => simp [hOpenAt, hStmp] at a
      | cons q r => simp [hOpenAt, hStmp] at a; exact a.symm
    have : w = c + 1 := by
      cases r with
      | nil => exact absurd rfl hs.2.1
      | cons q r =>
        cases r with
        | nil => exact so _ e
        | cons p r => simp [hWordAt, hStmp] at e; exact e.symm
    simp [hStmp, hst, this]
  | cOpen c r =>
    rw [hst] at e hs
    left
    have : w = c + 1 := by
      cases r with
      | nil => exact absurd rfl hs.2.1
      | cons q r => simp [hStmp] at e; exact e.symm
    simp [hStmp, hst, this]
  | cOwn c r =>
    rw [hst] at e hs
    left
    have : w = c + 1 := by
      cases r with
      | nil => exact absurd rfl hs.2.1
      | cons q r =>
        cases r with
        | nil => simp [hOpenAt, hStmp] at e
        | cons p r => simp [hOpenAt, hStmp] at e; exact e.symm
    simp [hStmp, hst, this]
  | free q r =>
    rw [hst] at e hs
    cases r with
    | nil => exact absurd rfl hs.1
    | cons q r => cases r <;> exact no rfl e
  | fin q =>
    rw [hst] at e
    have : ∀ g : Th, hStmp (hTo K (h.job + 1) g) = none := fun g => by
      unfold hTo
      split <;> rfl
    exact no (this _) e
  | fGate => rw [hst] at e; exact no (cont_failown (K := K) (h := h) hn).stmp e
  | fOwn r =>
    rw [hst] at e hs L
    cases r with
    | nil => exact absurd rfl hs.1
    | cons q r => exact no (cont_failown (K := K) (h := h) (List.nodup_cons.1 L).2).stmp e
  | fTake => rw [hst] at e; exact no rfl e
  | fStat =>
    rw [hst] at e
    simp only at e
    generalize (if 0 < v.seen.tmod 8 then v.seen.tmod 8 - 1 else h.x.way) = win at *
    split at e
    · exact no rfl e
    · refine no ?_ e
      unfold hRest
      simp only
      generalize (v.draw.tmod ((if (h.ended v.num 5).fails < K.c.cp then (h.ended v.num 5).fails else K.c.cp) + 1)).toNat = n
      split <;> rfl
  | wait win =>
    rw [hst] at e
    simp only at e
    split at e
    · exact no rfl e
    · exact Or.inl e
  | rest n =>
    rw [hst] at e
    simp only at e
    split at e
    · exact no rfl e
    · exact no rfl e

/-- By thread the stamp that it drew last, behind k picks. -/
def stampAt (c : Cfg) (mem : List Int) (jobs : List (Int × List InsD)) (ps : List PickD) : Nat → Int → Int
  | 0 => fun _ => 0
  | k + 1 => fun t => if (pickAt ps k).thread = t ∧ (accAt (accs c mem jobs ps) k).kind = 2 ∧ (accAt (accs c mem jobs ps) k).cell = 0 then (accAt (accs c mem jobs ps) k).put else stampAt c mem jobs ps k t

theorem gLog_get (c : Cfg) (mem : List Int) (jobs : List (Int × List InsD)) (ps : List PickD) (k : Nat) : ∀ n, k < n → accAt (gLog c mem jobs ps n) k = (gStep c jobs (gAt c mem jobs ps k) ((k : Int) + 1) (pickAt ps k)).2
  | 0, h => absurd h (Nat.not_lt_zero _)
  | n + 1, h => by
    have hl := gLog_len c mem jobs ps n
    show accAt (gLog c mem jobs ps n ++ [_]) k = _
    unfold accAt
    by_cases hk : k < n
    · rw [show (gLog c mem jobs ps n ++ [(gStep c jobs (gAt c mem jobs ps n) ((n : Int) + 1) (pickAt ps n)).2]).getD k noAcc = (gLog c mem jobs ps n).getD k noAcc from by simp [List.getD, List.getElem?_append_left (show k < (gLog c mem jobs ps n).length by omega)]]
      exact gLog_get c mem jobs ps k n hk
    · have : k = n := by omega
      subst this
      simp [List.getD, hl]
theorem accs_get (c : Cfg) (mem : List Int) (jobs : List (Int × List InsD)) (ps : List PickD) (k : Nat) (hk : k < ps.length) : accAt (accs c mem jobs ps) k = (gStep c jobs (gAt c mem jobs ps k) ((k : Int) + 1) (pickAt ps k)).2 := gLog_get c mem jobs ps k _ hk

theorem gstep_in {c : Cfg} {jobs : List (Int × List InsD)} {g : Gs} {n : Int} {pk : PickD} (h : 0 ≤ pk.thread ∧ pk.thread < c.t) : (gStep c jobs g n pk).2 = accBy g.m (hOut (cxOf c jobs pk.thread) (g.th pk.thread)) := by
  unfold gStep
  rw [if_pos h]
  rfl

theorem stmp_at {c : Cfg} (hc : cfgB c = true) {mem : List Int} (hmw : (mem.length : Int) = c.wd) (hmb : memB mem = true) (jobs : List (Int × List InsD)) (ps : List PickD) : ∀ k : Nat, k ≤ ps.length → ∀ t, 0 ≤ t → t < c.t → ∀ w, hStmp ((gAt c mem jobs ps k).th t) = some w → stampAt c mem jobs ps k t = w
  | 0, _, t, t0, t1, w, e => by
    have : hStmp ((gAt c mem jobs ps 0).th t) = none := by
      show hStmp (hInit (cxOf c jobs t)) = none
      unfold hInit hTo
      split <;> rfl
    rw [this] at e
    cases e
  | k + 1, hk, t, t0, t1, w, e => by
    have I := li_at hc hmw hmb jobs ps k
    have G := gat_ok hc hmw hmb jobs ps k
    have ih := stmp_at hc hmw hmb jobs ps k (by omega)
    have ha := accs_get c mem jobs ps k (by omega)
    by_cases ht : (pickAt ps k).thread = t
    · have hth : 0 ≤ (pickAt ps k).thread ∧ (pickAt ps k).thread < c.t := by rw [ht]; exact ⟨t0, t1⟩
      rw [gstep_in hth, ht] at ha
      have e' : hStmp (hNext (cxOf c jobs t) ((gAt c mem jobs ps k).th t) ⟨(gAcc c jobs (gAt c mem jobs ps k) t).seen, (pickAt ps k).draw, (k : Int) + 1⟩) = some w := by
        have : (gAt c mem jobs ps (k + 1)).th t = hNext (cxOf c jobs t) ((gAt c mem jobs ps k).th t) ⟨(gAcc c jobs (gAt c mem jobs ps k) t).seen, (pickAt ps k).draw, (k : Int) + 1⟩ := by
          show (gStep c jobs (gAt c mem jobs ps k) _ (pickAt ps k)).1.th t = _
          unfold gStep
          rw [if_pos hth]
          simp only
          rw [if_pos ht.symm, ht]
        rw [this] at e
        exact e
      have hcK : cfgB (cxOf c jobs t).c = true := hc
      rcases stmp_step hcK (G.th t t0 t1) (I.loc t t0 t1) _ w e' with h1 | ⟨cc, h1, h2⟩
      · show (if _ then _ else _) = w
        by_cases hcond : (pickAt ps k).thread = t ∧ (accAt (accs c mem jobs ps) k).kind = 2 ∧ (accAt (accs c mem jobs ps) k).cell = 0
        · exfalso
          obtain ⟨_, b1, b2⟩ := hcond
          rw [ha] at b1 b2
          unfold hStmp at h1
          unfold accBy hOut at b1 b2
          have hsx := (G.th t t0 t1).step
          unfold StepOk at hsx
          cases hst : ((gAt c mem jobs ps k).th t).st with
          | cLeave c1 => rw [hst] at b2; simp at b2
          | cWord c1 r =>
            rw [hst] at b1 b2 hsx
            cases r with
            | nil => exact absurd rfl hsx.2.1
            | cons q r =>
              simp at b2
              have b := hsx.2.2 q List.mem_cons_self
              obtain ⟨⟨t1', _⟩, _, ⟨s1, _⟩, _⟩ := cfgB_true hc
              unfold hWrd at b2
              have e1 : (cxOf c jobs t).c = c := rfl
              rw [e1] at b2
              have := b.1
              omega
          | cOpen c1 r =>
            rw [hst] at b1 b2 hsx
            cases r with
            | nil => exact absurd rfl hsx.2.1
            | cons q r =>
              simp at b2
              have b := hsx.2.2 q List.mem_cons_self
              unfold hVer at b2
              have := b.1
              omega
          | cOwn c1 r =>
            rw [hst] at b1 b2 hsx
            cases r with
            | nil => exact absurd rfl hsx.2.1
            | cons q r =>
              simp at b2
              have b := hsx.2.2 q List.mem_cons_self
              obtain ⟨_, _, ⟨s1, _⟩, _⟩ := cfgB_true hc
              unfold hOwn at b2
              have e1 : (cxOf c jobs t).c = c := rfl
              rw [e1] at b2
              have := b.1
              omega
          | _ => rw [hst] at h1; cases h1
        · rw [if_neg hcond]
          exact ih t t0 t1 w h1
      · have hq : hOut (cxOf c jobs t) ((gAt c mem jobs ps k).th t) = ⟨2, 0, 0, cc + 1⟩ := by unfold hOut; rw [h1]
        rw [hq] at ha
        show (if _ then _ else _) = w
        rw [ha, if_pos ⟨ht, rfl, rfl⟩, h2]
        rfl
    · have : (gAt c mem jobs ps (k + 1)).th t = (gAt c mem jobs ps k).th t := by
        show (gStep c jobs (gAt c mem jobs ps k) _ (pickAt ps k)).1.th t = _
        unfold gStep
        split
        · simp only
          rw [if_neg (fun h => ht h.symm)]
        · rfl
      rw [this] at e
      show (if _ then _ else _) = w
      rw [if_neg (fun h => ht h.1)]
      exact ih t t0 t1 w e

end Go.Proofs.YtejadojilncbjaaGreat
