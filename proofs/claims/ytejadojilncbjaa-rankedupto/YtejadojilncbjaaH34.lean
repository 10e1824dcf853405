import Derived.Test.YtejadojilncbjaaH33
namespace Go.Proofs.Ytejadojilncbjaa
set_option linter.unusedVariables false

/-! Locks, part 3: the cells say who holds what. -/

structure LI (c : Cfg) (jobs : List (Int × List InsD)) (m : Int → Int) (th : Int → Th) : Prop where
  own : ∀ s, 0 ≤ s → s < c.s → ∀ t, 0 ≤ t → t < c.t → (m (3 + c.s + s) = t + 1 ↔ Holds (th t) s)
  gate : ∀ t, 0 ≤ t → t < c.t → (m 2 = t + 1 ↔ hGate (th t) = true)
  shut : ∀ s, 0 ≤ s → s < c.s → (m (3 + s) = -1 ↔ ∃ t, 0 ≤ t ∧ t < c.t ∧ Shuts (th t) s)
  clk : ∀ t, 0 ≤ t → t < c.t → ∀ v, hClk (th t) = some v → m 0 = v
  loc : ∀ t, 0 ≤ t → t < c.t → Loc (cxOf c jobs t) (th t)

theorem shuts_holds {h : Th} {s : Int} (a : Shuts h s) : Holds h s := by
  unfold Shuts at a
  unfold Holds
  cases hst : h.st <;> rw [hst] at a <;> simp only at a ⊢ <;> first
    | exact a.elim
    | exact a.1
    | exact a
    | exact List.mem_of_mem_tail a
theorem clk_gate {h : Th} {v : Int} (a : hClk h = some v) : hGate h = true := by
  unfold hClk at a
  unfold hGate
  cases hst : h.st <;> rw [hst] at a <;> simp only at a ⊢ <;> first
    | rfl
    | cases a

/-- Only one thread's machine goes on. -/
def thSet (th : Int → Th) (t : Int) (h' : Th) : Int → Th := fun u => if u = t then h' else th u

theorem li_step {c : Cfg} {jobs : List (Int × List InsD)} {m m' : Int → Int} {th : Int → Th} {t : Int} {h' : Th} (hc : cfgB c = true) (t0 : 0 ≤ t) (t1 : t < c.t) (I : LI c jobs m th) (hl : Loc (cxOf c jobs t) h') (E : Eff (cxOf c jobs t) m m' (th t) h') :
    LI c jobs m' (thSet th t h') := by
  obtain ⟨_, _, ⟨s1, s2⟩, _⟩ := cfgB_true hc
  have at_t : thSet th t h' t = h' := if_pos rfl
  have off : ∀ {u}, u ≠ t → thSet th t h' u = th u := fun hu => if_neg hu
  have loc' : ∀ u, 0 ≤ u → u < c.t → Loc (cxOf c jobs u) (thSet th t h' u) := fun u u0 u1 => by
    by_cases hu : u = t
    · rw [hu, at_t]; exact hl
    · rw [off hu]; exact I.loc u u0 u1
  have one : ∀ {s u v}, 0 ≤ s → s < c.s → 0 ≤ u → u < c.t → 0 ≤ v → v < c.t → Holds (th u) s → Holds (th v) s → u = v := fun {s u v} a b d e f g x y => by
    have h1 := (I.own s a b u d e).2 x
    have h2 := (I.own s a b v f g).2 y
    omega
  have oneG : ∀ {u v}, 0 ≤ u → u < c.t → 0 ≤ v → v < c.t → hGate (th u) = true → hGate (th v) = true → u = v := fun {u v} d e f g x y => by
    have h1 := (I.gate u d e).2 x
    have h2 := (I.gate v f g).2 y
    omega
  -- what stays as it was
  have ownS : (∀ s, 0 ≤ s → s < c.s → m' (3 + c.s + s) = m (3 + c.s + s)) → (∀ s, Holds h' s ↔ Holds (th t) s) → ∀ s, 0 ≤ s → s < c.s → ∀ u, 0 ≤ u → u < c.t → (m' (3 + c.s + s) = u + 1 ↔ Holds (thSet th t h' u) s) := fun M H s a b u d e => by
    rw [M s a b]
    by_cases hu : u = t
    · rw [hu, at_t, H]; rw [← hu]; exact I.own s a b u d e
    · rw [off hu]; exact I.own s a b u d e
  have gateS : m' 2 = m 2 → hGate h' = hGate (th t) → ∀ u, 0 ≤ u → u < c.t → (m' 2 = u + 1 ↔ hGate (thSet th t h' u) = true) := fun M G u d e => by
    rw [M]
    by_cases hu : u = t
    · rw [hu, at_t, G]; rw [← hu]; exact I.gate u d e
    · rw [off hu]; exact I.gate u d e
  have exS : (∀ s, Shuts h' s ↔ Shuts (th t) s) → ∀ s, (∃ u, 0 ≤ u ∧ u < c.t ∧ Shuts (thSet th t h' u) s) ↔ (∃ u, 0 ≤ u ∧ u < c.t ∧ Shuts (th u) s) := fun S s => by
    constructor
    · rintro ⟨u, d, e, x⟩
      by_cases hu : u = t
      · rw [hu, at_t, S] at x
        exact ⟨t, t0, t1, x⟩
      · rw [off hu] at x
        exact ⟨u, d, e, x⟩
    · rintro ⟨u, d, e, x⟩
      by_cases hu : u = t
      · refine ⟨t, t0, t1, ?_⟩
        rw [at_t, S, ← hu]; exact x
      · exact ⟨u, d, e, by rw [off hu]; exact x⟩
  have shutS : (∀ s, 0 ≤ s → s < c.s → m' (3 + s) = m (3 + s)) → (∀ s, Shuts h' s ↔ Shuts (th t) s) → ∀ s, 0 ≤ s → s < c.s → (m' (3 + s) = -1 ↔ ∃ u, 0 ≤ u ∧ u < c.t ∧ Shuts (thSet th t h' u) s) := fun M S s a b => by
    rw [M s a b, exS S s]
    exact I.shut s a b
  have clkS : m' 0 = m 0 → (∀ v, hClk h' = some v → m 0 = v) → ∀ u, 0 ≤ u → u < c.t → ∀ v, hClk (thSet th t h' u) = some v → m' 0 = v := fun M C u d e v x => by
    rw [M]
    by_cases hu : u = t
    · rw [hu, at_t] at x; exact C v x
    · rw [off hu] at x; exact I.clk u d e v x
  have cOwn' : ∀ s, hOwn (cxOf c jobs t) s = 3 + c.s + s := fun s => rfl
  have cVer' : ∀ s, hVer s = 3 + s := fun s => rfl
  cases E with
  | same M H G S C =>
    have M' : ∀ x, (x = 0 ∨ x = 2 ∨ (3 ≤ x ∧ x < 3 + 2 * c.s)) → m' x = m x := M
    refine ⟨ownS (fun s a b => M' _ (by omega)) H, gateS (M' _ (by omega)) G, shutS (fun s a b => M' _ (by omega)) S, clkS (M' _ (by omega)) (fun v x => ?_), loc'⟩
    rcases C v x with y | y
    · exact I.clk t t0 t1 v y
    · exact y.2
  | got s b e M H G S C =>
    rw [cOwn'] at e M
    have M2 : ∀ x, x ≠ 3 + c.s + s → m' x = m x := fun x hx => by rw [M]; exact upd_off hx
    refine ⟨fun u a b' v d e' => ?_, gateS (M2 _ (by omega)) G, shutS (fun u a b' => M2 _ (by have : u < c.s := b'; omega)) S, clkS (M2 _ (by omega)) (fun v x => by rw [C] at x; cases x), loc'⟩
    have b2 : s < c.s := b.2
    by_cases hu : u = s
    · subst hu
      rw [show m' (3 + c.s + u) = t + 1 from by rw [M]; exact upd_at _ _ _]
      by_cases hv : v = t
      · rw [hv, at_t, H]
        exact ⟨fun _ => Or.inr rfl, fun _ => rfl⟩
      · rw [off hv, ← I.own u a b' v d e', e]
        constructor <;> intro x <;> omega
    · rw [M2 _ (by omega)]
      by_cases hv : v = t
      · rw [hv, at_t, H, I.own u a b' t t0 t1]
        exact ⟨fun x => Or.inl x, fun x => x.elim id (fun y => absurd y hu)⟩
      · rw [off hv]; exact I.own u a b' v d e'
  | gave s b e M H G S C =>
    rw [cOwn'] at M
    have M2 : ∀ x, x ≠ 3 + c.s + s → m' x = m x := fun x hx => by rw [M]; exact upd_off hx
    have b2 : s < c.s := b.2
    have hown := (I.own s b.1 b2 t t0 t1).2 e.1
    refine ⟨fun u a b' v d e' => ?_, gateS (M2 _ (by omega)) G, shutS (fun u a b' => M2 _ (by have : u < c.s := b'; omega)) S, clkS (M2 _ (by omega)) (fun v x => by rw [C] at x; cases x), loc'⟩
    by_cases hu : u = s
    · subst hu
      rw [show m' (3 + c.s + u) = 0 from by rw [M]; exact upd_at _ _ _]
      by_cases hv : v = t
      · rw [hv, at_t, H]
        exact ⟨fun x => by omega, fun x => absurd rfl x.2⟩
      · rw [off hv, ← I.own u a b' v d e', hown]
        constructor <;> intro x <;> omega
    · rw [M2 _ (by omega)]
      by_cases hv : v = t
      · rw [hv, at_t, H, I.own u a b' t t0 t1]
        exact ⟨fun x => ⟨x, hu⟩, fun x => x.1⟩
      · rw [off hv]; exact I.own u a b' v d e'
  | into e M H G S C =>
    have M2 : ∀ x, x ≠ 2 → m' x = m x := fun x hx => by rw [M]; exact upd_off hx
    refine ⟨ownS (fun s a b => M2 _ (by omega)) H, fun u d e' => ?_, shutS (fun s a b => M2 _ (by omega)) S, clkS (M2 _ (by omega)) (fun v x => by rw [C] at x; cases x), loc'⟩
    rw [show m' 2 = t + 1 from by rw [M]; exact upd_at _ _ _]
    by_cases hu : u = t
    · rw [hu, at_t, G]; simp
    · rw [off hu, ← I.gate u d e', e]
      constructor <;> intro x <;> omega
  | out e M H G S C =>
    have M2 : ∀ x, x ≠ 2 → m' x = m x := fun x hx => by rw [M]; exact upd_off hx
    have hg := (I.gate t t0 t1).2 e
    refine ⟨ownS (fun s a b => M2 _ (by omega)) H, fun u d e' => ?_, shutS (fun s a b => M2 _ (by omega)) S, clkS (M2 _ (by omega)) (fun v x => by rw [C] at x; cases x), loc'⟩
    rw [show m' 2 = 0 from by rw [M]; exact upd_at _ _ _]
    by_cases hu : u = t
    · rw [hu, at_t, G]
      constructor <;> intro x
      · omega
      · cases x
    · rw [off hu, ← I.gate u d e', hg]
      constructor <;> intro x <;> omega
  | shut s b e M H G S C =>
    rw [cVer'] at M
    have M2 : ∀ x, x ≠ 3 + s → m' x = m x := fun x hx => by rw [M]; exact upd_off hx
    have b2 : s < c.s := b.2
    have b1 := b.1
    refine ⟨ownS (fun u a b' => M2 _ (by omega)) H, gateS (M2 _ (by omega)) G, fun u a b' => ?_, clkS (M2 _ (by omega)) (fun v x => I.clk t t0 t1 v (C v x)), loc'⟩
    by_cases hu : u = s
    · rw [hu]
      rw [show m' (3 + s) = -1 from by rw [M]; exact upd_at _ _ _]
      exact ⟨fun _ => ⟨t, t0, t1, by rw [at_t, S]; exact Or.inr rfl⟩, fun _ => rfl⟩
    · rw [M2 _ (by omega), I.shut u a b']
      constructor
      · rintro ⟨v, d, e', x⟩
        by_cases hv : v = t
        · exact ⟨t, t0, t1, by rw [at_t, S]; rw [hv] at x; exact Or.inl x⟩
        · exact ⟨v, d, e', by rw [off hv]; exact x⟩
      · rintro ⟨v, d, e', x⟩
        by_cases hv : v = t
        · rw [hv, at_t, S] at x
          exact ⟨t, t0, t1, x.elim id (fun y => absurd y hu)⟩
        · rw [off hv] at x
          exact ⟨v, d, e', x⟩
  | opened s w b p e M H G S C =>
    rw [cVer'] at M
    have M2 : ∀ x, x ≠ 3 + s → m' x = m x := fun x hx => by rw [M]; exact upd_off hx
    have b2 : s < c.s := b.2
    have b1 := b.1
    refine ⟨ownS (fun u a b' => M2 _ (by omega)) H, gateS (M2 _ (by omega)) G, fun u a b' => ?_, clkS (M2 _ (by omega)) (fun v x => by rw [C] at x; cases x), loc'⟩
    by_cases hu : u = s
    · subst hu
      rw [show m' (3 + u) = w from by rw [M]; exact upd_at _ _ _]
      constructor
      · intro x; omega
      · rintro ⟨v, d, e', x⟩
        by_cases hv : v = t
        · rw [hv, at_t, S] at x
          exact absurd rfl x.2
        · rw [off hv] at x
          exact absurd (one a b' d e' t0 t1 (shuts_holds x) e.1) hv
    · rw [M2 _ (by omega), I.shut u a b']
      constructor
      · rintro ⟨v, d, e', x⟩
        by_cases hv : v = t
        · exact ⟨t, t0, t1, by rw [at_t, S]; rw [hv] at x; exact ⟨x, hu⟩⟩
        · exact ⟨v, d, e', by rw [off hv]; exact x⟩
      · rintro ⟨v, d, e', x⟩
        by_cases hv : v = t
        · rw [hv, at_t, S] at x
          exact ⟨t, t0, t1, x.1⟩
        · rw [off hv] at x
          exact ⟨v, d, e', x⟩
  | stamp w e M H G S C =>
    have M2 : ∀ x, x ≠ 0 → m' x = m x := fun x hx => by rw [M]; exact upd_off hx
    refine ⟨ownS (fun u a b' => M2 _ (by omega)) H, gateS (M2 _ (by omega)) G, shutS (fun u a b' => M2 _ (by omega)) S, fun u d e' v x => ?_, loc'⟩
    by_cases hu : u = t
    · rw [hu, at_t, C] at x; cases x
    · rw [off hu] at x
      exact absurd (oneG d e' t0 t1 (clk_gate x) e.1) hu

theorem li_start {c : Cfg} (hc : cfgB c = true) {mem : List Int} (hmw : (mem.length : Int) = c.wd) (hmb : memB mem = true) (jobs : List (Int × List InsD)) : LI c jobs (gStart c mem jobs).m (gStart c mem jobs).th := by
  obtain ⟨⟨t1, t2⟩, _, ⟨s1, s2⟩, _⟩ := cfgB_true hc
  have lo : ∀ x, x < wordBase c → startVal c mem x = 0 := fun x h => by unfold startVal; rw [if_neg (by omega)]
  unfold wordBase at lo
  have hto : ∀ t, Cont (cxOf c jobs t) [] false (hInit (cxOf c jobs t)) := fun t => by
    unfold hInit hTo
    split
    · exact ⟨fun s => by simp [Holds], rfl, fun s => by simp [Shuts], rfl, rfl, trivial⟩
    · exact ⟨fun s => by simp [Holds], rfl, fun s => by simp [Shuts], rfl, rfl, trivial⟩
  refine ⟨fun s a b t d e => ?_, fun t d e => ?_, fun s a b => ?_, fun t d e v x => ?_, fun t d e => (hto t).loc⟩
  · rw [show (gStart c mem jobs).m (3 + c.s + s) = 0 from lo _ (by omega), show (gStart c mem jobs).th t = hInit (cxOf c jobs t) from rfl, (hto t).holds]
    constructor
    · intro x; omega
    · intro x; simp at x
  · rw [show (gStart c mem jobs).m 2 = 0 from lo _ (by omega), show (gStart c mem jobs).th t = hInit (cxOf c jobs t) from rfl, (hto t).gate]
    constructor
    · intro x; omega
    · intro x; cases x
  · rw [show (gStart c mem jobs).m (3 + s) = 0 from lo _ (by omega)]
    constructor
    · intro x; omega
    · rintro ⟨t, d, e, x⟩
      exact absurd x ((hto t).shuts s)
  · rw [show (gStart c mem jobs).th t = hInit (cxOf c jobs t) from rfl, (hto t).clk] at x
    cases x

theorem li_at {c : Cfg} (hc : cfgB c = true) {mem : List Int} (hmw : (mem.length : Int) = c.wd) (hmb : memB mem = true) (jobs : List (Int × List InsD)) (ps : List PickD) : ∀ k : Nat, LI c jobs (gAt c mem jobs ps k).m (gAt c mem jobs ps k).th
  | 0 => li_start hc hmw hmb jobs
  | k + 1 => by
    have I := li_at hc hmw hmb jobs ps k
    have G := gat_ok hc hmw hmb jobs ps k
    show LI c jobs (gStep c jobs (gAt c mem jobs ps k) _ (pickAt ps k)).1.m (gStep c jobs (gAt c mem jobs ps k) _ (pickAt ps k)).1.th
    unfold gStep
    by_cases ht : 0 ≤ (pickAt ps k).thread ∧ (pickAt ps k).thread < c.t
    · rw [if_pos ht]
      have hcK : cfgB (cxOf c jobs (pickAt ps k).thread).c = true := hc
      obtain ⟨hl, E⟩ := eff_step hcK ht (G.th _ ht.1 ht.2) (I.loc _ ht.1 ht.2) (gAt c mem jobs ps k).m ⟨(gAcc c jobs (gAt c mem jobs ps k) (pickAt ps k).thread).seen, (pickAt ps k).draw, (k : Int) + 1⟩ (fun h0 => by
        show (gAcc c jobs (gAt c mem jobs ps k) (pickAt ps k).thread).seen = _
        unfold gAcc
        rw [acc_some h0])
      exact li_step hc ht.1 ht.2 I hl E
    · rw [if_neg ht]
      exact I

end Go.Proofs.Ytejadojilncbjaa

namespace Go.Proofs.Ytejadojilncbjaa
set_option linter.unusedVariables false

/-! Locks, part 4: each access is one that the locks allow. -/

theorem gLog_get (c : Cfg) (mem : List Int) (jobs : List (Int × List InsD)) (ps : List PickD) (k : Nat) : ∀ n, k < n → accAt (gLog c mem jobs ps n) k = (gStep c jobs (gAt c mem jobs ps k) ((k : Int) + 1) (pickAt ps k)).2
  | 0, h => absurd h (Nat.not_lt_zero _)
  | n + 1, h => by
    have hl := gLog_len c mem jobs ps n
    show accAt (gLog c mem jobs ps n ++ [_]) k = _
    unfold accAt
    by_cases hk : k < n
    · rw [show (gLog c mem jobs ps n ++ [(gStep c jobs (gAt c mem jobs ps n) ((n : Int) + 1) (pickAt ps n)).2]).getD k noAcc = (gLog c mem jobs ps n).getD k noAcc from by simp [List.getD, List.getElem?_append_left (show k < (gLog c mem jobs ps n).length by omega)]]
      exact gLog_get c mem jobs ps k n hk
    · have : k = n := by omega
      subst this
      simp [List.getD, hl]
theorem accs_get (c : Cfg) (mem : List Int) (jobs : List (Int × List InsD)) (ps : List PickD) (k : Nat) (hk : k < ps.length) : accAt (accs c mem jobs ps) k = (gStep c jobs (gAt c mem jobs ps k) ((k : Int) + 1) (pickAt ps k)).2 := gLog_get c mem jobs ps k _ hk

theorem gstep_in {c : Cfg} {jobs : List (Int × List InsD)} {g : Gs} {n : Int} {pk : PickD} (h : 0 ≤ pk.thread ∧ pk.thread < c.t) : (gStep c jobs g n pk).2 = accBy g.m (hOut (cxOf c jobs pk.thread) (g.th pk.thread)) := by
  unfold gStep
  rw [if_pos h]
  rfl

end Go.Proofs.Ytejadojilncbjaa

namespace Go.Proofs.Ytejadojilncbjaa
set_option linter.unusedVariables false

/-! Ranks: what a machine shows, and who may mark whom. -/

/-- Does its status show its rank? -/
def Vis (h : Th) : Bool := match h.st with
  | .idle => false
  | .tShow => false
  | .fGate => false
  | .fOwn _ => false
  | .fTake => false
  | .fStat => false
  | _ => true

def Loc2 (K : Cx) (h : Th) : Prop := match h.st with
  | .tTake => h.rank = 0
  | .fTake => h.rank = 0
  | .tShow => h.rank ≠ 0
  | .gTheir _ _ u => h.rank ≠ 0 ∧ u ≠ K.me + 1
  | .gMark _ _ u th => (h.rank ≠ 0 ∧ u ≠ K.me + 1) ∧ (th / 8 = 0 ∨ h.rank ≤ th / 8)
  | _ => True

structure RC (K : Cx) (r : Int) (h' : Th) : Prop where
  rank : h'.rank = r
  loc : Loc2 K h'

theorem rc_free {K : Cx} {h : Th} (e : Int) (r : List Int) : RC K h.rank (hFreeAt e r h) := by cases r <;> exact ⟨rfl, trivial⟩
theorem rc_close {K : Cx} {h : Th} (e : Int) : RC K h.rank (hClose e h) := by
  unfold hClose
  split
  · exact ⟨rfl, trivial⟩
  · exact rc_free e _
theorem rc_count {K : Cx} {h : Th} : RC K h.rank (hCount K h) := by
  unfold hCount
  split
  · rename_i hh
    exact ⟨rfl, hh.1⟩
  · exact ⟨rfl, trivial⟩
theorem rc_failown {K : Cx} {h : Th} (r : List Int) : RC K h.rank (hFailOwn K r h) := by
  cases r with
  | nil => exact rc_count
  | cons q r => exact ⟨rfl, trivial⟩
theorem rc_fail {K : Cx} {h : Th} : RC K h.rank (hFail K h) := by
  unfold hFail
  split
  · exact ⟨rfl, trivial⟩
  · exact rc_failown _
theorem vis_failown {K : Cx} {h : Th} (r : List Int) : Vis (hFailOwn K r h) = false := by
  cases r with
  | nil =>
    show Vis (hCount K h) = false
    unfold hCount
    split <;> rfl
  | cons q r => rfl
theorem vis_fail {K : Cx} {h : Th} : Vis (hFail K h) = false := by
  unfold hFail
  split
  · rfl
  · exact vis_failown _

def RD (K : Cx) (h : Th) (t : Bool × Th) : Prop := (t.1 = true → t.2.rank = h.rank) ∧ (t.1 = false → RC K h.rank t.2)
theorem RD.off {K : Cx} {h h' : Th} (A : RC K h.rank h') : RD K h (false, h') := ⟨(fun e => nomatch e), fun _ => A⟩
theorem RD.on {K : Cx} {h h' : Th} (A : h'.rank = h.rank) : RD K h (true, h') := ⟨fun _ => A, (fun e => nomatch e)⟩

theorem rd_step {K : Cx} {h : Th} : RD K h (hStep K h) := by
  unfold hStep
  by_cases h1 : h.x.place = h.x.code.length
  · rw [if_pos h1]; exact RD.off (rc_close 1)
  rw [if_neg h1]
  by_cases h2 : (h.x.begun : Int) = K.c.f
  · rw [if_pos h2]; exact RD.off (rc_close 4)
  rw [if_neg h2]
  simp only
  generalize insAt h.x.code h.x.place = i at *
  by_cases h3 : formedB i h.x.code.length = false
  · rw [if_pos h3]; exact RD.off (rc_close (h := { h with x := { h.x with begun := h.x.begun + 1 } }) 3)
  rw [if_neg h3]
  by_cases o0 : i.op = 0
  · rw [if_pos o0]; exact RD.off (rc_close (h := { h with x := { h.x with begun := h.x.begun + 1, place := h.x.place + 1 } }) 1)
  rw [if_neg o0]
  by_cases o1 : i.op = 1
  · rw [if_pos o1]; exact RD.off (rc_close (h := { h with x := { h.x with begun := h.x.begun + 1, place := h.x.place + 1 } }) 2)
  rw [if_neg o1]
  by_cases o2 : i.op = 2
  · rw [if_pos o2]; exact RD.on rfl
  rw [if_neg o2]
  by_cases o3 : i.op = 3
  · rw [if_pos o3]; exact RD.on rfl
  rw [if_neg o3]
  by_cases o4 : i.op = 4
  · rw [if_pos o4]; exact RD.on rfl
  rw [if_neg o4]
  by_cases o5 : i.op = 5
  · rw [if_pos o5]; exact RD.on rfl
  rw [if_neg o5]
  by_cases o6 : i.op = 6
  · rw [if_pos o6]; exact RD.on rfl
  rw [if_neg o6]
  by_cases o7 : i.op = 7
  · rw [if_pos o7]
    unfold hRead
    simp only
    split
    · exact RD.off (rc_close (h := { h with x := { h.x with begun := h.x.begun + 1, place := h.x.place + 1 } }) 3)
    · cases he : entIdx h.x.writes (regOf { h.x with begun := h.x.begun + 1, place := h.x.place + 1 } i.b) with
      | some j => exact RD.on rfl
      | none =>
        simp only
        refine RD.off ?_
        split <;> exact ⟨rfl, trivial⟩
  · rw [if_neg o7]
    unfold hWrite
    simp only
    split
    · exact RD.off (rc_close (h := { h with x := { h.x with begun := h.x.begun + 1, place := h.x.place + 1 } }) 3)
    · split
      · exact RD.on rfl
      · exact RD.off ⟨rfl, trivial⟩

theorem rc_go {K : Cx} : ∀ {h : Th}, (h.x.begun : Int) ≤ K.c.f → RC K h.rank (hGo K h) := by
  have H : ∀ (n : Nat) (h : Th), n = K.c.f.toNat - h.x.begun → (h.x.begun : Int) ≤ K.c.f → RC K h.rank (hGo K h) := by
    intro n
    induction n with
    | zero =>
      intro h hnn hb
      rw [hGo_eq K h hb]
      by_cases hs : (hStep K h).1 = true
      · have := hStep_begun K h hs
        omega
      · rw [if_neg hs]
        exact rd_step.2 (by simpa using hs)
    | succ n ih =>
      intro h hnn hb
      rw [hGo_eq K h hb]
      by_cases hs : (hStep K h).1 = true
      · rw [if_pos hs]
        have hbg := hStep_begun K h hs
        have := ih (hStep K h).2 (by omega) (by omega)
        rw [rd_step.1 hs] at this
        exact this
      · rw [if_neg hs]
        exact rd_step.2 (by simpa using hs)
  exact fun {h} hb => H _ h rfl hb
theorem rc_got {K : Cx} {h : Th} {i : InsD} {a v : Int} (hb : (h.x.begun : Int) ≤ K.c.f) : RC K h.rank (hGot K i a v h) := rc_go (h := ({ h with x := setReg h.x i.a v } : Th).noted 7 a v) hb
theorem rc_wrote {K : Cx} {h : Th} {i : InsD} {a : Int} (hb : (h.x.begun : Int) ≤ K.c.f) : RC K h.rank (hWrote K i a h) := by
  unfold hWrote
  split
  · exact rc_go (h := hPut i a h) hb
  · rename_i hh
    exact ⟨rfl, by show h.rank = 0; exact Decidable.byContradiction fun e => hh (Or.inl e)⟩
theorem rc_exdone {K : Cx} {h : Th} {e : Ex} {c : Int} (hb : (h.x.begun : Int) ≤ K.c.f) : RC K h.rank (hExDone K e c h) := by
  cases e with
  | rd i a v => exact rc_got (h := { h with list := modLast h.list (fun t => { t with valid := c }), x := { h.x with valid := c } }) hb
  | wr i a => exact rc_wrote (h := { h with list := modLast h.list (fun t => { t with valid := c }), x := { h.x with valid := c } }) hb
theorem rc_exstill {K : Cx} {h : Th} {e : Ex} {c : Int} (hb : (h.x.begun : Int) ≤ K.c.f) (r : List EntD) : RC K h.rank (hExStill K e c r h) := by
  cases r with
  | nil => exact rc_exdone hb
  | cons q r => exact ⟨rfl, trivial⟩
theorem rc_shut {K : Cx} {h : Th} {c : Int} (r : List Int) : RC K h.rank (hShutAt c r h) := by cases r <;> exact ⟨rfl, trivial⟩
theorem rc_still {K : Cx} {h : Th} {c : Int} : ∀ (r : List EntD), RC K h.rank (hStillAt c r h)
  | [] => rc_shut _
  | e :: r => by
    unfold hStillAt
    split
    · exact rc_still r
    · exact ⟨rfl, trivial⟩
theorem rc_open {K : Cx} {h : Th} {c : Int} (r : List Int) : RC K h.rank (hOpenAt c r h) := by cases r <;> exact ⟨rfl, trivial⟩
theorem rc_word {K : Cx} {h : Th} {c : Int} (r : List EntD) : RC K h.rank (hWordAt c r h) := by
  cases r with
  | nil => exact rc_open _
  | cons q r => exact ⟨rfl, trivial⟩
theorem rc_rest {K : Cx} {h : Th} (d : Int) : RC K h.rank (hRest K d h) := by
  unfold hRest
  simp only
  generalize (d.tmod ((if h.fails < K.c.cp then h.fails else K.c.cp) + 1)).toNat = n
  split <;> exact ⟨rfl, trivial⟩

/-- The tickets, the statuses. -/
def Rankish (K : Cx) (x : Int) : Prop := x = 1 ∨ (3 + 2 * K.c.s ≤ x ∧ x < 3 + 2 * K.c.s + K.c.t)

inductive REff (K : Cx) (m m' : Int → Int) (h h' : Th) (q : AskD) : Prop
  | same (Q : q.kind ≠ 4) (M : ∀ x, Rankish K x → m' x = m x) (R : h'.rank = h.rank) (V : Vis h' = true → Vis h = true)
  | take (Q : q.kind = 4) (e : h.rank = 0 ∧ (m (hSta K K.me) / 8 = 0 ∨ m (hSta K K.me) / 8 = h.rank)) (M : m' = upd m 1 (m 1 + 1)) (R : h'.rank = m 1 + 1) (V : Vis h' = false)
  | shows (Q : q.kind ≠ 4) (M : m' = upd m (hSta K K.me) (8 * h.rank)) (R : h'.rank = h.rank)
  | zero (Q : q.kind ≠ 4) (M : m' = upd m (hSta K K.me) 0) (R : h'.rank = 0 ∨ (h'.rank = h.rank ∧ Vis h' = false))
  | mark (Q : q.kind ≠ 4) (u th : Int) (b : 0 ≤ u ∧ u < K.c.t ∧ u ≠ K.me) (e : m (hSta K u) = th ∧ 0 ≤ th ∧ th % 8 = 0) (M : m' = upd m (hSta K u) (th + K.me + 1)) (R : h'.rank = h.rank) (V : Vis h' = true → Vis h = true)

theorem reff_step {K : Cx} {k : Int} {h : Th} (hc : cfgB K.c = true) (hm : 0 ≤ K.me ∧ K.me < K.c.t) (A : ThOk K k h) (L : Loc2 K h) (m : Int → Int) (v : AnsD) (hv : (hOut K h).kind ≠ 0 → v.seen = m (hOut K h).cell) (hvk : (hOut K h).kind ≠ 0 → VOk K.c k (hOut K h).cell v.seen)
    (hno : ∀ i a, h.st = .gOwn i a → m (hOwn K (a.tmod K.c.s)) ≠ K.me + 1) (hsh : h.rank = 0 → m (hSta K K.me) / 8 = 0 ∨ m (hSta K K.me) / 8 = h.rank) :
    Loc2 K (hNext K h v) ∧ REff K m (mNext m (hOut K h)) h (hNext K h v) (hOut K h) := by
  obtain ⟨⟨t1, t2⟩, ⟨w1, w2⟩, ⟨s1, s2⟩, _, _, _, ⟨f1, f2⟩⟩ := cfgB_true hc
  have hb := A.x.bg
  have hs := A.step
  unfold StepOk at hs
  unfold hOut at hv hvk ⊢
  unfold hNext
  unfold Loc2 at L
  have st : ∀ {i : InsD} {a : Int}, AOk K i a → 0 ≤ a.tmod K.c.s ∧ a.tmod K.c.s < K.c.s := fun ha => tmodP s1 ha.1
  have off : ∀ (q : AskD), ¬ Rankish K q.cell → ∀ y, Rankish K y → mNext m q y = m y := fun q hq y hy => mNext_off m q (fun e => hq (by rw [← e]; exact hy))
  have ld : ∀ x : Int, ∀ y, Rankish K y → mNext m ⟨1, x, 0, 0⟩ y = m y := fun x y _ => by rw [mNext_load]
  have nv : ∀ s, 0 ≤ s → s < K.c.s → ¬ Rankish K (hVer s) := fun s a b => by unfold Rankish hVer; omega
  have no : ∀ s, 0 ≤ s → s < K.c.s → ¬ Rankish K (hOwn K s) := fun s a b => by unfold Rankish hOwn; omega
  have nw : ∀ a, 0 ≤ a → ¬ Rankish K (hWrd K a) := fun s a => by unfold Rankish hWrd; omega
  have n2 : ¬ Rankish K 2 := by unfold Rankish; omega
  have n0 : ¬ Rankish K 0 := by unfold Rankish; omega
  have rc : ∀ {m' : Int → Int} {h' : Th} {q : AskD}, q.kind ≠ 4 → RC K h.rank h' → (∀ x, Rankish K x → m' x = m x) → Vis h = true → Loc2 K h' ∧ REff K m m' h h' q := fun Q C M V => ⟨C.loc, REff.same Q M C.rank (fun _ => V)⟩
  have tk : ∀ h' : Th, mNext m ⟨4, 1, 0, 0⟩ = upd m 1 (m 1 + 1) := fun h' => by
    unfold mNext
    rw [if_neg (by simp)]
    funext y
    unfold wr upd putV
    simp
  cases hst : h.st with
  | idle => exact ⟨by unfold Loc2; rw [hst]; trivial, .same (by simp) (fun x _ => by rw [mNext_none]) rfl (fun a => a)⟩
  | start => exact rc (by simp) (rc_go (h := { h with list := h.list ++ [⟨K.me, h.job, v.num, 0, v.seen, 0, 0, []⟩], x := newTS (K.jobs.getD h.job (0, [])).2 v.seen, st := .start }) (by show ((0 : Nat) : Int) ≤ _; omega)) (ld 0) (by simp [Vis, hst])
  | rHeld i a => exact rc (by simp) (rc_got hb) (ld _) (by simp [Vis, hst])
  | rVer i a =>
    simp only
    split
    · exact rc (by simp) ⟨rfl, by unfold Loc2; rw [hst]; trivial⟩ (ld _) (by simp [Vis, hst])
    · exact rc (by simp) ⟨rfl, trivial⟩ (ld _) (by simp [Vis, hst])
  | rWord i a one => exact rc (by simp) ⟨rfl, trivial⟩ (ld _) (by simp [Vis, hst])
  | rAgain i a one w =>
    simp only
    split
    · exact rc (by simp) ⟨rfl, trivial⟩ (ld _) (by simp [Vis, hst])
    · have e4 : (if (entIdx h.x.reads (a.tmod K.c.s)).isSome then h.x else { h.x with reads := h.x.reads ++ [⟨a.tmod K.c.s, one⟩] }).begun = h.x.begun := by split <;> rfl
      generalize (if (entIdx h.x.reads (a.tmod K.c.s)).isSome then h.x else { h.x with reads := h.x.reads ++ [⟨a.tmod K.c.s, one⟩] }) = x1 at *
      split
      · exact rc (by simp) (rc_got (h := { h with x := x1, st := .rAgain i a one w }) (by rw [e4]; exact hb)) (ld _) (by simp [Vis, hst])
      · exact rc (by simp) ⟨rfl, trivial⟩ (ld _) (by simp [Vis, hst])
  | xClock e => exact rc (by simp) (rc_exstill hb _) (ld _) (by simp [Vis, hst])
  | xVer e c r =>
    rw [hst] at hs
    cases r with
    | nil => exact absurd rfl hs.2.2.1
    | cons q r =>
      simp only
      split
      · exact rc (by simp) rc_fail (ld _) (by simp [Vis, hst])
      · exact rc (by simp) (rc_exstill hb _) (ld _) (by simp [Vis, hst])
  | gStat i a =>
    simp only
    split
    · exact rc (by simp) rc_fail (ld _) (by simp [Vis, hst])
    · exact rc (by simp) ⟨rfl, trivial⟩ (ld _) (by simp [Vis, hst])
  | gOwn i a =>
    rw [hst] at hs hv
    have b := st hs.1
    have hv' := hv (by simp)
    simp only at hv' ⊢
    split
    · exact rc (by simp) ⟨rfl, trivial⟩ (off _ (no _ b.1 b.2)) (by simp [Vis, hst])
    · split
      · exact rc (by simp) rc_fail (off _ (no _ b.1 b.2)) (by simp [Vis, hst])
      · rename_i hr
        refine rc (by simp) ⟨rfl, ⟨hr, ?_⟩⟩ (off _ (no _ b.1 b.2)) (by simp [Vis, hst])
        rw [hv']
        exact hno i a hst
  | gTheir i a u =>
    rw [hst] at L hs hvk
    have hu := (hvk (by simp)).sta (by show _ ≤ hSta K _; unfold hSta; have := hs.2.1; omega) (by show hSta K _ < _; unfold hSta; have := hs.2.2; omega)
    have hq := sok_mod hu
    simp only
    split
    · exact rc (by simp) (rc_fail (h := { h with x := { h.x with way := u - 1 }, st := .gTheir i a u })) (ld _) (by simp [Vis, hst])
    · rename_i hn
      rw [hq.2] at hn
      split
      · exact rc (by simp) ⟨rfl, ⟨L, by have h1 := hu.1; show v.seen / 8 = 0 ∨ h.rank ≤ v.seen / 8; omega⟩⟩ (ld _) (by simp [Vis, hst])
      · exact rc (by simp) ⟨rfl, trivial⟩ (ld _) (by simp [Vis, hst])
  | gMark i a u th =>
    rw [hst] at L hs hv
    obtain ⟨_, ⟨u0, u1⟩, ⟨q0, q1, q2⟩, q3⟩ := hs
    have hv' := hv (by simp)
    simp only at hv' ⊢
    refine ⟨trivial, ?_⟩
    by_cases he : m (hSta K (u - 1)) = th
    · exact .mark (by simp) (u - 1) th ⟨by omega, by omega, by have := L.1.2; omega⟩ ⟨he, q0, q3⟩ (mNext_swap m _ _ _ he) rfl (fun _ => by simp [Vis, hst])
    · exact .same (by simp) (fun x _ => by rw [mNext_miss m _ _ _ he]) rfl (fun _ => by simp [Vis, hst])
  | gVer i a =>
    simp only
    split
    · exact rc (by simp) ⟨rfl, trivial⟩ (ld _) (by simp [Vis, hst])
    · exact rc (by simp) (rc_wrote hb) (ld _) (by simp [Vis, hst])
  | tTake =>
    rw [hst] at L hv hvk
    have hv' := hv (by simp)
    have := (hvk (by simp)).cnt (Or.inr rfl)
    simp only at hv' ⊢
    exact ⟨by show v.seen + 1 ≠ 0; omega, .take (by simp) ⟨L, hsh L⟩ (tk h) (by show v.seen + 1 = _; rw [hv']) rfl⟩
  | tShow =>
    rw [hst] at L hv
    have hv' := hv (by simp)
    simp only at hv' ⊢
    by_cases h0 : v.seen ≠ 0
    · rw [if_pos h0]
      have C := rc_fail (K := K) (h := h)
      exact ⟨C.loc, .same (by simp) (fun x _ => by rw [mNext_miss m _ _ _ (by rw [← hv']; exact h0)]) C.rank (fun a => by rw [vis_fail] at a; cases a)⟩
    · rw [if_neg h0]
      have C := rc_go (K := K) (h := h) hb
      exact ⟨C.loc, .shows (by simp) (mNext_swap m _ _ _ (by rw [← hv']; omega)) C.rank⟩
  | cStat =>
    simp only
    split
    · exact rc (by simp) rc_fail (ld _) (by simp [Vis, hst])
    · exact rc (by simp) ⟨rfl, trivial⟩ (ld _) (by simp [Vis, hst])
  | cGate =>
    simp only
    refine rc (by simp) ⟨rfl, ?_⟩ (off _ n2) (by simp [Vis, hst])
    by_cases h0 : v.seen = 0
    · rw [if_pos h0]; trivial
    · rw [if_neg h0]; trivial
  | cClock =>
    simp only
    split
    · exact rc (by simp) (rc_still _) (ld _) (by simp [Vis, hst])
    · exact rc (by simp) (rc_shut _) (ld _) (by simp [Vis, hst])
  | cVer c r =>
    rw [hst] at hs
    cases r with
    | nil => exact absurd rfl hs.2.1
    | cons q r =>
      simp only
      split
      · exact rc (by simp) rc_fail (ld _) (by simp [Vis, hst])
      · exact rc (by simp) (rc_still _) (ld _) (by simp [Vis, hst])
  | cShut c r =>
    rw [hst] at hs
    cases r with
    | nil => exact absurd rfl hs.2.1
    | cons q r =>
      have b := hs.2.2 q List.mem_cons_self
      exact rc (by simp) (rc_shut _) (off _ (nv _ b.1 b.2)) (by simp [Vis, hst])
  | cStamp c => exact rc (by simp) ⟨rfl, trivial⟩ (off _ n0) (by simp [Vis, hst])
  | cLeave c => exact rc (by simp) (rc_word _) (off _ n2) (by simp [Vis, hst])
  | cWord c r =>
    rw [hst] at hs
    cases r with
    | nil => exact absurd rfl hs.2.1
    | cons q r => exact rc (by simp) (rc_word _) (off _ (nw _ (hs.2.2 q List.mem_cons_self).1)) (by simp [Vis, hst])
  | cOpen c r =>
    rw [hst] at hs
    cases r with
    | nil => exact absurd rfl hs.2.1
    | cons q r =>
      have b := hs.2.2 q List.mem_cons_self
      exact rc (by simp) ⟨rfl, trivial⟩ (off _ (nv _ b.1 b.2)) (by simp [Vis, hst])
  | cOwn c r =>
    rw [hst] at hs
    cases r with
    | nil => exact absurd rfl hs.2.1
    | cons q r =>
      have b := hs.2.2 q List.mem_cons_self
      exact rc (by simp) (rc_open _) (off _ (no _ b.1 b.2)) (by simp [Vis, hst])
  | free e r =>
    rw [hst] at hs
    cases r with
    | nil => exact absurd rfl hs.1
    | cons q r =>
      have b := hs.2 q List.mem_cons_self
      exact rc (by simp) (rc_free e _) (off _ (no _ b.1 b.2)) (by simp [Vis, hst])
  | fin e =>
    simp only
    have hto : ∀ g : Th, g.rank = h.rank → Loc2 K (hTo K (h.job + 1) g) ∧ ((hTo K (h.job + 1) g).rank = 0 ∨ ((hTo K (h.job + 1) g).rank = h.rank ∧ Vis (hTo K (h.job + 1) g) = false)) := fun g hg => by
      unfold hTo
      split
      · exact ⟨trivial, Or.inl rfl⟩
      · exact ⟨trivial, Or.inr ⟨hg, rfl⟩⟩
    have hz := hto { h.ended v.num e with ends := h.ends.set h.job ⟨e, regOf h.x 0, regOf h.x 1, regOf h.x 2, regOf h.x 3⟩ } rfl
    exact ⟨hz.1, .zero (by simp) (mNext_store m _ _) hz.2⟩
  | fGate =>
    have C := rc_failown (K := K) (h := h) h.x.held
    exact ⟨C.loc, .same (by simp) (off _ n2) C.rank (fun a => by rw [vis_failown] at a; cases a)⟩
  | fOwn r =>
    rw [hst] at hs
    cases r with
    | nil => exact absurd rfl hs.1
    | cons q r =>
      have b := hs.2 q List.mem_cons_self
      have C := rc_failown (K := K) (h := h) r
      exact ⟨C.loc, .same (by simp) (off _ (no _ b.1 b.2)) C.rank (fun a => by rw [vis_failown] at a; cases a)⟩
  | fTake =>
    rw [hst] at L hv
    have hv' := hv (by simp)
    simp only at hv' ⊢
    exact ⟨trivial, .take (by simp) ⟨L, hsh L⟩ (tk h) (by show v.seen + 1 = _; rw [hv']) rfl⟩
  | fStat =>
    simp only
    generalize (if 0 < v.seen.tmod 8 then v.seen.tmod 8 - 1 else h.x.way) = win
    split
    · exact ⟨trivial, .shows (by simp) (mNext_store m _ _) rfl⟩
    · have C := rc_rest (K := K) (h := h.ended v.num 5) v.draw
      exact ⟨C.loc, .shows (by simp) (mNext_store m _ _) C.rank⟩
  | wait win =>
    simp only
    split
    · exact rc (by simp) ⟨rfl, trivial⟩ (ld _) (by simp [Vis, hst])
    · exact rc (by simp) ⟨rfl, by unfold Loc2; rw [hst]; trivial⟩ (ld _) (by simp [Vis, hst])
  | rest n =>
    simp only
    split
    · exact rc (by simp) ⟨rfl, trivial⟩ (fun x _ => by rw [mNext_none]) (by simp [Vis, hst])
    · exact rc (by simp) ⟨rfl, trivial⟩ (fun x _ => by rw [mNext_none]) (by simp [Vis, hst])

end Go.Proofs.Ytejadojilncbjaa
