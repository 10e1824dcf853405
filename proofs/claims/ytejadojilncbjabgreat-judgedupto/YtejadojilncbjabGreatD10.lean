import Derived.Test.YtejadojilncbjabGreatD09
namespace Go.Proofs.YtejadojilncbjabGreat
set_option linter.unusedVariables false
structure LI (c : Cfg) (jobs : List (Int × List InsD)) (m : Int → Int) (th : Int → Th) : Prop where
 own : ∀ s, 0 ≤ s → s < c.s → ∀ t, 0 ≤ t → t < c.t → (m (3 + c.s + s) = t + 1 ↔ Holds (th t) s)
 gate : ∀ t, 0 ≤ t → t < c.t → (m 2 = t + 1 ↔ hGate (th t) = true)
 shut : ∀ s, 0 ≤ s → s < c.s → (m (3 + s) = -1 ↔ ∃ t, 0 ≤ t ∧ t < c.t ∧ Shuts (th t) s)
 clk : ∀ t, 0 ≤ t → t < c.t → ∀ v, hClk (th t) = some v → m 0 = v
 loc : ∀ t, 0 ≤ t → t < c.t → Loc (cxOf c jobs t) (th t)
theorem shuts_holds {h : Th} {s : Int} (a : Shuts h s) : Holds h s := by
 unfold Shuts at a
 unfold Holds
 cases hst : h.st <;> rw [hst] at a <;> simp only at a ⊢ <;> first
  | exact a.elim
  | exact a.1
  | exact a
  | exact List.mem_of_mem_tail a
theorem clk_gate {h : Th} {v : Int} (a : hClk h = some v) : hGate h = true := by
 unfold hClk at a
 unfold hGate
 cases hst : h.st <;> rw [hst] at a <;> simp only at a ⊢ <;> first
  | rfl
  | cases a
def thSet (th : Int → Th) (t : Int) (h' : Th) : Int → Th := fun u => if u = t then h' else th u
theorem li_step {c : Cfg} {jobs : List (Int × List InsD)} {m m' : Int → Int} {th : Int → Th} {t : Int} {h' : Th} (hc : cfgB c = true) (t0 : 0 ≤ t) (t1 : t < c.t) (I : LI c jobs m th) (hl : Loc (cxOf c jobs t) h') (E : Eff (cxOf c jobs t) m m' (th t) h') :
  LI c jobs m' (thSet th t h') := by
 obtain ⟨_, _, ⟨s1, s2⟩, _⟩ := cfgB_true hc
 have at_t : thSet th t h' t = h' := if_pos rfl
 have off : ∀ {u}, u ≠ t → thSet th t h' u = th u := fun hu => if_neg hu
 have loc' : ∀ u, 0 ≤ u → u < c.t → Loc (cxOf c jobs u) (thSet th t h' u) := fun u u0 u1 => by
  by_cases hu : u = t
  ·rw [hu, at_t]; exact hl
  ·rw [off hu]; exact I.loc u u0 u1
 have one : ∀ {s u v}, 0 ≤ s → s < c.s → 0 ≤ u → u < c.t → 0 ≤ v → v < c.t → Holds (th u) s → Holds (th v) s → u = v := fun {s u v} a b d e f g x y => by
  have h1 := (I.own s a b u d e).2 x
  have h2 := (I.own s a b v f g).2 y
  omega
 have oneG : ∀ {u v}, 0 ≤ u → u < c.t → 0 ≤ v → v < c.t → hGate (th u) = true → hGate (th v) = true → u = v := fun {u v} d e f g x y => by
  have h1 := (I.gate u d e).2 x
  have h2 := (I.gate v f g).2 y
  omega
 -- what stays as it was
 have ownS : (∀ s, 0 ≤ s → s < c.s → m' (3 + c.s + s) = m (3 + c.s + s)) → (∀ s, Holds h' s ↔ Holds (th t) s) → ∀ s, 0 ≤ s → s < c.s → ∀ u, 0 ≤ u → u < c.t → (m' (3 + c.s + s) = u + 1 ↔ Holds (thSet th t h' u) s) := fun M H s a b u d e => by
  rw [M s a b]
  by_cases hu : u = t
  ·rw [hu, at_t, H]; rw [← hu]; exact I.own s a b u d e
  ·rw [off hu]; exact I.own s a b u d e
 have gateS : m' 2 = m 2 → hGate h' = hGate (th t) → ∀ u, 0 ≤ u → u < c.t → (m' 2 = u + 1 ↔ hGate (thSet th t h' u) = true) := fun M G u d e => by
  rw [M]
  by_cases hu : u = t
  ·rw [hu, at_t, G]; rw [← hu]; exact I.gate u d e
  ·rw [off hu]; exact I.gate u d e
 have exS : (∀ s, Shuts h' s ↔ Shuts (th t) s) → ∀ s, (∃ u, 0 ≤ u ∧ u < c.t ∧ Shuts (thSet th t h' u) s) ↔ (∃ u, 0 ≤ u ∧ u < c.t ∧ Shuts (th u) s) := fun S s => by
  constructor
  ·rintro ⟨u, d, e, x⟩
   by_cases hu : u = t
   ·rw [hu, at_t, S] at x
    exact ⟨t, t0, t1, x⟩
   ·rw [off hu] at x
    exact ⟨u, d, e, x⟩
  ·rintro ⟨u, d, e, x⟩
   by_cases hu : u = t
   ·refine ⟨t, t0, t1, ?_⟩
    rw [at_t, S, ← hu]; exact x
   ·exact ⟨u, d, e, by rw [off hu]; exact x⟩
 have shutS : (∀ s, 0 ≤ s → s < c.s → m' (3 + s) = m (3 + s)) → (∀ s, Shuts h' s ↔ Shuts (th t) s) → ∀ s, 0 ≤ s → s < c.s → (m' (3 + s) = -1 ↔ ∃ u, 0 ≤ u ∧ u < c.t ∧ Shuts (thSet th t h' u) s) := fun M S s a b => by
  rw [M s a b, exS S s]
  exact I.shut s a b
 have clkS : m' 0 = m 0 → (∀ v, hClk h' = some v → m 0 = v) → ∀ u, 0 ≤ u → u < c.t → ∀ v, hClk (thSet th t h' u) = some v → m' 0 = v := fun M C u d e v x => by
  rw [M]
  by_cases hu : u = t
  ·rw [hu, at_t] at x; exact C v x
  ·rw [off hu] at x; exact I.clk u d e v x
 have cOwn' : ∀ s, hOwn (cxOf c jobs t) s = 3 + c.s + s := fun s => rfl
 have cVer' : ∀ s, hVer s = 3 + s := fun s => rfl
 cases E with
 | same M H G S C =>
  have M' : ∀ x, (x = 0 ∨ x = 2 ∨ (3 ≤ x ∧ x < 3 + 2 * c.s)) → m' x = m x := M
  refine ⟨ownS (fun s a b => M' _ (by omega)) H, gateS (M' _ (by omega)) G, shutS (fun s a b => M' _ (by omega)) S, clkS (M' _ (by omega)) (fun v x => ?_), loc'⟩
  rcases C v x with y | y
  ·exact I.clk t t0 t1 v y
  ·exact y.2
 | got s b e M H G S C =>
  rw [cOwn'] at e M
  have M2 : ∀ x, x ≠ 3 + c.s + s → m' x = m x := fun x hx => by rw [M]; exact upd_off hx
  refine ⟨fun u a b' v d e' => ?_, gateS (M2 _ (by omega)) G, shutS (fun u a b' => M2 _ (by have : u < c.s := b'; omega)) S, clkS (M2 _ (by omega)) (fun v x => by rw [C] at x; cases x), loc'⟩
  have b2 : s < c.s := b.2
  by_cases hu : u = s
  ·subst hu
   rw [show m' (3 + c.s + u) = t + 1 from by rw [M]; exact upd_at _ _ _]
   by_cases hv : v = t
   ·rw [hv, at_t, H]
    exact ⟨fun _ => Or.inr rfl, fun _ => rfl⟩
   ·rw [off hv, ← I.own u a b' v d e', e]
    constructor <;> intro x <;> omega
  ·rw [M2 _ (by omega)]
   by_cases hv : v = t
   ·rw [hv, at_t, H, I.own u a b' t t0 t1]
    exact ⟨fun x => Or.inl x, fun x => x.elim id (fun y => absurd y hu)⟩
   ·rw [off hv]; exact I.own u a b' v d e'
 | gave s b e M H G S C =>
  rw [cOwn'] at M
  have M2 : ∀ x, x ≠ 3 + c.s + s → m' x = m x := fun x hx => by rw [M]; exact upd_off hx
  have b2 : s < c.s := b.2
  have hown := (I.own s b.1 b2 t t0 t1).2 e.1
  refine ⟨fun u a b' v d e' => ?_, gateS (M2 _ (by omega)) G, shutS (fun u a b' => M2 _ (by have : u < c.s := b'; omega)) S, clkS (M2 _ (by omega)) (fun v x => by rw [C] at x; cases x), loc'⟩
  by_cases hu : u = s
  ·subst hu
   rw [show m' (3 + c.s + u) = 0 from by rw [M]; exact upd_at _ _ _]
   by_cases hv : v = t
   ·rw [hv, at_t, H]
    exact ⟨fun x => by omega, fun x => absurd rfl x.2⟩
   ·rw [off hv, ← I.own u a b' v d e', hown]
    constructor <;> intro x <;> omega
  ·rw [M2 _ (by omega)]
   by_cases hv : v = t
   ·rw [hv, at_t, H, I.own u a b' t t0 t1]
    exact ⟨fun x => ⟨x, hu⟩, fun x => x.1⟩
   ·rw [off hv]; exact I.own u a b' v d e'
 | into e M H G S C =>
  have M2 : ∀ x, x ≠ 2 → m' x = m x := fun x hx => by rw [M]; exact upd_off hx
  refine ⟨ownS (fun s a b => M2 _ (by omega)) H, fun u d e' => ?_, shutS (fun s a b => M2 _ (by omega)) S, clkS (M2 _ (by omega)) (fun v x => by rw [C] at x; cases x), loc'⟩
  rw [show m' 2 = t + 1 from by rw [M]; exact upd_at _ _ _]
  by_cases hu : u = t
  ·rw [hu, at_t, G]; simp
  ·rw [off hu, ← I.gate u d e', e]
   constructor <;> intro x <;> omega
 | out e M H G S C =>
  have M2 : ∀ x, x ≠ 2 → m' x = m x := fun x hx => by rw [M]; exact upd_off hx
  have hg := (I.gate t t0 t1).2 e
  refine ⟨ownS (fun s a b => M2 _ (by omega)) H, fun u d e' => ?_, shutS (fun s a b => M2 _ (by omega)) S, clkS (M2 _ (by omega)) (fun v x => by rw [C] at x; cases x), loc'⟩
  rw [show m' 2 = 0 from by rw [M]; exact upd_at _ _ _]
  by_cases hu : u = t
  ·rw [hu, at_t, G]
   constructor <;> intro x
   ·omega
   ·cases x
  ·rw [off hu, ← I.gate u d e', hg]
   constructor <;> intro x <;> omega
 | shut s b e M H G S C =>
  rw [cVer'] at M
  have M2 : ∀ x, x ≠ 3 + s → m' x = m x := fun x hx => by rw [M]; exact upd_off hx
  have b2 : s < c.s := b.2
  have b1 := b.1
  refine ⟨ownS (fun u a b' => M2 _ (by omega)) H, gateS (M2 _ (by omega)) G, fun u a b' => ?_, clkS (M2 _ (by omega)) (fun v x => I.clk t t0 t1 v (C v x)), loc'⟩
  by_cases hu : u = s
  ·rw [hu]
   rw [show m' (3 + s) = -1 from by rw [M]; exact upd_at _ _ _]
   exact ⟨fun _ => ⟨t, t0, t1, by rw [at_t, S]; exact Or.inr rfl⟩, fun _ => rfl⟩
  ·rw [M2 _ (by omega), I.shut u a b']
   constructor
   ·rintro ⟨v, d, e', x⟩
    by_cases hv : v = t
    ·exact ⟨t, t0, t1, by rw [at_t, S]; rw [hv] at x; exact Or.inl x⟩
    ·exact ⟨v, d, e', by rw [off hv]; exact x⟩
   ·rintro ⟨v, d, e', x⟩
    by_cases hv : v = t
    ·rw [hv, at_t, S] at x
     exact ⟨t, t0, t1, x.elim id (fun y => absurd y hu)⟩
    ·rw [off hv] at x
     exact ⟨v, d, e', x⟩
 | opened s w b p e M H G S C =>
  rw [cVer'] at M
  have M2 : ∀ x, x ≠ 3 + s → m' x = m x := fun x hx => by rw [M]; exact upd_off hx
  have b2 : s < c.s := b.2
  have b1 := b.1
  refine ⟨ownS (fun u a b' => M2 _ (by omega)) H, gateS (M2 _ (by omega)) G, fun u a b' => ?_, clkS (M2 _ (by omega)) (fun v x => by rw [C] at x; cases x), loc'⟩
  by_cases hu : u = s
  ·subst hu
   rw [show m' (3 + u) = w from by rw [M]; exact upd_at _ _ _]
   constructor
   ·intro x; omega
   ·rintro ⟨v, d, e', x⟩
    by_cases hv : v = t
    ·rw [hv, at_t, S] at x
     exact absurd rfl x.2
    ·rw [off hv] at x
     exact absurd (one a b' d e' t0 t1 (shuts_holds x) e.1) hv
  ·rw [M2 _ (by omega), I.shut u a b']
   constructor
   ·rintro ⟨v, d, e', x⟩
    by_cases hv : v = t
    ·exact ⟨t, t0, t1, by rw [at_t, S]; rw [hv] at x; exact ⟨x, hu⟩⟩
    ·exact ⟨v, d, e', by rw [off hv]; exact x⟩
   ·rintro ⟨v, d, e', x⟩
    by_cases hv : v = t
    ·rw [hv, at_t, S] at x
     exact ⟨t, t0, t1, x.1⟩
    ·rw [off hv] at x
     exact ⟨v, d, e', x⟩
 | stamp w e M H G S C =>
  have M2 : ∀ x, x ≠ 0 → m' x = m x := fun x hx => by rw [M]; exact upd_off hx
  refine ⟨ownS (fun u a b' => M2 _ (by omega)) H, gateS (M2 _ (by omega)) G, shutS (fun u a b' => M2 _ (by omega)) S, fun u d e' v x => ?_, loc'⟩
  by_cases hu : u = t
  ·rw [hu, at_t, C] at x; cases x
  ·rw [off hu] at x
   exact absurd (oneG d e' t0 t1 (clk_gate x) e.1) hu
theorem li_start {c : Cfg} (hc : cfgB c = true) {mem : List Int} (hmw : (mem.length : Int) = c.wd) (hmb : memB mem = true) (jobs : List (Int × List InsD)) : LI c jobs (gStart c mem jobs).m (gStart c mem jobs).th := by
 obtain ⟨⟨t1, t2⟩, _, ⟨s1, s2⟩, _⟩ := cfgB_true hc
 have lo : ∀ x, x < wordBase c → startVal c mem x = 0 := fun x h => by unfold startVal; rw [if_neg (by omega)]
 unfold wordBase at lo
 have hto : ∀ t, Cont (cxOf c jobs t) [] false (hInit (cxOf c jobs t)) := fun t => by
  unfold hInit hTo
  split
  ·exact ⟨fun s => by simp [Holds], rfl, fun s => by simp [Shuts], rfl, rfl, trivial⟩
  ·exact ⟨fun s => by simp [Holds], rfl, fun s => by simp [Shuts], rfl, rfl, trivial⟩
 refine ⟨fun s a b t d e => ?_, fun t d e => ?_, fun s a b => ?_, fun t d e v x => ?_, fun t d e => (hto t).loc⟩
 ·rw [show (gStart c mem jobs).m (3 + c.s + s) = 0 from lo _ (by omega), show (gStart c mem jobs).th t = hInit (cxOf c jobs t) from rfl, (hto t).holds]
  constructor
  ·intro x; omega
  ·intro x; simp at x
 ·rw [show (gStart c mem jobs).m 2 = 0 from lo _ (by omega), show (gStart c mem jobs).th t = hInit (cxOf c jobs t) from rfl, (hto t).gate]
  constructor
  ·intro x; omega
  ·intro x; cases x
 ·rw [show (gStart c mem jobs).m (3 + s) = 0 from lo _ (by omega)]
  constructor
  ·intro x; omega
  ·rintro ⟨t, d, e, x⟩
   exact absurd x ((hto t).shuts s)
 ·rw [show (gStart c mem jobs).th t = hInit (cxOf c jobs t) from rfl, (hto t).clk] at x
  cases x
theorem li_at {c : Cfg} (hc : cfgB c = true) {mem : List Int} (hmw : (mem.length : Int) = c.wd) (hmb : memB mem = true) (jobs : List (Int × List InsD)) (ps : List PickD) : ∀ k : Nat, LI c jobs (gAt c mem jobs ps k).m (gAt c mem jobs ps k).th
 | 0 => li_start hc hmw hmb jobs
 | k + 1 => by
  have I := li_at hc hmw hmb jobs ps k
  have G := gat_ok hc hmw hmb jobs ps k
  show LI c jobs (gStep c jobs (gAt c mem jobs ps k) _ (pickAt ps k)).1.m (gStep c jobs (gAt c mem jobs ps k) _ (pickAt ps k)).1.th
  unfold gStep
  by_cases ht : 0 ≤ (pickAt ps k).thread ∧ (pickAt ps k).thread < c.t
  ·rw [if_pos ht]
   have hcK : cfgB (cxOf c jobs (pickAt ps k).thread).c = true := hc
   obtain ⟨hl, E⟩ := eff_step hcK ht (G.th _ ht.1 ht.2) (I.loc _ ht.1 ht.2) (gAt c mem jobs ps k).m ⟨(gAcc c jobs (gAt c mem jobs ps k) (pickAt ps k).thread).seen, (pickAt ps k).draw, (k : Int) + 1⟩ (fun h0 => by
       show (gAcc c jobs (gAt c mem jobs ps k) (pickAt ps k).thread).seen = _
       unfold gAcc
       rw [acc_some h0])
   exact li_step hc ht.1 ht.2 I hl E
  ·rw [if_neg ht]
   exact I
structure Gh where
 W : Int → Int → Int
 nv : Int → Int
def Stab (K : Cx) (G : Gh) (s v n : Int) : Prop := ∀ a, 0 ≤ a → a < K.c.wd → a.tmod K.c.s = s → ∀ i, v ≤ i → i ≤ n → G.W i a = G.W v a
structure AttOk (K : Cx) (G : Gh) (clk : Int) (t : AttD) : Prop where
 inn : ∀ n ∈ t.notes, (n.op = 7 ∨ n.op = 8) ∧ 0 ≤ n.addr ∧ n.addr < K.c.wd
 va : 0 ≤ t.valid
 snd : (t.stamp = 0 ∧ t.valid ≤ clk ∧ fOk t.notes (G.W t.valid)) ∨ (t.valid < t.stamp ∧ t.stamp ≤ clk ∧ fOk t.notes (G.W (t.stamp - 1)) ∧ ∀ a, 0 ≤ a → a < K.c.wd → overN t.notes (G.W (t.stamp - 1)) a = G.W t.stamp a)
structure Run (K : Cx) (G : Gh) (clk : Int) (sk : Int → Prop) (h : Th) : Prop where
 wh : Wh K h
 li : ∀ t ∈ h.list, AttOk K G clk t
 ne : h.list ≠ []
 va : (cur h.list).valid = h.x.valid
 sp : (cur h.list).stamp = 0
 ov : ∀ f a, overN (cur h.list).notes f a = overW h.x.writes f a
 fr : ∀ e ∈ h.x.reads, G.nv e.what = e.val ∨ h.x.valid < G.nv e.what
 sb : ∀ e ∈ h.x.reads, Stab K G e.what e.val h.x.valid
 hd : ∀ s ∈ h.x.held, ¬ sk s → G.nv s ≤ h.x.valid
 nt : ∀ n ∈ (cur h.list).notes, (∃ e ∈ h.x.reads, e.what = n.addr.tmod K.c.s ∧ e.val ≤ h.x.valid) ∨ (n.addr.tmod K.c.s ∈ h.x.held ∧ ¬ sk (n.addr.tmod K.c.s))
def NoSk : Int → Prop := fun _ => False
def Le (h : Th) : Prop := ∀ e ∈ h.x.reads, e.val ≤ h.x.valid
theorem Run.ok {K : Cx} {G : Gh} {clk : Int} {sk : Int → Prop} {h : Th} (R : Run K G clk sk h) : fOk (cur h.list).notes (G.W h.x.valid) ∧ h.x.valid ≤ clk ∧ 0 ≤ h.x.valid := by
 have A := R.li _ (cur_mem R.ne)
 have hv := A.va
 rw [R.va] at hv
 rcases A.snd with b | b
 ·rw [R.va] at b
  exact ⟨b.2.2, b.2.1, hv⟩
 ·have := b.1
  rw [R.va, R.sp] at this
  omega
theorem Run.of {K : Cx} {G : Gh} {clk : Int} {sk : Int → Prop} {h h' : Th} (R : Run K G clk sk h) (e1 : h'.list = h.list) (e2 : h'.x.valid = h.x.valid) (e3 : h'.x.reads = h.x.reads) (e4 : h'.x.writes = h.x.writes) (e5 : h'.x.held = h.x.held) : Run K G clk sk h' := by
 refine ⟨?_, ?_, ?_, ?_, ?_, ?_, ?_, ?_, ?_, ?_⟩
 ·intro e he; rw [e5]; exact R.wh e (by rw [← e4]; exact he)
 ·rw [e1]; exact R.li
 ·rw [e1]; exact R.ne
 ·rw [e1, e2]; exact R.va
 ·rw [e1]; exact R.sp
 ·rw [e1, e4]; exact R.ov
 ·rw [e2, e3]; exact R.fr
 ·rw [e2, e3]; exact R.sb
 ·rw [e2, e5]; exact R.hd
 ·rw [e1, e2, e3, e5]; exact R.nt
theorem Run.note {K : Cx} {G : Gh} {clk : Int} {sk : Int → Prop} {h h' : Th} {n : NoteD} (R : Run K G clk sk h) (e1 : h'.list = modLast h.list fun t => { t with notes := t.notes ++ [n] }) (e2 : h'.x.valid = h.x.valid) (e3 : h'.x.reads = h.x.reads) (e5 : h'.x.held = h.x.held)
  (hw : Wh K h') (hop : n.op = 7 ∨ n.op = 8) (a0 : 0 ≤ n.addr) (a1 : n.addr < K.c.wd) (hv : n.op = 7 → overW h.x.writes (G.W h.x.valid) n.addr = n.val)
  (hov : ∀ f a, overN ((cur h.list).notes ++ [n]) f a = overW h'.x.writes f a)
  (hn : (∃ e ∈ h.x.reads, e.what = n.addr.tmod K.c.s ∧ e.val ≤ h.x.valid) ∨ (n.addr.tmod K.c.s ∈ h.x.held ∧ ¬ sk (n.addr.tmod K.c.s))) : Run K G clk sk h' := by
 have hc : cur h'.list = { cur h.list with notes := (cur h.list).notes ++ [n] } := by rw [e1, cur_mod R.ne]
 have A := R.li _ (cur_mem R.ne)
 have O := R.ok
 refine ⟨hw, ?_, ?_, ?_, ?_, ?_, ?_, ?_, ?_, ?_⟩
 ·rw [e1]
  refine all_mod R.li ⟨fun q hq => ?_, A.va, Or.inl ⟨R.sp, ?_, ?_⟩⟩
  ·rcases List.mem_append.1 hq with hq | hq
   ·exact A.inn q hq
   ·rw [List.mem_singleton.1 hq]; exact ⟨hop, a0, a1⟩
  ·show (cur h.list).valid ≤ clk
   rw [R.va]; exact O.2.1
  ·show fOk ((cur h.list).notes ++ [n]) (G.W (cur h.list).valid)
   rw [R.va, fOk_snoc]
   refine ⟨O.1, fun h7 => ?_⟩
   rw [R.ov]
   exact hv h7
 ·rw [e1]; exact mod_ne R.ne _
 ·rw [hc, e2]; exact R.va
 ·rw [hc]; exact R.sp
 ·intro f a; rw [hc]; exact hov f a
 ·rw [e2, e3]; exact R.fr
 ·rw [e2, e3]; exact R.sb
 ·rw [e2, e5]; exact R.hd
 ·rw [hc, e2, e3, e5]
  intro q hq
  rcases List.mem_append.1 hq with hq | hq
  ·exact R.nt q hq
  ·rw [List.mem_singleton.1 hq]; exact hn
theorem Run.read {K : Cx} {G : Gh} {clk : Int} {sk : Int → Prop} {h : Th} (R : Run K G clk sk h) {i a v : Int} (a0 : 0 ≤ a) (a1 : a < K.c.wd) (hv : overW h.x.writes (G.W h.x.valid) a = v)
  (hn : (∃ e ∈ h.x.reads, e.what = a.tmod K.c.s ∧ e.val ≤ h.x.valid) ∨ (a.tmod K.c.s ∈ h.x.held ∧ ¬ sk (a.tmod K.c.s))) : Run K G clk sk (({ h with x := setReg h.x i v } : Th).noted 7 a v) := by
 refine R.note (n := ⟨7, a, v⟩) rfl rfl rfl rfl (fun e he => R.wh e he) (Or.inl rfl) a0 a1 (fun _ => hv) (fun f b => ?_) hn
 rw [overN_snoc, if_pos rfl]
 exact R.ov f b
theorem Run.put {K : Cx} {G : Gh} {clk : Int} {sk : Int → Prop} {h : Th} (R : Run K G clk sk h) {i : InsD} {a : Int} (a0 : 0 ≤ a) (a1 : a < K.c.wd) (hh : a.tmod K.c.s ∈ h.x.held) (hs : ¬ sk (a.tmod K.c.s)) : Run K G clk sk (hPut i a h) := by
 refine R.note (n := ⟨8, a, regOf h.x i.b⟩) rfl rfl rfl rfl (kept_put (i := i) R.wh hh).wh (Or.inr rfl) a0 a1 (fun h7 => absurd h7 (by show ¬ ((8 : Int) = 7); omega)) (fun f b => ?_) (Or.inr ⟨hh, hs⟩)
 rw [overN_snoc, if_neg (by show ¬ ((8 : Int) = 7); omega)]
 show upd (overN (cur h.list).notes f) a (regOf h.x i.b) b = overW (putEnt h.x.writes a (regOf h.x i.b)) f b
 rw [overW_put]
 unfold upd
 rw [R.ov]
def Rem (G : Gh) (m : Int → Int) (s one : Int) : Prop := one ≤ m 0 ∧ one ≤ G.nv s ∧ (m (3 + s) = -1 → one < G.nv s)
def Nw (h : Th) (a : Int) : Prop := entIdx h.x.writes a = none
def LiOk (K : Cx) (G : Gh) (m : Int → Int) (h : Th) : Prop := ∀ t ∈ h.list, AttOk K G (m 0) t
def Go1 (K : Cx) (G : Gh) (m : Int → Int) (h : Th) : Prop := Run K G (m 0) NoSk h ∧ Le h
def XI (K : Cx) (G : Gh) (m : Int → Int) (h : Th) (b : Int) : Ex → Prop
 | .rd i a w => Run K G (m 0) NoSk h ∧ Nw h a ∧ (∃ e ∈ h.x.reads, e.what = a.tmod K.c.s) ∧ ∃ one, one ≤ G.nv (a.tmod K.c.s) ∧ one ≤ b ∧ h.x.valid < one ∧ w = G.W one a ∧ ∀ e ∈ h.x.reads, e.val ≤ h.x.valid ∨ (e.what = a.tmod K.c.s ∧ e.val = one)
 | .wr i a => Run K G (m 0) (· = a.tmod K.c.s) h ∧ Le h ∧ G.nv (a.tmod K.c.s) ≤ b
def Chk (K : Cx) (h : Th) (e : EntD) : Ex → Prop
 | .rd i a w => e.what = a.tmod K.c.s → h.x.valid < e.val
 | .wr i a => True
def Pend (K : Cx) (G : Gh) (m : Int → Int) (c : Int) (r : List EntD) (s : Int) : Prop := ∀ a, 0 ≤ a → a < K.c.wd → a.tmod K.c.s = s → ∀ n, c + 1 ≤ n → G.W n a = overW r (fun b => m (hWrd K b)) a
structure Cm (K : Cx) (G : Gh) (m : Int → Int) (c : Int) (h : Th) : Prop where
 li : LiOk K G m h
 ne : h.list ≠ []
 sp : (cur h.list).stamp = 0
 va : (cur h.list).valid ≤ c
 ok : fOk (cur h.list).notes (G.W c)
 ov : ∀ f a, overN (cur h.list).notes f a = overW h.x.writes f a
def SI (K : Cx) (G : Gh) (m : Int → Int) (h : Th) : Prop := match h.st with
 | .idle => LiOk K G m h
 | .start => LiOk K G m h
 | .rHeld _ a => Go1 K G m h ∧ Nw h a ∧ a.tmod K.c.s ∈ h.x.held
 | .rVer _ a => Go1 K G m h ∧ Nw h a
 | .rWord _ a one => Go1 K G m h ∧ Nw h a ∧ Rem G m (a.tmod K.c.s) one
 | .rAgain _ a one w => Go1 K G m h ∧ Nw h a ∧ Rem G m (a.tmod K.c.s) one ∧ (G.nv (a.tmod K.c.s) = one → w = m (hWrd K a))
 | .xClock k => XI K G m h (m 0) k
 | .xVer k c r => XI K G m h c k ∧ h.x.valid ≤ c ∧ c ≤ m 0 ∧ ∃ pre, h.x.reads = pre ++ r ∧ ∀ e ∈ pre, Stab K G e.what e.val c ∧ (G.nv e.what = e.val ∨ c < G.nv e.what) ∧ Chk K h e k
 | .gStat _ _ => Go1 K G m h
 | .gOwn _ _ => Go1 K G m h
 | .gTheir _ _ _ => Go1 K G m h
 | .gMark _ _ _ _ => Go1 K G m h
 | .gVer _ a => Run K G (m 0) (· = a.tmod K.c.s) h ∧ Le h
 | .tTake => Go1 K G m h
 | .tShow => Go1 K G m h
 | .cStat => Go1 K G m h
 | .cGate => Go1 K G m h
 | .cClock => Go1 K G m h
 | .cVer c r => Go1 K G m h ∧ h.x.valid ≤ c ∧ c ≤ m 0 ∧ ∃ pre, h.x.reads = pre ++ r ∧ ∀ e ∈ pre, e.what ∈ h.x.held ∨ Stab K G e.what e.val c
 | .cShut c r => Cm K G m c h ∧ ∀ s ∈ h.x.held, s ∉ r → G.nv s = c + 1
 | .cStamp c => Cm K G m c h ∧ ∀ s ∈ h.x.held, G.nv s = c + 1
 | .cLeave c => LiOk K G m h ∧ c + 1 ≤ m 0 ∧ ∀ s ∈ h.x.held, G.nv s = c + 1 ∧ Pend K G m c h.x.writes s
 | .cWord c r => LiOk K G m h ∧ c + 1 ≤ m 0 ∧ (r.map (·.what)).Nodup ∧ ∀ s ∈ h.x.held, G.nv s = c + 1 ∧ Pend K G m c r s
 | .cOpen c r => LiOk K G m h ∧ c + 1 ≤ m 0 ∧ ∀ s ∈ r, G.nv s = c + 1 ∧ Pend K G m c [] s
 | .cOwn c r => LiOk K G m h ∧ c + 1 ≤ m 0 ∧ ∀ s ∈ r.tail, G.nv s = c + 1 ∧ Pend K G m c [] s
 | .free _ _ => LiOk K G m h
 | .fin _ => LiOk K G m h
 | .fGate => LiOk K G m h
 | .fOwn _ => LiOk K G m h
 | .fTake => LiOk K G m h
 | .fStat => LiOk K G m h
 | .wait _ => LiOk K G m h
 | .rest _ => LiOk K G m h
theorem si_free {K : Cx} {G : Gh} {m : Int → Int} {h : Th} (L : LiOk K G m h) (e : Int) (r : List Int) : SI K G m (hFreeAt e r h) := by
 cases r with
 | nil => exact L
 | cons q r => exact L
theorem si_close {K : Cx} {G : Gh} {m : Int → Int} {h : Th} (R : Go1 K G m h) (e : Int) : SI K G m (hClose e h) := by
 unfold hClose
 split
 ·exact ⟨R.1.of rfl rfl rfl rfl rfl, R.2⟩
 ·exact si_free R.1.li e _
theorem si_count {K : Cx} {G : Gh} {m : Int → Int} {h : Th} (L : LiOk K G m h) : SI K G m (hCount K h) := by
 unfold hCount
 split
 ·exact L
 ·exact L
theorem si_failown {K : Cx} {G : Gh} {m : Int → Int} {h : Th} (L : LiOk K G m h) (r : List Int) : SI K G m (hFailOwn K r h) := by
 cases r with
 | nil => exact si_count L
 | cons q r => exact L
theorem si_fail {K : Cx} {G : Gh} {m : Int → Int} {h : Th} (L : LiOk K G m h) : SI K G m (hFail K h) := by
 unfold hFail
 split
 ·exact L
 ·exact si_failown L _
def Did2 (K : Cx) (G : Gh) (m : Int → Int) (t : Bool × Th) : Prop := (t.1 = true → Go1 K G m t.2) ∧ (t.1 = false → SI K G m t.2)
theorem Did2.off {K : Cx} {G : Gh} {m : Int → Int} {h' : Th} (A : SI K G m h') : Did2 K G m (false, h') := ⟨(fun e => nomatch e), fun _ => A⟩
theorem Did2.on {K : Cx} {G : Gh} {m : Int → Int} {h' : Th} (A : Go1 K G m h') : Did2 K G m (true, h') := ⟨fun _ => A, (fun e => nomatch e)⟩
theorem go1_of {K : Cx} {G : Gh} {m : Int → Int} {h h' : Th} (R : Go1 K G m h) (e1 : h'.list = h.list) (e2 : h'.x.valid = h.x.valid) (e3 : h'.x.reads = h.x.reads) (e4 : h'.x.writes = h.x.writes) (e5 : h'.x.held = h.x.held) : Go1 K G m h' :=
 ⟨R.1.of e1 e2 e3 e4 e5, by intro e he; rw [e2]; exact R.2 e (by rw [← e3]; exact he)⟩
theorem did2_read {K : Cx} {G : Gh} {m : Int → Int} {h : Th} {i : InsD} {k : Int} (X : XOk K k h.x) (R : Go1 K G m h) : Did2 K G m (hRead K i h) := by
 have hr := reg_ok X i.b
 unfold hRead
 simp only
 split
 ·exact Did2.off (si_close R 3)
 ·rename_i hw
  cases he : entIdx h.x.writes (regOf h.x i.b) with
  | some j =>
   refine Did2.on ⟨R.1.read hr.1 (by omega) (overW_some _ _ _ j he) (Or.inr ⟨?_, fun f => f⟩), R.2⟩
   have := R.1.wh _ (entIn he).2.2
   rw [(entIn he).2.1] at this
   exact this
  | none =>
   simp only
   refine Did2.off ?_
   split
   ·rename_i hh
    exact ⟨go1_of R rfl rfl rfl rfl rfl, he, held_true hh⟩
   ·exact ⟨go1_of R rfl rfl rfl rfl rfl, he⟩
theorem did2_write {K : Cx} {G : Gh} {m : Int → Int} {h : Th} {i : InsD} {k : Int} (X : XOk K k h.x) (R : Go1 K G m h) : Did2 K G m (hWrite K i h) := by
 have hr := reg_ok X i.a
 unfold hWrite
 simp only
 split
 ·exact Did2.off (si_close R 3)
 ·rename_i hw
  split
  ·rename_i hh
   exact Did2.on ⟨R.1.put hr.1 (by omega) (held_true hh) (fun f => f), R.2⟩
  ·exact Did2.off (go1_of R rfl rfl rfl rfl rfl)
theorem did2_step {K : Cx} {G : Gh} {m : Int → Int} {h : Th} {k : Int} (A : Onn K k h) (R : Go1 K G m h) : Did2 K G m (hStep K h) := by
 have hX := A.x
 unfold hStep
 by_cases h1 : h.x.place = h.x.code.length
 ·rw [if_pos h1]; exact Did2.off (si_close R 1)
 rw [if_neg h1]
 by_cases h2 : (h.x.begun : Int) = K.c.f
 ·rw [if_pos h2]; exact Did2.off (si_close R 4)
 rw [if_neg h2]
 have hb1 : ((h.x.begun + 1 : Nat) : Int) ≤ K.c.f := by have := hX.bg; omega
 have hp := hX.plc
 have X2 : XOk K k { h.x with begun := h.x.begun + 1, place := h.x.place + 1 } := hX.at (h.x.begun + 1) (h.x.place + 1) hb1 (by omega)
 have R2 : Go1 K G m { h with x := { h.x with begun := h.x.begun + 1, place := h.x.place + 1 } } := go1_of R rfl rfl rfl rfl rfl
 simp only
 generalize insAt h.x.code h.x.place = i at *
 by_cases h3 : formedB i h.x.code.length = false
 ·rw [if_pos h3]; exact Did2.off (si_close (h := { h with x := { h.x with begun := h.x.begun + 1 } }) (go1_of R rfl rfl rfl rfl rfl) 3)
 rw [if_neg h3]
 by_cases o0 : i.op = 0
 ·rw [if_pos o0]; exact Did2.off (si_close R2 1)
 rw [if_neg o0]
 by_cases o1 : i.op = 1
 ·rw [if_pos o1]; exact Did2.off (si_close R2 2)
 rw [if_neg o1]
 by_cases o2 : i.op = 2
 ·rw [if_pos o2]; exact Did2.on (go1_of R rfl rfl rfl rfl rfl)
 rw [if_neg o2]
 by_cases o3 : i.op = 3
 ·rw [if_pos o3]; exact Did2.on (go1_of R rfl rfl rfl rfl rfl)
 rw [if_neg o3]
 by_cases o4 : i.op = 4
 ·rw [if_pos o4]; exact Did2.on (go1_of R rfl rfl rfl rfl rfl)
 rw [if_neg o4]
 by_cases o5 : i.op = 5
 ·rw [if_pos o5]; exact Did2.on (go1_of R rfl rfl rfl rfl rfl)
 rw [if_neg o5]
 by_cases o6 : i.op = 6
 ·rw [if_pos o6]
  split
  ·exact Did2.on (go1_of R rfl rfl rfl rfl rfl)
  ·exact Did2.on (go1_of R rfl rfl rfl rfl rfl)
 rw [if_neg o6]
 by_cases o7 : i.op = 7
 ·rw [if_pos o7]; exact did2_read X2 R2
 ·rw [if_neg o7]; exact did2_write X2 R2
theorem si_go {K : Cx} {G : Gh} {m : Int → Int} {k : Int} : ∀ {h : Th}, Onn K k h → Go1 K G m h → SI K G m (hGo K h) := by
 have H : ∀ (n : Nat) (h : Th), n = K.c.f.toNat - h.x.begun → Onn K k h → Go1 K G m h → SI K G m (hGo K h) := by
  intro n
  induction n with
  | zero =>
   intro h hn A R
   rw [hGo_eq K h A.x.bg]
   by_cases hs : (hStep K h).1 = true
   ·have := hStep_begun K h hs
    have := A.x.bg
    omega
   ·rw [if_neg hs]
    exact (did2_step A R).2 (by simpa using hs)
  | succ n ih =>
   intro h hn A R
   rw [hGo_eq K h A.x.bg]
   by_cases hs : (hStep K h).1 = true
   ·rw [if_pos hs]
    have := hStep_begun K h hs
    exact ih _ (by omega) ((step_ok A).1 hs) ((did2_step A R).1 hs)
   ·rw [if_neg hs]
    exact (did2_step A R).2 (by simpa using hs)
 exact fun {h} A R => H _ h rfl A R
structure Fr (K : Cx) (G G' : Gh) (m m' : Int → Int) (h : Th) : Prop where
 clk : m 0 ≤ m' 0
 W : ∀ n, n ≤ m 0 → ∀ a, G'.W n a = G.W n a
 Wd : ∀ s, Holds h s → ∀ a, 0 ≤ a → a < K.c.wd → a.tmod K.c.s = s → ∀ n, G'.W n a = G.W n a
 nv : ∀ s, G'.nv s = G.nv s ∨ m 0 < G'.nv s
 nvh : ∀ s, Holds h s → G'.nv s = G.nv s
 wd : ∀ a, 0 ≤ a → a < K.c.wd → m' (hWrd K a) = m (hWrd K a) ∨ m (3 + a.tmod K.c.s) = -1
 wdh : ∀ a, 0 ≤ a → a < K.c.wd → Holds h (a.tmod K.c.s) → m' (hWrd K a) = m (hWrd K a)
 sh : ∀ s, 0 ≤ s → s < K.c.s → m' (3 + s) = -1 → (m (3 + s) = -1 ∧ G'.nv s = G.nv s) ∨ m 0 < G'.nv s
theorem AttOk.fr {K : Cx} {G G' : Gh} {b b' : Int} {t : AttD} (A : AttOk K G b t) (hb : b ≤ b') (hW : ∀ n, n ≤ b → ∀ a, G'.W n a = G.W n a) : AttOk K G' b' t := by
 refine ⟨A.inn, A.va, ?_⟩
 rcases A.snd with ⟨x, y, z⟩ | ⟨x, y, z, u⟩
 ·exact Or.inl ⟨x, by omega, fOk_congr _ _ _ (fun n hn => (hW _ y _).symm) z⟩
 ·refine Or.inr ⟨x, by omega, fOk_congr _ _ _ (fun n hn => (hW _ (by omega) _).symm) z, fun a a0 a1 => ?_⟩
  rw [hW _ y, ← u a a0 a1]
  congr 1
  funext c
  exact hW _ (by omega) c
theorem Stab.fr {K : Cx} {G G' : Gh} {b s v n : Int} (A : Stab K G s v n) (hn : n ≤ b) (hW : ∀ n, n ≤ b → ∀ a, G'.W n a = G.W n a) : Stab K G' s v n := by
 intro a a0 a1 e i h1 h2
 rw [hW i (by omega), hW v (by omega)]
 exact A a a0 a1 e i h1 h2
theorem run_fr {K : Cx} {G G' : Gh} {m m' : Int → Int} {sk : Int → Prop} {h : Th} (R : Run K G (m 0) sk h) (F : Fr K G G' m m' h) (hh : ∀ s ∈ h.x.held, Holds h s) : Run K G' (m' 0) sk h := by
 have O := R.ok
 refine ⟨R.wh, fun t ht => (R.li t ht).fr F.clk F.W, R.ne, R.va, R.sp, R.ov, fun e he => ?_, fun e he => (R.sb e he).fr O.2.1 F.W, fun s hs hk => ?_, R.nt⟩
 ·rcases F.nv e.what with x | x
  ·rw [x]; exact R.fr e he
  ·exact Or.inr (by omega)
 ·rw [F.nvh s (hh s hs)]; exact R.hd s hs hk
theorem go1_fr {K : Cx} {G G' : Gh} {m m' : Int → Int} {h : Th} (R : Go1 K G m h) (F : Fr K G G' m m' h) (hh : ∀ s ∈ h.x.held, Holds h s) : Go1 K G' m' h := ⟨run_fr R.1 F hh, R.2⟩
theorem li_fr {K : Cx} {G G' : Gh} {m m' : Int → Int} {h : Th} (R : LiOk K G m h) (F : Fr K G G' m m' h) : LiOk K G' m' h := fun t ht => (R t ht).fr F.clk F.W
theorem rem_fr {K : Cx} {G G' : Gh} {m m' : Int → Int} {h : Th} {s one : Int} (s0 : 0 ≤ s) (s1 : s < K.c.s) (R : Rem G m s one) (F : Fr K G G' m m' h) : Rem G' m' s one := by
 obtain ⟨a, b, d⟩ := R
 have hc := F.clk
 refine ⟨by omega, ?_, fun e => ?_⟩
 ·rcases F.nv s with x | x
  ·rw [x]; exact b
  ·omega
 ·rcases F.sh s s0 s1 e with ⟨x, y⟩ | x
  ·rw [y]; exact d x
  ·omega
theorem pend_fr {K : Cx} {G G' : Gh} {m m' : Int → Int} {h : Th} {c s : Int} {r : List EntD} (hh : Holds h s) (P : Pend K G m c r s) (F : Fr K G G' m m' h) : Pend K G' m' c r s := by
 intro a a0 a1 e n hn
 rw [F.Wd s hh a a0 a1 e n, P a a0 a1 e n hn]
 refine overW_congr ?_
 exact (F.wdh a a0 a1 (by rw [e]; exact hh)).symm
theorem cm_fr {K : Cx} {G G' : Gh} {m m' : Int → Int} {h : Th} {c : Int} (hc : c ≤ m 0) (P : Cm K G m c h) (F : Fr K G G' m m' h) : Cm K G' m' c h :=
 ⟨li_fr P.li F, P.ne, P.sp, P.va, fOk_congr _ _ _ (fun n hn => (F.W c hc _).symm) P.ok, P.ov⟩
theorem xi_fr {K : Cx} {G G' : Gh} {m m' : Int → Int} {h : Th} {b b' : Int} {k : Ex} (hb : b ≤ m 0) (hbb : b ≤ b') (X : XI K G m h b k) (F : Fr K G G' m m' h) (hh : ∀ s ∈ h.x.held, Holds h s) (hk : exHeld K h k) : XI K G' m' h b' k := by
 cases k with
 | rd i a w =>
  obtain ⟨R, nw, ex, one, x1, x2, x3, x4, x5⟩ := X
  refine ⟨run_fr R F hh, nw, ex, one, ?_, by omega, x3, ?_, x5⟩
  ·rcases F.nv (a.tmod K.c.s) with x | x
   ·rw [x]; exact x1
   ·omega
  ·rw [F.W one (by omega)]; exact x4
 | wr i a =>
  obtain ⟨R, l, x⟩ := X
  refine ⟨run_fr R F hh, l, ?_⟩
  rw [F.nvh _ (hh _ hk)]
  omega
theorem si_fr {K : Cx} {G G' : Gh} {m m' : Int → Int} {h : Th} {k : Int} (s1 : 1 ≤ K.c.s) (A : StepOk K k h) (L : Loc K h) (hclk : ∀ v, hClk h = some v → m 0 = v) (S : SI K G m h) (F : Fr K G G' m m' h) : SI K G' m' h := by
 unfold SI at S ⊢
 unfold StepOk at A
 unfold Loc at L
 have st : ∀ {i : InsD} {a : Int}, AOk K i a → 0 ≤ a.tmod K.c.s ∧ a.tmod K.c.s < K.c.s := fun ha => tmodP s1 ha.1
 cases hst : h.st with
 | idle => rw [hst] at S; exact li_fr S F
 | start => rw [hst] at S; exact li_fr S F
 | rHeld i a =>
  rw [hst] at S
  exact ⟨go1_fr S.1 F (fun s hs => by simp only [Holds, hst]; exact hs), S.2⟩
 | rVer i a =>
  rw [hst] at S
  exact ⟨go1_fr S.1 F (fun s hs => by simp only [Holds, hst]; exact hs), S.2⟩
 | rWord i a one =>
  rw [hst] at S A
  exact ⟨go1_fr S.1 F (fun s hs => by simp only [Holds, hst]; exact hs), S.2.1, rem_fr (st A.1).1 (st A.1).2 S.2.2 F⟩
 | rAgain i a one w =>
  rw [hst] at S A
  refine ⟨go1_fr S.1 F (fun s hs => by simp only [Holds, hst]; exact hs), S.2.1, rem_fr (st A.1).1 (st A.1).2 S.2.2.1 F, fun e => ?_⟩
  obtain ⟨x, y, z⟩ := S.2.2.1
  have e' : G.nv (a.tmod K.c.s) = one := by
   rcases F.nv (a.tmod K.c.s) with q | q
   ·rw [← q]; exact e
   ·omega
  rcases F.wd a A.1.1 A.1.2.1 with q | q
  ·rw [q]; exact S.2.2.2 e'
  ·have := z q
   omega
 | xClock k =>
  rw [hst] at S L
  exact xi_fr (Int.le_refl _) F.clk S F (fun s hs => by simp only [Holds, hst]; exact hs) L.2
 | xVer k c r =>
  rw [hst] at S L
  obtain ⟨X, v1, v2, pre, e, P⟩ := S
  have hc := F.clk
  refine ⟨xi_fr v2 (Int.le_refl _) X F (fun s hs => by simp only [Holds, hst]; exact hs) L.2, v1, by omega, pre, e, fun q hq => ?_⟩
  obtain ⟨p1, p2, p3⟩ := P q hq
  refine ⟨p1.fr v2 F.W, ?_, p3⟩
  rcases F.nv q.what with x | x
  ·rw [x]; exact p2
  ·exact Or.inr (by omega)
 | gStat i a => rw [hst] at S; exact go1_fr S F (fun s hs => by simp only [Holds, hst]; exact hs)
 | gOwn i a => rw [hst] at S; exact go1_fr S F (fun s hs => by simp only [Holds, hst]; exact hs)
 | gTheir i a u => rw [hst] at S; exact go1_fr S F (fun s hs => by simp only [Holds, hst]; exact hs)
 | gMark i a u q => rw [hst] at S; exact go1_fr S F (fun s hs => by simp only [Holds, hst]; exact hs)
 | gVer i a => rw [hst] at S; exact ⟨run_fr S.1 F (fun s hs => by simp only [Holds, hst]; exact hs), S.2⟩
 | tTake => rw [hst] at S; exact go1_fr S F (fun s hs => by simp only [Holds, hst]; exact hs)
 | tShow => rw [hst] at S; exact go1_fr S F (fun s hs => by simp only [Holds, hst]; exact hs)
 | cStat => rw [hst] at S; exact go1_fr S F (fun s hs => by simp only [Holds, hst]; exact hs)
 | cGate => rw [hst] at S; exact go1_fr S F (fun s hs => by simp only [Holds, hst]; exact hs)
 | cClock => rw [hst] at S; exact go1_fr S F (fun s hs => by simp only [Holds, hst]; exact hs)
 | cVer c r =>
  rw [hst] at S
  obtain ⟨R, v1, v2, pre, e, P⟩ := S
  have hc := F.clk
  refine ⟨go1_fr R F (fun s hs => by simp only [Holds, hst]; exact hs), v1, by omega, pre, e, fun q hq => ?_⟩
  rcases P q hq with x | x
  ·exact Or.inl x
  ·exact Or.inr (x.fr v2 F.W)
 | cShut c r =>
  rw [hst] at S
  have hc := hclk c (by simp [hClk, hst])
  exact ⟨cm_fr (by omega) S.1 F, fun s hs hr => by rw [F.nvh s (by simp only [Holds, hst]; exact hs)]; exact S.2 s hs hr⟩
 | cStamp c =>
  rw [hst] at S
  have hc := hclk c (by simp [hClk, hst])
  exact ⟨cm_fr (by omega) S.1 F, fun s hs => by rw [F.nvh s (by simp only [Holds, hst]; exact hs)]; exact S.2 s hs⟩
 | cLeave c =>
  rw [hst] at S
  have hc := F.clk
  have := S.2.1
  exact ⟨li_fr S.1 F, by omega, fun s hs => ⟨by rw [F.nvh s (by simp only [Holds, hst]; exact hs)]; exact (S.2.2 s hs).1, pend_fr (by simp only [Holds, hst]; exact hs) (S.2.2 s hs).2 F⟩⟩
 | cWord c r =>
  rw [hst] at S
  have hc := F.clk
  have := S.2.1
  exact ⟨li_fr S.1 F, by omega, S.2.2.1, fun s hs => ⟨by rw [F.nvh s (by simp only [Holds, hst]; exact hs)]; exact (S.2.2.2 s hs).1, pend_fr (by simp only [Holds, hst]; exact hs) (S.2.2.2 s hs).2 F⟩⟩
 | cOpen c r =>
  rw [hst] at S
  have hc := F.clk
  have := S.2.1
  exact ⟨li_fr S.1 F, by omega, fun s hs => ⟨by rw [F.nvh s (by simp only [Holds, hst]; exact hs)]; exact (S.2.2 s hs).1, pend_fr (by simp only [Holds, hst]; exact hs) (S.2.2 s hs).2 F⟩⟩
 | cOwn c r =>
  rw [hst] at S
  have hc := F.clk
  have := S.2.1
  exact ⟨li_fr S.1 F, by omega, fun s hs => ⟨by rw [F.nvh s (by simp only [Holds, hst]; exact List.mem_of_mem_tail hs)]; exact (S.2.2 s hs).1, pend_fr (by simp only [Holds, hst]; exact List.mem_of_mem_tail hs) (S.2.2 s hs).2 F⟩⟩
 | free e r => rw [hst] at S; exact li_fr S F
 | fin e => rw [hst] at S; exact li_fr S F
 | fGate => rw [hst] at S; exact li_fr S F
 | fOwn r => rw [hst] at S; exact li_fr S F
 | fTake => rw [hst] at S; exact li_fr S F
 | fStat => rw [hst] at S; exact li_fr S F
 | wait w => rw [hst] at S; exact li_fr S F
 | rest n => rw [hst] at S; exact li_fr S F
structure Same3 (K : Cx) (m m' : Int → Int) : Prop where
 clk : m' 0 = m 0
 ver : ∀ s, 0 ≤ s → s < K.c.s → m' (3 + s) = m (3 + s)
 wd : ∀ a, 0 ≤ a → a < K.c.wd → m' (hWrd K a) = m (hWrd K a)
theorem Same3.fr {K : Cx} {G : Gh} {m m' : Int → Int} (E : Same3 K m m') (h : Th) : Fr K G G m m' h :=
 ⟨by rw [E.clk]; exact Int.le_refl _, fun _ _ _ => rfl, fun _ _ _ _ _ _ _ => rfl, fun _ => Or.inl rfl, fun _ _ => rfl, fun a a0 a1 => Or.inl (E.wd a a0 a1), fun a a0 a1 _ => E.wd a a0 a1, fun s s0 s1 e => Or.inl ⟨by rw [← E.ver s s0 s1]; exact e, rfl⟩⟩
end Go.Proofs.YtejadojilncbjabGreat
