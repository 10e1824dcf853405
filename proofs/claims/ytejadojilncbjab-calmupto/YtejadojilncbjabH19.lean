import Derived.Test.YtejadojilncbjabH18
namespace Go.Proofs.Ytejadojilncbjab
set_option linter.unusedVariables false

/-! All jobs come to their end, part 4: the other accesses; and what an access does to the others. -/

/-! The others. -/

theorem stl_same {K : Cx} {k : Int} {m m' : Int → Int} {h : Th} (X : XOk K k h.x) (ev : ∀ s, 0 ≤ s → s < K.c.s → m' (3 + s) = m (3 + s)) : stl m' h = stl m h := by
  unfold stl
  have : ∀ l : List EntD, (∀ e ∈ l, e ∈ h.x.reads) → (l.any fun e => m' (3 + e.what) != e.val) = (l.any fun e => m (3 + e.what) != e.val) := by
    intro l
    induction l with
    | nil => intro _; rfl
    | cons q r ih =>
      intro hq
      have b := X.rd q (hq q List.mem_cons_self)
      rw [List.any_cons, List.any_cons, ih (fun e he => hq e (List.mem_cons_of_mem _ he)), ev q.what b.1 b.2.1]
  exact this _ (fun _ he => he)

theorem dd_same {K : Cx} {k : Int} {m m' : Int → Int} {h : Th} (X : XOk K k h.x) (ev : ∀ s, 0 ≤ s → s < K.c.s → m' (3 + s) = m (3 + s)) : dd m' h = dd m h := by
  unfold dd
  rw [stl_same X ev]
theorem att_same {K : Cx} {k : Int} {m m' : Int → Int} {h : Th} (s1 : 1 ≤ K.c.s) (A : StepOk K k h) (ev : ∀ s, 0 ≤ s → s < K.c.s → m' (3 + s) = m (3 + s)) : att K m' h = att K m h := by
  unfold StepOk at A
  unfold att
  cases hst : h.st with
  | rWord i a one =>
    rw [hst] at A
    have b := tmodP s1 A.1.1
    simp only
    rw [ev _ b.1 b.2]
  | rAgain i a one w =>
    rw [hst] at A
    have b := tmodP s1 A.1.1
    simp only
    rw [ev _ b.1 b.2]
  | _ => rfl
theorem mm_same {K : Cx} {m m' : Int → Int} {h : Th} (es : m' (3 + 2 * K.c.s + K.me) = m (3 + 2 * K.c.s + K.me)) : mm K m' h = mm K m h := by
  unfold mm mrk
  rw [es]

/-- Owners and the statuses of others may turn: a phase at most. -/
theorem ow_ph {K : Cx} {k : Int} {m m' : Int → Int} {h : Th} (s1 : 1 ≤ K.c.s) (A : ThOk K k h) (ev : ∀ s, 0 ≤ s → s < K.c.s → m' (3 + s) = m (3 + s)) (es : m' (3 + 2 * K.c.s + K.me) = m (3 + 2 * K.c.s + K.me)) : ow K m' h ≤ ow K m h + 6 := by
  have p := ph_le K m h
  have p' := ph_le K m' h
  unfold ow
  rw [att_same s1 A.step ev, dd_same A.x ev, mm_same es]
  omega
/-- A mark comes. -/
theorem ow_mk {K : Cx} {k : Int} {m m' : Int → Int} {h : Th} (s1 : 1 ≤ K.c.s) (A : ThOk K k h) (ev : ∀ s, 0 ≤ s → s < K.c.s → m' (3 + s) = m (3 + s)) : ow K m' h ≤ ow K m h + 1126 := by
  have p := ph_le K m h
  have p' := ph_le K m' h
  have q := mm_le K m h
  have q' := mm_le K m' h
  unfold ow
  rw [att_same s1 A.step ev, dd_same A.x ev]
  omega
/-- On the way of a failure a mark costs nothing. -/
theorem ow_mk0 {K : Cx} {k : Int} {m m' : Int → Int} {h : Th} (s1 : 1 ≤ K.c.s) (A : ThOk K k h) (ev : ∀ s, 0 ≤ s → s < K.c.s → m' (3 + s) = m (3 + s)) (hf : h.st = .fGate ∨ (∃ r, h.st = .fOwn r) ∨ h.st = .fTake ∨ h.st = .fStat) : ow K m' h = ow K m h := by
  unfold ow
  rw [att_same s1 A.step ev, dd_same A.x ev]
  have e : mm K m' h = 0 ∧ mm K m h = 0 ∧ ph K m' h = 0 ∧ ph K m h = 0 := by
    rcases hf with q | ⟨r, q⟩ | q | q <;> (unfold mm ph; rw [q]; exact ⟨rfl, rfl, rfl, rfl⟩)
  rw [e.1, e.2.1, e.2.2.1, e.2.2.2]
theorem ph_same {K : Cx} {m m' : Int → Int} {h : Th} (eo : ∀ x, 3 + K.c.s ≤ x → x < 3 + 2 * K.c.s + K.c.t → m' x = m x) (hme : 0 ≤ K.me ∧ K.me < K.c.t) (s1 : 1 ≤ K.c.s) {k : Int} (A : StepOk K k h) (hpos : ∀ s, 0 ≤ s → s < K.c.s → 0 ≤ m (3 + K.c.s + s) ∧ m (3 + K.c.s + s) ≤ K.c.t) : ph K m' h = ph K m h := by
  have key : ∀ (a : Int) (w : Nat) (u th : Int), 0 ≤ a → (w = 3 → 1 ≤ u ∧ u ≤ K.c.t) → phv K m' h (a.tmod K.c.s) w u th = phv K m h (a.tmod K.c.s) w u th := fun a w u th a0 hu => by
    have b := tmodP s1 a0
    have o := hpos _ b.1 b.2
    have e1 : m' (hOwn K (a.tmod K.c.s)) = m (hOwn K (a.tmod K.c.s)) := eo _ (by unfold hOwn; omega) (by unfold hOwn; omega)
    have e0 : 0 ≤ m (hOwn K (a.tmod K.c.s)) ∧ m (hOwn K (a.tmod K.c.s)) ≤ K.c.t := by unfold hOwn; exact o
    have e2 : mrk K.c m' K.me = mrk K.c m K.me := by unfold mrk; rw [eo _ (by omega) (by omega)]
    have e3 : shn K.c m' (m (hOwn K (a.tmod K.c.s)) - 1) = shn K.c m (m (hOwn K (a.tmod K.c.s)) - 1) := by unfold shn; rw [eo _ (by omega) (by omega)]
    have e4 : mrk K.c m' (m (hOwn K (a.tmod K.c.s)) - 1) = mrk K.c m (m (hOwn K (a.tmod K.c.s)) - 1) := by unfold mrk; rw [eo _ (by omega) (by omega)]
    unfold phv
    rw [e1, e2, e3, e4]
    by_cases hw : w = 3
    · rw [show m' (hSta K (u - 1)) = m (hSta K (u - 1)) from eo _ (by have := hu hw; unfold hSta; omega) (by have := hu hw; unfold hSta; omega)]
    · simp [hw]
  unfold StepOk at A
  unfold ph
  cases hst : h.st with
  | gStat i a => rw [hst] at A; exact key a 0 0 0 A.1.1 (by omega)
  | gOwn i a => rw [hst] at A; exact key a 1 0 0 A.1.1 (by omega)
  | gTheir i a u => rw [hst] at A; exact key a 2 u 0 A.1.1.1 (by omega)
  | gMark i a u th => rw [hst] at A; exact key a 3 u th A.1.1.1 (fun _ => A.2.1)
  | _ => rfl

/-- A version may turn, the rest stays. -/
theorem ow_ver {K : Cx} {k : Int} {m m' : Int → Int} {h : Th} (eo : ∀ x, 3 + K.c.s ≤ x → m' x = m x) (hme : 0 ≤ K.me ∧ K.me < K.c.t) (s1 : 1 ≤ K.c.s) (A : StepOk K k h) (hpos : ∀ s, 0 ≤ s → s < K.c.s → 0 ≤ m (3 + K.c.s + s) ∧ m (3 + K.c.s + s) ≤ K.c.t) : ow K m' h ≤ ow K m h + 1123 := by
  have p := ph_same (h := h) (fun x a _ => eo x a) hme s1 A hpos
  have d := dd_le m h
  have d' := dd_le m' h
  have em : mm K m' h = mm K m h := mm_same (eo _ (by omega))
  have ea : att K m' h ≤ att K m h + 3 := by
    unfold att
    cases hst : h.st with
    | rWord i a one =>
      simp only
      by_cases h1 : m (3 + a.tmod K.c.s) = one <;> by_cases h2 : m' (3 + a.tmod K.c.s) = one <;> simp [h1, h2] <;> omega
    | rAgain i a one w =>
      simp only
      by_cases h1 : m (3 + a.tmod K.c.s) = one <;> by_cases h2 : m' (3 + a.tmod K.c.s) = one <;> simp [h1, h2] <;> omega
    | _ => exact Int.le_add_of_nonneg_right (by omega)
  unfold ow
  rw [em, p]
  omega
/-- A stripe that was shut is opened: nothing is lost by that. -/
theorem ow_opened {K : Cx} {k : Int} {m : Int → Int} {h : Th} {s v : Int} (hme : 0 ≤ K.me ∧ K.me < K.c.t) (s1 : 1 ≤ K.c.s) (b : 0 ≤ s ∧ s < K.c.s) (A : ThOk K k h) (hpos : ∀ s, 0 ≤ s → s < K.c.s → 0 ≤ m (3 + K.c.s + s) ∧ m (3 + K.c.s + s) ≤ K.c.t) (hs : m (3 + s) = -1) : ow K (upd m (3 + s) v) h ≤ ow K m h := by
  have eo : ∀ x, 3 + K.c.s ≤ x → upd m (3 + s) v x = m x := fun x hx => upd_off (by omega)
  have p := ph_same (h := h) (fun x a _ => eo x a) hme s1 A.step hpos
  have em : mm K (upd m (3 + s) v) h = mm K m h := mm_same (eo _ (by omega))
  have ed : dd (upd m (3 + s) v) h ≤ dd m h := by
    have est : stl (upd m (3 + s) v) h = true → stl m h = true := by
      unfold stl
      rw [List.any_eq_true, List.any_eq_true]
      rintro ⟨e, he, q⟩
      refine ⟨e, he, ?_⟩
      have be := A.x.rd e he
      by_cases hh : e.what = s
      · rw [hh, hs]
        have := be.2.2.1
        simp
        omega
      · rw [upd_off (by omega)] at q
        exact q
    have key : (if stl (upd m (3 + s) v) h = true then (1 : Int) else 0) ≤ (if stl m h = true then 1 else 0) := by
      by_cases q : stl (upd m (3 + s) v) h = true
      · rw [if_pos q, if_pos (est q)]; exact Int.le_refl _
      · rw [if_neg q]; split <;> omega
    unfold dd
    cases hst : h.st <;> first
      | exact Int.le_refl _
      | exact key
  have ea : att K (upd m (3 + s) v) h ≤ att K m h := by
    have B := A.step
    unfold StepOk at B
    unfold att
    cases hst : h.st with
    | rWord i a one =>
      rw [hst] at B
      simp only
      by_cases hh : a.tmod K.c.s = s
      · rw [hh, hs, if_neg (show ¬ ((-1 : Int) = one) by have := B.2.1; omega)]
        split <;> omega
      · rw [upd_off (by omega)]
        exact Int.le_refl _
    | rAgain i a one w =>
      rw [hst] at B
      simp only
      by_cases hh : a.tmod K.c.s = s
      · rw [hh, hs, if_neg (show ¬ ((-1 : Int) = one) by have := B.2.1.1; omega)]
        split <;> omega
      · rw [upd_off (by omega)]
        exact Int.le_refl _
    | _ => exact Int.le_refl _
  unfold ow
  rw [em, p]
  omega

/-! Its own. -/

/-- It gets a stripe. -/
theorem ow_got1 {K : Cx} {k : Int} {m : Int → Int} {h : Th} {i : InsD} {a : Int} {v : AnsD} (s1 : 1 ≤ K.c.s) (A : ThOk K k h) (hme : 0 ≤ K.me) (hst : h.st = .gOwn i a) (hv : v.seen = 0) : ow K (upd m (hOwn K (a.tmod K.c.s)) (K.me + 1)) (hNext K h v) + 21 ≤ ow K m h := by
  have hs := A.step
  unfold StepOk at hs
  rw [hst] at hs
  have b := tmodP s1 hs.1.1
  have hn : hNext K h v = { h with x := { h.x with held := h.x.held ++ [a.tmod K.c.s] }, st := .gVer i a } := by
    unfold hNext
    rw [hst]
    simp only
    rw [if_pos hv]
  rw [hn, ow_run (h := h) (by rw [hst]; trivial), ow_run (h := { h with x := { h.x with held := h.x.held ++ [a.tmod K.c.s] }, st := .gVer i a }) trivial]
  have ev : ∀ s, 0 ≤ s → s < K.c.s → upd m (hOwn K (a.tmod K.c.s)) (K.me + 1) (3 + s) = m (3 + s) := fun s x y => upd_off (by unfold hOwn; omega)
  have es : stl (upd m (hOwn K (a.tmod K.c.s)) (K.me + 1)) h = stl m h := stl_same A.x ev
  have e1 : STl (upd m (hOwn K (a.tmod K.c.s)) (K.me + 1)) { h with x := { h.x with held := h.x.held ++ [a.tmod K.c.s] }, st := .gVer i a } = STl m h := by
    unfold STl
    rw [show stl (upd m (hOwn K (a.tmod K.c.s)) (K.me + 1)) { h with x := { h.x with held := h.x.held ++ [a.tmod K.c.s] }, st := .gVer i a } = stl (upd m (hOwn K (a.tmod K.c.s)) (K.me + 1)) h from rfl, es]
  have e2 : MK K (upd m (hOwn K (a.tmod K.c.s)) (K.me + 1)) = MK K m := by
    unfold MK mrk
    rw [upd_off (by unfold hOwn; omega)]
  have e3 : att K (upd m (hOwn K (a.tmod K.c.s)) (K.me + 1)) { h with x := { h.x with held := h.x.held ++ [a.tmod K.c.s] }, st := .gVer i a } = b0 K h - 20 + 3 + r0 h := by
    show 12 * (K.c.f - (h.x.begun : Int)) + 20 * (8 - (((h.x.held ++ [a.tmod K.c.s]).length : Nat) : Int)) + 240 + 3 + r0 h = _
    rw [List.length_append]
    unfold b0
    simp only [List.length_singleton]
    omega
  have e4 : att K m h = b0 K h + 4 + r0 h := by unfold att; rw [hst]
  have p := ph_le K m h
  rw [e1, e2, e3, e4]
  show b0 K h - 20 + 3 + r0 h + 0 + 1120 * RA K h + 1120 * STl m h + 1120 * MK K m + 26960 - 13 * h.x.valid + 21 ≤ _
  omega

/-- It gives one back, behind a commit. -/
theorem ow_own1 {K : Cx} {m m' : Int → Int} {h : Th} {c s : Int} {r : List Int} {v : AnsD} (hst : h.st = .cOwn c (s :: r)) (hl : LenOk (hNext K h v)) : ow K m' (hNext K h v) + 19 ≤ ow K m h := by
  have hn : hNext K h v = hOpenAt c r h := by unfold hNext; rw [hst]
  rw [hn] at hl ⊢
  have G1 := ow_openAt (m := m') (K := K) r hl
  have e0 : ow K m h = 21 + 20 * (((s :: r).length : Nat) : Int) + 0 + 1120 * RA K h + 1120 * 0 + 1120 * 0 + 3370 * 0 - 13 * h.x.valid := by
    unfold ow att ph dd mm shl
    rw [ra_run (by rw [hst]; simp) (by rw [hst]; simp), hst]
    rfl
  rw [e0, List.length_cons]
  omega
theorem ow_free1 {K : Cx} {m m' : Int → Int} {h : Th} {e s : Int} {r : List Int} {v : AnsD} (hst : h.st = .free e (s :: r)) : ow K m' (hNext K h v) + 20 ≤ ow K m h := by
  have hn : hNext K h v = hFreeAt e r h := by unfold hNext; rw [hst]
  have e0 : ow K m h = 22 + 20 * (((s :: r).length : Nat) : Int) + 0 + 1120 * RA K h + 1120 * 0 + 1120 * 0 + 3370 * 8 - 13 * h.x.valid := by
    unfold ow att ph dd mm shl
    rw [ra_run (by rw [hst]; simp) (by rw [hst]; simp), hst]
    rfl
  rw [hn, e0, List.length_cons]
  cases r with
  | nil =>
    show 20 + 0 + 1120 * RA K h + 1120 * 0 + 1120 * 0 + 3370 * 0 - 13 * h.x.valid + 20 ≤ _
    simp only [List.length_nil]
    omega
  | cons q r =>
    show 22 + 20 * (((q :: r).length : Nat) : Int) + 0 + 1120 * RA K h + 1120 * 0 + 1120 * 0 + 3370 * 8 - 13 * h.x.valid + 20 ≤ _
    omega
theorem ow_fown1 {K : Cx} {m m' : Int → Int} {h : Th} {s : Int} {r : List Int} {v : AnsD} (hst : h.st = .fOwn (s :: r)) (hl : LenOk (hNext K h v)) : ow K m' (hNext K h v) + 20 ≤ ow K m h := by
  have hn : hNext K h v = hFailOwn K r h := by unfold hNext; rw [hst]
  rw [hn] at hl ⊢
  have G1 := ow_failown (m := m') (K := K) r hl
  have er : ra K h = if h.rank = 0 then K.c.r - h.fails else 0 := by unfold ra; rw [hst]
  have e0 : ow K m h = 912 + 20 * (((s :: r).length : Nat) : Int) + r0 h + 0 + 1120 * ra K h + 1120 * 0 + 1120 * 0 + 3370 * 8 - 13 * h.x.valid := by
    unfold ow att ph dd mm shl
    rw [hst]
  rw [e0, er, List.length_cons]
  omega
/-- It shows its rank. -/
theorem ow_show1 {K : Cx} {k : Int} {m : Int → Int} {h : Th} {v : AnsD} (s1 : 1 ≤ K.c.s) (A : ThOk K k h) (hme : 0 ≤ K.me) (hst : h.st = .tShow) (hv : v.seen = 0) (hl : LenOk (hNext K h v)) : ow K (upd m (hSta K K.me) (8 * h.rank)) (hNext K h v) + 23 ≤ ow K m h := by
  have hn : hNext K h v = hGo K h := by
    unfold hNext
    rw [hst]
    simp only
    rw [if_neg (by rw [hv]; simp)]
  rw [hn] at hl ⊢
  have G1 := ow_go' (m := upd m (hSta K K.me) (8 * h.rank)) A.x.bg hl
  have ev : ∀ s, 0 ≤ s → s < K.c.s → upd m (hSta K K.me) (8 * h.rank) (3 + s) = m (3 + s) := fun s x y => upd_off (by unfold hSta; omega)
  have e1 : STl (upd m (hSta K K.me) (8 * h.rank)) h = STl m h := by unfold STl; rw [stl_same A.x ev]
  have e2 : MK K (upd m (hSta K K.me) (8 * h.rank)) = 0 := by
    unfold MK mrk
    rw [show (3 + 2 * K.c.s + K.me) = hSta K K.me from rfl, upd_at, if_neg (by omega)]
  rw [e1, e2] at G1
  have e4 : att K m h = b0 K h + 21 + r0 h := by unfold att; rw [hst]
  have mk := mk_le K m
  have p := ph_le K m h
  rw [ow_run (h := h) (by rw [hst]; trivial), e4]
  omega
/-- It shuts a stripe. -/
theorem ow_shut1 {K : Cx} {m m' : Int → Int} {h : Th} {c s : Int} {r : List Int} {v : AnsD} (hst : h.st = .cShut c (s :: r)) : ow K m' (hNext K h v) + 3371 ≤ ow K m h := by
  have hn : hNext K h v = hShutAt c r h := by unfold hNext; rw [hst]
  have e0 : ow K m h = 200 + (((s :: r).length : Nat) : Int) + 0 + 1120 * RA K h + 1120 * 0 + 1120 * 0 + 3370 * (((s :: r).length : Nat) : Int) - 13 * h.x.valid := by
    unfold ow att ph dd mm shl
    rw [ra_run (by rw [hst]; simp) (by rw [hst]; simp), hst]
    rfl
  rw [hn, e0, List.length_cons]
  cases r with
  | nil =>
    show 200 + 0 + 1120 * RA K h + 1120 * 0 + 1120 * 0 + 3370 * 0 - 13 * h.x.valid + 3371 ≤ _
    simp only [List.length_nil]
    omega
  | cons q r =>
    show 200 + (((q :: r).length : Nat) : Int) + 0 + 1120 * RA K h + 1120 * 0 + 1120 * 0 + 3370 * (((q :: r).length : Nat) : Int) - 13 * h.x.valid + 3371 ≤ _
    omega
theorem ow_open1 {K : Cx} {m m' : Int → Int} {h : Th} {c s : Int} {r : List Int} {v : AnsD} (hst : h.st = .cOpen c (s :: r)) : ow K m' (hNext K h v) + 1 ≤ ow K m h := by
  have hn : hNext K h v = { h with st := .cOwn c (s :: r) } := by unfold hNext; rw [hst]
  have e0 : ow K m h = 22 + 20 * (((s :: r).length : Nat) : Int) + 0 + 1120 * RA K h + 1120 * 0 + 1120 * 0 + 3370 * 0 - 13 * h.x.valid := by
    unfold ow att ph dd mm shl
    rw [ra_run (by rw [hst]; simp) (by rw [hst]; simp), hst]
    rfl
  rw [hn, e0]
  show 21 + 20 * (((s :: r).length : Nat) : Int) + 0 + 1120 * RA K h + 1120 * 0 + 1120 * 0 + 3370 * 0 - 13 * h.x.valid + 1 ≤ _
  omega
theorem ow_stamp1 {K : Cx} {m m' : Int → Int} {h : Th} {c : Int} {v : AnsD} (hst : h.st = .cStamp c) : ow K m' (hNext K h v) + 1 ≤ ow K m h := by
  have hn : hNext K h v = { h with list := modLast h.list (fun q => { q with stamp := c + 1 }), st := .cLeave c } := by unfold hNext; rw [hst]
  have e0 : ow K m h = 200 + 0 + 1120 * RA K h + 1120 * 0 + 1120 * 0 + 3370 * 0 - 13 * h.x.valid := by
    unfold ow att ph dd mm shl
    rw [ra_run (by rw [hst]; simp) (by rw [hst]; simp), hst]
    rfl
  rw [hn, e0]
  show 199 + 0 + 1120 * RA K h + 1120 * 0 + 1120 * 0 + 3370 * 0 - 13 * h.x.valid + 1 ≤ _
  omega
/-- It marks another one. -/
theorem ow_mark1 {K : Cx} {k : Int} {m : Int → Int} {h : Th} {i : InsD} {a u th w : Int} {v : AnsD} (s1 : 1 ≤ K.c.s) (A : ThOk K k h) (hme : 0 ≤ K.me) (hu : u - 1 ≠ K.me) (hu1 : 1 ≤ u) (hst : h.st = .gMark i a u th) : ow K (upd m (hSta K (u - 1)) w) (hNext K h v) ≤ ow K m h + 6 := by
  have hn : hNext K h v = { h with st := .gStat i a } := by unfold hNext; rw [hst]
  have ev : ∀ s, 0 ≤ s → s < K.c.s → upd m (hSta K (u - 1)) w (3 + s) = m (3 + s) := fun s x y => upd_off (by unfold hSta; omega)
  have e1 : STl (upd m (hSta K (u - 1)) w) { h with st := .gStat i a } = STl m h := by
    unfold STl
    rw [show stl (upd m (hSta K (u - 1)) w) { h with st := .gStat i a } = stl (upd m (hSta K (u - 1)) w) h from rfl, stl_same A.x ev]
  have e2 : MK K (upd m (hSta K (u - 1)) w) = MK K m := by
    unfold MK mrk
    rw [upd_off (by unfold hSta; omega)]
  have e4 : att K m h = b0 K h + 4 + r0 h := by unfold att; rw [hst]
  have p := ph_le K m h
  have p' := ph_le K (upd m (hSta K (u - 1)) w) { h with st := .gStat i a }
  rw [hn, ow_run (h := h) (by rw [hst]; trivial), ow_run (h := { h with st := .gStat i a }) trivial, e1, e2, e4]
  show b0 K h + 4 + r0 h + _ + 1120 * RA K h + 1120 * STl m h + 1120 * MK K m + 26960 - 13 * h.x.valid ≤ _
  omega
/-- A failure is over: it stores its rank. -/
theorem ow_stat1 {K : Cx} {k : Int} {m : Int → Int} {h : Th} {v : AnsD} (hme : 0 ≤ K.me) (hst : h.st = .fStat) (hl : LenOk (hNext K h v)) : ow K (upd m (hSta K K.me) (8 * h.rank)) (hNext K h v) + 21 ≤ ow K m h := by
  have e0 : ow K m h = 911 + r0 h + 0 + 1120 * RA K h + 1120 * 0 + 1120 * 0 + 3370 * 8 - 13 * h.x.valid := by
    unfold ow att ph dd mm shl
    rw [ra_run (by rw [hst]; simp) (by rw [hst]; simp), hst]
    rfl
  have e2 : MK K (upd m (hSta K K.me) (8 * h.rank)) = 0 := by
    unfold MK mrk
    rw [show (3 + 2 * K.c.s + K.me) = hSta K K.me from rfl, upd_at, if_neg (by omega)]
  rw [e0]
  unfold hNext at hl ⊢
  rw [hst] at hl ⊢
  simp only at hl ⊢
  generalize (if 0 < v.seen.tmod 8 then v.seen.tmod 8 - 1 else h.x.way) = win at hl ⊢
  by_cases hw : 0 ≤ win
  · rw [if_pos hw]
    show 882 + r0 h + 0 + 1120 * RA K h + 1120 * 0 + 1120 * MK K (upd m (hSta K K.me) (8 * h.rank)) + 3370 * 8 - 13 * h.x.valid + 21 ≤ _
    rw [e2]
    omega
  · rw [if_neg hw] at hl ⊢
    unfold hRest at hl ⊢
    simp only at hl ⊢
    generalize (v.draw.tmod ((if (h.ended v.num 5).fails < K.c.cp then (h.ended v.num 5).fails else K.c.cp) + 1)).toNat = n at hl ⊢
    by_cases hd : 0 < v.draw ∧ n ≠ 0
    · rw [if_pos hd] at hl ⊢
      have l2 : n ≤ 8 := hl.2
      show 882 + (n : Int) + r0 h + 0 + 1120 * RA K h + 1120 * 0 + 1120 * MK K (upd m (hSta K K.me) (8 * h.rank)) + 3370 * 8 - 13 * h.x.valid + 21 ≤ _
      rw [e2]
      omega
    · rw [if_neg hd]
      show 881 + r0 h + 0 + 1120 * RA K h + 1120 * 0 + 1120 * MK K (upd m (hSta K K.me) (8 * h.rank)) + 3370 * 8 - 13 * h.x.valid + 21 ≤ _
      rw [e2]
      omega

end Go.Proofs.Ytejadojilncbjab

namespace Go.Proofs.Ytejadojilncbjab
set_option linter.unusedVariables false

/-! All jobs come to their end, part 5: all threads together. -/

def cntJ (jobs : List (Int × List InsD)) (t : Int) (j : Nat) : Int := (((jobs.drop j).filter fun b => decide (b.1 = t)).length : Int)
/-- How many jobs it has not finished. -/
def njH (jobs : List (Int × List InsD)) (t : Int) (h : Th) : Int := match h.st with
  | .idle => 0
  | _ => cntJ jobs t h.job
/-- How many stamps it may still draw. -/
def usH (jobs : List (Int × List InsD)) (t : Int) (h : Th) : Int := match h.st with
  | .idle => 0
  | .cLeave _ => cntJ jobs t h.job - 1
  | .cWord _ _ => cntJ jobs t h.job - 1
  | .cOpen _ _ => cntJ jobs t h.job - 1
  | .cOwn _ _ => cntJ jobs t h.job - 1
  | .fin _ => cntJ jobs t h.job - 1
  | _ => cntJ jobs t h.job

/-- t bears a mark of u's that counts. -/
def aU (c : Cfg) (m : Int → Int) (t u : Int) : Int := if mrk c m t = u + 1 ∧ 0 < shn c m u ∧ (shn c m t = 0 ∨ shn c m u < shn c m t) then 1145 else 0
/-- It waits for u, and that counts. -/
def fU (c : Cfg) (m : Int → Int) (h : Th) (u : Int) : Int := match h.st with
  | .wait w => if w = u ∧ 0 < shn c m u ∧ (h.rank = 0 ∨ shn c m u < h.rank) then 1145 else 0
  | _ => 0
/-- It is about to wait for u, to whom it gave way. -/
def wU (c : Cfg) (m : Int → Int) (t : Int) (h : Th) (u : Int) : Int := match h.st with
  | .fGate => if (h.x.way = u ∧ mrk c m t = 0) ∧ 0 < shn c m u ∧ (h.rank = 0 ∨ shn c m u < h.rank) then 1120 else 0
  | .fOwn _ => if (h.x.way = u ∧ mrk c m t = 0) ∧ 0 < shn c m u ∧ (h.rank = 0 ∨ shn c m u < h.rank) then 1120 else 0
  | .fTake => if (h.x.way = u ∧ mrk c m t = 0) ∧ 0 < shn c m u ∧ (h.rank = 0 ∨ shn c m u < h.rank) then 1120 else 0
  | .fStat => if (h.x.way = u ∧ mrk c m t = 0) ∧ 0 < shn c m u ∧ (h.rank = 0 ∨ shn c m u < h.rank) then 1120 else 0
  | _ => 0

def S4 (f : Int → Int) : Int := f 0 + f 1 + f 2 + f 3
theorem S4_step {f f' : Int → Int} {t p d : Int} (t0 : 0 ≤ t) (t1 : t ≤ 3) (ho : ∀ u, 0 ≤ u → u ≤ 3 → u ≠ t → f' u ≤ f u + p) (hp : 0 ≤ p) (ht : f' t + 3 * p + d ≤ f t) : S4 f' + d ≤ S4 f := by
  unfold S4
  have c : t = 0 ∨ t = 1 ∨ t = 2 ∨ t = 3 := by omega
  rcases c with e | e | e | e <;> subst e
  · have h1 := ho 1 (by omega) (by omega) (by omega); have h2 := ho 2 (by omega) (by omega) (by omega); have h3 := ho 3 (by omega) (by omega) (by omega); omega
  · have h1 := ho 0 (by omega) (by omega) (by omega); have h2 := ho 2 (by omega) (by omega) (by omega); have h3 := ho 3 (by omega) (by omega) (by omega); omega
  · have h1 := ho 0 (by omega) (by omega) (by omega); have h2 := ho 1 (by omega) (by omega) (by omega); have h3 := ho 3 (by omega) (by omega) (by omega); omega
  · have h1 := ho 0 (by omega) (by omega) (by omega); have h2 := ho 1 (by omega) (by omega) (by omega); have h3 := ho 2 (by omega) (by omega) (by omega); omega
theorem S4_le {f f' : Int → Int} (h : ∀ u, 0 ≤ u → u ≤ 3 → f' u ≤ f u) : S4 f' ≤ S4 f := by
  unfold S4
  have h0 := h 0 (by omega) (by omega); have h1 := h 1 (by omega) (by omega); have h2 := h 2 (by omega) (by omega); have h3 := h 3 (by omega) (by omega)
  omega
theorem S4_one {f f' : Int → Int} {t d : Int} (t0 : 0 ≤ t) (t1 : t ≤ 3) (h : ∀ u, 0 ≤ u → u ≤ 3 → u ≠ t → f' u ≤ f u) (ht : f' t ≤ f t + d) : S4 f' ≤ S4 f + d := by
  have := S4_step (f := f) (f' := f') (t := t) (p := 0) (d := - d) t0 t1 (fun u a b e => by have := h u a b e; omega) (Int.le_refl _) (by omega)
  omega

/-- What t may still lose by u. -/
def cr (c : Cfg) (jobs : List (Int × List InsD)) (m : Int → Int) (th : Int → Th) (t u : Int) : Int := if u < c.t ∧ u ≠ t then 2290 * njH jobs u (th u) - aU c m t u - fU c m (th t) u - wU c m t (th t) u else 0
def CU (c : Cfg) (jobs : List (Int × List InsD)) (m : Int → Int) (th : Int → Th) : Int := m 0 + S4 fun u => if u < c.t then usH jobs u (th u) else 0
def pb (c : Cfg) (jobs : List (Int × List InsD)) (m : Int → Int) (th : Int → Th) (t : Int) : Int := 50640 * (njH jobs t (th t) - 1) + ow (cxOf c jobs t) m (th t) + 13 * CU c jobs m th + (if shn c m t = 0 then 1145 else 0) + S4 (cr c jobs m th t)
def pt (c : Cfg) (jobs : List (Int × List InsD)) (m : Int → Int) (th : Int → Th) (t : Int) : Int := if t < c.t then (match (th t).st with
  | .idle => 0
  | _ => pb c jobs m th t) else 0
def Phi (c : Cfg) (jobs : List (Int × List InsD)) (m : Int → Int) (th : Int → Th) : Int := S4 (pt c jobs m th)

theorem pt_of {c : Cfg} {jobs : List (Int × List InsD)} {m : Int → Int} {th : Int → Th} {t : Int} (h : t < c.t) (hi : (th t).st ≠ .idle) : pt c jobs m th t = pb c jobs m th t := by
  unfold pt
  rw [if_pos h]
  cases hst : (th t).st <;> first
    | exact absurd hst hi
    | rfl

/-- The cells that the potential looks at. -/
structure Same4 (c : Cfg) (m m' : Int → Int) : Prop where
  clk : m' 0 = m 0
  ver : ∀ s, 0 ≤ s → s < c.s → m' (3 + s) = m (3 + s)
  own : ∀ x, 3 + c.s ≤ x → x < 3 + 2 * c.s + c.t → m' x = m x

theorem Same4.sta {c : Cfg} {m m' : Int → Int} (E : Same4 c m m') (s1 : 0 ≤ c.s) {t : Int} (t0 : 0 ≤ t) (t1 : t < c.t) : shn c m' t = shn c m t ∧ mrk c m' t = mrk c m t := by
  unfold shn mrk
  rw [E.own _ (by omega) (by omega)]
  exact ⟨rfl, rfl⟩
theorem Same4.ow {c : Cfg} {jobs : List (Int × List InsD)} {m m' : Int → Int} (E : Same4 c m m') (s1 : 1 ≤ c.s) {t k : Int} (t0 : 0 ≤ t) (t1 : t < c.t) {h : Th} (A : ThOk (cxOf c jobs t) k h) (hpos : ∀ s, 0 ≤ s → s < c.s → 0 ≤ m (3 + c.s + s) ∧ m (3 + c.s + s) ≤ c.t) : Go.Proofs.Ytejadojilncbjab.ow (cxOf c jobs t) m' h = Go.Proofs.Ytejadojilncbjab.ow (cxOf c jobs t) m h := by
  unfold Go.Proofs.Ytejadojilncbjab.ow
  have es : m' (3 + 2 * c.s + t) = m (3 + 2 * c.s + t) := E.own _ (by omega) (by omega)
  rw [att_same (K := cxOf c jobs t) s1 A.step E.ver, dd_same (K := cxOf c jobs t) A.x E.ver, mm_same (K := cxOf c jobs t) es, ph_same (K := cxOf c jobs t) E.own ⟨t0, t1⟩ s1 A.step hpos]

theorem u_le (c : Cfg) (m : Int → Int) (t u : Int) (h : Th) : 0 ≤ aU c m t u ∧ aU c m t u ≤ 1145 ∧ 0 ≤ fU c m h u ∧ fU c m h u ≤ 1145 ∧ 0 ≤ wU c m t h u ∧ wU c m t h u ≤ 1120 := by
  refine ⟨?_, ?_, ?_, ?_, ?_, ?_⟩
  · unfold aU; split <;> omega
  · unfold aU; split <;> omega
  · unfold fU; split; split <;> omega; omega
  · unfold fU; split; split <;> omega; omega
  · unfold wU; split <;> first | omega | (split <;> omega)
  · unfold wU; split <;> first | omega | (split <;> omega)

end Go.Proofs.Ytejadojilncbjab

namespace Go.Proofs.Ytejadojilncbjab
set_option linter.unusedVariables false

/-! All jobs come to their end, part 6: an access that turns no clock, version, owner or status, seen by all. -/

theorem nj_same {jobs : List (Int × List InsD)} {t : Int} {h h' : Th} (hi : h.st ≠ .idle) (hi' : h'.st ≠ .idle) (hj : h'.job = h.job) : njH jobs t h' = njH jobs t h := by
  have e : ∀ y : Th, y.st ≠ .idle → njH jobs t y = cntJ jobs t y.job := fun y hy => by
    unfold njH
    cases hst : y.st <;> first
      | exact absurd hst hy
      | rfl
  rw [e h hi, e h' hi', hj]

theorem cu_le {c : Cfg} {jobs : List (Int × List InsD)} {m m' : Int → Int} {th : Int → Th} {t d : Int} {h' : Th} (t0 : 0 ≤ t) (t1 : t < c.t) (t4 : c.t ≤ 4) (hm : m' 0 ≤ m 0 + d) (hu : usH jobs t h' + d ≤ usH jobs t (th t)) : CU c jobs m' (thSet th t h') ≤ CU c jobs m th := by
  unfold CU
  have := S4_one (f := fun u => if u < c.t then usH jobs u (th u) else 0) (f' := fun u => if u < c.t then usH jobs u (thSet th t h' u) else 0) (t := t) (d := - d) t0 (by omega) (fun u a b e => by
    rw [thset_off e]
    exact Int.le_refl _) (by
    rw [if_pos t1, if_pos t1, thset_at]
    omega)
  omega

theorem cr_other {c : Cfg} {jobs : List (Int × List InsD)} {m m' : Int → Int} {th : Int → Th} {t : Int} {h' : Th} (hst : ∀ u, 0 ≤ u → u < c.t → shn c m' u = shn c m u ∧ mrk c m' u = mrk c m u) (hn : njH jobs t h' = njH jobs t (th t)) {u : Int} (u0 : 0 ≤ u) (u1 : u < c.t) (hu : u ≠ t) : S4 (cr c jobs m' (thSet th t h') u) ≤ S4 (cr c jobs m th u) := by
  refine S4_le (fun v v0 v1 => ?_)
  unfold cr
  by_cases hv : v < c.t ∧ v ≠ u
  · rw [if_pos hv, if_pos hv, thset_off hu]
    have eu := hst u u0 u1
    have ev := hst v v0 hv.1
    have e1 : aU c m' u v = aU c m u v := by unfold aU; rw [eu.1, eu.2, ev.1]
    have e2 : fU c m' (th u) v = fU c m (th u) v := by unfold fU; rw [ev.1]
    have e3 : wU c m' u (th u) v = wU c m u (th u) v := by unfold wU; rw [eu.2, ev.1]
    rw [e1, e2, e3]
    by_cases hvt : v = t
    · rw [hvt, thset_at, hn]; exact Int.le_refl _
    · rw [thset_off hvt]; exact Int.le_refl _
  · rw [if_neg hv, if_neg hv]; exact Int.le_refl _

theorem phi_quiet {c : Cfg} {jobs : List (Int × List InsD)} {m m' : Int → Int} {th : Int → Th} {t k k' d e : Int} {h' : Th} (s1 : 1 ≤ c.s) (t0 : 0 ≤ t) (t1 : t < c.t) (t4 : c.t ≤ 4) (T : ∀ u, 0 ≤ u → u < c.t → ThOk (cxOf c jobs u) k (th u)) (hpos : ∀ s, 0 ≤ s → s < c.s → 0 ≤ m (3 + c.s + s) ∧ m (3 + c.s + s) ≤ c.t)
    (E : Same4 c m m') (hi : (th t).st ≠ .idle) (hi' : h'.st ≠ .idle) (hj : h'.job = (th t).job) (hus : usH jobs t h' ≤ usH jobs t (th t)) (A' : ThOk (cxOf c jobs t) k' h') (ho : ow (cxOf c jobs t) m h' + d ≤ ow (cxOf c jobs t) m (th t) + e)
    (hf : S4 (cr c jobs m (thSet th t h') t) + e ≤ S4 (cr c jobs m th t)) : Phi c jobs m' (thSet th t h') + d ≤ Phi c jobs m th := by
  have hn := nj_same (jobs := jobs) (t := t) hi hi' hj
  have hcu := cu_le (c := c) (jobs := jobs) (m := m) (m' := m') (th := th) (t := t) (d := 0) (h' := h') t0 t1 t4 (by rw [E.clk]; omega) (by omega)
  have st : ∀ u, 0 ≤ u → u < c.t → shn c m' u = shn c m u ∧ mrk c m' u = mrk c m u := fun u a b => E.sta (by omega) a b
  unfold Phi
  refine S4_step (t := t) (p := 0) t0 (by omega) (fun u u0 u1 hu => ?_) (Int.le_refl _) ?_
  · by_cases h1 : u < c.t
    · by_cases h2 : (th u).st = .idle
      · unfold pt
        rw [if_pos h1, if_pos h1, thset_off hu, h2]
        show (0 : Int) ≤ 0 + 0
        omega
      · rw [pt_of h1 (by rw [thset_off hu]; exact h2), pt_of h1 h2]
        unfold pb
        have e1 := cr_other (jobs := jobs) st hn u0 h1 hu
        rw [thset_off hu, E.ow s1 u0 h1 (T u u0 h1) hpos, (st u u0 h1).1]
        omega
    · unfold pt
      rw [if_neg h1, if_neg h1]
      omega
  · rw [pt_of t1 (by rw [thset_at]; exact hi'), pt_of t1 hi]
    unfold pb
    rw [thset_at, hn, E.ow s1 t0 t1 A' hpos, (st t t0 t1).1]
    have e2 : S4 (cr c jobs m' (thSet th t h') t) = S4 (cr c jobs m (thSet th t h') t) := by
      have : ∀ u, 0 ≤ u → u ≤ 3 → cr c jobs m' (thSet th t h') t u = cr c jobs m (thSet th t h') t u := fun u u0 u1 => by
        unfold cr
        by_cases hv : u < c.t ∧ u ≠ t
        · rw [if_pos hv, if_pos hv]
          have e1 : aU c m' t u = aU c m t u := by unfold aU; rw [(st t t0 t1).1, (st t t0 t1).2, (st u u0 hv.1).1]
          have e2 : fU c m' (thSet th t h' t) u = fU c m (thSet th t h' t) u := by unfold fU; rw [(st u u0 hv.1).1]
          have e3 : wU c m' t (thSet th t h' t) u = wU c m t (thSet th t h' t) u := by unfold wU; rw [(st t t0 t1).2, (st u u0 hv.1).1]
          rw [e1, e2, e3]
        · rw [if_neg hv, if_neg hv]
      unfold S4
      rw [this 0 (by omega) (by omega), this 1 (by omega) (by omega), this 2 (by omega) (by omega), this 3 (by omega) (by omega)]
    rw [e2]
    omega

/-- The credit of the thread itself, where nothing that it waits for is given up. -/
theorem cr_own {c : Cfg} {jobs : List (Int × List InsD)} {m : Int → Int} {th : Int → Th} {t : Int} {h' : Th} (hf : ∀ u, 0 ≤ u → u < c.t → u ≠ t → fU c m (th t) u + wU c m t (th t) u ≤ fU c m h' u + wU c m t h' u) : S4 (cr c jobs m (thSet th t h') t) + 0 ≤ S4 (cr c jobs m th t) := by
  have := S4_le (f := cr c jobs m th t) (f' := cr c jobs m (thSet th t h') t) (fun u u0 u1 => by
    unfold cr
    by_cases hv : u < c.t ∧ u ≠ t
    · rw [if_pos hv, if_pos hv, thset_at, thset_off hv.2]
      have := hf u u0 hv.1 hv.2
      omega
    · rw [if_neg hv, if_neg hv]; exact Int.le_refl _)
  omega
/-- Where it gives way to v. -/
theorem cr_gave {c : Cfg} {jobs : List (Int × List InsD)} {m : Int → Int} {th : Int → Th} {t v : Int} {h' : Th} (t4 : c.t ≤ 4) (v0 : 0 ≤ v) (v1 : v < c.t) (hvt : v ≠ t) (h0 : ∀ u, fU c m (th t) u = 0 ∧ wU c m t (th t) u = 0) (hw : wU c m t h' v = 1120) : S4 (cr c jobs m (thSet th t h') t) + 1120 ≤ S4 (cr c jobs m th t) := by
  have := S4_one (f := cr c jobs m th t) (f' := cr c jobs m (thSet th t h') t) (t := v) (d := -1120) v0 (by omega) (fun u u0 u1 hu => by
    unfold cr
    by_cases hv : u < c.t ∧ u ≠ t
    · rw [if_pos hv, if_pos hv, thset_at, thset_off hv.2, (h0 u).1, (h0 u).2]
      have := u_le c m t u h'
      omega
    · rw [if_neg hv, if_neg hv]; exact Int.le_refl _) (by
    unfold cr
    rw [if_pos ⟨v1, hvt⟩, if_pos ⟨v1, hvt⟩, thset_at, thset_off hvt, (h0 v).1, (h0 v).2, hw]
    have := u_le c m t v h'
    omega)
  omega

end Go.Proofs.Ytejadojilncbjab
