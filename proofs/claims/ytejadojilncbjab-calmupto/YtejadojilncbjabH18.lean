import Derived.Test.YtejadojilncbjabH16
import Derived.Test.YtejadojilncbjabH17
namespace Go.Proofs.Ytejadojilncbjab
set_option linter.unusedVariables false

/-! All jobs come to their end, part 3: an access that turns no clock, version, owner or status. -/

/-- An access that leads nowhere. -/
def Neut (K : Cx) (m : Int → Int) (h : Th) : Prop := match h.st with
  | .idle => True
  | .rVer _ a => m (3 + a.tmod K.c.s) = -1
  | .cGate => m 2 ≠ 0
  | .gStat _ _ => ph K m h = 0
  | .gOwn _ _ => ph K m h = 0
  | .gTheir _ _ _ => ph K m h = 0
  | .gMark _ _ _ _ => ph K m h = 0
  | .wait w => 0 < shn K.c m w ∧ (h.rank = 0 ∨ shn K.c m w ≤ h.rank)
  | _ => False

/-- A failure: what it leaves. -/
theorem ow_fail {K : Cx} {m : Int → Int} {h : Th} (hl : LenOk (hFail K h)) (hr : h.rank = 0 → ra K h = K.c.r + 1 - h.fails) : ow K m (hFail K h) ≤ 1100 + 1120 * (if h.rank = 0 then K.c.r - h.fails else 0) + 3370 * 8 - 13 * h.x.valid := by
  obtain ⟨A, P⟩ := att_fail (m := m) hl
  have parts : dd m (hFail K h) = 0 ∧ mm K m (hFail K h) = 0 ∧ shl (hFail K h) = 8 ∧ (hFail K h).x.valid = h.x.valid ∧ ra K (hFail K h) = (if h.rank = 0 then K.c.r - h.fails else 0) := by
    unfold hFail hFailOwn hCount
    by_cases hg : h.x.inGate = true
    · rw [if_pos hg]
      exact ⟨rfl, rfl, rfl, rfl, rfl⟩
    · rw [if_neg hg]
      split
      · split
        · refine ⟨rfl, rfl, rfl, rfl, ?_⟩
          unfold ra
          by_cases h0 : h.rank = 0
          · rw [if_pos h0, if_pos h0]; show K.c.r + 1 - (h.fails + 1) = _; omega
          · rw [if_neg h0, if_neg h0]
        · refine ⟨rfl, rfl, rfl, rfl, ?_⟩
          unfold ra
          by_cases h0 : h.rank = 0
          · rw [if_pos h0, if_pos h0]; show K.c.r + 1 - (h.fails + 1) = _; omega
          · rw [if_neg h0, if_neg h0]
      · exact ⟨rfl, rfl, rfl, rfl, rfl⟩
  obtain ⟨p1, p2, p3, p4, p5⟩ := parts
  unfold ow
  rw [P, p1, p2, p3, p4, p5]
  omega

theorem ra_run {K : Cx} {h : Th} (h1 : h.st ≠ .fGate) (h2 : ∀ r, h.st ≠ .fOwn r) : ra K h = if h.rank = 0 then K.c.r + 1 - h.fails else 0 := by
  unfold ra
  by_cases h0 : h.rank = 0
  · rw [if_pos h0, if_pos h0]
    cases hst : h.st with
    | fGate => exact absurd hst h1
    | fOwn r => exact absurd hst (h2 r)
    | _ => rfl
  · rw [if_neg h0, if_neg h0]

theorem stl_app {m : Int → Int} {h : Th} {y : TS} {s one : Int} (hy : y.reads = h.x.reads ∨ y.reads = h.x.reads ++ [⟨s, one⟩]) (he : m (3 + s) = one) : (y.reads.any fun e => m (3 + e.what) != e.val) = stl m h := by
  unfold stl
  rcases hy with e | e
  · rw [e]
  · rw [e, List.any_append]
    simp [he]

def RA (K : Cx) (h : Th) : Int := if h.rank = 0 then K.c.r + 1 - h.fails else 0
def STl (m : Int → Int) (h : Th) : Int := if stl m h then 1 else 0
def MK (K : Cx) (m : Int → Int) : Int := if mrk K.c m K.me ≠ 0 then 1 else 0

/-- The states of an attempt that a mark, or a version, may still fell. -/
def RunSt : St → Prop
  | .rHeld _ _ => True
  | .rVer _ _ => True
  | .rWord _ _ _ => True
  | .rAgain _ _ _ _ => True
  | .xClock _ => True
  | .xVer _ _ _ => True
  | .gStat _ _ => True
  | .gOwn _ _ => True
  | .gTheir _ _ _ => True
  | .gMark _ _ _ _ => True
  | .gVer _ _ => True
  | .tTake => True
  | .tShow => True
  | .cStat => True
  | _ => False
def CkSt : St → Prop
  | .cGate => True
  | .cClock => True
  | .cVer _ _ => True
  | _ => False

theorem ow_run {K : Cx} {m : Int → Int} {h : Th} (g : RunSt h.st) : ow K m h = att K m h + ph K m h + 1120 * RA K h + 1120 * STl m h + 1120 * MK K m + 26960 - 13 * h.x.valid := by
  have e1 : ra K h = RA K h := ra_run (fun e => by rw [e] at g; exact g) (fun r e => by rw [e] at g; exact g)
  have e2 : dd m h = STl m h := by unfold dd STl; cases hst : h.st <;> rw [hst] at g <;> first | exact g.elim | rfl
  have e3 : mm K m h = MK K m := by unfold mm MK; cases hst : h.st <;> rw [hst] at g <;> first | exact g.elim | rfl
  have e4 : shl h = 8 := by unfold shl; cases hst : h.st <;> rw [hst] at g <;> first | exact g.elim | rfl
  unfold ow
  rw [e1, e2, e3, e4]
  omega
theorem ow_ck {K : Cx} {m : Int → Int} {h : Th} (g : CkSt h.st) : ow K m h = att K m h + ph K m h + 1120 * RA K h + 1120 * STl m h + 26960 - 13 * h.x.valid := by
  have e1 : ra K h = RA K h := ra_run (fun e => by rw [e] at g; exact g) (fun r e => by rw [e] at g; exact g)
  have e2 : dd m h = STl m h := by unfold dd STl; cases hst : h.st <;> rw [hst] at g <;> first | exact g.elim | rfl
  have e3 : mm K m h = 0 := by unfold mm; cases hst : h.st <;> rw [hst] at g <;> first | exact g.elim | rfl
  have e4 : shl h = 8 := by unfold shl; cases hst : h.st <;> rw [hst] at g <;> first | exact g.elim | rfl
  unfold ow
  rw [e1, e2, e3, e4]
  omega
theorem st_le (m : Int → Int) (h : Th) : 0 ≤ STl m h ∧ STl m h ≤ 1 := by unfold STl; split <;> omega
theorem mk_le (K : Cx) (m : Int → Int) : 0 ≤ MK K m ∧ MK K m ≤ 1 := by unfold MK; split <;> omega

theorem ow_go' {K : Cx} {m : Int → Int} {h : Th} (hb : (h.x.begun : Int) ≤ K.c.f) (hl : LenOk (hGo K h)) : ow K m (hGo K h) ≤ b0 K h - 2 + r0 h + 1120 * RA K h + 1120 * STl m h + 1120 * MK K m + 26960 - 13 * h.x.valid := ow_go hb hl
theorem ow_got {K : Cx} {m : Int → Int} {h : Th} {i : InsD} {a v : Int} (hb : (h.x.begun : Int) ≤ K.c.f) (hl : LenOk (hGot K i a v h)) : ow K m (hGot K i a v h) ≤ b0 K h - 2 + r0 h + 1120 * RA K h + 1120 * STl m h + 1120 * MK K m + 26960 - 13 * h.x.valid :=
  ow_go (h := ({ h with x := setReg h.x i.a v } : Th).noted 7 a v) hb hl
theorem ow_wrote {K : Cx} {m : Int → Int} {h : Th} {i : InsD} {a : Int} (hb : (h.x.begun : Int) ≤ K.c.f) (hl : LenOk (hWrote K i a h)) : ow K m (hWrote K i a h) ≤ b0 K h + 2 + r0 h + 1120 * RA K h + 1120 * STl m h + 1120 * MK K m + 26960 - 13 * h.x.valid := by
  unfold hWrote at hl ⊢
  by_cases hc : h.rank ≠ 0 ∨ K.c.g = 0 ∨ (h.x.held.length : Int) ≠ K.c.g
  · rw [if_pos hc] at hl ⊢
    have := ow_go (m := m) (h := hPut i a h) hb hl
    have e : b0 K (hPut i a h) - 2 + r0 (hPut i a h) + 1120 * RA K (hPut i a h) + 1120 * STl m (hPut i a h) + 1120 * MK K m + 3370 * 8 - 13 * (hPut i a h).x.valid = b0 K h - 2 + r0 h + 1120 * RA K h + 1120 * STl m h + 1120 * MK K m + 3370 * 8 - 13 * h.x.valid := rfl
    have this' : ow K m (hGo K (hPut i a h)) ≤ b0 K (hPut i a h) - 2 + r0 (hPut i a h) + 1120 * RA K (hPut i a h) + 1120 * STl m (hPut i a h) + 1120 * MK K m + 3370 * 8 - 13 * (hPut i a h).x.valid := this
    rw [e] at this'
    omega
  · rw [if_neg hc]
    rw [ow_run (h := { hPut i a h with st := .tTake }) trivial]
    show b0 K h + 2 + r0 h + 0 + 1120 * RA K h + 1120 * STl m h + 1120 * MK K m + 26960 - 13 * h.x.valid ≤ _
    omega
theorem ow_exdone {K : Cx} {m : Int → Int} {h : Th} {x : Ex} {c : Int} (hb : (h.x.begun : Int) ≤ K.c.f) (hl : LenOk (hExDone K x c h)) : ow K m (hExDone K x c h) ≤ b0 K h + 2 + r0 h + 1120 * RA K h + 1120 * STl m h + 1120 * MK K m + 26960 - 13 * c := by
  cases x with
  | rd i a v =>
    have := ow_got (m := m) (h := { h with list := modLast h.list (fun t => { t with valid := c }), x := { h.x with valid := c } }) (i := i) (a := a) (v := v) hb hl
    have e : b0 K { h with list := modLast h.list (fun t => { t with valid := c }), x := { h.x with valid := c } } = b0 K h := rfl
    refine Int.le_trans this ?_
    show b0 K h - 2 + r0 h + 1120 * RA K h + 1120 * STl m h + 1120 * MK K m + 26960 - 13 * c ≤ _
    omega
  | wr i a => exact ow_wrote (m := m) (h := { h with list := modLast h.list (fun t => { t with valid := c }), x := { h.x with valid := c } }) hb hl

theorem ow_fail' {K : Cx} {m : Int → Int} {h : Th} (hl : LenOk (hFail K h)) (h1 : h.st ≠ .fGate) (h2 : ∀ r, h.st ≠ .fOwn r) : ow K m (hFail K h) ≤ 1100 + 1120 * RA K h - (if h.rank = 0 then 1120 else 0) + 26960 - 13 * h.x.valid := by
  have := ow_fail (m := m) hl (fun h0 => by rw [ra_run h1 h2, if_pos h0])
  unfold RA
  by_cases h0 : h.rank = 0
  · rw [if_pos h0] at this; rw [if_pos h0, if_pos h0]; omega
  · rw [if_neg h0] at this; rw [if_neg h0, if_neg h0]; omega

theorem ow_shutAt {K : Cx} {m : Int → Int} {h : Th} {c : Int} (hl : LenOk (hShutAt c h.x.held h)) (h1 : h.st ≠ .fGate) (h2 : ∀ r, h.st ≠ .fOwn r) : ow K m (hShutAt c h.x.held h) + 1 ≤ 210 + 1120 * RA K h + 26960 - 13 * h.x.valid := by
  cases hh : h.x.held with
  | nil =>
    show ow K m { h with st := .cStamp c } + 1 ≤ _
    show 200 + 0 + 1120 * RA K h + 1120 * 0 + 1120 * 0 + 3370 * 0 - 13 * h.x.valid + 1 ≤ _
    omega
  | cons q r =>
    rw [hh] at hl
    have l2 : (q :: r).length ≤ 8 := hl.2
    show 200 + (((q :: r).length : Nat) : Int) + 0 + 1120 * RA K h + 1120 * 0 + 1120 * 0 + 3370 * (((q :: r).length : Nat) : Int) - 13 * h.x.valid + 1 ≤ _
    omega
theorem ow_stillAt {K : Cx} {m : Int → Int} {h : Th} {c : Int} (h1 : h.st ≠ .fGate) (h2 : ∀ r, h.st ≠ .fOwn r) : ∀ r : List EntD, LenOk (hStillAt c r h) → ow K m (hStillAt c r h) ≤ 219 + (r.length : Int) + 1120 * RA K h + 1120 * STl m h + 26960 - 13 * h.x.valid ∧ ow K m (hStillAt c r h) ≤ 227 + 1120 * RA K h + 1120 * STl m h + 26960 - 13 * h.x.valid
  | [], hl => by
    have := ow_shutAt (K := K) (m := m) hl h1 h2
    have st1 := st_le m h
    have e : ow K m (hStillAt c [] h) = ow K m (hShutAt c h.x.held h) := rfl
    rw [e]
    simp only [List.length_nil]
    omega
  | q :: r, hl => by
    unfold hStillAt at hl ⊢
    by_cases hh : heldB h.x q.what
    · rw [if_pos hh] at hl ⊢
      have := ow_stillAt (K := K) (m := m) h1 h2 r hl
      simp only [List.length_cons]
      omega
    · rw [if_neg hh] at hl ⊢
      rw [ow_ck (m := m) (K := K) (h := { h with st := .cVer c (q :: r) }) trivial]
      have l2 : (q :: r).length ≤ 8 := hl.2
      show 219 + (((q :: r).length : Nat) : Int) + 0 + 1120 * RA K h + 1120 * STl m h + 26960 - 13 * h.x.valid ≤ _ ∧ 219 + (((q :: r).length : Nat) : Int) + 0 + 1120 * RA K h + 1120 * STl m h + 26960 - 13 * h.x.valid ≤ _
      omega

theorem ow_openAt {K : Cx} {m : Int → Int} {h : Th} {c : Int} (r : List Int) (hl : LenOk (hOpenAt c r h)) : ow K m (hOpenAt c r h) ≤ 22 + 20 * (r.length : Int) + 1120 * RA K h - 13 * h.x.valid := by
  cases r with
  | nil =>
    show 20 + 0 + 1120 * RA K h + 1120 * 0 + 1120 * 0 + 3370 * 0 - 13 * h.x.valid ≤ 22 + 20 * ((([] : List Int).length : Nat) : Int) + _ - _
    simp only [List.length_nil]
    omega
  | cons q r =>
    show 22 + 20 * (((q :: r).length : Nat) : Int) + 0 + 1120 * RA K h + 1120 * 0 + 1120 * 0 + 3370 * 0 - 13 * h.x.valid ≤ _
    omega
theorem ow_wordAt' {K : Cx} {m : Int → Int} {h : Th} {c : Int} (r : List EntD) (hl : LenOk (hWordAt c r h)) : ow K m (hWordAt c r h) ≤ 190 + (r.length : Int) + 1120 * RA K h - 13 * h.x.valid := by
  cases r with
  | nil =>
    have := ow_openAt (m := m) (K := K) (c := c) (h := h) h.x.held hl
    have l1 : h.x.held.length ≤ 8 := by
      have := hl.1
      have e : (hWordAt c [] h).x.held = h.x.held := by
        show (hOpenAt c h.x.held h).x.held = h.x.held
        unfold hOpenAt
        split <;> rfl
      rw [e] at this
      exact this
    have e2 : ow K m (hWordAt c [] h) = ow K m (hOpenAt c h.x.held h) := rfl
    rw [e2]
    simp only [List.length_nil]
    omega
  | cons q r =>
    show 190 + (((q :: r).length : Nat) : Int) + 0 + 1120 * RA K h + 1120 * 0 + 1120 * 0 + 3370 * 0 - 13 * h.x.valid ≤ _
    omega
theorem ow_wordAt {K : Cx} {m : Int → Int} {h : Th} {c : Int} (r : List EntD) (hl : LenOk (hWordAt c r h)) : ow K m (hWordAt c r h) ≤ 198 + 1120 * RA K h - 13 * h.x.valid := by
  have := ow_wordAt' (m := m) (K := K) r hl
  cases r with
  | nil => simp only [List.length_nil] at this; omega
  | cons q r =>
    have l2 : (q :: r).length ≤ 8 := hl.2
    omega
theorem ow_failown {K : Cx} {m : Int → Int} {h : Th} (r : List Int) (hl : LenOk (hFailOwn K r h)) : ow K m (hFailOwn K r h) ≤ 912 + 20 * (r.length : Int) + r0 h + 1120 * (if h.rank = 0 then K.c.r - h.fails else 0) + 26960 - 13 * h.x.valid := by
  have r1 : 0 ≤ r0 h ∧ r0 h ≤ 20 := by unfold r0; split <;> omega
  cases r with
  | nil =>
    show ow K m (hCount K h) ≤ _
    have ee : ∀ s, ra K { h with fails := h.fails + 1, st := s } = (if h.rank = 0 then K.c.r - h.fails else 0) ∨ s = .fGate ∨ ∃ r, s = .fOwn r := fun s => by
      by_cases h1 : s = .fGate
      · exact Or.inr (Or.inl h1)
      · by_cases h2 : ∃ r, s = .fOwn r
        · exact Or.inr (Or.inr h2)
        · refine Or.inl ?_
          rw [ra_run (h := { h with fails := h.fails + 1, st := s }) h1 (fun r e => h2 ⟨r, e⟩)]
          show (if h.rank = 0 then K.c.r + 1 - (h.fails + 1) else 0) = _
          split <;> omega
    simp only [List.length_nil]
    unfold hCount
    by_cases hr : h.rank = 0 ∧ K.c.r < h.fails + 1
    · rw [if_pos hr]
      have e := (ee .fTake).resolve_right (by simp)
      show 912 + r0 h + 0 + 1120 * ra K { h with fails := h.fails + 1, st := .fTake } + 1120 * 0 + 1120 * 0 + 3370 * 8 - 13 * h.x.valid ≤ _
      rw [e]
      omega
    · rw [if_neg hr]
      have e := (ee .fStat).resolve_right (by simp)
      show 911 + r0 h + 0 + 1120 * ra K { h with fails := h.fails + 1, st := .fStat } + 1120 * 0 + 1120 * 0 + 3370 * 8 - 13 * h.x.valid ≤ _
      rw [e]
      omega
  | cons q r =>
    show 912 + 20 * (((q :: r).length : Nat) : Int) + r0 h + 0 + 1120 * (if h.rank = 0 then K.c.r - h.fails else 0) + 1120 * 0 + 1120 * 0 + 3370 * 8 - 13 * h.x.valid ≤ _
    omega

def Gw (K : Cx) (m : Int → Int) (h h' : Th) : Prop := ∃ i a u, h.st = .gTheir i a u ∧ 0 < shn K.c m (u - 1) ∧ shn K.c m (u - 1) < h.rank ∧ mrk K.c m K.me = 0 ∧ h' = hFail K { h with x := { h.x with way := u - 1 } }

theorem ow_next {K : Cx} {G : Gh} {m : Int → Int} {k : Int} {h : Th} (hc : cfgB K.c = true) (hm : 0 ≤ K.me ∧ K.me < K.c.t) (A : ThOk K k h) (M : CellsOk K.c k m) (S : SI K G m h) (L2 : Loc2 K h) (Z : Zk K m h) (hvc : h.x.valid ≤ m 0) (hlh : LenOk h)
    (v : AnsD) (hv : (hOut K h).kind ≠ 0 → v.seen = m (hOut K h).cell) (hl : LenOk (hNext K h v))
    (hA : match h.st with
      | .gOwn _ _ => v.seen ≠ 0
      | .gMark _ _ u th => m (hSta K (u - 1)) ≠ th
      | .tShow => v.seen ≠ 0
      | .cShut _ _ => False
      | .cStamp _ => False
      | .cOpen _ _ => False
      | .cOwn _ _ => False
      | .free _ _ => False
      | .fin _ => False
      | .fOwn _ => False
      | .fStat => False
      | _ => True) :
    ow K m (hNext K h v) + 1 ≤ ow K m h ∨ (Neut K m h ∧ ow K m (hNext K h v) ≤ ow K m h) ∨ (Gw K m h (hNext K h v) ∧ ow K m (hNext K h v) + 1 ≤ ow K m h + 1120) := by
  obtain ⟨⟨t1, t2⟩, ⟨w1, w2⟩, ⟨s1, s2⟩, ⟨g1, g2⟩, ⟨rr1, rr2⟩, _, ⟨f1, f2⟩⟩ := cfgB_true hc
  have hx := A.x
  have hb := hx.bg
  have hs := A.step
  unfold StepOk at hs
  unfold hOut at hv
  unfold Loc2 at L2
  have S0 := S
  unfold SI at S
  have r1 : 0 ≤ r0 h ∧ r0 h ≤ 20 := by unfold r0; split <;> omega
  have sok : ∀ t, 0 ≤ t → t < K.c.t → SOk K.c k (m (hSta K t)) := fun t a b => (M (hSta K t) (by unfold hSta; omega) (by unfold hSta total; omega)).sta (by unfold hSta; omega) (by unfold hSta; omega)
  have d1 := dd_le m h
  have m1 := mm_le K m h
  have p1 := ph_le K m h
  have raP : 0 ≤ (if h.rank = 0 then K.c.r + 1 - h.fails else 0) ∨ h.st = .fTake := by
    by_cases h0 : h.rank = 0
    · by_cases hf : h.st = .fTake
      · exact Or.inr hf
      · have := (Z.fr h0).2 hf
        rw [if_pos h0]
        exact Or.inl (by omega)
    · rw [if_neg h0]; exact Or.inl (Int.le_refl _)
  have raD : (if h.rank = 0 then K.c.r - h.fails else 0) ≤ (if h.rank = 0 then K.c.r + 1 - h.fails else 0) := by split <;> omega
  have b1 : 240 ≤ b0 K h := by have := hlh.1; unfold b0; omega
  unfold hNext at hl ⊢
  cases hst : h.st with
  | idle => exact Or.inr (Or.inl ⟨by unfold Neut; rw [hst]; trivial, Int.le_refl _⟩)
  | start =>
    rw [hst] at hv hl
    have e : v.seen = m 0 := hv (by simp)
    have G1 := ow_go' (m := m) (h := { h with list := h.list ++ [⟨K.me, h.job, v.num, 0, v.seen, 0, 0, []⟩], x := newTS (K.jobs.getD h.job (0, [])).2 v.seen, st := .start }) (by show ((0 : Nat) : Int) ≤ _; omega) hl
    refine Or.inl ?_
    have G2 : ow K m (hGo K { h with list := h.list ++ [⟨K.me, h.job, v.num, 0, v.seen, 0, 0, []⟩], x := newTS (K.jobs.getD h.job (0, [])).2 v.seen, st := .start }) ≤ 12 * (K.c.f - ((0 : Nat) : Int)) + 20 * (8 - ((0 : Nat) : Int)) + 240 - 2 + r0 h + 1120 * RA K h + 1120 * 0 + 1120 * MK K m + 26960 - 13 * v.seen := G1
    have z4 : ow K m h = 881 + r0 h + 0 + 1120 * RA K h + 1120 * 0 + 1120 * MK K m + 3370 * 8 - 13 * h.x.valid := by
      unfold ow att ph dd mm shl MK RA
      rw [ra_run (by rw [hst]; simp) (by rw [hst]; simp), hst]
    rw [z4]
    refine Int.le_trans (Int.add_le_add_right G2 1) ?_
    omega
  | rHeld i a =>
    rw [hst] at hl
    have G1 := ow_got (m := m) hb hl
    have e := ow_run (m := m) (K := K) (h := h) (by rw [hst]; trivial)
    have ea : att K m h = b0 K h + 1 + r0 h := by unfold att; rw [hst]
    refine Or.inl (Int.le_trans (Int.add_le_add_right G1 1) ?_)
    omega
  | rVer i a =>
    rw [hst] at hv hl
    have e : v.seen = m (3 + a.tmod K.c.s) := hv (by simp)
    simp only
    by_cases hs1 : v.seen = -1
    · rw [if_pos hs1]
      exact Or.inr (Or.inl ⟨by unfold Neut; rw [hst]; show m (3 + a.tmod K.c.s) = -1; omega, Int.le_refl _⟩)
    · rw [if_neg hs1]
      refine Or.inl ?_
      rw [ow_run (m := m) (K := K) (h := h) (by rw [hst]; trivial), ow_run (m := m) (K := K) (h := { h with st := .rWord i a v.seen }) trivial]
      have ea : att K m h = b0 K h + 3 + r0 h := by unfold att; rw [hst]
      have eb : att K m { h with st := .rWord i a v.seen } = b0 K h + 2 + r0 h := by
        show b0 K h + (if m (3 + a.tmod K.c.s) = v.seen then 2 else 5) + r0 h = _
        rw [if_pos e.symm]
      have ep : ph K m { h with st := .rWord i a v.seen } = 0 := rfl
      rw [ea, eb, ep]
      show b0 K h + 2 + r0 h + 0 + 1120 * RA K h + 1120 * STl m h + 1120 * MK K m + 26960 - 13 * h.x.valid + 1 ≤ _
      omega
  | rWord i a one =>
    rw [hst] at hv hl
    refine Or.inl ?_
    rw [ow_run (m := m) (K := K) (h := h) (by rw [hst]; trivial), ow_run (m := m) (K := K) (h := { h with st := .rAgain i a one v.seen }) trivial]
    have ea : att K m h = b0 K h + (if m (3 + a.tmod K.c.s) = one then 2 else 5) + r0 h := by unfold att; rw [hst]
    have eb : att K m { h with st := .rAgain i a one v.seen } = b0 K h + (if m (3 + a.tmod K.c.s) = one then 1 else 4) + r0 h := rfl
    have ep : ph K m { h with st := .rAgain i a one v.seen } = 0 := rfl
    rw [ea, eb, ep]
    show _ + 0 + 1120 * RA K h + 1120 * STl m h + 1120 * MK K m + 26960 - 13 * h.x.valid + 1 ≤ _
    by_cases hq : m (3 + a.tmod K.c.s) = one
    · rw [if_pos hq, if_pos hq]; omega
    · rw [if_neg hq, if_neg hq]; omega
  | rAgain i a one w =>
    rw [hst] at hv hl
    have e : v.seen = m (3 + a.tmod K.c.s) := hv (by simp)
    refine Or.inl ?_
    rw [ow_run (m := m) (K := K) (h := h) (by rw [hst]; trivial)]
    have ea : att K m h = b0 K h + (if m (3 + a.tmod K.c.s) = one then 1 else 4) + r0 h := by unfold att; rw [hst]
    rw [ea]
    simp only at hl ⊢
    by_cases hq : v.seen ≠ one
    · rw [if_pos hq]
      rw [if_neg (by rw [← e]; exact hq), ow_run (m := m) (K := K) (h := { h with st := .rVer i a }) trivial]
      show b0 K h + 3 + r0 h + 0 + 1120 * RA K h + 1120 * STl m h + 1120 * MK K m + 26960 - 13 * h.x.valid + 1 ≤ _
      omega
    · rw [if_neg hq] at hl ⊢
      have ho : m (3 + a.tmod K.c.s) = one := by omega
      rw [if_pos ho]
      have hy : ∀ y : TS, y = (if (entIdx h.x.reads (a.tmod K.c.s)).isSome then h.x else { h.x with reads := h.x.reads ++ [⟨a.tmod K.c.s, one⟩] }) → (y.reads = h.x.reads ∨ y.reads = h.x.reads ++ [⟨a.tmod K.c.s, one⟩]) ∧ y.begun = h.x.begun ∧ y.held = h.x.held ∧ y.valid = h.x.valid := fun y e => by
        rw [e]
        split
        · exact ⟨Or.inl rfl, rfl, rfl, rfl⟩
        · exact ⟨Or.inr rfl, rfl, rfl, rfl⟩
      obtain ⟨y1, y2, y3, y4⟩ := hy _ rfl
      generalize (if (entIdx h.x.reads (a.tmod K.c.s)).isSome then h.x else { h.x with reads := h.x.reads ++ [⟨a.tmod K.c.s, one⟩] }) = y at *
      have es : ∀ st', STl m { h with x := y, st := st' } = STl m h := fun st' => by
        unfold STl
        rw [show stl m { h with x := y, st := st' } = stl m h from stl_app (m := m) (h := h) y1 ho]
      have eb : ∀ st', b0 K { h with x := y, st := st' } = b0 K h := fun st' => by
        show 12 * (K.c.f - (y.begun : Int)) + 20 * (8 - (y.held.length : Int)) + 240 = _
        rw [y2, y3]; rfl
      by_cases hv1 : one ≤ y.valid
      · rw [if_pos hv1] at hl ⊢
        have G1 := ow_got (m := m) (K := K) (h := { h with x := y, st := .rAgain i a one w }) (i := i) (a := a) (v := w) (by show (y.begun : Int) ≤ _; rw [y2]; exact hb) hl
        rw [es, eb] at G1
        refine Int.le_trans (Int.add_le_add_right G1 1) ?_
        show b0 K h - 2 + r0 h + 1120 * RA K h + 1120 * STl m h + 1120 * MK K m + 26960 - 13 * y.valid + 1 ≤ _
        rw [y4]
        omega
      · rw [if_neg hv1]
        rw [ow_run (m := m) (K := K) (h := { h with x := y, st := .xClock (.rd i a w) }) trivial, es]
        have e1 : att K m { h with x := y, st := .xClock (.rd i a w) } = b0 K h + r0 h := by
          show b0 K { h with x := y, st := .xClock (.rd i a w) } + r0 h = _
          rw [eb]
        rw [e1]
        show b0 K h + r0 h + 0 + 1120 * RA K h + 1120 * STl m h + 1120 * MK K m + 26960 - 13 * y.valid + 1 ≤ _
        rw [y4]
        omega
  | xClock x =>
    rw [hst] at hv hl
    have e : v.seen = m 0 := hv (by simp)
    have hlt := Z.xc x hst
    refine Or.inl ?_
    rw [ow_run (m := m) (K := K) (h := h) (by rw [hst]; trivial)]
    have ea : att K m h = b0 K h + r0 h := by unfold att; rw [hst]
    rw [ea]
    simp only at hl ⊢
    cases hr : h.x.reads with
    | nil =>
      rw [hr] at hl
      have G1 := ow_exdone (m := m) (K := K) (h := h) (x := x) (c := v.seen) hb hl
      refine Int.le_trans (Int.add_le_add_right G1 1) ?_
      omega
    | cons q r =>
      rw [hr] at hl
      have l2 : (q :: r).length ≤ 8 := hl.2
      show ow K m { h with st := .xVer x v.seen (q :: r) } + 1 ≤ _
      rw [ow_run (m := m) (K := K) (h := { h with st := .xVer x v.seen (q :: r) }) trivial]
      show b0 K h - 9 + (((q :: r).length : Nat) : Int) + r0 h + 0 + 1120 * RA K h + 1120 * STl m h + 1120 * MK K m + 26960 - 13 * h.x.valid + 1 ≤ _
      omega
  | xVer x c r =>
    rw [hst] at hv hl hs S
    have hlt := Z.xv x c r hst
    refine Or.inl ?_
    rw [ow_run (m := m) (K := K) (h := h) (by rw [hst]; trivial)]
    have ea : att K m h = b0 K h - 9 + (r.length : Int) + r0 h := by unfold att; rw [hst]
    rw [ea]
    cases r with
    | nil => exact absurd rfl hs.2.2.1
    | cons q r =>
      have e : v.seen = m (3 + q.what) := hv (by simp)
      have hmem : q ∈ h.x.reads := by
        obtain ⟨_, _, _, pre, er, _⟩ := S
        rw [er]; simp
      simp only at hl ⊢
      by_cases hq : v.seen ≠ q.val
      · rw [if_pos hq] at hl ⊢
        have F := ow_fail' (m := m) hl (by rw [hst]; simp) (by rw [hst]; simp)
        have st1 : STl m h = 1 := by
          unfold STl stl
          rw [if_pos]
          rw [List.any_eq_true]
          exact ⟨q, hmem, by rw [← e]; simpa using hq⟩
        refine Int.le_trans (Int.add_le_add_right F 1) ?_
        rw [st1]
        have mk := mk_le K m
        have : (0 : Int) ≤ (if h.rank = 0 then 1120 else 0) := by split <;> omega
        have hlen : (((q :: r).length : Nat) : Int) ≥ 1 := by rw [List.length_cons]; omega
        omega
      · rw [if_neg hq] at hl ⊢
        cases r with
        | nil =>
          have G1 := ow_exdone (m := m) (K := K) (h := h) (x := x) (c := c) hb hl
          refine Int.le_trans (Int.add_le_add_right G1 1) ?_
          have : (([q].length : Nat) : Int) = 1 := rfl
          omega
        | cons p r =>
          show ow K m { h with st := .xVer x c (p :: r) } + 1 ≤ _
          rw [ow_run (m := m) (K := K) (h := { h with st := .xVer x c (p :: r) }) trivial]
          show b0 K h - 9 + (((p :: r).length : Nat) : Int) + r0 h + 0 + 1120 * RA K h + 1120 * STl m h + 1120 * MK K m + 26960 - 13 * h.x.valid + 1 ≤ _
          simp only [List.length_cons]
          omega
  | gStat i a =>
    rw [hst] at hv hl
    have e : v.seen = m (hSta K K.me) := hv (by simp)
    have so := sok K.me hm.1 hm.2
    rw [ow_run (m := m) (K := K) (h := h) (by rw [hst]; trivial)]
    have ea : att K m h = b0 K h + 4 + r0 h := by unfold att; rw [hst]
    rw [ea]
    simp only at hl ⊢
    have hmk : v.seen.tmod 8 = mrk K.c m K.me := by rw [e, (sok_mod so).1]; rfl
    rw [hmk] at hl ⊢
    by_cases hq : 0 < mrk K.c m K.me
    · rw [if_pos hq] at hl ⊢
      have F := ow_fail' (m := m) hl (by rw [hst]; simp) (by rw [hst]; simp)
      have k1 : MK K m = 1 := by unfold MK; rw [if_pos (by omega)]
      have : (0 : Int) ≤ (if h.rank = 0 then 1120 else 0) := by split <;> omega
      have st1 := st_le m h
      exact Or.inl (by rw [k1]; omega)
    · rw [if_neg hq]
      have m0 : mrk K.c m K.me = 0 := by
        have : 0 ≤ mrk K.c m K.me := Int.emod_nonneg _ (by omega)
        omega
      rw [ow_run (m := m) (K := K) (h := { h with st := .gOwn i a }) trivial]
      have e2 : att K m { h with st := .gOwn i a } = b0 K h + 4 + r0 h := rfl
      have p0 : ph K m h = phv K m h (a.tmod K.c.s) 0 0 0 := by unfold ph; rw [hst]
      have p2 : ph K m { h with st := .gOwn i a } = phv K m h (a.tmod K.c.s) 1 0 0 := rfl
      have key : phv K m h (a.tmod K.c.s) 1 0 0 + 1 ≤ phv K m h (a.tmod K.c.s) 0 0 0 ∨ (phv K m h (a.tmod K.c.s) 0 0 0 = 0 ∧ phv K m h (a.tmod K.c.s) 1 0 0 = 0) := by
        unfold phv
        have c0 : ¬ (mrk K.c m K.me ≠ 0) := by omega
        rw [if_neg c0, if_neg c0]
        by_cases c1 : m (hOwn K (a.tmod K.c.s)) = 0 ∨ h.rank = 0
        · rw [if_pos c1, if_pos c1]; exact Or.inl (by simp)
        · rw [if_neg c1, if_neg c1]
          by_cases c2 : 0 < shn K.c m (m (hOwn K (a.tmod K.c.s)) - 1) ∧ shn K.c m (m (hOwn K (a.tmod K.c.s)) - 1) < h.rank
          · rw [if_pos c2, if_pos c2]; exact Or.inl (by simp)
          · rw [if_neg c2, if_neg c2]
            by_cases c3 : mrk K.c m (m (hOwn K (a.tmod K.c.s)) - 1) = 0
            · rw [if_pos c3, if_pos c3]; exact Or.inl (by simp)
            · rw [if_neg c3, if_neg c3]; exact Or.inr ⟨rfl, rfl⟩
      rw [e2, p2]
      show b0 K h + 4 + r0 h + _ + 1120 * RA K h + 1120 * STl m h + 1120 * MK K m + 26960 - 13 * h.x.valid + 1 ≤ _ ∨ (_ ∧ b0 K h + 4 + r0 h + _ + 1120 * RA K h + 1120 * STl m h + 1120 * MK K m + 26960 - 13 * h.x.valid ≤ _) ∨ _
      rcases key with q | q
      · exact Or.inl (by omega)
      · exact Or.inr (Or.inl ⟨by unfold Neut; rw [hst]; show ph K m h = 0; omega, by omega⟩)
  | gOwn i a =>
    rw [hst] at hv hl hA
    have e : v.seen = m (hOwn K (a.tmod K.c.s)) := hv (by simp)
    rw [ow_run (m := m) (K := K) (h := h) (by rw [hst]; trivial)]
    have ea : att K m h = b0 K h + 4 + r0 h := by unfold att; rw [hst]
    rw [ea]
    simp only at hl ⊢
    rw [if_neg hA] at hl ⊢
    by_cases h0 : h.rank = 0
    · rw [if_pos h0] at hl ⊢
      have F := ow_fail' (m := m) hl (by rw [hst]; simp) (by rw [hst]; simp)
      rw [if_pos h0] at F
      have st1 := st_le m h
      have mk := mk_le K m
      exact Or.inl (by omega)
    · rw [if_neg h0]
      rw [ow_run (m := m) (K := K) (h := { h with st := .gTheir i a v.seen }) trivial]
      have e2 : att K m { h with st := .gTheir i a v.seen } = b0 K h + 4 + r0 h := rfl
      have p0 : ph K m h = phv K m h (a.tmod K.c.s) 1 0 0 := by unfold ph; rw [hst]
      have p2 : ph K m { h with st := .gTheir i a v.seen } = phv K m h (a.tmod K.c.s) 2 v.seen 0 := rfl
      have key : phv K m h (a.tmod K.c.s) 2 v.seen 0 + 1 ≤ phv K m h (a.tmod K.c.s) 1 0 0 ∨ (phv K m h (a.tmod K.c.s) 1 0 0 = 0 ∧ phv K m h (a.tmod K.c.s) 2 v.seen 0 = 0) := by
        rw [e]
        unfold phv
        by_cases c0 : mrk K.c m K.me ≠ 0
        · rw [if_pos c0, if_pos c0]; exact Or.inl (by simp)
        · have c1 : ¬ (m (hOwn K (a.tmod K.c.s)) = 0 ∨ h.rank = 0) := by omega
          rw [if_neg c0, if_neg c0, if_neg c1, if_neg c1]
          by_cases c2 : 0 < shn K.c m (m (hOwn K (a.tmod K.c.s)) - 1) ∧ shn K.c m (m (hOwn K (a.tmod K.c.s)) - 1) < h.rank
          · rw [if_pos c2, if_pos c2]; exact Or.inl (by simp)
          · rw [if_neg c2, if_neg c2]
            by_cases c3 : mrk K.c m (m (hOwn K (a.tmod K.c.s)) - 1) = 0
            · rw [if_pos c3, if_pos c3]; exact Or.inl (by simp)
            · rw [if_neg c3, if_neg c3]; exact Or.inr ⟨rfl, rfl⟩
      rw [e2, p2]
      show b0 K h + 4 + r0 h + _ + 1120 * RA K h + 1120 * STl m h + 1120 * MK K m + 26960 - 13 * h.x.valid + 1 ≤ _ ∨ (_ ∧ b0 K h + 4 + r0 h + _ + 1120 * RA K h + 1120 * STl m h + 1120 * MK K m + 26960 - 13 * h.x.valid ≤ _) ∨ _
      rcases key with q | q
      · exact Or.inl (by omega)
      · exact Or.inr (Or.inl ⟨by unfold Neut; rw [hst]; show ph K m h = 0; omega, by omega⟩)
  | gTheir i a u =>
    rw [hst] at hv hl hs L2
    have hu := hs.2
    have e : v.seen = m (hSta K (u - 1)) := hv (by simp)
    have so := sok (u - 1) (by omega) (by omega)
    have e3 : v.seen.tdiv 8 = shn K.c m (u - 1) := by rw [e, (sok_mod so).2]; rfl
    have e4 : v.seen.tmod 8 = mrk K.c m (u - 1) := by rw [e, (sok_mod so).1]; rfl
    rw [ow_run (m := m) (K := K) (h := h) (by rw [hst]; trivial)]
    have ea : att K m h = b0 K h + 4 + r0 h := by unfold att; rw [hst]
    rw [ea]
    have p0 : ph K m h = phv K m h (a.tmod K.c.s) 2 u 0 := by unfold ph; rw [hst]
    simp only at hl ⊢
    rw [e3, e4] at hl ⊢
    by_cases hq : 0 < shn K.c m (u - 1) ∧ shn K.c m (u - 1) < h.rank
    · rw [if_pos hq] at hl ⊢
      have F := ow_fail' (m := m) (h := { h with x := { h.x with way := u - 1 }, st := .gTheir i a u }) hl (by simp) (by simp)
      rw [if_neg (show ¬ h.rank = 0 by omega)] at F
      have F' : ow K m (hFail K { h with x := { h.x with way := u - 1 }, st := .gTheir i a u }) ≤ 1100 + 1120 * RA K h - 0 + 26960 - 13 * h.x.valid := F
      have st1 := st_le m h
      by_cases hk : mrk K.c m K.me = 0
      · refine Or.inr (Or.inr ⟨⟨i, a, u, hst, hq.1, hq.2, hk, by rw [hst]⟩, ?_⟩)
        have mk := mk_le K m
        refine Int.le_trans (Int.add_le_add_right F' 1) ?_
        omega
      · have k1 : MK K m = 1 := by unfold MK; rw [if_pos hk]
        refine Or.inl (Int.le_trans (Int.add_le_add_right F' 1) ?_)
        rw [k1]; omega
    · rw [if_neg hq] at hl ⊢
      by_cases hz : mrk K.c m (u - 1) = 0
      · rw [if_pos hz]
        rw [ow_run (m := m) (K := K) (h := { h with st := .gMark i a u v.seen }) trivial]
        have e2 : att K m { h with st := .gMark i a u v.seen } = b0 K h + 4 + r0 h := rfl
        have p2 : ph K m { h with st := .gMark i a u v.seen } = phv K m h (a.tmod K.c.s) 3 u v.seen := rfl
        have key : phv K m h (a.tmod K.c.s) 3 u v.seen + 1 ≤ phv K m h (a.tmod K.c.s) 2 u 0 ∨ (phv K m h (a.tmod K.c.s) 2 u 0 = 0 ∧ phv K m h (a.tmod K.c.s) 3 u v.seen = 0) := by
          unfold phv
          by_cases c0 : mrk K.c m K.me ≠ 0
          · rw [if_pos c0, if_pos c0]; exact Or.inl (by simp)
          · rw [if_neg c0, if_neg c0]
            by_cases c1 : m (hOwn K (a.tmod K.c.s)) = 0 ∨ h.rank = 0
            · rw [if_pos c1, if_pos c1]; exact Or.inl (by simp)
            · rw [if_neg c1, if_neg c1]
              by_cases c2 : 0 < shn K.c m (m (hOwn K (a.tmod K.c.s)) - 1) ∧ shn K.c m (m (hOwn K (a.tmod K.c.s)) - 1) < h.rank
              · rw [if_pos c2, if_pos c2]
                have : u ≠ m (hOwn K (a.tmod K.c.s)) := fun q => hq (by rw [q]; exact c2)
                exact Or.inl (by simp [this])
              · rw [if_neg c2, if_neg c2]
                by_cases c3 : mrk K.c m (m (hOwn K (a.tmod K.c.s)) - 1) = 0
                · rw [if_pos c3, if_pos c3]
                  by_cases c4 : u = m (hOwn K (a.tmod K.c.s))
                  · exact Or.inl (by simp [c4, e])
                  · exact Or.inl (by simp [c4])
                · rw [if_neg c3, if_neg c3]; exact Or.inr ⟨rfl, rfl⟩
        rw [e2, p2]
        show b0 K h + 4 + r0 h + _ + 1120 * RA K h + 1120 * STl m h + 1120 * MK K m + 26960 - 13 * h.x.valid + 1 ≤ _ ∨ (_ ∧ b0 K h + 4 + r0 h + _ + 1120 * RA K h + 1120 * STl m h + 1120 * MK K m + 26960 - 13 * h.x.valid ≤ _) ∨ _
        rcases key with q | q
        · exact Or.inl (by omega)
        · exact Or.inr (Or.inl ⟨by unfold Neut; rw [hst]; show ph K m h = 0; omega, by omega⟩)
      · rw [if_neg hz]
        rw [ow_run (m := m) (K := K) (h := { h with st := .gStat i a }) trivial]
        have e2 : att K m { h with st := .gStat i a } = b0 K h + 4 + r0 h := rfl
        have p2 : ph K m { h with st := .gStat i a } = phv K m h (a.tmod K.c.s) 0 0 0 := rfl
        have key : phv K m h (a.tmod K.c.s) 0 0 0 + 1 ≤ phv K m h (a.tmod K.c.s) 2 u 0 ∨ (phv K m h (a.tmod K.c.s) 2 u 0 = 0 ∧ phv K m h (a.tmod K.c.s) 0 0 0 = 0) := by
          unfold phv
          by_cases c0 : mrk K.c m K.me ≠ 0
          · rw [if_pos c0, if_pos c0]; exact Or.inl (by simp)
          · rw [if_neg c0, if_neg c0]
            by_cases c1 : m (hOwn K (a.tmod K.c.s)) = 0 ∨ h.rank = 0
            · rw [if_pos c1, if_pos c1]; exact Or.inl (by simp)
            · rw [if_neg c1, if_neg c1]
              by_cases c2 : 0 < shn K.c m (m (hOwn K (a.tmod K.c.s)) - 1) ∧ shn K.c m (m (hOwn K (a.tmod K.c.s)) - 1) < h.rank
              · rw [if_pos c2, if_pos c2]
                have : u ≠ m (hOwn K (a.tmod K.c.s)) := fun q => hq (by rw [q]; exact c2)
                exact Or.inl (by simp [this])
              · rw [if_neg c2, if_neg c2]
                by_cases c3 : mrk K.c m (m (hOwn K (a.tmod K.c.s)) - 1) = 0
                · rw [if_pos c3, if_pos c3]
                  have : u ≠ m (hOwn K (a.tmod K.c.s)) := fun q => hz (by rw [q]; exact c3)
                  exact Or.inl (by simp [this])
                · rw [if_neg c3, if_neg c3]; exact Or.inr ⟨rfl, rfl⟩
        rw [e2, p2]
        show b0 K h + 4 + r0 h + _ + 1120 * RA K h + 1120 * STl m h + 1120 * MK K m + 26960 - 13 * h.x.valid + 1 ≤ _ ∨ (_ ∧ b0 K h + 4 + r0 h + _ + 1120 * RA K h + 1120 * STl m h + 1120 * MK K m + 26960 - 13 * h.x.valid ≤ _) ∨ _
        rcases key with q | q
        · exact Or.inl (by omega)
        · exact Or.inr (Or.inl ⟨by unfold Neut; rw [hst]; show ph K m h = 0; omega, by omega⟩)
  | gMark i a u th =>
    rw [hst] at hv hl hA
    rw [ow_run (m := m) (K := K) (h := h) (by rw [hst]; trivial), ow_run (m := m) (K := K) (h := { h with st := .gStat i a }) trivial]
    have ea : att K m h = b0 K h + 4 + r0 h := by unfold att; rw [hst]
    have p0 : ph K m h = phv K m h (a.tmod K.c.s) 3 u th := by unfold ph; rw [hst]
    have e2 : att K m { h with st := .gStat i a } = b0 K h + 4 + r0 h := rfl
    have p2 : ph K m { h with st := .gStat i a } = phv K m h (a.tmod K.c.s) 0 0 0 := rfl
    have key : phv K m h (a.tmod K.c.s) 0 0 0 + 1 ≤ phv K m h (a.tmod K.c.s) 3 u th ∨ (phv K m h (a.tmod K.c.s) 3 u th = 0 ∧ phv K m h (a.tmod K.c.s) 0 0 0 = 0) := by
      unfold phv
      by_cases c0 : mrk K.c m K.me ≠ 0
      · rw [if_pos c0, if_pos c0]; exact Or.inl (by simp)
      · rw [if_neg c0, if_neg c0]
        by_cases c1 : m (hOwn K (a.tmod K.c.s)) = 0 ∨ h.rank = 0
        · rw [if_pos c1, if_pos c1]; exact Or.inl (by simp)
        · rw [if_neg c1, if_neg c1]
          by_cases c2 : 0 < shn K.c m (m (hOwn K (a.tmod K.c.s)) - 1) ∧ shn K.c m (m (hOwn K (a.tmod K.c.s)) - 1) < h.rank
          · rw [if_pos c2, if_pos c2]; exact Or.inl (by simp)
          · rw [if_neg c2, if_neg c2]
            by_cases c3 : mrk K.c m (m (hOwn K (a.tmod K.c.s)) - 1) = 0
            · rw [if_pos c3, if_pos c3]
              have : ¬ (u = m (hOwn K (a.tmod K.c.s)) ∧ th = m (hSta K (u - 1))) := fun q => hA q.2.symm
              exact Or.inl (by simp [this])
            · rw [if_neg c3, if_neg c3]; exact Or.inr ⟨rfl, rfl⟩
    rw [ea, e2, p2]
    show b0 K h + 4 + r0 h + _ + 1120 * RA K h + 1120 * STl m h + 1120 * MK K m + 26960 - 13 * h.x.valid + 1 ≤ _ ∨ (_ ∧ b0 K h + 4 + r0 h + _ + 1120 * RA K h + 1120 * STl m h + 1120 * MK K m + 26960 - 13 * h.x.valid ≤ _) ∨ _
    rcases key with q | q
    · exact Or.inl (by omega)
    · exact Or.inr (Or.inl ⟨by unfold Neut; rw [hst]; show ph K m h = 0; omega, by omega⟩)
  | gVer i a =>
    rw [hst] at hl
    refine Or.inl ?_
    rw [ow_run (m := m) (K := K) (h := h) (by rw [hst]; trivial)]
    have ea : att K m h = b0 K h + 3 + r0 h := by unfold att; rw [hst]
    rw [ea]
    simp only at hl ⊢
    by_cases hq : h.x.valid < v.seen
    · rw [if_pos hq]
      rw [ow_run (m := m) (K := K) (h := { h with st := .xClock (.wr i a) }) trivial]
      show b0 K h + r0 h + 0 + 1120 * RA K h + 1120 * STl m h + 1120 * MK K m + 26960 - 13 * h.x.valid + 1 ≤ _
      omega
    · rw [if_neg hq] at hl ⊢
      have G1 := ow_wrote (m := m) (K := K) (h := h) (i := i) (a := a) hb hl
      omega
  | tTake =>
    rw [hst] at hv hl L2
    have e : v.seen = m 1 := hv (by simp)
    have c1 := (M 1 (by omega) (by unfold total; omega)).cnt (Or.inr rfl)
    refine Or.inl ?_
    rw [ow_run (m := m) (K := K) (h := h) (by rw [hst]; trivial), ow_run (m := m) (K := K) (h := { h with rank := v.seen + 1, st := .tShow }) trivial]
    have ea : att K m h = b0 K h + 2 + r0 h := by unfold att; rw [hst]
    have er : r0 h = 20 := by unfold r0; rw [if_pos L2]
    have e2 : att K m { h with rank := v.seen + 1, st := .tShow } = b0 K h + 21 + 0 := by
      show b0 K h + 21 + (if v.seen + 1 = 0 then 20 else 0) = _
      rw [if_neg (by omega)]
    have e3 : RA K { h with rank := v.seen + 1, st := .tShow } = 0 := by
      show (if v.seen + 1 = 0 then _ else 0) = 0
      rw [if_neg (by omega)]
    have e4 : 0 ≤ RA K h := by
      unfold RA
      rw [if_pos L2]
      have := (Z.fr L2).2 (by rw [hst]; simp)
      omega
    rw [ea, e2, e3, er]
    show b0 K h + 21 + 0 + 0 + 1120 * 0 + 1120 * STl m h + 1120 * MK K m + 26960 - 13 * h.x.valid + 1 ≤ _
    omega
  | tShow =>
    rw [hst] at hv hl hA
    have e : v.seen = m (hSta K K.me) := hv (by simp)
    have so := sok K.me hm.1 hm.2
    have ts := Z.ts hst
    have k1 : MK K m = 1 := by
      unfold MK
      rw [if_pos]
      intro q
      unfold mrk at q
      unfold shn at ts
      unfold hSta at e
      have : v.seen ≠ 0 := hA
      omega
    refine Or.inl ?_
    rw [ow_run (m := m) (K := K) (h := h) (by rw [hst]; trivial)]
    have ea : att K m h = b0 K h + 21 + r0 h := by unfold att; rw [hst]
    simp only at hl ⊢
    rw [if_pos hA] at hl ⊢
    have F := ow_fail' (m := m) hl (by rw [hst]; simp) (by rw [hst]; simp)
    have : (0 : Int) ≤ (if h.rank = 0 then 1120 else 0) := by split <;> omega
    have st1 := st_le m h
    rw [ea, k1]
    omega
  | cStat =>
    rw [hst] at hv hl
    have e : v.seen = m (hSta K K.me) := hv (by simp)
    have so := sok K.me hm.1 hm.2
    have st1 := st_le m h
    refine Or.inl ?_
    rw [ow_run (m := m) (K := K) (h := h) (by rw [hst]; trivial)]
    have ea : att K m h = 230 := by unfold att; rw [hst]
    rw [ea]
    simp only at hl ⊢
    have hmk : v.seen.tmod 8 = mrk K.c m K.me := by rw [e, (sok_mod so).1]; rfl
    rw [hmk] at hl ⊢
    by_cases hq : 0 < mrk K.c m K.me
    · rw [if_pos hq] at hl ⊢
      have F := ow_fail' (m := m) hl (by rw [hst]; simp) (by rw [hst]; simp)
      have k1 : MK K m = 1 := by unfold MK; rw [if_pos (by omega)]
      have : (0 : Int) ≤ (if h.rank = 0 then 1120 else 0) := by split <;> omega
      rw [k1]; omega
    · rw [if_neg hq]
      rw [ow_ck (m := m) (K := K) (h := { h with st := .cGate }) trivial]
      have mk := mk_le K m
      show 229 + 0 + 1120 * RA K h + 1120 * STl m h + 26960 - 13 * h.x.valid + 1 ≤ _
      omega
  | cGate =>
    rw [hst] at hv hl
    have e : v.seen = m 2 := hv (by simp)
    rw [ow_ck (m := m) (K := K) (h := h) (by rw [hst]; trivial)]
    have ea : att K m h = 229 := by unfold att; rw [hst]
    have ep : ph K m h = 0 := by unfold ph; rw [hst]
    simp only
    by_cases h0 : v.seen = 0
    · rw [if_pos h0]
      refine Or.inl ?_
      rw [ow_ck (m := m) (K := K) (h := { h with x := { h.x with inGate := v.seen == 0 }, st := .cClock }) trivial]
      show 228 + 0 + 1120 * RA K h + 1120 * STl m h + 26960 - 13 * h.x.valid + 1 ≤ _
      omega
    · rw [if_neg h0]
      refine Or.inr (Or.inl ⟨by unfold Neut; rw [hst]; show m 2 ≠ 0; omega, ?_⟩)
      rw [ow_ck (m := m) (K := K) (h := { h with x := { h.x with inGate := v.seen == 0 }, st := .cGate }) trivial]
      show 229 + 0 + 1120 * RA K h + 1120 * STl m h + 26960 - 13 * h.x.valid ≤ _
      omega
  | cClock =>
    rw [hst] at hv hl
    have e : v.seen = m 0 := hv (by simp)
    refine Or.inl ?_
    rw [ow_ck (m := m) (K := K) (h := h) (by rw [hst]; trivial)]
    have ea : att K m h = 228 := by unfold att; rw [hst]
    have ep : ph K m h = 0 := by unfold ph; rw [hst]
    have st1 := st_le m h
    rw [ea, ep]
    simp only at hl ⊢
    by_cases hq : v.seen ≠ h.x.valid
    · rw [if_pos hq] at hl ⊢
      have := (ow_stillAt (m := m) (K := K) (h := h) (by rw [hst]; simp) (by rw [hst]; simp) h.x.reads hl).2
      omega
    · rw [if_neg hq] at hl ⊢
      have := ow_shutAt (m := m) (K := K) hl (by rw [hst]; simp) (by rw [hst]; simp)
      omega
  | cVer c r =>
    rw [hst] at hv hl hs S
    refine Or.inl ?_
    rw [ow_ck (m := m) (K := K) (h := h) (by rw [hst]; trivial)]
    have ea : att K m h = 219 + (r.length : Int) := by unfold att; rw [hst]
    have ep : ph K m h = 0 := by unfold ph; rw [hst]
    rw [ea, ep]
    cases r with
    | nil => exact absurd rfl hs.2.1
    | cons q r =>
      have e : v.seen = m (3 + q.what) := hv (by simp)
      have hmem : q ∈ h.x.reads := by
        obtain ⟨_, _, _, pre, er, _⟩ := S
        rw [er]; simp
      simp only at hl ⊢
      by_cases hq : v.seen ≠ q.val
      · rw [if_pos hq] at hl ⊢
        have F := ow_fail' (m := m) hl (by rw [hst]; simp) (by rw [hst]; simp)
        have st1 : STl m h = 1 := by
          unfold STl stl
          rw [if_pos]
          rw [List.any_eq_true]
          exact ⟨q, hmem, by rw [← e]; simpa using hq⟩
        refine Int.le_trans (Int.add_le_add_right F 1) ?_
        rw [st1]
        have : (0 : Int) ≤ (if h.rank = 0 then 1120 else 0) := by split <;> omega
        omega
      · rw [if_neg hq] at hl ⊢
        have := (ow_stillAt (m := m) (K := K) (h := h) (by rw [hst]; simp) (by rw [hst]; simp) r hl).1
        simp only [List.length_cons]
        omega
  | cLeave c =>
    rw [hst] at hl
    refine Or.inl ?_
    have e0 : ow K m h = 199 + 0 + 1120 * RA K h + 1120 * 0 + 1120 * 0 + 3370 * 0 - 13 * h.x.valid := by
      unfold ow att ph dd mm shl
      rw [ra_run (by rw [hst]; simp) (by rw [hst]; simp), hst]
      rfl
    rw [e0]
    simp only at hl ⊢
    have := ow_wordAt (m := m) (K := K) (c := c) (h := h) h.x.writes hl
    have l8 : LenOk (hWordAt c h.x.writes h) := hl
    omega
  | cWord c r =>
    rw [hst] at hl hs
    refine Or.inl ?_
    have e0 : ow K m h = 190 + (r.length : Int) + 0 + 1120 * RA K h + 1120 * 0 + 1120 * 0 + 3370 * 0 - 13 * h.x.valid := by
      unfold ow att ph dd mm shl
      rw [ra_run (by rw [hst]; simp) (by rw [hst]; simp), hst]
      rfl
    rw [e0]
    cases r with
    | nil => exact absurd rfl hs.2.1
    | cons q r =>
      simp only at hl ⊢
      have := ow_wordAt' (m := m) (K := K) (c := c) (h := h) r hl
      simp only [List.length_cons]
      omega
  | fGate =>
    rw [hst] at hl
    refine Or.inl ?_
    have e0 : ow K m h = 1080 + r0 h + 0 + 1120 * ra K h + 1120 * 0 + 1120 * 0 + 3370 * 8 - 13 * h.x.valid := by
      unfold ow att ph dd mm shl
      rw [hst]
    have er : ra K h = if h.rank = 0 then K.c.r - h.fails else 0 := by unfold ra; rw [hst]
    rw [e0, er]
    simp only at hl ⊢
    have := ow_failown (m := m) (K := K) (h := h) h.x.held hl
    have := hlh.1
    omega
  | fTake =>
    rw [hst] at hv hl L2
    have e : v.seen = m 1 := hv (by simp)
    have c1 := (M 1 (by omega) (by unfold total; omega)).cnt (Or.inr rfl)
    refine Or.inl ?_
    have e0 : ow K m h = 912 + r0 h + 0 + 1120 * RA K h + 1120 * 0 + 1120 * 0 + 3370 * 8 - 13 * h.x.valid := by
      unfold ow att ph dd mm shl
      rw [ra_run (by rw [hst]; simp) (by rw [hst]; simp), hst]
      rfl
    have e1 : 0 ≤ RA K h := by
      unfold RA
      rw [if_pos L2]
      have := (Z.fr L2).1 hst
      omega
    rw [e0]
    have e2 : ow K m { h with rank := v.seen + 1, st := .fStat } = 911 + 0 + 0 + 1120 * 0 + 1120 * 0 + 1120 * 0 + 3370 * 8 - 13 * h.x.valid := by
      show 911 + (if v.seen + 1 = 0 then 20 else 0) + 0 + 1120 * (if v.seen + 1 = 0 then _ else 0) + 1120 * 0 + 1120 * 0 + 3370 * 8 - 13 * h.x.valid = _
      rw [if_neg (by omega), if_neg (by omega)]
    show ow K m { h with rank := v.seen + 1, st := .fStat } + 1 ≤ _
    rw [e2]
    omega
  | wait w =>
    rw [hst] at hv hl hs
    have e : v.seen = m (hSta K w) := hv (by simp)
    have so := sok w hs.1 hs.2
    have e3 : v.seen.tdiv 8 = shn K.c m w := by rw [e, (sok_mod so).2]; rfl
    simp only at hl ⊢
    rw [e3] at hl ⊢
    by_cases hq : shn K.c m w = 0 ∨ (0 < h.rank ∧ h.rank < shn K.c m w)
    · rw [if_pos hq]
      refine Or.inl ?_
      have e0 : ow K m h = 882 + r0 h + 0 + 1120 * RA K h + 1120 * 0 + 1120 * MK K m + 3370 * 8 - 13 * h.x.valid := by
        unfold ow att ph dd mm shl
        rw [ra_run (by rw [hst]; simp) (by rw [hst]; simp), hst]
        rfl
      rw [e0]
      show 881 + r0 h + 0 + 1120 * RA K h + 1120 * 0 + 1120 * MK K m + 3370 * 8 - 13 * h.x.valid + 1 ≤ _
      omega
    · rw [if_neg hq]
      refine Or.inr (Or.inl ⟨?_, Int.le_refl _⟩)
      unfold Neut
      rw [hst]
      have : 0 ≤ shn K.c m w := by
        unfold shn
        have := so.1
        unfold hSta at this
        exact Int.ediv_nonneg this (by omega)
      have := A.rank.1
      show 0 < shn K.c m w ∧ _
      omega
  | rest n =>
    rw [hst] at hl hs
    refine Or.inl ?_
    have e0 : ow K m h = 882 + (n : Int) + r0 h + 0 + 1120 * RA K h + 1120 * 0 + 1120 * MK K m + 3370 * 8 - 13 * h.x.valid := by
      unfold ow att ph dd mm shl
      rw [ra_run (by rw [hst]; simp) (by rw [hst]; simp), hst]
      rfl
    rw [e0]
    simp only
    by_cases hq : n ≤ 1
    · rw [if_pos hq]
      show 881 + r0 h + 0 + 1120 * RA K h + 1120 * 0 + 1120 * MK K m + 3370 * 8 - 13 * h.x.valid + 1 ≤ _
      omega
    · rw [if_neg hq]
      show 882 + ((n - 1 : Nat) : Int) + r0 h + 0 + 1120 * RA K h + 1120 * 0 + 1120 * MK K m + 3370 * 8 - 13 * h.x.valid + 1 ≤ _
      omega
  | cShut c r => rw [hst] at hA; exact hA.elim
  | cStamp c => rw [hst] at hA; exact hA.elim
  | cOpen c r => rw [hst] at hA; exact hA.elim
  | cOwn c r => rw [hst] at hA; exact hA.elim
  | free e r => rw [hst] at hA; exact hA.elim
  | fin e => rw [hst] at hA; exact hA.elim
  | fOwn r => rw [hst] at hA; exact hA.elim
  | fStat => rw [hst] at hA; exact hA.elim

end Go.Proofs.Ytejadojilncbjab
