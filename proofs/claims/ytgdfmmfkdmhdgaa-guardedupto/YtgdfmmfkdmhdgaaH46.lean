import Derived.Test.YtgdfmmfkdmhdgaaH45
namespace Go.Proofs.Ytgdfmmfkdmhdgaa
set_option linter.unusedVariables false

/-! Ranks: what a machine shows, and who may mark whom. -/

/-- Does its status show its rank? -/
def Vis (h : Th) : Bool := match h.st with
  | .idle => false
  | .tShow => false
  | .fGate => false
  | .fOwn _ => false
  | .fTake => false
  | .fStat => false
  | _ => true

def Loc2 (K : Cx) (h : Th) : Prop := match h.st with
  | .tTake => h.rank = 0
  | .fTake => h.rank = 0
  | .tShow => h.rank ≠ 0
  | .gTheir _ _ u => h.rank ≠ 0 ∧ u ≠ K.me + 1
  | .gMark _ _ u th => (h.rank ≠ 0 ∧ u ≠ K.me + 1) ∧ (th / 8 = 0 ∨ h.rank ≤ th / 8)
  | _ => True

structure RC (K : Cx) (r : Int) (h' : Th) : Prop where
  rank : h'.rank = r
  loc : Loc2 K h'

theorem rc_free {K : Cx} {h : Th} (e : Int) (r : List Int) : RC K h.rank (hFreeAt e r h) := by cases r <;> exact ⟨rfl, trivial⟩
theorem rc_close {K : Cx} {h : Th} (e : Int) : RC K h.rank (hClose e h) := by
  unfold hClose
  split
  · exact ⟨rfl, trivial⟩
  · exact rc_free e _
theorem rc_count {K : Cx} {h : Th} : RC K h.rank (hCount K h) := by
  unfold hCount
  split
  · rename_i hh
    exact ⟨rfl, hh.1⟩
  · exact ⟨rfl, trivial⟩
theorem rc_failown {K : Cx} {h : Th} (r : List Int) : RC K h.rank (hFailOwn K r h) := by
  cases r with
  | nil => exact rc_count
  | cons q r => exact ⟨rfl, trivial⟩
theorem rc_fail {K : Cx} {h : Th} : RC K h.rank (hFail K h) := by
  unfold hFail
  split
  · exact ⟨rfl, trivial⟩
  · exact rc_failown _
theorem vis_failown {K : Cx} {h : Th} (r : List Int) : Vis (hFailOwn K r h) = false := by
  cases r with
  | nil =>
    show Vis (hCount K h) = false
    unfold hCount
    split <;> rfl
  | cons q r => rfl
theorem vis_fail {K : Cx} {h : Th} : Vis (hFail K h) = false := by
  unfold hFail
  split
  · rfl
  · exact vis_failown _

def RD (K : Cx) (h : Th) (t : Bool × Th) : Prop := (t.1 = true → t.2.rank = h.rank) ∧ (t.1 = false → RC K h.rank t.2)
theorem RD.off {K : Cx} {h h' : Th} (A : RC K h.rank h') : RD K h (false, h') := ⟨(fun e => nomatch e), fun _ => A⟩
theorem RD.on {K : Cx} {h h' : Th} (A : h'.rank = h.rank) : RD K h (true, h') := ⟨fun _ => A, (fun e => nomatch e)⟩

theorem rd_step {K : Cx} {h : Th} : RD K h (hStep K h) := by
  unfold hStep
  by_cases h1 : h.x.place = h.x.code.length
  · rw [if_pos h1]; exact RD.off (rc_close 1)
  rw [if_neg h1]
  by_cases h2 : (h.x.begun : Int) = K.c.f
  · rw [if_pos h2]; exact RD.off (rc_close 4)
  rw [if_neg h2]
  simp only
  generalize insAt h.x.code h.x.place = i at *
  by_cases h3 : formedB i h.x.code.length = false
  · rw [if_pos h3]; exact RD.off (rc_close (h := { h with x := { h.x with begun := h.x.begun + 1 } }) 3)
  rw [if_neg h3]
  by_cases o0 : i.op = 0
  · rw [if_pos o0]; exact RD.off (rc_close (h := { h with x := { h.x with begun := h.x.begun + 1, place := h.x.place + 1 } }) 1)
  rw [if_neg o0]
  by_cases o1 : i.op = 1
  · rw [if_pos o1]; exact RD.off (rc_close (h := { h with x := { h.x with begun := h.x.begun + 1, place := h.x.place + 1 } }) 2)
  rw [if_neg o1]
  by_cases o2 : i.op = 2
  · rw [if_pos o2]; exact RD.on rfl
  rw [if_neg o2]
  by_cases o3 : i.op = 3
  · rw [if_pos o3]; exact RD.on rfl
  rw [if_neg o3]
  by_cases o4 : i.op = 4
  · rw [if_pos o4]; exact RD.on rfl
  rw [if_neg o4]
  by_cases o5 : i.op = 5
  · rw [if_pos o5]; exact RD.on rfl
  rw [if_neg o5]
  by_cases o6 : i.op = 6
  · rw [if_pos o6]; exact RD.on rfl
  rw [if_neg o6]
  by_cases o7 : i.op = 7
  · rw [if_pos o7]
    unfold hRead
    simp only
    split
    · exact RD.off (rc_close (h := { h with x := { h.x with begun := h.x.begun + 1, place := h.x.place + 1 } }) 3)
    · cases he : entIdx h.x.writes (regOf { h.x with begun := h.x.begun + 1, place := h.x.place + 1 } i.b) with
      | some j => exact RD.on rfl
      | none =>
        simp only
        refine RD.off ?_
        split <;> exact ⟨rfl, trivial⟩
  · rw [if_neg o7]
    unfold hWrite
    simp only
    split
    · exact RD.off (rc_close (h := { h with x := { h.x with begun := h.x.begun + 1, place := h.x.place + 1 } }) 3)
    · split
      · exact RD.on rfl
      · exact RD.off ⟨rfl, trivial⟩

theorem rc_go {K : Cx} : ∀ {h : Th}, (h.x.begun : Int) ≤ K.c.f → RC K h.rank (hGo K h) := by
  have H : ∀ (n : Nat) (h : Th), n = K.c.f.toNat - h.x.begun → (h.x.begun : Int) ≤ K.c.f → RC K h.rank (hGo K h) := by
    intro n
    induction n with
    | zero =>
      intro h hnn hb
      rw [hGo_eq K h hb]
      by_cases hs : (hStep K h).1 = true
      · have := hStep_begun K h hs
        omega
      · rw [if_neg hs]
        exact rd_step.2 (by simpa using hs)
    | succ n ih =>
      intro h hnn hb
      rw [hGo_eq K h hb]
      by_cases hs : (hStep K h).1 = true
      · rw [if_pos hs]
        have hbg := hStep_begun K h hs
        have := ih (hStep K h).2 (by omega) (by omega)
        rw [rd_step.1 hs] at this
        exact this
      · rw [if_neg hs]
        exact rd_step.2 (by simpa using hs)
  exact fun {h} hb => H _ h rfl hb
theorem rc_got {K : Cx} {h : Th} {i : InsD} {a v : Int} (hb : (h.x.begun : Int) ≤ K.c.f) : RC K h.rank (hGot K i a v h) := rc_go (h := ({ h with x := setReg h.x i.a v } : Th).noted 7 a v) hb
theorem rc_wrote {K : Cx} {h : Th} {i : InsD} {a : Int} (hb : (h.x.begun : Int) ≤ K.c.f) : RC K h.rank (hWrote K i a h) := by
  unfold hWrote
  split
  · exact rc_go (h := hPut i a h) hb
  · rename_i hh
    exact ⟨rfl, by show h.rank = 0; exact Decidable.byContradiction fun e => hh (Or.inl e)⟩
theorem rc_exdone {K : Cx} {h : Th} {e : Ex} {c : Int} (hb : (h.x.begun : Int) ≤ K.c.f) : RC K h.rank (hExDone K e c h) := by
  cases e with
  | rd i a v => exact rc_got (h := { h with list := modLast h.list (fun t => { t with valid := c }), x := { h.x with valid := c } }) hb
  | wr i a => exact rc_wrote (h := { h with list := modLast h.list (fun t => { t with valid := c }), x := { h.x with valid := c } }) hb
theorem rc_exstill {K : Cx} {h : Th} {e : Ex} {c : Int} (hb : (h.x.begun : Int) ≤ K.c.f) (r : List EntD) : RC K h.rank (hExStill K e c r h) := by
  cases r with
  | nil => exact rc_exdone hb
  | cons q r => exact ⟨rfl, trivial⟩
theorem rc_shut {K : Cx} {h : Th} {c : Int} (r : List Int) : RC K h.rank (hShutAt c r h) := by cases r <;> exact ⟨rfl, trivial⟩
theorem rc_still {K : Cx} {h : Th} {c : Int} : ∀ (r : List EntD), RC K h.rank (hStillAt c r h)
  | [] => rc_shut _
  | e :: r => by
    unfold hStillAt
    split
    · exact rc_still r
    · exact ⟨rfl, trivial⟩
theorem rc_open {K : Cx} {h : Th} {c : Int} (r : List Int) : RC K h.rank (hOpenAt c r h) := by cases r <;> exact ⟨rfl, trivial⟩
theorem rc_word {K : Cx} {h : Th} {c : Int} (r : List EntD) : RC K h.rank (hWordAt c r h) := by
  cases r with
  | nil => exact rc_open _
  | cons q r => exact ⟨rfl, trivial⟩
theorem rc_rest {K : Cx} {h : Th} (d : Int) : RC K h.rank (hRest K d h) := by
  unfold hRest
  simp only
  generalize (d.tmod ((if h.fails < K.c.cp then h.fails else K.c.cp) + 1)).toNat = n
  split <;> exact ⟨rfl, trivial⟩

/-- The tickets, the statuses. -/
def Rankish (K : Cx) (x : Int) : Prop := x = 1 ∨ (3 + 2 * K.c.s ≤ x ∧ x < 3 + 2 * K.c.s + K.c.t)

inductive REff (K : Cx) (m m' : Int → Int) (h h' : Th) (q : AskD) : Prop
  | same (Q : q.kind ≠ 4) (M : ∀ x, Rankish K x → m' x = m x) (R : h'.rank = h.rank) (V : Vis h' = true → Vis h = true)
  | take (Q : q.kind = 4) (e : h.rank = 0 ∧ (m (hSta K K.me) / 8 = 0 ∨ m (hSta K K.me) / 8 = h.rank)) (M : m' = upd m 1 (m 1 + 1)) (R : h'.rank = m 1 + 1) (V : Vis h' = false)
  | shows (Q : q.kind ≠ 4) (M : m' = upd m (hSta K K.me) (8 * h.rank)) (R : h'.rank = h.rank)
  | zero (Q : q.kind ≠ 4) (M : m' = upd m (hSta K K.me) 0) (R : h'.rank = 0 ∨ (h'.rank = h.rank ∧ Vis h' = false))
  | mark (Q : q.kind ≠ 4) (u th : Int) (b : 0 ≤ u ∧ u < K.c.t ∧ u ≠ K.me) (e : m (hSta K u) = th ∧ 0 ≤ th ∧ th % 8 = 0) (M : m' = upd m (hSta K u) (th + K.me + 1)) (R : h'.rank = h.rank) (V : Vis h' = true → Vis h = true)

theorem reff_step {K : Cx} {k : Int} {h : Th} (hc : cfgB K.c = true) (hm : 0 ≤ K.me ∧ K.me < K.c.t) (A : ThOk K k h) (L : Loc2 K h) (m : Int → Int) (v : AnsD) (hv : (hOut K h).kind ≠ 0 → v.seen = m (hOut K h).cell) (hvk : (hOut K h).kind ≠ 0 → VOk K.c k (hOut K h).cell v.seen)
    (hno : ∀ i a, h.st = .gOwn i a → m (hOwn K (a.tmod K.c.s)) ≠ K.me + 1) (hsh : h.rank = 0 → m (hSta K K.me) / 8 = 0 ∨ m (hSta K K.me) / 8 = h.rank) :
    Loc2 K (hNext K h v) ∧ REff K m (mNext m (hOut K h)) h (hNext K h v) (hOut K h) := by
  obtain ⟨⟨t1, t2⟩, ⟨w1, w2⟩, ⟨s1, s2⟩, _, _, _, ⟨f1, f2⟩⟩ := cfgB_true hc
  have hb := A.x.bg
  have hs := A.step
  unfold StepOk at hs
  unfold hOut at hv hvk ⊢
  unfold hNext
  unfold Loc2 at L
  have st : ∀ {i : InsD} {a : Int}, AOk K i a → 0 ≤ a.tmod K.c.s ∧ a.tmod K.c.s < K.c.s := fun ha => tmodP s1 ha.1
  have off : ∀ (q : AskD), ¬ Rankish K q.cell → ∀ y, Rankish K y → mNext m q y = m y := fun q hq y hy => mNext_off m q (fun e => hq (by rw [← e]; exact hy))
  have ld : ∀ x : Int, ∀ y, Rankish K y → mNext m ⟨1, x, 0, 0⟩ y = m y := fun x y _ => by rw [mNext_load]
  have nv : ∀ s, 0 ≤ s → s < K.c.s → ¬ Rankish K (hVer s) := fun s a b => by unfold Rankish hVer; omega
  have no : ∀ s, 0 ≤ s → s < K.c.s → ¬ Rankish K (hOwn K s) := fun s a b => by unfold Rankish hOwn; omega
  have nw : ∀ a, 0 ≤ a → ¬ Rankish K (hWrd K a) := fun s a => by unfold Rankish hWrd; omega
  have n2 : ¬ Rankish K 2 := by unfold Rankish; omega
  have n0 : ¬ Rankish K 0 := by unfold Rankish; omega
  have rc : ∀ {m' : Int → Int} {h' : Th} {q : AskD}, q.kind ≠ 4 → RC K h.rank h' → (∀ x, Rankish K x → m' x = m x) → Vis h = true → Loc2 K h' ∧ REff K m m' h h' q := fun Q C M V => ⟨C.loc, REff.same Q M C.rank (fun _ => V)⟩
  have tk : ∀ h' : Th, mNext m ⟨4, 1, 0, 0⟩ = upd m 1 (m 1 + 1) := fun h' => by
    unfold mNext
    rw [if_neg (by simp)]
    funext y
    unfold wr upd putV
    simp
  cases hst : h.st with
  | idle => exact ⟨by unfold Loc2; rw [hst]; trivial, .same (by simp) (fun x _ => by rw [mNext_none]) rfl (fun a => a)⟩
  | start => exact rc (by simp) (rc_go (h := { h with list := h.list ++ [⟨K.me, h.job, v.num, 0, v.seen, 0, 0, []⟩], x := newTS (K.jobs.getD h.job (0, [])).2 v.seen, st := .start }) (by show ((0 : Nat) : Int) ≤ _; omega)) (ld 0) (by simp [Vis, hst])
  | rHeld i a => exact rc (by simp) (rc_got hb) (ld _) (by simp [Vis, hst])
  | rVer i a =>
    simp only
    split
    · exact rc (by simp) ⟨rfl, by unfold Loc2; rw [hst]; trivial⟩ (ld _) (by simp [Vis, hst])
    · exact rc (by simp) ⟨rfl, trivial⟩ (ld _) (by simp [Vis, hst])
  | rWord i a one => exact rc (by simp) ⟨rfl, trivial⟩ (ld _) (by simp [Vis, hst])
  | rAgain i a one w =>
    simp only
    split
    · exact rc (by simp) ⟨rfl, trivial⟩ (ld _) (by simp [Vis, hst])
    · have e4 : (if (entIdx h.x.reads (a.tmod K.c.s)).isSome then h.x else { h.x with reads := h.x.reads ++ [⟨a.tmod K.c.s, one⟩] }).begun = h.x.begun := by split <;> rfl
      generalize (if (entIdx h.x.reads (a.tmod K.c.s)).isSome then h.x else { h.x with reads := h.x.reads ++ [⟨a.tmod K.c.s, one⟩] }) = x1 at *
      split
      · exact rc (by simp) (rc_got (h := { h with x := x1, st := .rAgain i a one w }) (by rw [e4]; exact hb)) (ld _) (by simp [Vis, hst])
      · exact rc (by simp) ⟨rfl, trivial⟩ (ld _) (by simp [Vis, hst])
  | xClock e => exact rc (by simp) (rc_exstill hb _) (ld _) (by simp [Vis, hst])
  | xVer e c r =>
    rw [hst] at hs
    cases r with
    | nil => exact absurd rfl hs.2.2.1
    | cons q r =>
      simp only
      split
      · exact rc (by simp) rc_fail (ld _) (by simp [Vis, hst])
      · exact rc (by simp) (rc_exstill hb _) (ld _) (by simp [Vis, hst])
  | gStat i a =>
    simp only
    split
    · exact rc (by simp) rc_fail (ld _) (by simp [Vis, hst])
    · exact rc (by simp) ⟨rfl, trivial⟩ (ld _) (by simp [Vis, hst])
  | gOwn i a =>
    rw [hst] at hs hv
    have b := st hs.1
    have hv' := hv (by simp)
    simp only at hv' ⊢
    split
    · exact rc (by simp) ⟨rfl, trivial⟩ (off _ (no _ b.1 b.2)) (by simp [Vis, hst])
    · split
      · exact rc (by simp) rc_fail (off _ (no _ b.1 b.2)) (by simp [Vis, hst])
      · rename_i hr
        refine rc (by simp) ⟨rfl, ⟨hr, ?_⟩⟩ (off _ (no _ b.1 b.2)) (by simp [Vis, hst])
        rw [hv']
        exact hno i a hst
  | gTheir i a u =>
    rw [hst] at L hs hvk
    have hu := (hvk (by simp)).sta (by show _ ≤ hSta K _; unfold hSta; have := hs.2.1; omega) (by show hSta K _ < _; unfold hSta; have := hs.2.2; omega)
    have hq := sok_mod hu
    simp only
    split
    · exact rc (by simp) (rc_fail (h := { h with x := { h.x with way := u - 1 }, st := .gTheir i a u })) (ld _) (by simp [Vis, hst])
    · rename_i hn
      rw [hq.2] at hn
      split
      · exact rc (by simp) ⟨rfl, ⟨L, by have h1 := hu.1; show v.seen / 8 = 0 ∨ h.rank ≤ v.seen / 8; omega⟩⟩ (ld _) (by simp [Vis, hst])
      · exact rc (by simp) ⟨rfl, trivial⟩ (ld _) (by simp [Vis, hst])
  | gMark i a u th =>
    rw [hst] at L hs hv
    obtain ⟨_, ⟨u0, u1⟩, ⟨q0, q1, q2⟩, q3⟩ := hs
    have hv' := hv (by simp)
    simp only at hv' ⊢
    refine ⟨trivial, ?_⟩
    by_cases he : m (hSta K (u - 1)) = th
    · exact .mark (by simp) (u - 1) th ⟨by omega, by omega, by have := L.1.2; omega⟩ ⟨he, q0, q3⟩ (mNext_swap m _ _ _ he) rfl (fun _ => by simp [Vis, hst])
    · exact .same (by simp) (fun x _ => by rw [mNext_miss m _ _ _ he]) rfl (fun _ => by simp [Vis, hst])
  | gVer i a =>
    simp only
    split
    · exact rc (by simp) ⟨rfl, trivial⟩ (ld _) (by simp [Vis, hst])
    · exact rc (by simp) (rc_wrote hb) (ld _) (by simp [Vis, hst])
  | tTake =>
    rw [hst] at L hv hvk
    have hv' := hv (by simp)
    have := (hvk (by simp)).cnt (Or.inr rfl)
    simp only at hv' ⊢
    exact ⟨by show v.seen + 1 ≠ 0; omega, .take (by simp) ⟨L, hsh L⟩ (tk h) (by show v.seen + 1 = _; rw [hv']) rfl⟩
  | tShow =>
    rw [hst] at L hv
    have hv' := hv (by simp)
    simp only at hv' ⊢
    by_cases h0 : v.seen ≠ 0
    · rw [if_pos h0]
      have C := rc_fail (K := K) (h := h)
      exact ⟨C.loc, .same (by simp) (fun x _ => by rw [mNext_miss m _ _ _ (by rw [← hv']; exact h0)]) C.rank (fun a => by rw [vis_fail] at a; cases a)⟩
    · rw [if_neg h0]
      have C := rc_go (K := K) (h := h) hb
      exact ⟨C.loc, .shows (by simp) (mNext_swap m _ _ _ (by rw [← hv']; omega)) C.rank⟩
  | cStat =>
    simp only
    split
    · exact rc (by simp) rc_fail (ld _) (by simp [Vis, hst])
    · exact rc (by simp) ⟨rfl, trivial⟩ (ld _) (by simp [Vis, hst])
  | cGate =>
    simp only
    refine rc (by simp) ⟨rfl, ?_⟩ (off _ n2) (by simp [Vis, hst])
    by_cases h0 : v.seen = 0
    · rw [if_pos h0]; trivial
    · rw [if_neg h0]; trivial
  | cClock =>
    simp only
    split
    · exact rc (by simp) (rc_still _) (ld _) (by simp [Vis, hst])
    · exact rc (by simp) (rc_shut _) (ld _) (by simp [Vis, hst])
  | cVer c r =>
    rw [hst] at hs
    cases r with
    | nil => exact absurd rfl hs.2.1
    | cons q r =>
      simp only
      split
      · exact rc (by simp) rc_fail (ld _) (by simp [Vis, hst])
      · exact rc (by simp) (rc_still _) (ld _) (by simp [Vis, hst])
  | cShut c r =>
    rw [hst] at hs
    cases r with
    | nil => exact absurd rfl hs.2.1
    | cons q r =>
      have b := hs.2.2 q List.mem_cons_self
      exact rc (by simp) (rc_shut _) (off _ (nv _ b.1 b.2)) (by simp [Vis, hst])
  | cStamp c => exact rc (by simp) ⟨rfl, trivial⟩ (off _ n0) (by simp [Vis, hst])
  | cLeave c => exact rc (by simp) (rc_word _) (off _ n2) (by simp [Vis, hst])
  | cWord c r =>
    rw [hst] at hs
    cases r with
    | nil => exact absurd rfl hs.2.1
    | cons q r => exact rc (by simp) (rc_word _) (off _ (nw _ (hs.2.2 q List.mem_cons_self).1)) (by simp [Vis, hst])
  | cOpen c r =>
    rw [hst] at hs
    cases r with
    | nil => exact absurd rfl hs.2.1
    | cons q r =>
      have b := hs.2.2 q List.mem_cons_self
      exact rc (by simp) ⟨rfl, trivial⟩ (off _ (nv _ b.1 b.2)) (by simp [Vis, hst])
  | cOwn c r =>
    rw [hst] at hs
    cases r with
    | nil => exact absurd rfl hs.2.1
    | cons q r =>
      have b := hs.2.2 q List.mem_cons_self
      exact rc (by simp) (rc_open _) (off _ (no _ b.1 b.2)) (by simp [Vis, hst])
  | free e r =>
    rw [hst] at hs
    cases r with
    | nil => exact absurd rfl hs.1
    | cons q r =>
      have b := hs.2 q List.mem_cons_self
      exact rc (by simp) (rc_free e _) (off _ (no _ b.1 b.2)) (by simp [Vis, hst])
  | fin e =>
    simp only
    have hto : ∀ g : Th, g.rank = h.rank → Loc2 K (hTo K (h.job + 1) g) ∧ ((hTo K (h.job + 1) g).rank = 0 ∨ ((hTo K (h.job + 1) g).rank = h.rank ∧ Vis (hTo K (h.job + 1) g) = false)) := fun g hg => by
      unfold hTo
      split
      · exact ⟨trivial, Or.inl rfl⟩
      · exact ⟨trivial, Or.inr ⟨hg, rfl⟩⟩
    have hz := hto { h.ended v.num e with ends := h.ends.set h.job ⟨e, regOf h.x 0, regOf h.x 1, regOf h.x 2, regOf h.x 3⟩ } rfl
    exact ⟨hz.1, .zero (by simp) (mNext_store m _ _) hz.2⟩
  | fGate =>
    have C := rc_failown (K := K) (h := h) h.x.held
    exact ⟨C.loc, .same (by simp) (off _ n2) C.rank (fun a => by rw [vis_failown] at a; cases a)⟩
  | fOwn r =>
    rw [hst] at hs
    cases r with
    | nil => exact absurd rfl hs.1
    | cons q r =>
      have b := hs.2 q List.mem_cons_self
      have C := rc_failown (K := K) (h := h) r
      exact ⟨C.loc, .same (by simp) (off _ (no _ b.1 b.2)) C.rank (fun a => by rw [vis_failown] at a; cases a)⟩
  | fTake =>
    rw [hst] at L hv
    have hv' := hv (by simp)
    simp only at hv' ⊢
    exact ⟨trivial, .take (by simp) ⟨L, hsh L⟩ (tk h) (by show v.seen + 1 = _; rw [hv']) rfl⟩
  | fStat =>
    simp only
    generalize (if 0 < v.seen.tmod 8 then v.seen.tmod 8 - 1 else h.x.way) = win
    split
    · exact ⟨trivial, .shows (by simp) (mNext_store m _ _) rfl⟩
    · have C := rc_rest (K := K) (h := h.ended v.num 5) v.draw
      exact ⟨C.loc, .shows (by simp) (mNext_store m _ _) C.rank⟩
  | wait win =>
    simp only
    split
    · exact rc (by simp) ⟨rfl, trivial⟩ (ld _) (by simp [Vis, hst])
    · exact rc (by simp) ⟨rfl, by unfold Loc2; rw [hst]; trivial⟩ (ld _) (by simp [Vis, hst])
  | rest n =>
    simp only
    split
    · exact rc (by simp) ⟨rfl, trivial⟩ (fun x _ => by rw [mNext_none]) (by simp [Vis, hst])
    · exact rc (by simp) ⟨rfl, trivial⟩ (fun x _ => by rw [mNext_none]) (by simp [Vis, hst])

end Go.Proofs.Ytgdfmmfkdmhdgaa

namespace Go.Proofs.Ytgdfmmfkdmhdgaa
set_option linter.unusedVariables false

/-! Ranks, part 2: the cells show them, and nobody has another's. -/

structure RI (c : Cfg) (jobs : List (Int × List InsD)) (m : Int → Int) (th : Int → Th) (tick : Int → Int) : Prop where
  tk : ∀ t, 0 ≤ t → t < c.t → 0 ≤ tick t ∧ tick t ≤ m 1
  uq : ∀ t u, 0 ≤ t → t < c.t → 0 ≤ u → u < c.t → t ≠ u → tick t ≠ 0 → tick t ≠ tick u
  rk : ∀ t, 0 ≤ t → t < c.t → (th t).rank ≠ 0 → (th t).rank = tick t
  s1 : ∀ t, 0 ≤ t → t < c.t → m (3 + 2 * c.s + t) / 8 = 0 ∨ m (3 + 2 * c.s + t) / 8 = (th t).rank
  s2 : ∀ t, 0 ≤ t → t < c.t → Vis (th t) = true → m (3 + 2 * c.s + t) / 8 = (th t).rank
  l2 : ∀ t, 0 ≤ t → t < c.t → Loc2 (cxOf c jobs t) (th t)

theorem ri_step {c : Cfg} {jobs : List (Int × List InsD)} {m m' : Int → Int} {th : Int → Th} {tick : Int → Int} {t : Int} {h' : Th} {q : AskD} (hc : cfgB c = true) (t0 : 0 ≤ t) (t1 : t < c.t) (m1 : 0 ≤ m 1) (I : RI c jobs m th tick) (hl : Loc2 (cxOf c jobs t) h') (E : REff (cxOf c jobs t) m m' (th t) h' q) :
    RI c jobs m' (thSet th t h') (if q.kind = 4 then upd tick t (m 1 + 1) else tick) := by
  obtain ⟨⟨c1, c2⟩, _, ⟨z1, z2⟩, _⟩ := cfgB_true hc
  have at_t : thSet th t h' t = h' := if_pos rfl
  have off : ∀ {u}, u ≠ t → thSet th t h' u = th u := fun hu => if_neg hu
  have loc' : ∀ u, 0 ≤ u → u < c.t → Loc2 (cxOf c jobs u) (thSet th t h' u) := fun u u0 u1 => by
    by_cases hu : u = t
    · rw [hu, at_t]; exact hl
    · rw [off hu]; exact I.l2 u u0 u1
  have rkS : h'.rank = (th t).rank → ∀ u, 0 ≤ u → u < c.t → (thSet th t h' u).rank ≠ 0 → (thSet th t h' u).rank = tick u := fun R u a b x => by
    by_cases hu : u = t
    · rw [hu, at_t, R] at x ⊢; exact I.rk t t0 t1 x
    · rw [off hu] at x ⊢; exact I.rk u a b x
  have cs : hSta (cxOf c jobs t) (cxOf c jobs t).me = 3 + 2 * c.s + t := rfl
  cases E with
  | same Q M R V =>
    rw [if_neg Q]
    have M' : ∀ x, (x = 1 ∨ (3 + 2 * c.s ≤ x ∧ x < 3 + 2 * c.s + c.t)) → m' x = m x := M
    refine ⟨fun u a b => ?_, I.uq, rkS R, fun u a b => ?_, fun u a b x => ?_, loc'⟩
    · rw [M' 1 (by omega)]; exact I.tk u a b
    · rw [M' _ (by omega)]
      by_cases hu : u = t
      · rw [hu, at_t, R]; exact I.s1 t t0 t1
      · rw [off hu]; exact I.s1 u a b
    · rw [M' _ (by omega)]
      by_cases hu : u = t
      · rw [hu, at_t] at x ⊢
        rw [R]; exact I.s2 t t0 t1 (V x)
      · rw [off hu] at x ⊢; exact I.s2 u a b x
  | take Q e M R V =>
    rw [if_pos Q]
    have e1 : m' 1 = m 1 + 1 := by rw [M]; exact upd_at _ _ _
    have M2 : ∀ x, x ≠ 1 → m' x = m x := fun x hx => by rw [M]; exact upd_off hx
    have ta : upd tick t (m 1 + 1) t = m 1 + 1 := upd_at _ _ _
    have tb : ∀ {u}, u ≠ t → upd tick t (m 1 + 1) u = tick u := fun hu => upd_off hu
    refine ⟨fun u a b => ?_, fun u v a b d f huv x => ?_, fun u a b x => ?_, fun u a b => ?_, fun u a b x => ?_, loc'⟩
    · by_cases hu : u = t
      · rw [hu, ta, e1]; omega
      · rw [tb hu, e1]
        have := I.tk u a b
        omega
    · by_cases hu : u = t
      · have hv : v ≠ t := fun e => huv (hu.trans e.symm)
        rw [hu, ta, tb hv]
        have := I.tk v d f
        omega
      · by_cases hv : v = t
        · rw [hv, ta, tb hu]
          have := I.tk u a b
          omega
        · rw [tb hu] at x ⊢
          rw [tb hv]
          exact I.uq u v a b d f huv x
    · by_cases hu : u = t
      · rw [hu, at_t, ta]; exact R
      · rw [off hu] at x ⊢
        rw [tb hu]; exact I.rk u a b x
    · rw [M2 _ (by omega)]
      by_cases hu : u = t
      · rw [hu, at_t]
        left
        rcases I.s1 t t0 t1 with y | y
        · exact y
        · rw [y]; exact e.1
      · rw [off hu]; exact I.s1 u a b
    · by_cases hu : u = t
      · rw [hu, at_t, V] at x; cases x
      · rw [M2 _ (by omega)]
        rw [off hu] at x ⊢; exact I.s2 u a b x
  | shows Q M R =>
    rw [if_neg Q]
    rw [cs] at M
    have e1 : m' (3 + 2 * c.s + t) = 8 * (th t).rank := by rw [M]; exact upd_at _ _ _
    have M2 : ∀ x, x ≠ 3 + 2 * c.s + t → m' x = m x := fun x hx => by rw [M]; exact upd_off hx
    refine ⟨fun u a b => ?_, I.uq, rkS R, fun u a b => ?_, fun u a b x => ?_, loc'⟩
    · rw [M2 1 (by omega)]; exact I.tk u a b
    · by_cases hu : u = t
      · rw [hu, at_t, e1, R]; right; omega
      · rw [M2 _ (by omega), off hu]; exact I.s1 u a b
    · by_cases hu : u = t
      · rw [hu, at_t, e1, R]; omega
      · rw [M2 _ (by omega)]
        rw [off hu] at x ⊢; exact I.s2 u a b x
  | zero Q M R =>
    rw [if_neg Q]
    rw [cs] at M
    have e1 : m' (3 + 2 * c.s + t) = 0 := by rw [M]; exact upd_at _ _ _
    have M2 : ∀ x, x ≠ 3 + 2 * c.s + t → m' x = m x := fun x hx => by rw [M]; exact upd_off hx
    refine ⟨fun u a b => ?_, I.uq, fun u a b x => ?_, fun u a b => ?_, fun u a b x => ?_, loc'⟩
    · rw [M2 1 (by omega)]; exact I.tk u a b
    · by_cases hu : u = t
      · rw [hu, at_t] at x ⊢
        rcases R with y | y
        · exact absurd y x
        · rw [y.1] at x ⊢; exact I.rk t t0 t1 x
      · rw [off hu] at x ⊢; exact I.rk u a b x
    · by_cases hu : u = t
      · rw [hu, at_t, e1]; left; rfl
      · rw [M2 _ (by omega), off hu]; exact I.s1 u a b
    · by_cases hu : u = t
      · rw [hu, at_t] at x ⊢
        rw [e1]
        rcases R with y | y
        · rw [y]; rfl
        · rw [y.2] at x; cases x
      · rw [M2 _ (by omega)]
        rw [off hu] at x ⊢; exact I.s2 u a b x
  | mark Q w g b e M R V =>
    rw [if_neg Q]
    have b0 := b.1
    have b1 : w < c.t := b.2.1
    have b2 : w ≠ t := b.2.2
    have cw : hSta (cxOf c jobs t) w = 3 + 2 * c.s + w := rfl
    rw [cw] at M e
    have e1 : m' (3 + 2 * c.s + w) = g + t + 1 := by rw [M]; exact upd_at _ _ _
    have e2 : m' (3 + 2 * c.s + w) / 8 = m (3 + 2 * c.s + w) / 8 := by rw [e1, e.1]; have := e.2.1; have := e.2.2; omega
    have M2 : ∀ x, x ≠ 3 + 2 * c.s + w → m' x = m x := fun x hx => by rw [M]; exact upd_off hx
    have M3 : ∀ u, m' (3 + 2 * c.s + u) / 8 = m (3 + 2 * c.s + u) / 8 := fun u => by
      by_cases hu : u = w
      · rw [hu]; exact e2
      · rw [M2 _ (by omega)]
    refine ⟨fun u a b => ?_, I.uq, rkS R, fun u a b => ?_, fun u a b x => ?_, loc'⟩
    · rw [M2 1 (by omega)]; exact I.tk u a b
    · rw [M3]
      by_cases hu : u = t
      · rw [hu, at_t, R]; exact I.s1 t t0 t1
      · rw [off hu]; exact I.s1 u a b
    · rw [M3]
      by_cases hu : u = t
      · rw [hu, at_t] at x ⊢
        rw [R]; exact I.s2 t t0 t1 (V x)
      · rw [off hu] at x ⊢; exact I.s2 u a b x

/-- By thread the ticket that it took last, behind k picks. -/
def tickAt (c : Cfg) (mem : List Int) (jobs : List (Int × List InsD)) (ps : List PickD) : Nat → Int → Int
  | 0 => fun _ => 0
  | k + 1 => fun t => if (pickAt ps k).thread = t ∧ (accAt (accs c mem jobs ps) k).kind = 4 then (accAt (accs c mem jobs ps) k).put else tickAt c mem jobs ps k t

theorem take_ask {K : Cx} {h : Th} (e : (hOut K h).kind = 4) : hOut K h = ⟨4, 1, 0, 0⟩ := by
  unfold hOut at e ⊢
  split at e <;> first
    | rfl
    | (simp at e)

theorem ri_start {c : Cfg} (hc : cfgB c = true) {mem : List Int} (jobs : List (Int × List InsD)) : RI c jobs (gStart c mem jobs).m (gStart c mem jobs).th (fun _ => 0) := by
  obtain ⟨⟨t1, t2⟩, _, ⟨s1, s2⟩, _⟩ := cfgB_true hc
  have lo : ∀ x, x < wordBase c → startVal c mem x = 0 := fun x h => by unfold startVal; rw [if_neg (by omega)]
  unfold wordBase at lo
  have hto : ∀ t, (hInit (cxOf c jobs t)).rank = 0 ∧ Loc2 (cxOf c jobs t) (hInit (cxOf c jobs t)) := fun t => by
    unfold hInit hTo
    split
    · exact ⟨rfl, trivial⟩
    · exact ⟨rfl, trivial⟩
  refine ⟨fun t a b => ?_, fun t u a b d e h x => absurd rfl x, fun t a b x => absurd (hto t).1 x, fun t a b => ?_, fun t a b x => ?_, fun t a b => (hto t).2⟩
  · rw [show (gStart c mem jobs).m 1 = 0 from lo _ (by omega)]; omega
  · rw [show (gStart c mem jobs).m (3 + 2 * c.s + t) = 0 from lo _ (by omega)]; left; rfl
  · rw [show (gStart c mem jobs).m (3 + 2 * c.s + t) = 0 from lo _ (by omega), show (gStart c mem jobs).th t = hInit (cxOf c jobs t) from rfl, (hto t).1]; rfl

theorem ri_at {c : Cfg} (hc : cfgB c = true) {mem : List Int} (hmw : (mem.length : Int) = c.wd) (hmb : memB mem = true) (jobs : List (Int × List InsD)) (ps : List PickD) : ∀ k : Nat, k ≤ ps.length → RI c jobs (gAt c mem jobs ps k).m (gAt c mem jobs ps k).th (tickAt c mem jobs ps k)
  | 0, _ => ri_start hc jobs
  | k + 1, hk => by
    have R := ri_at hc hmw hmb jobs ps k (by omega)
    have I := li_at hc hmw hmb jobs ps k
    have G := gat_ok hc hmw hmb jobs ps k
    have ha := accs_get c mem jobs ps k (by omega)
    by_cases ht : 0 ≤ (pickAt ps k).thread ∧ (pickAt ps k).thread < c.t
    · have hcK : cfgB (cxOf c jobs (pickAt ps k).thread).c = true := hc
      rw [gstep_in ht] at ha
      have hst : gAt c mem jobs ps (k + 1) = ⟨mNext (gAt c mem jobs ps k).m (hOut (cxOf c jobs (pickAt ps k).thread) ((gAt c mem jobs ps k).th (pickAt ps k).thread)), thSet (gAt c mem jobs ps k).th (pickAt ps k).thread (hNext (cxOf c jobs (pickAt ps k).thread) ((gAt c mem jobs ps k).th (pickAt ps k).thread) ⟨(gAcc c jobs (gAt c mem jobs ps k) (pickAt ps k).thread).seen, (pickAt ps k).draw, (k : Int) + 1⟩)⟩ := by
        show (gStep c jobs (gAt c mem jobs ps k) _ (pickAt ps k)).1 = _
        unfold gStep
        rw [if_pos ht]
        rfl
      rw [hst]
      generalize gAt c mem jobs ps k = g at *
      generalize htt : (pickAt ps k).thread = t at *
      have seen : (hOut (cxOf c jobs t) (g.th t)).kind ≠ 0 → (gAcc c jobs g t).seen = g.m (hOut (cxOf c jobs t) (g.th t)).cell := fun h0 => by
        unfold gAcc
        rw [acc_some h0]
      have m1 : 0 ≤ g.m 1 := ((G.m 1 (by omega) (by rw [total_eq]; obtain ⟨⟨c1, c2⟩, ⟨x1, x2⟩, ⟨z1, z2⟩, _⟩ := cfgB_true hc; omega)).cnt (Or.inr rfl)).1
      obtain ⟨hl, E⟩ := reff_step hcK ht (G.th t ht.1 ht.2) (R.l2 t ht.1 ht.2) g.m ⟨(gAcc c jobs g t).seen, (pickAt ps k).draw, (k : Int) + 1⟩ seen (fun h0 => by
          show VOk c k _ (gAcc c jobs g t).seen
          rw [seen h0]
          obtain ⟨hcell, _⟩ := ask_ok hcK ht (by omega) (G.th t ht.1 ht.2) h0
          exact G.m _ hcell.1 hcell.2) (fun i a hg e => by
          have hs := (G.th t ht.1 ht.2).step
          unfold StepOk at hs
          rw [hg] at hs
          obtain ⟨_, _, ⟨z1, _⟩, _⟩ := cfgB_true hc
          have b := tmodP z1 hs.1.1
          have := (I.own _ b.1 b.2 t ht.1 ht.2).1 e
          simp [Holds, hg] at this
          exact held_false hs.2 this) (fun _ => R.s1 t ht.1 ht.2)
      have S := ri_step hc ht.1 ht.2 m1 R hl E
      have e : tickAt c mem jobs ps (k + 1) = if (hOut (cxOf c jobs t) (g.th t)).kind = 4 then upd (tickAt c mem jobs ps k) t (g.m 1 + 1) else tickAt c mem jobs ps k := by
        funext u
        show (if (pickAt ps k).thread = u ∧ (accAt (accs c mem jobs ps) k).kind = 4 then (accAt (accs c mem jobs ps) k).put else tickAt c mem jobs ps k u) = _
        rw [htt, ha]
        by_cases h4 : (hOut (cxOf c jobs t) (g.th t)).kind = 4
        · rw [if_pos h4, acc_some (by rw [h4]; decide)]
          have hq := take_ask h4
          by_cases hu : t = u
          · rw [if_pos ⟨hu, h4⟩, ← hu, upd_at, hq]
            simp [putV]
          · rw [if_neg (fun a => hu a.1), upd_off (fun a => hu a.symm)]
        · rw [if_neg h4, if_neg]
          rintro ⟨_, b⟩
          by_cases h0 : (hOut (cxOf c jobs t) (g.th t)).kind = 0
          · rw [acc_none h0] at b
            simp [noAcc] at b
          · rw [acc_some h0] at b
            exact h4 b
      rw [e]
      exact S
    · have hst : gAt c mem jobs ps (k + 1) = gAt c mem jobs ps k := by
        show (gStep c jobs (gAt c mem jobs ps k) _ (pickAt ps k)).1 = _
        unfold gStep
        rw [if_neg ht]
      have e : tickAt c mem jobs ps (k + 1) = tickAt c mem jobs ps k := by
        funext u
        show (if (pickAt ps k).thread = u ∧ (accAt (accs c mem jobs ps) k).kind = 4 then (accAt (accs c mem jobs ps) k).put else tickAt c mem jobs ps k u) = _
        rw [ha]
        unfold gStep
        rw [if_neg ht, if_neg (by simp [noAcc])]
      rw [hst, e]
      exact R

end Go.Proofs.Ytgdfmmfkdmhdgaa

namespace Go.Proofs.Ytgdfmmfkdmhdgaa
set_option linter.unusedVariables false

/-! Ranks, part 3: what is asked of each access, as a test; and that it holds. -/

def rankedB (c : Cfg) (m tick : Int → Int) (t u : Int) (a : AccD) : Bool :=
  if a.kind = 1 then true
  else if a.kind = 2 then t == u && (a.put == 0 || a.put == 8 * tick t)
  else if a.kind ≠ 3 then false
  else if a.put = a.seen then true
  else if t = u then a.seen == 0 && a.put == 8 * tick t
  else if (m (3 + 2 * c.s + t)).tdiv 8 = 0 ∨ a.seen.tmod 8 ≠ 0 ∨ a.put ≠ a.seen + t + 1 then false
  else (a.seen.tdiv 8 == 0 || decide ((m (3 + 2 * c.s + t)).tdiv 8 < a.seen.tdiv 8))

theorem take_ok {c : Cfg} {jobs : List (Int × List InsD)} {k t : Int} {m tick : Int → Int} {th : Int → Th} (hc : cfgB c = true) (t0 : 0 ≤ t) (t1 : t < c.t) (M : CellsOk c k m) (R : RI c jobs m th tick) (h4 : (hOut (cxOf c jobs t) (th t)).kind = 4) : (m (3 + 2 * c.s + t)).tdiv 8 = 0 := by
  obtain ⟨⟨c1, c2⟩, ⟨w1, w2⟩, ⟨s1, s2⟩, _⟩ := cfgB_true hc
  have so := (M (3 + 2 * c.s + t) (by omega) (by rw [total_eq]; omega)).sta (by omega) (by omega)
  rw [(sok_mod so).2]
  have hr : (th t).rank = 0 := by
    have L := R.l2 t t0 t1
    unfold Loc2 at L
    unfold hOut at h4
    cases hq : (th t).st with
    | tTake => rw [hq] at L; exact L
    | fTake => rw [hq] at L; exact L
    | xVer e c r => rw [hq] at h4; cases r <;> simp at h4
    | cVer c r => rw [hq] at h4; cases r <;> simp at h4
    | cShut c r => rw [hq] at h4; cases r <;> simp at h4
    | cWord c r => rw [hq] at h4; cases r <;> simp at h4
    | cOpen c r => rw [hq] at h4; cases r <;> simp at h4
    | cOwn c r => rw [hq] at h4; cases r <;> simp at h4
    | free e r => rw [hq] at h4; cases r <;> simp at h4
    | fOwn r => rw [hq] at h4; cases r <;> simp at h4
    | _ => rw [hq] at h4; simp at h4
  rcases R.s1 t t0 t1 with y | y
  · exact y
  · rw [y, hr]

theorem ranked_ok {c : Cfg} {jobs : List (Int × List InsD)} {k t : Int} {m tick : Int → Int} {th : Int → Th} (hc : cfgB c = true) (t0 : 0 ≤ t) (t1 : t < c.t) (M : CellsOk c k m) (R : RI c jobs m th tick) (A : ThOk (cxOf c jobs t) k (th t)) (h0 : (hOut (cxOf c jobs t) (th t)).kind ≠ 0) (h4 : (hOut (cxOf c jobs t) (th t)).kind ≠ 4)
    (hl : 3 + 2 * c.s ≤ (hOut (cxOf c jobs t) (th t)).cell) (hh : (hOut (cxOf c jobs t) (th t)).cell < 3 + 2 * c.s + c.t) :
    rankedB c m tick t ((hOut (cxOf c jobs t) (th t)).cell - (3 + 2 * c.s)) (accBy m (hOut (cxOf c jobs t) (th t))) = true := by
  obtain ⟨⟨c1, c2⟩, ⟨w1, w2⟩, ⟨s1, s2⟩, _⟩ := cfgB_true hc
  have hs := A.step
  have hrb := A.rank
  have L := R.l2 t t0 t1
  rw [acc_some h0]
  unfold StepOk at hs
  unfold hOut at h0 h4 hl hh ⊢
  unfold Loc2 at L
  have eK : (cxOf c jobs t).c = c := rfl
  have so : ∀ u, 0 ≤ u → u < c.t → SOk c k (m (3 + 2 * c.s + u)) := fun u a b => (M (3 + 2 * c.s + u) (by omega) (by rw [total_eq]; omega)).sta (by omega) (by omega)
  have load : ∀ x y v : Int, rankedB c m tick t y ⟨1, x, v, putV ⟨1, x, 0, 0⟩ v⟩ = true := fun x y v => by simp [rankedB]
  -- one's own status
  have mine : ∀ p : Int, p = 0 ∨ p = 8 * tick t → rankedB c m tick t (3 + 2 * c.s + t - (3 + 2 * c.s)) ⟨2, 3 + 2 * c.s + t, m (3 + 2 * c.s + t), p⟩ = true := fun p hp => by
    rw [show 3 + 2 * c.s + t - (3 + 2 * c.s) = t from by omega]
    rcases hp with e | e <;> simp [rankedB, e]
  have rk8 : 8 * (th t).rank = 0 ∨ 8 * (th t).rank = 8 * tick t := by
    by_cases e : (th t).rank = 0
    · left; rw [e]; rfl
    · right; rw [R.rk t t0 t1 e]
  have out : ∀ {P : Prop} (x : Int), 3 + 2 * c.s ≤ x → x < 3 + 2 * c.s + c.t → (x < 3 + 2 * c.s ∨ 3 + 2 * c.s + c.t ≤ x) → P := fun x a b d => by omega
  have bOwn : ∀ s, s < c.s → hOwn (cxOf c jobs t) s < 3 + 2 * c.s := fun s a => by unfold hOwn; rw [eK]; omega
  have bVer : ∀ s, s < c.s → hVer s < 3 + 2 * c.s := fun s a => by unfold hVer; omega
  have bWrd : ∀ a, 0 ≤ a → 3 + 2 * c.s + c.t ≤ hWrd (cxOf c jobs t) a := fun a b => by unfold hWrd; rw [eK]; omega
  have mem1 : ∀ {q : Int} {r : List Int}, q ∈ q :: r := List.mem_cons_self
  cases hq : (th t).st with
  | idle => rw [hq] at h0; exact absurd rfl h0
  | start => exact load _ _ _
  | rHeld i a => exact load _ _ _
  | rVer i a => exact load _ _ _
  | rWord i a one => exact load _ _ _
  | rAgain i a one w => exact load _ _ _
  | xClock e => exact load _ _ _
  | xVer e c r =>
    rw [hq] at hs
    cases r with
    | nil => exact absurd rfl hs.2.2.1
    | cons q r => exact load _ _ _
  | gStat i a => exact load _ _ _
  | gOwn i a =>
    rw [hq] at hs hl hh
    exact out _ hl hh (Or.inl (bOwn _ (tmodP s1 hs.1.1).2))
  | gTheir i a u => exact load _ _ _
  | gMark i a u g =>
    rw [hq] at hs L
    obtain ⟨_, ⟨u0, u1⟩, ⟨q0, q1, q2⟩, q3⟩ := hs
    rw [eK] at u1
    have hne : u - 1 ≠ t := by have := L.1.2; show u - 1 ≠ t; intro e; exact this (by show u = t + 1; omega)
    have su := so (u - 1) (by omega) (by omega)
    have st := so t t0 t1
    have vt := R.s2 t t0 t1 (by simp [Vis, hq])
    have ru := R.s1 (u - 1) (by omega) (by omega)
    have rt := R.rk t t0 t1 L.1.1
    have uq := R.uq t (u - 1) t0 t1 (by omega) (by omega) (fun e => hne e.symm) (by rw [← rt]; exact L.1.1)
    have rku := R.rk (u - 1) (by omega) (by omega)
    show rankedB c m tick t (3 + 2 * c.s + (u - 1) - (3 + 2 * c.s)) ⟨3, 3 + 2 * c.s + (u - 1), m (3 + 2 * c.s + (u - 1)), putV ⟨3, 3 + 2 * c.s + (u - 1), g, g + t + 1⟩ (m (3 + 2 * c.s + (u - 1)))⟩ = true
    rw [show 3 + 2 * c.s + (u - 1) - (3 + 2 * c.s) = u - 1 from by omega]
    have dt := (sok_mod st).2
    have du := sok_mod su
    unfold rankedB
    simp only
    rw [if_neg (by omega), if_neg (by omega), if_neg (by omega)]
    by_cases he : m (3 + 2 * c.s + (u - 1)) = g
    · have hp : putV ⟨3, 3 + 2 * c.s + (u - 1), g, g + t + 1⟩ (m (3 + 2 * c.s + (u - 1))) = g + t + 1 := by simp [putV, he]
      rw [hp, if_neg (by omega), if_neg (fun e => hne e.symm), dt, vt, du.1, du.2, he]
      have l1 := L.1.1
      have l2 := L.2
      rw [he] at ru
      rw [if_neg (by omega)]
      have key : g / 8 = 0 ∨ (th t).rank < g / 8 := by
        by_cases z : g / 8 = 0
        · exact Or.inl z
        · right
          have e1 : g / 8 = (th (u - 1)).rank := ru.elim (fun y => absurd y z) id
          have e2 := rku (by rw [← e1]; exact z)
          omega
      rcases key with y | y
      · simp [y]
      · simp [y]
    · rw [if_pos (by simp [putV, he])]
  | gVer i a => exact load _ _ _
  | tTake => rw [hq] at h4; exact absurd rfl h4
  | tShow =>
    rw [hq] at L
    show rankedB c m tick t (3 + 2 * c.s + t - (3 + 2 * c.s)) ⟨3, 3 + 2 * c.s + t, m (3 + 2 * c.s + t), putV ⟨3, 3 + 2 * c.s + t, 0, 8 * (th t).rank⟩ (m (3 + 2 * c.s + t))⟩ = true
    rw [show 3 + 2 * c.s + t - (3 + 2 * c.s) = t from by omega]
    unfold rankedB
    simp only
    rw [if_neg (by omega), if_neg (by omega), if_neg (by omega)]
    by_cases he : m (3 + 2 * c.s + t) = 0
    · have rt := R.rk t t0 t1 L
      rw [show putV ⟨3, 3 + 2 * c.s + t, 0, 8 * (th t).rank⟩ (m (3 + 2 * c.s + t)) = 8 * (th t).rank from by simp [putV, he], he]
      have : (th t).rank ≠ 0 := L
      rw [if_neg (by omega), if_pos trivial, rt]
      simp
    · rw [if_pos (by simp [putV, he])]
  | cStat => exact load _ _ _
  | cGate => rw [hq] at hl; exact out _ hl (by rw [hq] at hh; exact hh) (Or.inl (by show (2 : Int) < _; omega))
  | cClock => exact load _ _ _
  | cVer c r =>
    rw [hq] at hs
    cases r with
    | nil => exact absurd rfl hs.2.1
    | cons q r => exact load _ _ _
  | cShut c1 r =>
    rw [hq] at hs hl hh
    cases r with
    | nil => exact absurd rfl hs.2.1
    | cons q r => exact out _ hl hh (Or.inl (bVer _ (hs.2.2 q mem1).2))
  | cStamp c1 => rw [hq] at hl hh; exact out _ hl hh (Or.inl (by show (0 : Int) < _; omega))
  | cLeave c1 => rw [hq] at hl hh; exact out _ hl hh (Or.inl (by show (2 : Int) < _; omega))
  | cWord c1 r =>
    rw [hq] at hs hl hh
    cases r with
    | nil => exact absurd rfl hs.2.1
    | cons q r => exact out _ hl hh (Or.inr (bWrd _ (hs.2.2 q List.mem_cons_self).1))
  | cOpen c1 r =>
    rw [hq] at hs hl hh
    cases r with
    | nil => exact absurd rfl hs.2.1
    | cons q r => exact out _ hl hh (Or.inl (bVer _ (hs.2.2 q mem1).2))
  | cOwn c1 r =>
    rw [hq] at hs hl hh
    cases r with
    | nil => exact absurd rfl hs.2.1
    | cons q r => exact out _ hl hh (Or.inl (bOwn _ (hs.2.2 q mem1).2))
  | free e r =>
    rw [hq] at hs hl hh
    cases r with
    | nil => exact absurd rfl hs.1
    | cons q r => exact out _ hl hh (Or.inl (bOwn _ (hs.2 q mem1).2))
  | fin e => exact mine _ (Or.inl rfl)
  | fGate => rw [hq] at hl hh; exact out _ hl hh (Or.inl (by show (2 : Int) < _; omega))
  | fOwn r =>
    rw [hq] at hs hl hh
    cases r with
    | nil => exact absurd rfl hs.1
    | cons q r => exact out _ hl hh (Or.inl (bOwn _ (hs.2 q mem1).2))
  | fTake => rw [hq] at h4; exact absurd rfl h4
  | fStat => exact mine _ rk8
  | wait win => exact load _ _ _
  | rest n => rw [hq] at h0; exact absurd rfl h0

end Go.Proofs.Ytgdfmmfkdmhdgaa
