import Derived.Test.YtgdfmmfkdmhdgaaG43
namespace Go.Proofs.Ytgdfmmfkdmhdgaa
set_option linter.unusedVariables false

/-! Ranks: what a machine shows, and who may mark whom. -/

/-- Does its status show its rank? -/
def Vis (h : Th) : Bool := match h.st with
  | .idle => false
  | .tShow => false
  | .fGate => false
  | .fOwn _ => false
  | .fTake => false
  | .fStat => false
  | _ => true

def Loc2 (K : Cx) (h : Th) : Prop := match h.st with
  | .tTake => h.rank = 0
  | .fTake => h.rank = 0
  | .tShow => h.rank ≠ 0
  | .gTheir _ _ u => h.rank ≠ 0 ∧ u ≠ K.me + 1
  | .gMark _ _ u th => (h.rank ≠ 0 ∧ u ≠ K.me + 1) ∧ (th / 8 = 0 ∨ h.rank ≤ th / 8)
  | _ => True

structure RC (K : Cx) (r : Int) (h' : Th) : Prop where
  rank : h'.rank = r
  loc : Loc2 K h'

theorem rc_free {K : Cx} {h : Th} (e : Int) (r : List Int) : RC K h.rank (hFreeAt e r h) := by cases r <;> exact ⟨rfl, trivial⟩
theorem rc_close {K : Cx} {h : Th} (e : Int) : RC K h.rank (hClose e h) := by
  unfold hClose
  split
  · exact ⟨rfl, trivial⟩
  · exact rc_free e _
theorem rc_count {K : Cx} {h : Th} : RC K h.rank (hCount K h) := by
  unfold hCount
  split
  · rename_i hh
    exact ⟨rfl, hh.1⟩
  · exact ⟨rfl, trivial⟩
theorem rc_failown {K : Cx} {h : Th} (r : List Int) : RC K h.rank (hFailOwn K r h) := by
  cases r with
  | nil => exact rc_count
  | cons q r => exact ⟨rfl, trivial⟩
theorem rc_fail {K : Cx} {h : Th} : RC K h.rank (hFail K h) := by
  unfold hFail
  split
  · exact ⟨rfl, trivial⟩
  · exact rc_failown _
theorem vis_failown {K : Cx} {h : Th} (r : List Int) : Vis (hFailOwn K r h) = false := by
  cases r with
  | nil =>
    show Vis (hCount K h) = false
    unfold hCount
    split <;> rfl
  | cons q r => rfl
theorem vis_fail {K : Cx} {h : Th} : Vis (hFail K h) = false := by
  unfold hFail
  split
  · rfl
  · exact vis_failown _

def RD (K : Cx) (h : Th) (t : Bool × Th) : Prop := (t.1 = true → t.2.rank = h.rank) ∧ (t.1 = false → RC K h.rank t.2)
theorem RD.off {K : Cx} {h h' : Th} (A : RC K h.rank h') : RD K h (false, h') := ⟨(fun e => nomatch e), fun _ => A⟩
theorem RD.on {K : Cx} {h h' : Th} (A : h'.rank = h.rank) : RD K h (true, h') := ⟨fun _ => A, (fun e => nomatch e)⟩

theorem rd_step {K : Cx} {h : Th} : RD K h (hStep K h) := by
  unfold hStep
  by_cases h1 : h.x.place = h.x.code.length
  · rw [if_pos h1]; exact RD.off (rc_close 1)
  rw [if_neg h1]
  by_cases h2 : (h.x.begun : Int) = K.c.f
  · rw [if_pos h2]; exact RD.off (rc_close 4)
  rw [if_neg h2]
  simp only
  generalize insAt h.x.code h.x.place = i at *
  by_cases h3 : formedB i h.x.code.length = false
  · rw [if_pos h3]; exact RD.off (rc_close (h := { h with x := { h.x with begun := h.x.begun + 1 } }) 3)
  rw [if_neg h3]
  by_cases o0 : i.op = 0
  · rw [if_pos o0]; exact RD.off (rc_close (h := { h with x := { h.x with begun := h.x.begun + 1, place := h.x.place + 1 } }) 1)
  rw [if_neg o0]
  by_cases o1 : i.op = 1
  · rw [if_pos o1]; exact RD.off (rc_close (h := { h with x := { h.x with begun := h.x.begun + 1, place := h.x.place + 1 } }) 2)
  rw [if_neg o1]
  by_cases o2 : i.op = 2
  · rw [if_pos o2]; exact RD.on rfl
  rw [if_neg o2]
  by_cases o3 : i.op = 3
  · rw [if_pos o3]; exact RD.on rfl
  rw [if_neg o3]
  by_cases o4 : i.op = 4
  · rw [if_pos o4]; exact RD.on rfl
  rw [if_neg o4]
  by_cases o5 : i.op = 5
  · rw [if_pos o5]; exact RD.on rfl
  rw [if_neg o5]
  by_cases o6 : i.op = 6
  · rw [if_pos o6]; exact RD.on rfl
  rw [if_neg o6]
  by_cases o7 : i.op = 7
  · rw [if_pos o7]
    unfold hRead
    simp only
    split
    · exact RD.off (rc_close (h := { h with x := { h.x with begun := h.x.begun + 1, place := h.x.place + 1 } }) 3)
    · cases he : entIdx h.x.writes (regOf { h.x with begun := h.x.begun + 1, place := h.x.place + 1 } i.b) with
      | some j => exact RD.on rfl
      | none =>
        simp only
        refine RD.off ?_
        split <;> exact ⟨rfl, trivial⟩
  · rw [if_neg o7]
    unfold hWrite
    simp only
    split
    · exact RD.off (rc_close (h := { h with x := { h.x with begun := h.x.begun + 1, place := h.x.place + 1 } }) 3)
    · split
      · exact RD.on rfl
      · exact RD.off ⟨rfl, trivial⟩

theorem rc_go {K : Cx} : ∀ {h : Th}, (h.x.begun : Int) ≤ K.c.f → RC K h.rank (hGo K h) := by
  have H : ∀ (n : Nat) (h : Th), n = K.c.f.toNat - h.x.begun → (h.x.begun : Int) ≤ K.c.f → RC K h.rank (hGo K h) := by
    intro n
    induction n with
    | zero =>
      intro h hnn hb
      rw [hGo_eq K h hb]
      by_cases hs : (hStep K h).1 = true
      · have := hStep_begun K h hs
        omega
      · rw [if_neg hs]
        exact rd_step.2 (by simpa using hs)
    | succ n ih =>
      intro h hnn hb
      rw [hGo_eq K h hb]
      by_cases hs : (hStep K h).1 = true
      · rw [if_pos hs]
        have hbg := hStep_begun K h hs
        have := ih (hStep K h).2 (by omega) (by omega)
        rw [rd_step.1 hs] at this
        exact this
      · rw [if_neg hs]
        exact rd_step.2 (by simpa using hs)
  exact fun {h} hb => H _ h rfl hb
theorem rc_got {K : Cx} {h : Th} {i : InsD} {a v : Int} (hb : (h.x.begun : Int) ≤ K.c.f) : RC K h.rank (hGot K i a v h) := rc_go (h := ({ h with x := setReg h.x i.a v } : Th).noted 7 a v) hb
theorem rc_wrote {K : Cx} {h : Th} {i : InsD} {a : Int} (hb : (h.x.begun : Int) ≤ K.c.f) : RC K h.rank (hWrote K i a h) := by
  unfold hWrote
  split
  · exact rc_go (h := hPut i a h) hb
  · rename_i hh
    exact ⟨rfl, by show h.rank = 0; exact Decidable.byContradiction fun e => hh (Or.inl e)⟩
theorem rc_exdone {K : Cx} {h : Th} {e : Ex} {c : Int} (hb : (h.x.begun : Int) ≤ K.c.f) : RC K h.rank (hExDone K e c h) := by
  cases e with
  | rd i a v => exact rc_got (h := { h with list := modLast h.list (fun t => { t with valid := c }), x := { h.x with valid := c } }) hb
  | wr i a => exact rc_wrote (h := { h with list := modLast h.list (fun t => { t with valid := c }), x := { h.x with valid := c } }) hb
theorem rc_exstill {K : Cx} {h : Th} {e : Ex} {c : Int} (hb : (h.x.begun : Int) ≤ K.c.f) (r : List EntD) : RC K h.rank (hExStill K e c r h) := by
  cases r with
  | nil => exact rc_exdone hb
  | cons q r => exact ⟨rfl, trivial⟩
theorem rc_shut {K : Cx} {h : Th} {c : Int} (r : List Int) : RC K h.rank (hShutAt c r h) := by cases r <;> exact ⟨rfl, trivial⟩
theorem rc_still {K : Cx} {h : Th} {c : Int} : ∀ (r : List EntD), RC K h.rank (hStillAt c r h)
  | [] => rc_shut _
  | e :: r => by
    unfold hStillAt
    split
    · exact rc_still r
    · exact ⟨rfl, trivial⟩
theorem rc_open {K : Cx} {h : Th} {c : Int} (r : List Int) : RC K h.rank (hOpenAt c r h) := by cases r <;> exact ⟨rfl, trivial⟩
theorem rc_word {K : Cx} {h : Th} {c : Int} (r : List EntD) : RC K h.rank (hWordAt c r h) := by
  cases r with
  | nil => exact rc_open _
  | cons q r => exact ⟨rfl, trivial⟩
theorem rc_rest {K : Cx} {h : Th} (d : Int) : RC K h.rank (hRest K d h) := by
  unfold hRest
  simp only
  generalize (d.tmod ((if h.fails < K.c.cp then h.fails else K.c.cp) + 1)).toNat = n
  split <;> exact ⟨rfl, trivial⟩

/-- The tickets, the statuses. -/
def Rankish (K : Cx) (x : Int) : Prop := x = 1 ∨ (3 + 2 * K.c.s ≤ x ∧ x < 3 + 2 * K.c.s + K.c.t)

inductive REff (K : Cx) (m m' : Int → Int) (h h' : Th) (q : AskD) : Prop
  | same (Q : q.kind ≠ 4) (M : ∀ x, Rankish K x → m' x = m x) (R : h'.rank = h.rank) (V : Vis h' = true → Vis h = true)
  | take (Q : q.kind = 4) (e : h.rank = 0 ∧ (m (hSta K K.me) / 8 = 0 ∨ m (hSta K K.me) / 8 = h.rank)) (M : m' = upd m 1 (m 1 + 1)) (R : h'.rank = m 1 + 1) (V : Vis h' = false)
  | shows (Q : q.kind ≠ 4) (M : m' = upd m (hSta K K.me) (8 * h.rank)) (R : h'.rank = h.rank)
  | zero (Q : q.kind ≠ 4) (M : m' = upd m (hSta K K.me) 0) (R : h'.rank = 0 ∨ (h'.rank = h.rank ∧ Vis h' = false))
  | mark (Q : q.kind ≠ 4) (u th : Int) (b : 0 ≤ u ∧ u < K.c.t ∧ u ≠ K.me) (e : m (hSta K u) = th ∧ 0 ≤ th ∧ th % 8 = 0) (M : m' = upd m (hSta K u) (th + K.me + 1)) (R : h'.rank = h.rank) (V : Vis h' = true → Vis h = true)

theorem reff_step {K : Cx} {k : Int} {h : Th} (hc : cfgB K.c = true) (hm : 0 ≤ K.me ∧ K.me < K.c.t) (A : ThOk K k h) (L : Loc2 K h) (m : Int → Int) (v : AnsD) (hv : (hOut K h).kind ≠ 0 → v.seen = m (hOut K h).cell) (hvk : (hOut K h).kind ≠ 0 → VOk K.c k (hOut K h).cell v.seen)
    (hno : ∀ i a, h.st = .gOwn i a → m (hOwn K (a.tmod K.c.s)) ≠ K.me + 1) (hsh : h.rank = 0 → m (hSta K K.me) / 8 = 0 ∨ m (hSta K K.me) / 8 = h.rank) :
    Loc2 K (hNext K h v) ∧ REff K m (mNext m (hOut K h)) h (hNext K h v) (hOut K h) := by
  obtain ⟨⟨t1, t2⟩, ⟨w1, w2⟩, ⟨s1, s2⟩, _, _, _, ⟨f1, f2⟩⟩ := cfgB_true hc
  have hb := A.x.bg
  have hs := A.step
  unfold StepOk at hs
  unfold hOut at hv hvk ⊢
  unfold hNext
  unfold Loc2 at L
  have st : ∀ {i : InsD} {a : Int}, AOk K i a → 0 ≤ a.tmod K.c.s ∧ a.tmod K.c.s < K.c.s := fun ha => tmodP s1 ha.1
  have off : ∀ (q : AskD), ¬ Rankish K q.cell → ∀ y, Rankish K y → mNext m q y = m y := fun q hq y hy => mNext_off m q (fun e => hq (by rw [← e]; exact hy))
  have ld : ∀ x : Int, ∀ y, Rankish K y → mNext m ⟨1, x, 0, 0⟩ y = m y := fun x y _ => by rw [mNext_load]
  have nv : ∀ s, 0 ≤ s → s < K.c.s → ¬ Rankish K (hVer s) := fun s a b => by unfold Rankish hVer; omega
  have no : ∀ s, 0 ≤ s → s < K.c.s → ¬ Rankish K (hOwn K s) := fun s a b => by unfold Rankish hOwn; omega
  have nw : ∀ a, 0 ≤ a → ¬ Rankish K (hWrd K a) := fun s a => by unfold Rankish hWrd; omega
  have n2 : ¬ Rankish K 2 := by unfold Rankish; omega
  have n0 : ¬ Rankish K 0 := by unfold Rankish; omega
  have rc : ∀ {m' : Int → Int} {h' : Th} {q : AskD}, q.kind ≠ 4 → RC K h.rank h' → (∀ x, Rankish K x → m' x = m x) → Vis h = true → Loc2 K h' ∧ REff K m m' h h' q := fun Q C M V => ⟨C.loc, REff.same Q M C.rank (fun _ => V)⟩
  have tk : ∀ h' : Th, mNext m ⟨4, 1, 0, 0⟩ = upd m 1 (m 1 + 1) := fun h' => by
    unfold mNext
    rw [if_neg (by simp)]
    funext y
    unfold wr upd putV
    simp
  cases hst : h.st with
  | idle => exact ⟨by unfold Loc2; rw [hst]; trivial, .same (by simp) (fun x _ => by rw [mNext_none]) rfl (fun a => a)⟩
  | start => exact rc (by simp) (rc_go (h := { h with list := h.list ++ [⟨K.me, h.job, v.num, 0, v.seen, 0, 0, []⟩], x := newTS (K.jobs.getD h.job (0, [])).2 v.seen, st := .start }) (by show ((0 : Nat) : Int) ≤ _; omega)) (ld 0) (by simp [Vis, hst])
  | rHeld i a => exact rc (by simp) (rc_got hb) (ld _) (by simp [Vis, hst])
  | rVer i a =>
    simp only
    split
    · exact rc (by simp) ⟨rfl, by unfold Loc2; rw [hst]; trivial⟩ (ld _) (by simp [Vis, hst])
    · exact rc (by simp) ⟨rfl, trivial⟩ (ld _) (by simp [Vis, hst])
  | rWord i a one => exact rc (by simp) ⟨rfl, trivial⟩ (ld _) (by simp [Vis, hst])
  | rAgain i a one w =>
    simp only
    split
    · exact rc (by simp) ⟨rfl, trivial⟩ (ld _) (by simp [Vis, hst])
    · have e4 : (if (entIdx h.x.reads (a.tmod K.c.s)).isSome then h.x else { h.x with reads := h.x.reads ++ [⟨a.tmod K.c.s, one⟩] }).begun = h.x.begun := by split <;> rfl
      generalize (if (entIdx h.x.reads (a.tmod K.c.s)).isSome then h.x else { h.x with reads := h.x.reads ++ [⟨a.tmod K.c.s, one⟩] }) = x1 at *
      split
      · exact rc (by simp) (rc_got (h := { h with x := x1, st := .rAgain i a one w }) (by rw [e4]; exact hb)) (ld _) (by simp [Vis, hst])
      · exact rc (by simp) ⟨rfl, trivial⟩ (ld _) (by simp [Vis, hst])
  | xClock e => exact rc (by simp) (rc_exstill hb _) (ld _) (by simp [Vis, hst])
  | xVer e c r =>
    rw [hst] at hs
    cases r with
    | nil => exact absurd rfl hs.2.2.1
    | cons q r =>
      simp only
      split
      · exact rc (by simp) rc_fail (ld _) (by simp [Vis, hst])
      · exact rc (by simp) (rc_exstill hb _) (ld _) (by simp [Vis, hst])
  | gStat i a =>
    simp only
    split
    · exact rc (by simp) rc_fail (ld _) (by simp [Vis, hst])
    · exact rc (by simp) ⟨rfl, trivial⟩ (ld _) (by simp [Vis, hst])
  | gOwn i a =>
    rw [hst] at hs hv
    have b := st hs.1
    have hv' := hv (by simp)
    simp only at hv' ⊢
    split
    · exact rc (by simp) ⟨rfl, trivial⟩ (off _ (no _ b.1 b.2)) (by simp [Vis, hst])
    · split
      · exact rc (by simp) rc_fail (off _ (no _ b.1 b.2)) (by simp [Vis, hst])
      · rename_i hr
        refine rc (by simp) ⟨rfl, ⟨hr, ?_⟩⟩ (off _ (no _ b.1 b.2)) (by simp [Vis, hst])
        rw [hv']
        exact hno i a hst
  | gTheir i a u =>
    rw [hst] at L hs hvk
    have hu := (hvk (by simp)).sta (by show _ ≤ hSta K _; unfold hSta; have := hs.2.1; omega) (by show hSta K _ < _; unfold hSta; have := hs.2.2; omega)
    have hq := sok_mod hu
    simp only
    split
    · exact rc (by simp) (rc_fail (h := { h with x := { h.x with way := u - 1 }, st := .gTheir i a u })) (ld _) (by simp [Vis, hst])
    · rename_i hn
      rw [hq.2] at hn
      split
      · exact rc (by simp) ⟨rfl, ⟨L, by have h1 := hu.1; show v.seen / 8 = 0 ∨ h.rank ≤ v.seen / 8; omega⟩⟩ (ld _) (by simp [Vis, hst])
      · exact rc (by simp) ⟨rfl, trivial⟩ (ld _) (by simp [Vis, hst])
  | gMark i a u th =>
    rw [hst] at L hs hv
    obtain ⟨_, ⟨u0, u1⟩, ⟨q0, q1, q2⟩, q3⟩ := hs
    have hv' := hv (by simp)
    simp only at hv' ⊢
    refine ⟨trivial, ?_⟩
    by_cases he : m (hSta K (u - 1)) = th
    · exact .mark (by simp) (u - 1) th ⟨by omega, by omega, by have := L.1.2; omega⟩ ⟨he, q0, q3⟩ (mNext_swap m _ _ _ he) rfl (fun _ => by simp [Vis, hst])
    · exact .same (by simp) (fun x _ => by rw [mNext_miss m _ _ _ he]) rfl (fun _ => by simp [Vis, hst])
  | gVer i a =>
    simp only
    split
    · exact rc (by simp) ⟨rfl, trivial⟩ (ld _) (by simp [Vis, hst])
    · exact rc (by simp) (rc_wrote hb) (ld _) (by simp [Vis, hst])
  | tTake =>
    rw [hst] at L hv hvk
    have hv' := hv (by simp)
    have := (hvk (by simp)).cnt (Or.inr rfl)
    simp only at hv' ⊢
    exact ⟨by show v.seen + 1 ≠ 0; omega, .take (by simp) ⟨L, hsh L⟩ (tk h) (by show v.seen + 1 = _; rw [hv']) rfl⟩
  | tShow =>
    rw [hst] at L hv
    have hv' := hv (by simp)
    simp only at hv' ⊢
    by_cases h0 : v.seen ≠ 0
    · rw [if_pos h0]
      have C := rc_fail (K := K) (h := h)
      exact ⟨C.loc, .same (by simp) (fun x _ => by rw [mNext_miss m _ _ _ (by rw [← hv']; exact h0)]) C.rank (fun a => by rw [vis_fail] at a; cases a)⟩
    · rw [if_neg h0]
      have C := rc_go (K := K) (h := h) hb
      exact ⟨C.loc, .shows (by simp) (mNext_swap m _ _ _ (by rw [← hv']; omega)) C.rank⟩
  | cStat =>
    simp only
    split
    · exact rc (by simp) rc_fail (ld _) (by simp [Vis, hst])
    · exact rc (by simp) ⟨rfl, trivial⟩ (ld _) (by simp [Vis, hst])
  | cGate =>
    simp only
    refine rc (by simp) ⟨rfl, ?_⟩ (off _ n2) (by simp [Vis, hst])
    by_cases h0 : v.seen = 0
    · rw [if_pos h0]; trivial
    · rw [if_neg h0]; trivial
  | cClock =>
    simp only
    split
    · exact rc (by simp) (rc_still _) (ld _) (by simp [Vis, hst])
    · exact rc (by simp) (rc_shut _) (ld _) (by simp [Vis, hst])
  | cVer c r =>
    rw [hst] at hs
    cases r with
    | nil => exact absurd rfl hs.2.1
    | cons q r =>
      simp only
      split
      · exact rc (by simp) rc_fail (ld _) (by simp [Vis, hst])
      · exact rc (by simp) (rc_still _) (ld _) (by simp [Vis, hst])
  | cShut c r =>
    rw [hst] at hs
    cases r with
    | nil => exact absurd rfl hs.2.1
    | cons q r =>
      have b := hs.2.2 q List.mem_cons_self
      exact rc (by simp) (rc_shut _) (off _ (nv _ b.1 b.2)) (by simp [Vis, hst])
  | cStamp c => exact rc (by simp) ⟨rfl, trivial⟩ (off _ n0) (by simp [Vis, hst])
  | cLeave c => exact rc (by simp) (rc_word _) (off _ n2) (by simp [Vis, hst])
  | cWord c r =>
    rw [hst] at hs
    cases r with
    | nil => exact absurd rfl hs.2.1
    | cons q r => exact rc (by simp) (rc_word _) (off _ (nw _ (hs.2.2 q List.mem_cons_self).1)) (by simp [Vis, hst])
  | cOpen c r =>
    rw [hst] at hs
    cases r with
    | nil => exact absurd rfl hs.2.1
    | cons q r =>
      have b := hs.2.2 q List.mem_cons_self
      exact rc (by simp) ⟨rfl, trivial⟩ (off _ (nv _ b.1 b.2)) (by simp [Vis, hst])
  | cOwn c r =>
    rw [hst] at hs
    cases r with
    | nil => exact absurd rfl hs.2.1
    | cons q r =>
      have b := hs.2.2 q List.mem_cons_self
      exact rc (by simp) (rc_open _) (off _ (no _ b.1 b.2)) (by simp [Vis, hst])
  | free e r =>
    rw [hst] at hs
    cases r with
    | nil => exact absurd rfl hs.1
    | cons q r =>
      have b := hs.2 q List.mem_cons_self
      exact rc (by simp) (rc_free e _) (off _ (no _ b.1 b.2)) (by simp [Vis, hst])
  | fin e =>
    simp only
    have hto : ∀ g : Th, g.rank = h.rank → Loc2 K (hTo K (h.job + 1) g) ∧ ((hTo K (h.job + 1) g).rank = 0 ∨ ((hTo K (h.job + 1) g).rank = h.rank ∧ Vis (hTo K (h.job + 1) g) = false)) := fun g hg => by
      unfold hTo
      split
      · exact ⟨trivial, Or.inl rfl⟩
      · exact ⟨trivial, Or.inr ⟨hg, rfl⟩⟩
    have hz := hto { h.ended v.num e with ends := h.ends.set h.job ⟨e, regOf h.x 0, regOf h.x 1, regOf h.x 2, regOf h.x 3⟩ } rfl
    exact ⟨hz.1, .zero (by simp) (mNext_store m _ _) hz.2⟩
  | fGate =>
    have C := rc_failown (K := K) (h := h) h.x.held
    exact ⟨C.loc, .same (by simp) (off _ n2) C.rank (fun a => by rw [vis_failown] at a; cases a)⟩
  | fOwn r =>
    rw [hst] at hs
    cases r with
    | nil => exact absurd rfl hs.1
    | cons q r =>
      have b := hs.2 q List.mem_cons_self
      have C := rc_failown (K := K) (h := h) r
      exact ⟨C.loc, .same (by simp) (off _ (no _ b.1 b.2)) C.rank (fun a => by rw [vis_failown] at a; cases a)⟩
  | fTake =>
    rw [hst] at L hv
    have hv' := hv (by simp)
    simp only at hv' ⊢
    exact ⟨trivial, .take (by simp) ⟨L, hsh L⟩ (tk h) (by show v.seen + 1 = _; rw [hv']) rfl⟩
  | fStat =>
    simp only
    generalize (if 0 < v.seen.tmod 8 then v.seen.tmod 8 - 1 else h.x.way) = win
    split
    · exact ⟨trivial, .shows (by simp) (mNext_store m _ _) rfl⟩
    · have C := rc_rest (K := K) (h := h.ended v.num 5) v.draw
      exact ⟨C.loc, .shows (by simp) (mNext_store m _ _) C.rank⟩
  | wait win =>
    simp only
    split
    · exact rc (by simp) ⟨rfl, trivial⟩ (ld _) (by simp [Vis, hst])
    · exact rc (by simp) ⟨rfl, by unfold Loc2; rw [hst]; trivial⟩ (ld _) (by simp [Vis, hst])
  | rest n =>
    simp only
    split
    · exact rc (by simp) ⟨rfl, trivial⟩ (fun x _ => by rw [mNext_none]) (by simp [Vis, hst])
    · exact rc (by simp) ⟨rfl, trivial⟩ (fun x _ => by rw [mNext_none]) (by simp [Vis, hst])

end Go.Proofs.Ytgdfmmfkdmhdgaa
