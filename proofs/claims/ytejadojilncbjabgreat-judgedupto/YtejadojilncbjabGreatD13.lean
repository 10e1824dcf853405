import Derived.Test.YtejadojilncbjabGreatD12
namespace Go.Proofs.YtejadojilncbjabGreat
set_option linter.unusedVariables false
def er (t : AttD) : AttD := { t with notes := [] }
def GoSt : St → Prop
 | .rHeld _ _ => True
 | .rVer _ _ => True
 | .gStat _ _ => True
 | .cStat => True
 | .free e r => 1 ≤ e ∧ e ≤ 4
 | .fin e => 1 ≤ e ∧ e ≤ 4
 | _ => False
structure GoD (h h' : Th) : Prop where
 list : h'.list.map er = h.list.map er
 job : h'.job = h.job
 ends : h'.ends = h.ends
 rank : h'.rank = h.rank
 fails : h'.fails = h.fails
 code : h'.x.code = h.x.code
 valid : h'.x.valid = h.x.valid
 reads : h'.x.reads = h.x.reads
 held : h'.x.held = h.x.held
 gate : h'.x.inGate = h.x.inGate
 way : h'.x.way = h.x.way
theorem GoD.refl (h : Th) : GoD h h := ⟨rfl, rfl, rfl, rfl, rfl, rfl, rfl, rfl, rfl, rfl, rfl⟩
theorem GoD.trans {a b c : Th} (x : GoD a b) (y : GoD b c) : GoD a c :=
 ⟨y.list.trans x.list, y.job.trans x.job, y.ends.trans x.ends, y.rank.trans x.rank, y.fails.trans x.fails, y.code.trans x.code, y.valid.trans x.valid, y.reads.trans x.reads, y.held.trans x.held, y.gate.trans x.gate, y.way.trans x.way⟩
theorem er_noted (l : List AttD) (n : NoteD) : (modLast l fun t => { t with notes := t.notes ++ [n] }).map er = l.map er := by
 by_cases hl : l = []
 ·subst hl
  simp [modLast]
 ·obtain ⟨l0, t, rfl⟩ := snoc_of hl
  rw [modLast_snoc]
  simp [er]
theorem god_x (h : Th) (x : TS) (e1 : x.code = h.x.code) (e2 : x.valid = h.x.valid) (e3 : x.reads = h.x.reads) (e4 : x.held = h.x.held) (e5 : x.inGate = h.x.inGate) (e6 : x.way = h.x.way) : GoD h { h with x := x } := ⟨rfl, rfl, rfl, rfl, rfl, e1, e2, e3, e4, e5, e6⟩
theorem god_st (h : Th) (s : St) : GoD h { h with st := s } := ⟨rfl, rfl, rfl, rfl, rfl, rfl, rfl, rfl, rfl, rfl, rfl⟩
theorem god_put (h : Th) (i : InsD) (a : Int) : GoD h (hPut i a h) := ⟨er_noted _ _, rfl, rfl, rfl, rfl, rfl, rfl, rfl, rfl, rfl, rfl⟩
theorem god_rd (h : Th) (i a v : Int) : GoD h (({ h with x := setReg h.x i v } : Th).noted 7 a v) := ⟨er_noted _ _, rfl, rfl, rfl, rfl, rfl, rfl, rfl, rfl, rfl, rfl⟩
def GoR (K : Cx) (h : Th) (t : Bool × Th) : Prop := GoD h t.2 ∧ (t.1 = false → GoSt t.2.st)
theorem gor_close {K : Cx} {h h1 : Th} (d : GoD h h1) (e : Int) (he : 1 ≤ e ∧ e ≤ 4) : GoR K h (false, hClose e h1) := by
 unfold hClose
 split
 ·exact ⟨d.trans (god_st _ _), fun _ => trivial⟩
 ·unfold hFreeAt
  cases hh : h1.x.held with
  | nil => exact ⟨d.trans (god_st _ _), fun _ => he⟩
  | cons q r => exact ⟨d.trans (god_st _ _), fun _ => he⟩
theorem gor_read {K : Cx} {h h1 : Th} (d : GoD h h1) (i : InsD) : GoR K h (hRead K i h1) := by
 unfold hRead
 simp only
 split
 ·exact gor_close d 3 (by omega)
 ·split
  ·exact ⟨d.trans (god_rd h1 _ _ _), fun e => nomatch e⟩
  ·split
   ·exact ⟨d.trans (god_st _ _), fun _ => trivial⟩
   ·exact ⟨d.trans (god_st _ _), fun _ => trivial⟩
theorem gor_write {K : Cx} {h h1 : Th} (d : GoD h h1) (i : InsD) : GoR K h (hWrite K i h1) := by
 unfold hWrite
 simp only
 split
 ·exact gor_close d 3 (by omega)
 ·split
  ·exact ⟨d.trans (god_put _ _ _), fun e => nomatch e⟩
  ·exact ⟨d.trans (god_st _ _), fun _ => trivial⟩
theorem gor_step (K : Cx) (h : Th) : GoR K h (hStep K h) := by
 unfold hStep
 by_cases h1 : h.x.place = h.x.code.length
 ·rw [if_pos h1]; exact gor_close (GoD.refl h) 1 (by omega)
 rw [if_neg h1]
 by_cases h2 : (h.x.begun : Int) = K.c.f
 ·rw [if_pos h2]; exact gor_close (GoD.refl h) 4 (by omega)
 rw [if_neg h2]
 simp only
 generalize insAt h.x.code h.x.place = i at *
 have on : ∀ x : TS, x.code = h.x.code → x.valid = h.x.valid → x.reads = h.x.reads → x.held = h.x.held → x.inGate = h.x.inGate → x.way = h.x.way → GoR K h (true, { h with x := x }) := fun x e1 e2 e3 e4 e5 e6 => ⟨god_x h x e1 e2 e3 e4 e5 e6, fun e => nomatch e⟩
 by_cases h3 : formedB i h.x.code.length = false
 ·rw [if_pos h3]; exact gor_close (god_x h { h.x with begun := h.x.begun + 1 } rfl rfl rfl rfl rfl rfl) 3 (by omega)
 rw [if_neg h3]
 have d2 : GoD h { h with x := { h.x with begun := h.x.begun + 1, place := h.x.place + 1 } } := god_x h { h.x with begun := h.x.begun + 1, place := h.x.place + 1 } rfl rfl rfl rfl rfl rfl
 by_cases o0 : i.op = 0
 ·rw [if_pos o0]; exact gor_close d2 1 (by omega)
 rw [if_neg o0]
 by_cases o1 : i.op = 1
 ·rw [if_pos o1]; exact gor_close d2 2 (by omega)
 rw [if_neg o1]
 by_cases o2 : i.op = 2
 ·rw [if_pos o2]; exact on _ rfl rfl rfl rfl rfl rfl
 rw [if_neg o2]
 by_cases o3 : i.op = 3
 ·rw [if_pos o3]; exact on _ rfl rfl rfl rfl rfl rfl
 rw [if_neg o3]
 by_cases o4 : i.op = 4
 ·rw [if_pos o4]; exact on _ rfl rfl rfl rfl rfl rfl
 rw [if_neg o4]
 by_cases o5 : i.op = 5
 ·rw [if_pos o5]; exact on _ rfl rfl rfl rfl rfl rfl
 rw [if_neg o5]
 by_cases o6 : i.op = 6
 ·rw [if_pos o6]
  split
  ·exact on _ rfl rfl rfl rfl rfl rfl
  ·exact on _ rfl rfl rfl rfl rfl rfl
 rw [if_neg o6]
 by_cases o7 : i.op = 7
 ·rw [if_pos o7]; exact gor_read d2 i
 ·rw [if_neg o7]; exact gor_write d2 i
theorem go_ind {K : Cx} (P Q : Th → Prop) (hs : ∀ h, P h → ((hStep K h).1 = true → P (hStep K h).2) ∧ ((hStep K h).1 = false → Q (hStep K h).2)) : ∀ h : Th, (h.x.begun : Int) ≤ K.c.f → P h → Q (hGo K h) := by
 have H : ∀ (n : Nat) (h : Th), n = K.c.f.toNat - h.x.begun → (h.x.begun : Int) ≤ K.c.f → P h → Q (hGo K h) := by
  intro n
  induction n with
  | zero =>
   intro h hn hb R
   rw [hGo_eq K h hb]
   by_cases hst : (hStep K h).1 = true
   ·have := hStep_begun K h hst
    omega
   ·rw [if_neg hst]
    exact (hs h R).2 (by simpa using hst)
  | succ n ih =>
   intro h hn hb R
   rw [hGo_eq K h hb]
   by_cases hst : (hStep K h).1 = true
   ·rw [if_pos hst]
    have := hStep_begun K h hst
    exact ih _ (by omega) (by omega) ((hs h R).1 hst)
   ·rw [if_neg hst]
    exact (hs h R).2 (by simpa using hst)
 exact fun h hb R => H _ h rfl hb R
theorem god_go {K : Cx} {h : Th} (hb : (h.x.begun : Int) ≤ K.c.f) : GoD h (hGo K h) ∧ GoSt (hGo K h).st :=
 go_ind (K := K) (fun h' => GoD h h') (fun h' => GoD h h' ∧ GoSt h'.st) (fun h' d => ⟨fun _ => d.trans (gor_step K h').1, fun e => ⟨d.trans (gor_step K h').1, (gor_step K h').2 e⟩⟩) h hb (GoD.refl h)
def Opn (h : Th) : Bool := match h.st with
 | .idle => false
 | .start => false
 | .wait _ => false
 | .rest _ => false
 | _ => true
theorem opn_go {h : Th} (g : GoSt h.st) : Opn h = true := by
 unfold Opn
 cases hst : h.st <;> rw [hst] at g <;> first
  | rfl
  | exact g.elim
def Ph (h : Th) (sp : Int) : Prop := match h.st with
 | .idle => True
 | .start => True
 | .wait _ => True
 | .rest _ => True
 | .cLeave c => sp = c + 1
 | .cWord c _ => sp = c + 1
 | .cOpen c _ => sp = c + 1
 | .cOwn c _ => sp = c + 1
 | .fin e => (1 ≤ e ∧ e ≤ 4) ∧ (sp = 0 ∨ e = 1)
 | .free e _ => (1 ≤ e ∧ e ≤ 4) ∧ sp = 0
 | _ => sp = 0
theorem ph_go {h : Th} (g : GoSt h.st) : Ph h 0 := by
 unfold Ph
 cases hst : h.st <;> rw [hst] at g <;> first
  | rfl
  | exact ⟨g, rfl⟩
  | exact ⟨g, Or.inl rfl⟩
  | exact g.elim
inductive LEff (K : Cx) (h h' : Th) (v : AnsD) : Prop
 | note (E : h'.list.map er = h.list.map er) (O : Opn h' = Opn h) (J : h'.job = h.job) (N : h'.ends = h.ends) (P : ∀ sp, Ph h sp → Ph h' sp) (Z : h.st = .idle ↔ h'.st = .idle)
 | new (e : h.st = .start) (E : h'.list.map er = h.list.map er ++ [⟨K.me, h.job, v.num, 0, v.seen, 0, 0, []⟩]) (O : Opn h' = true) (J : h'.job = h.job) (N : h'.ends = h.ends) (P : Ph h' 0)
 | valid (c : Int) (e : (∃ k, h.st = .xClock k ∧ c = v.seen) ∨ (∃ k r, h.st = .xVer k c r)) (E : h'.list.map er = (modLast h.list fun t => { t with valid := c }).map er) (O : Opn h' = true) (J : h'.job = h.job) (N : h'.ends = h.ends) (P : Ph h' 0)
 | stamp (c : Int) (e : h.st = .cStamp c) (E : h'.list.map er = (modLast h.list fun t => { t with stamp := c + 1 }).map er) (O : Opn h' = true) (J : h'.job = h.job) (N : h'.ends = h.ends) (P : Ph h' (c + 1))
 | failed (e : h.st = .fStat) (E : h'.list.map er = (modLast h.list fun t => { t with fin := v.num, fate := 5 }).map er) (O : Opn h' = false) (J : h'.job = h.job) (N : h'.ends = h.ends) (Z : h'.st ≠ .idle)
 | fin (f : Int) (e : h.st = .fin f) (E : h' = hTo K (h.job + 1) { h.ended v.num f with ends := h.ends.set h.job ⟨f, regOf h.x 0, regOf h.x 1, regOf h.x 2, regOf h.x 3⟩ })
theorem leff_on {K : Cx} {h h' : Th} {v : AnsD} (ho : Opn h = true) (E : h'.list.map er = h.list.map er) (O : Opn h' = true) (J : h'.job = h.job) (N : h'.ends = h.ends) (P : ∀ sp, Ph h sp → Ph h' sp) : LEff K h h' v := by
 refine .note E (by rw [O, ho]) J N P ⟨fun e => ?_, fun e => ?_⟩
 ·simp [Opn, e] at ho
 ·simp [Opn, e] at O
theorem leff_god {K : Cx} {h h' : Th} {v : AnsD} (ho : Opn h = true) (hp : ∀ sp, Ph h sp → sp = 0) (d : GoD h h') (g : GoSt h'.st) : LEff K h h' v := leff_on ho d.list (opn_go g) d.job d.ends (fun sp p => by rw [hp sp p]; exact ph_go g)
theorem opn_fail {K : Cx} (h : Th) : Opn (hFail K h) = true ∧ (hFail K h).list = h.list ∧ (hFail K h).job = h.job ∧ (hFail K h).ends = h.ends ∧ Ph (hFail K h) 0 := by
 unfold hFail hFailOwn hCount
 split
 ·exact ⟨rfl, rfl, rfl, rfl, rfl⟩
 ·split
  ·split
   ·exact ⟨rfl, rfl, rfl, rfl, rfl⟩
   ·exact ⟨rfl, rfl, rfl, rfl, rfl⟩
  ·exact ⟨rfl, rfl, rfl, rfl, rfl⟩
theorem leff_fail {K : Cx} {h h1 : Th} {v : AnsD} (ho : Opn h = true) (hp : ∀ sp, Ph h sp → sp = 0) (e1 : h1.list = h.list) (e2 : h1.job = h.job) (e3 : h1.ends = h.ends) : LEff K h (hFail K h1) v := by
 obtain ⟨a, b, c, d, p⟩ := opn_fail (K := K) h1
 exact leff_on ho (by rw [b, e1]) a (c.trans e2) (d.trans e3) (fun sp q => by rw [hp sp q]; exact p)
theorem leff_failown {K : Cx} {h : Th} {v : AnsD} (ho : Opn h = true) (hp : ∀ sp, Ph h sp → sp = 0) (r : List Int) : LEff K h (hFailOwn K r h) v := by
 unfold hFailOwn hCount
 split
 ·split
  ·exact leff_on ho rfl rfl rfl rfl hp
  ·exact leff_on ho rfl rfl rfl rfl hp
 ·exact leff_on ho rfl rfl rfl rfl hp
theorem god_wrote {K : Cx} {h : Th} {i : InsD} {a : Int} (hb : (h.x.begun : Int) ≤ K.c.f) : GoD h (hWrote K i a h) ∧ Opn (hWrote K i a h) = true ∧ Ph (hWrote K i a h) 0 := by
 unfold hWrote
 split
 ·have := god_go (K := K) (h := hPut i a h) hb
  exact ⟨(god_put h i a).trans this.1, opn_go this.2, ph_go this.2⟩
 ·exact ⟨(god_put h i a).trans (god_st _ _), rfl, rfl⟩
theorem god_got {K : Cx} {h : Th} {i : InsD} {a v : Int} (hb : (h.x.begun : Int) ≤ K.c.f) : GoD h (hGot K i a v h) ∧ Opn (hGot K i a v h) = true ∧ Ph (hGot K i a v h) 0 := by
 unfold hGot
 have := god_go (K := K) (h := ({ h with x := setReg h.x i.a v } : Th).noted 7 a v) hb
 exact ⟨(god_rd h i.a a v).trans this.1, opn_go this.2, ph_go this.2⟩
theorem leff_exdone {K : Cx} {h : Th} {v : AnsD} {x : Ex} {c : Int} (hb : (h.x.begun : Int) ≤ K.c.f) (e : (∃ k, h.st = .xClock k ∧ c = v.seen) ∨ (∃ k r, h.st = .xVer k c r)) : LEff K h (hExDone K x c h) v := by
 cases x with
 | rd i a w =>
  obtain ⟨d, o, p⟩ := god_got (K := K) (h := { h with list := modLast h.list (fun t => { t with valid := c }), x := { h.x with valid := c } }) (i := i) (a := a) (v := w) hb
  exact .valid c e d.list o d.job d.ends p
 | wr i a =>
  obtain ⟨d, o, p⟩ := god_wrote (K := K) (h := { h with list := modLast h.list (fun t => { t with valid := c }), x := { h.x with valid := c } }) (i := i) (a := a) hb
  exact .valid c e d.list o d.job d.ends p
theorem leff_exstill {K : Cx} {h : Th} {v : AnsD} {x : Ex} {c : Int} (hb : (h.x.begun : Int) ≤ K.c.f) (ho : Opn h = true) (hp : ∀ sp, Ph h sp → sp = 0) (e : (∃ k, h.st = .xClock k ∧ c = v.seen) ∨ (∃ k r, h.st = .xVer k c r)) (r : List EntD) : LEff K h (hExStill K x c r h) v := by
 cases r with
 | nil => exact leff_exdone hb e
 | cons q r => exact leff_on ho rfl rfl rfl rfl hp
theorem leff_shut {K : Cx} {h : Th} {v : AnsD} {c : Int} (ho : Opn h = true) (hp : ∀ sp, Ph h sp → sp = 0) (r : List Int) : LEff K h (hShutAt c r h) v := by
 cases r with
 | nil => exact leff_on ho rfl rfl rfl rfl hp
 | cons q r => exact leff_on ho rfl rfl rfl rfl hp
theorem leff_still {K : Cx} {h : Th} {v : AnsD} {c : Int} (ho : Opn h = true) (hp : ∀ sp, Ph h sp → sp = 0) : ∀ r : List EntD, LEff K h (hStillAt c r h) v
 | [] => leff_shut ho hp _
 | q :: r => by
  unfold hStillAt
  split
  ·exact leff_still ho hp r
  ·exact leff_on ho rfl rfl rfl rfl hp
theorem leff_open {K : Cx} {h : Th} {v : AnsD} {c : Int} (ho : Opn h = true) (hp : ∀ sp, Ph h sp → sp = c + 1) (r : List Int) : LEff K h (hOpenAt c r h) v := by
 cases r with
 | nil => exact leff_on ho rfl rfl rfl rfl (fun sp p => ⟨⟨by omega, by omega⟩, Or.inr rfl⟩)
 | cons q r => exact leff_on ho rfl rfl rfl rfl hp
theorem leff_word {K : Cx} {h : Th} {v : AnsD} {c : Int} (ho : Opn h = true) (hp : ∀ sp, Ph h sp → sp = c + 1) (r : List EntD) : LEff K h (hWordAt c r h) v := by
 cases r with
 | nil => exact leff_open ho hp _
 | cons q r => exact leff_on ho rfl rfl rfl rfl hp
theorem leff_free {K : Cx} {h : Th} {v : AnsD} {e : Int} (ho : Opn h = true) (hp : ∀ sp, Ph h sp → (1 ≤ e ∧ e ≤ 4) ∧ sp = 0) (r : List Int) : LEff K h (hFreeAt e r h) v := by
 cases r with
 | nil => exact leff_on ho rfl rfl rfl rfl (fun sp p => ⟨(hp sp p).1, Or.inl (hp sp p).2⟩)
 | cons q r => exact leff_on ho rfl rfl rfl rfl hp
theorem leff_same {K : Cx} {h : Th} {v : AnsD} : LEff K h h v := .note rfl rfl rfl rfl (fun _ p => p) Iff.rfl
theorem leff_next {K : Cx} {k : Int} {h : Th} (hf : 0 ≤ K.c.f) (A : ThOk K k h) (v : AnsD) : LEff K h (hNext K h v) v := by
 have hb := A.x.bg
 have hs := A.step
 unfold StepOk at hs
 unfold hNext
 cases hst : h.st with
 | idle => exact leff_same
 | start =>
  have := god_go (K := K) (h := { h with list := h.list ++ [⟨K.me, h.job, v.num, 0, v.seen, 0, 0, []⟩], x := newTS (K.jobs.getD h.job (0, [])).2 v.seen, st := .start }) (by show ((0 : Nat) : Int) ≤ _; omega)
  refine .new hst ?_ (opn_go this.2) this.1.job this.1.ends (ph_go this.2)
  have e := this.1.list
  simp only [List.map_append, List.map_cons, List.map_nil] at e
  exact e
 | rHeld i a =>
  have ho : Opn h = true := by simp [Opn, hst]
  have hp : ∀ sp, Ph h sp → sp = 0 := fun sp p => by simp only [Ph, hst] at p; exact p
  obtain ⟨d, o, p⟩ := god_got (K := K) (h := h) (i := i) (a := a) (v := v.seen) hb
  exact leff_on ho d.list o d.job d.ends (fun sp q => by rw [hp sp q]; exact p)
 | rVer i a =>
  have ho : Opn h = true := by simp [Opn, hst]
  have hp : ∀ sp, Ph h sp → sp = 0 := fun sp p => by simp only [Ph, hst] at p; exact p
  simp only
  split
  ·exact leff_same
  ·exact leff_on ho rfl rfl rfl rfl hp
 | rWord i a one =>
  have ho : Opn h = true := by simp [Opn, hst]
  have hp : ∀ sp, Ph h sp → sp = 0 := fun sp p => by simp only [Ph, hst] at p; exact p
  exact leff_on ho rfl rfl rfl rfl hp
 | rAgain i a one w =>
  have ho : Opn h = true := by simp [Opn, hst]
  have hp : ∀ sp, Ph h sp → sp = 0 := fun sp p => by simp only [Ph, hst] at p; exact p
  simp only
  split
  ·exact leff_on ho rfl rfl rfl rfl hp
  ·have e4 : (if (entIdx h.x.reads (a.tmod K.c.s)).isSome then h.x else { h.x with reads := h.x.reads ++ [⟨a.tmod K.c.s, one⟩] }).begun = h.x.begun := by split <;> rfl
   generalize (if (entIdx h.x.reads (a.tmod K.c.s)).isSome then h.x else { h.x with reads := h.x.reads ++ [⟨a.tmod K.c.s, one⟩] }) = y at *
   split
   ·obtain ⟨d, o, p⟩ := god_got (K := K) (h := { h with x := y, st := .rAgain i a one w }) (i := i) (a := a) (v := w) (by rw [e4]; exact hb)
    exact leff_on ho d.list o d.job d.ends (fun sp q => by rw [hp sp q]; exact p)
   ·exact leff_on ho rfl rfl rfl rfl hp
 | xClock x =>
  have hp : ∀ sp, Ph h sp → sp = 0 := fun sp p => by simp only [Ph, hst] at p; exact p
  exact leff_exstill hb (by simp [Opn, hst]) hp (Or.inl ⟨x, hst, rfl⟩) _
 | xVer x c r =>
  have ho : Opn h = true := by simp [Opn, hst]
  have hp : ∀ sp, Ph h sp → sp = 0 := fun sp p => by simp only [Ph, hst] at p; exact p
  cases r with
  | nil => exact leff_same
  | cons q r =>
   simp only
   split
   ·exact leff_fail ho hp rfl rfl rfl
   ·exact leff_exstill hb ho hp (Or.inr ⟨x, _, hst⟩) _
 | gStat i a =>
  have ho : Opn h = true := by simp [Opn, hst]
  have hp : ∀ sp, Ph h sp → sp = 0 := fun sp p => by simp only [Ph, hst] at p; exact p
  simp only
  split
  ·exact leff_fail ho hp rfl rfl rfl
  ·exact leff_on ho rfl rfl rfl rfl hp
 | gOwn i a =>
  have ho : Opn h = true := by simp [Opn, hst]
  have hp : ∀ sp, Ph h sp → sp = 0 := fun sp p => by simp only [Ph, hst] at p; exact p
  simp only
  split
  ·exact leff_on ho rfl rfl rfl rfl hp
  ·split
   ·exact leff_fail ho hp rfl rfl rfl
   ·exact leff_on ho rfl rfl rfl rfl hp
 | gTheir i a u =>
  have ho : Opn h = true := by simp [Opn, hst]
  have hp : ∀ sp, Ph h sp → sp = 0 := fun sp p => by simp only [Ph, hst] at p; exact p
  simp only
  split
  ·exact leff_fail (h1 := { h with x := { h.x with way := u - 1 }, st := .gTheir i a u }) ho hp rfl rfl rfl
  ·split
   ·exact leff_on ho rfl rfl rfl rfl hp
   ·exact leff_on ho rfl rfl rfl rfl hp
 | gMark i a u q =>
  have ho : Opn h = true := by simp [Opn, hst]
  have hp : ∀ sp, Ph h sp → sp = 0 := fun sp p => by simp only [Ph, hst] at p; exact p
  exact leff_on ho rfl rfl rfl rfl hp
 | gVer i a =>
  have ho : Opn h = true := by simp [Opn, hst]
  have hp : ∀ sp, Ph h sp → sp = 0 := fun sp p => by simp only [Ph, hst] at p; exact p
  simp only
  split
  ·exact leff_on ho rfl rfl rfl rfl hp
  ·obtain ⟨d, o, p⟩ := god_wrote (K := K) (h := h) (i := i) (a := a) hb
   exact leff_on ho d.list o d.job d.ends (fun sp q => by rw [hp sp q]; exact p)
 | tTake =>
  have ho : Opn h = true := by simp [Opn, hst]
  have hp : ∀ sp, Ph h sp → sp = 0 := fun sp p => by simp only [Ph, hst] at p; exact p
  exact leff_on ho rfl rfl rfl rfl hp
 | tShow =>
  have ho : Opn h = true := by simp [Opn, hst]
  have hp : ∀ sp, Ph h sp → sp = 0 := fun sp p => by simp only [Ph, hst] at p; exact p
  simp only
  split
  ·exact leff_fail ho hp rfl rfl rfl
  ·have := god_go (K := K) (h := h) hb
   exact leff_god ho hp this.1 this.2
 | cStat =>
  have ho : Opn h = true := by simp [Opn, hst]
  have hp : ∀ sp, Ph h sp → sp = 0 := fun sp p => by simp only [Ph, hst] at p; exact p
  simp only
  split
  ·exact leff_fail ho hp rfl rfl rfl
  ·exact leff_on ho rfl rfl rfl rfl hp
 | cGate =>
  have ho : Opn h = true := by simp [Opn, hst]
  have hp : ∀ sp, Ph h sp → sp = 0 := fun sp p => by simp only [Ph, hst] at p; exact p
  simp only
  by_cases h0 : v.seen = 0
  ·rw [if_pos h0]; exact leff_on ho rfl rfl rfl rfl hp
  ·rw [if_neg h0]; exact leff_on ho rfl rfl rfl rfl hp
 | cClock =>
  have ho : Opn h = true := by simp [Opn, hst]
  have hp : ∀ sp, Ph h sp → sp = 0 := fun sp p => by simp only [Ph, hst] at p; exact p
  simp only
  split
  ·exact leff_still ho hp _
  ·exact leff_shut ho hp _
 | cVer c r =>
  have ho : Opn h = true := by simp [Opn, hst]
  have hp : ∀ sp, Ph h sp → sp = 0 := fun sp p => by simp only [Ph, hst] at p; exact p
  cases r with
  | nil => exact leff_same
  | cons q r =>
   simp only
   split
   ·exact leff_fail ho hp rfl rfl rfl
   ·exact leff_still ho hp _
 | cShut c r =>
  have ho : Opn h = true := by simp [Opn, hst]
  have hp : ∀ sp, Ph h sp → sp = 0 := fun sp p => by simp only [Ph, hst] at p; exact p
  cases r with
  | nil => exact leff_same
  | cons q r => exact leff_shut ho hp _
 | cStamp c => exact .stamp c hst rfl rfl rfl rfl rfl
 | cLeave c => exact leff_word (by simp [Opn, hst]) (fun sp p => by simp only [Ph, hst] at p; exact p) _
 | cWord c r =>
  have ho : Opn h = true := by simp [Opn, hst]
  cases r with
  | nil => exact leff_same
  | cons q r => exact leff_word ho (fun sp p => by simp only [Ph, hst] at p; exact p) _
 | cOpen c r =>
  have ho : Opn h = true := by simp [Opn, hst]
  cases r with
  | nil => exact leff_same
  | cons q r => exact leff_on ho rfl rfl rfl rfl (fun sp p => by simp only [Ph, hst] at p ⊢; exact p)
 | cOwn c r =>
  have ho : Opn h = true := by simp [Opn, hst]
  cases r with
  | nil => exact leff_same
  | cons q r => exact leff_open ho (fun sp p => by simp only [Ph, hst] at p; exact p) _
 | free e r =>
  have ho : Opn h = true := by simp [Opn, hst]
  cases r with
  | nil => exact leff_same
  | cons q r => exact leff_free ho (fun sp p => by simp only [Ph, hst] at p; exact p) _
 | fin e => exact .fin e hst rfl
 | fGate =>
  have hp : ∀ sp, Ph h sp → sp = 0 := fun sp p => by simp only [Ph, hst] at p; exact p
  exact leff_failown (by simp [Opn, hst]) hp _
 | fOwn r =>
  have ho : Opn h = true := by simp [Opn, hst]
  have hp : ∀ sp, Ph h sp → sp = 0 := fun sp p => by simp only [Ph, hst] at p; exact p
  cases r with
  | nil => exact leff_same
  | cons q r => exact leff_failown ho hp _
 | fTake =>
  have ho : Opn h = true := by simp [Opn, hst]
  have hp : ∀ sp, Ph h sp → sp = 0 := fun sp p => by simp only [Ph, hst] at p; exact p
  exact leff_on ho rfl rfl rfl rfl hp
 | fStat =>
  simp only
  generalize (if 0 < v.seen.tmod 8 then v.seen.tmod 8 - 1 else h.x.way) = win
  split
  ·exact .failed hst rfl rfl rfl rfl (fun e => by cases e)
  ·unfold hRest
   simp only
   generalize (v.draw.tmod ((if (h.ended v.num 5).fails < K.c.cp then (h.ended v.num 5).fails else K.c.cp) + 1)).toNat = n
   split
   ·exact .failed hst rfl rfl rfl rfl (fun e => by cases e)
   ·exact .failed hst rfl rfl rfl rfl (fun e => by cases e)
 | wait win =>
  simp only
  split
  ·exact .note rfl (by simp [Opn, hst]) rfl rfl (fun _ _ => trivial) (by simp [hst])
  ·exact leff_same
 | rest n =>
  simp only
  split
  ·exact .note rfl (by simp [Opn, hst]) rfl rfl (fun _ _ => trivial) (by simp [hst])
  ·exact .note rfl (by simp [Opn, hst]) rfl rfl (fun _ _ => trivial) (by simp [hst])
structure Rn where
 c : Cfg
 mem : List Int
 jobs : List (Int × List InsD)
 ps : List PickD
structure Rn.Ok (R : Rn) : Prop where
 c : cfgB R.c = true
 w : (R.mem.length : Int) = R.c.wd
 m : memB R.mem = true
def Rn.g (R : Rn) (k : Nat) : Gs := gAt R.c R.mem R.jobs R.ps k
def Rn.K (R : Rn) (t : Int) : Cx := cxOf R.c R.jobs t
def Rn.clk (R : Rn) (k : Nat) : Int := (R.g k).m 0
def Rn.pk (R : Rn) (k : Nat) : PickD := pickAt R.ps k
def Rn.out (R : Rn) (k : Nat) (t : Int) : AskD := hOut (R.K t) ((R.g k).th t)
def Rn.gh (R : Rn) (k : Nat) : Gh := gGh R.c R.mem R.jobs R.ps k
theorem Rn.step (R : Rn) (k : Nat) : R.g (k + 1) = (gStep R.c R.jobs (R.g k) ((k : Int) + 1) (R.pk k)).1 := rfl
theorem Rn.off (R : Rn) (k : Nat) {t : Int} (h : (R.pk k).thread ≠ t) : (R.g (k + 1)).th t = (R.g k).th t := by
 rw [R.step]
 unfold gStep
 split
 ·exact if_neg (fun e => h e.symm)
 ·rfl
theorem Rn.at (R : Rn) (k : Nat) {t : Int} (h : (R.pk k).thread = t) (t0 : 0 ≤ t) (t1 : t < R.c.t) : (R.g (k + 1)).th t = hNext (R.K t) ((R.g k).th t) ⟨(accBy (R.g k).m (R.out k t)).seen, (R.pk k).draw, (k : Int) + 1⟩ := by
 subst h
 rw [R.step]
 unfold gStep
 rw [if_pos ⟨t0, t1⟩]
 exact if_pos rfl
theorem Rn.mem_at (R : Rn) (k : Nat) (h : 0 ≤ (R.pk k).thread ∧ (R.pk k).thread < R.c.t) : (R.g (k + 1)).m = mNext (R.g k).m (R.out k (R.pk k).thread) := by
 rw [R.step]
 unfold gStep
 rw [if_pos h]
 rfl
theorem Rn.mem_off (R : Rn) (k : Nat) (h : ¬ (0 ≤ (R.pk k).thread ∧ (R.pk k).thread < R.c.t)) : (R.g (k + 1)).m = (R.g k).m := by
 rw [R.step]
 unfold gStep
 rw [if_neg h]
theorem acc_seen {m : Int → Int} {q : AskD} (h : q.kind ≠ 0) : (accBy m q).seen = m q.cell := by rw [acc_some h]
theorem eff_clk {c : Cfg} {jobs : List (Int × List InsD)} {m m' : Int → Int} {th : Int → Th} {t : Int} {h' : Th} (I : LI c jobs m th) (t0 : 0 ≤ t) (t1 : t < c.t) (E : Eff (cxOf c jobs t) m m' (th t) h') : m 0 ≤ m' 0 := by
 have u : ∀ (x v : Int), x ≠ 0 → upd m x v 0 = m 0 := fun x v hx => upd_off (fun e => hx e.symm)
 cases E with
 | same M => rw [M 0 (Or.inl rfl)]; exact Int.le_refl _
 | got s b e M =>
  have bs : 0 ≤ s := b.1
  have h2 : s < c.s := b.2
  rw [M, u _ _ (by unfold hOwn; show 3 + c.s + s ≠ 0; omega)]; exact Int.le_refl _
 | gave s b e M =>
  have bs : 0 ≤ s := b.1
  have h2 : s < c.s := b.2
  rw [M, u _ _ (by unfold hOwn; show 3 + c.s + s ≠ 0; omega)]; exact Int.le_refl _
 | into e M => rw [M, u _ _ (by omega)]; exact Int.le_refl _
 | out e M => rw [M, u _ _ (by omega)]; exact Int.le_refl _
 | shut s b e M => have bs : 0 ≤ s := b.1; rw [M, u _ _ (by unfold hVer; omega)]; exact Int.le_refl _
 | opened s v b p e M => have bs : 0 ≤ s := b.1; rw [M, u _ _ (by unfold hVer; omega)]; exact Int.le_refl _
 | stamp w e M =>
  have := I.clk t t0 t1 w e.2
  rw [M, upd_at]
  omega
theorem Rn.clk_step {R : Rn} (O : R.Ok) (k : Nat) : R.clk k ≤ R.clk (k + 1) := by
 unfold Rn.clk
 by_cases h : 0 ≤ (R.pk k).thread ∧ (R.pk k).thread < R.c.t
 ·rw [R.mem_at k h]
  have I := li_at O.c O.w O.m R.jobs R.ps k
  have G := gat_ok O.c O.w O.m R.jobs R.ps k
  have hcK : cfgB (cxOf R.c R.jobs (R.pk k).thread).c = true := O.c
  obtain ⟨_, E⟩ := eff_step hcK h (G.th _ h.1 h.2) (I.loc _ h.1 h.2) (R.g k).m ⟨(accBy (R.g k).m (R.out k (R.pk k).thread)).seen, 0, 0⟩ (fun h0 => acc_seen h0)
  exact eff_clk I h.1 h.2 E
 ·rw [R.mem_off k h]; exact Int.le_refl _
theorem Rn.clk_mono {R : Rn} (O : R.Ok) {j : Nat} : ∀ {k : Nat}, j ≤ k → R.clk j ≤ R.clk k
 | 0, h => by have : j = 0 := by omega
              subst this; exact Int.le_refl _
 | k + 1, h => by
  by_cases e : j = k + 1
  ·rw [e]; exact Int.le_refl _
  ·exact Int.le_trans (Rn.clk_mono O (by omega)) (Rn.clk_step O k)
structure AttT (R : Rn) (k : Nat) (t : Int) (a : AttD) : Prop where
 thr : a.thread = t
 jb : ∃ j : Nat, a.job = (j : Int) ∧ j < R.jobs.length ∧ (R.jobs.getD j (0, [])).1 = t
 s1 : 1 ≤ a.start
 s2 : a.start ≤ k
 pk : (R.pk (a.start - 1).toNat).thread = t
 ac : R.out (a.start - 1).toNat t = ⟨1, 0, 0, 0⟩
 vl : R.clk (a.start - 1).toNat ≤ a.valid
 en : (a.fin = 0 ∧ a.fate = 0) ∨ (a.start < a.fin ∧ a.fin ≤ k ∧ (1 ≤ a.fate ∧ a.fate ≤ 5) ∧ (R.pk (a.fin - 1).toNat).thread = t ∧ (R.out (a.fin - 1).toNat t).kind = 2 ∧ (R.out (a.fin - 1).toNat t).cell = hSta (R.K t) t ∧ a.valid ≤ R.clk (a.fin - 1).toNat ∧ a.stamp ≤ R.clk (a.fin - 1).toNat)
 sp : (a.stamp ≠ 0 → a.fate = 0 ∨ a.fate = 1)
theorem AttT.mono {R : Rn} {k k' : Nat} {t : Int} {a : AttD} (A : AttT R k t a) (h : k ≤ k') : AttT R k' t a :=
 ⟨A.thr, A.jb, A.s1, by have := A.s2; omega, A.pk, A.ac, A.vl, A.en.imp id (fun e => ⟨e.1, by have := e.2.1; omega, e.2.2⟩), A.sp⟩
def Bef (a b : AttD) : Prop := a.fin ≠ 0 ∧ a.fin < b.start ∧ a.job ≤ b.job ∧ (a.fate ≠ 5 → a.job < b.job)
def res0 : ResD := ⟨0, 0, 0, 0, 0⟩
def endOf (h : Th) (j : Nat) : ResD := h.ends.getD j res0
structure TI (R : Rn) (k : Nat) (t : Int) (h : Th) : Prop where
 all : ∀ a ∈ h.list.map er, AttT R k t a
 ne : Opn h = true → ∃ l0 q, h.list.map er = l0 ++ [q] ∧ q.fin = 0 ∧ q.fate = 0 ∧ q.job = (h.job : Int) ∧ (∀ a ∈ l0, a.fin ≠ 0) ∧ Ph h q.stamp
 cl : Opn h = false → ∀ a ∈ h.list.map er, a.fin ≠ 0
 srt : (h.list.map er).Pairwise Bef
 jn : h.st ≠ .idle → h.job < R.jobs.length ∧ (R.jobs.getD h.job (0, [])).1 = t
 ja : h.st ≠ .idle → ∀ a ∈ h.list.map er, a.job ≤ (h.job : Int) ∧ (a.fate ≠ 5 → a.fate ≠ 0 → a.job < (h.job : Int))
 el : h.ends.length = R.jobs.length
 ed : ∀ j : Nat, j < R.jobs.length → (R.jobs.getD j (0, [])).1 = t → (endOf h j).fate ≠ 0 ∨ (h.st ≠ .idle ∧ h.job ≤ j)
 ee : ∀ j : Nat, (endOf h j).fate ≠ 0 → ∃ a ∈ h.list.map er, a.job = (j : Int) ∧ a.fate = (endOf h j).fate ∧ 1 ≤ a.fate ∧ a.fate ≤ 4
 eo : ∀ j : Nat, (endOf h j).fate = 0 → endOf h j = res0
 fa : ∀ a ∈ h.list.map er, ∀ j : Nat, a.job = (j : Int) → 1 ≤ a.fate → a.fate ≤ 4 → (endOf h j).fate = a.fate
theorem er_mod {f : AttD → AttD} (hf : ∀ t, er (f t) = f (er t)) (l : List AttD) : (modLast l f).map er = modLast (l.map er) f := by
 by_cases hl : l = []
 ·subst hl; simp [modLast]
 ·obtain ⟨l0, t, rfl⟩ := snoc_of hl
  rw [modLast_snoc, List.map_append, List.map_append, List.map_cons, List.map_nil, List.map_cons, List.map_nil, modLast_snoc, hf]
theorem seekO_some {me : Int} : ∀ {l : List (Int × List InsD)} {j k : Nat}, seek me j l = some k → j ≤ k ∧ k < j + l.length ∧ (l.getD (k - j) (0, [])).1 = me ∧ ∀ i, i < k - j → (l.getD i (0, [])).1 ≠ me
 | [], j, k, h => by cases h
 | b :: r, j, k, h => by
  unfold seek at h
  by_cases hb : b.1 = me
  ·rw [if_pos hb] at h
   cases h
   refine ⟨Nat.le_refl _, by simp, ?_, fun i hi => by omega⟩
   rw [Nat.sub_self]
   exact hb
  ·rw [if_neg hb] at h
   obtain ⟨a, b', c, d⟩ := seekO_some h
   refine ⟨by omega, by simp; omega, ?_, fun i hi => ?_⟩
   ·rw [show k - j = (k - (j + 1)) + 1 from by omega]
    exact c
   ·cases i with
    | zero => exact hb
    | succ i => exact d i (by omega)
theorem seekO_none {me : Int} : ∀ {l : List (Int × List InsD)} {j : Nat}, seek me j l = none → ∀ i, i < l.length → (l.getD i (0, [])).1 ≠ me
 | [], j, h, i, hi => by simp at hi
 | b :: r, j, h, i, hi => by
  unfold seek at h
  by_cases hb : b.1 = me
  ·rw [if_pos hb] at h; cases h
  ·rw [if_neg hb] at h
   cases i with
   | zero => exact hb
   | succ i => exact seekO_none h i (by simpa using hi)
theorem drop_get (l : List (Int × List InsD)) (j i : Nat) : (l.drop j).getD i (0, []) = l.getD (j + i) (0, []) := by simp [List.getD, List.getElem?_drop]
theorem to_job (K : Cx) (j : Nat) (h : Th) : (∃ k, j ≤ k ∧ k < K.jobs.length ∧ (K.jobs.getD k (0, [])).1 = K.me ∧ (∀ i, j ≤ i → i < k → (K.jobs.getD i (0, [])).1 ≠ K.me) ∧ hTo K j h = { h with rank := 0, fails := 0, job := k, st := .start }) ∨ ((∀ i, j ≤ i → i < K.jobs.length → (K.jobs.getD i (0, [])).1 ≠ K.me) ∧ hTo K j h = { h with st := .idle }) := by
 unfold hTo
 cases hk : seek K.me j (K.jobs.drop j) with
 | some k =>
  obtain ⟨a, b, c, d⟩ := seekO_some hk
  rw [List.length_drop] at b
  rw [drop_get, show j + (k - j) = k from by omega] at c
  refine Or.inl ⟨k, a, by omega, c, fun i i0 i1 => ?_, rfl⟩
  have := d (i - j) (by omega)
  rw [drop_get, show j + (i - j) = i from by omega] at this
  exact this
 | none =>
  refine Or.inr ⟨fun i i0 i1 => ?_, rfl⟩
  have := seekO_none hk (i - j) (by rw [List.length_drop]; omega)
  rw [drop_get, show j + (i - j) = i from by omega] at this
  exact this
theorem ti_start (R : Rn) (t : Int) : TI R 0 t (hInit (R.K t)) := by
 have hr : ∀ j : Nat, ((R.K t).jobs.map fun _ => (⟨0, 0, 0, 0, 0⟩ : ResD)).getD j res0 = res0 := fun j => by
  simp only [List.getD, List.getElem?_map]
  cases (R.K t).jobs[j]? <;> rfl
 unfold hInit
 rcases to_job (R.K t) 0 ⟨0, 0, [], (R.K t).jobs.map fun _ => ⟨0, 0, 0, 0, 0⟩, 0, newTS [] 0, .idle⟩ with ⟨k, k0, k1, k2, k3, e⟩ | ⟨k3, e⟩
 ·rw [e]
  exact ⟨(fun a ha => by cases ha), (fun o => by cases o), (fun _ a ha => by cases ha), List.Pairwise.nil, fun _ => ⟨k1, k2⟩, (fun _ a ha => by cases ha), (by simp; rfl), fun j j1 j2 => Or.inr ⟨(fun f => by cases f), by
         show k ≤ j
         by_cases h : k ≤ j
         ·exact h
         ·exact absurd j2 (k3 j (by omega) (by omega))⟩, (fun j hj => absurd (by unfold endOf; exact congrArg ResD.fate (hr j)) hj), (fun j _ => hr j), (fun a ha => by cases ha)⟩
 ·rw [e]
  exact ⟨(fun a ha => by cases ha), (fun o => by cases o), (fun _ a ha => by cases ha), List.Pairwise.nil, (fun f => absurd rfl f), (fun _ a ha => by cases ha), (by simp; rfl), (fun j j1 j2 => absurd j2 (k3 j (by omega) j1)), (fun j hj => absurd (by unfold endOf; exact congrArg ResD.fate (hr j)) hj), (fun j _ => hr j), (fun a ha => by cases ha)⟩
end Go.Proofs.YtejadojilncbjabGreat
