import Derived.Test.YtejadojilncbjabGreatH16
import Derived.Test.YtejadojilncbjabGreatH15
import Derived.Test.YtejadojilncbjabGreatH17
import Derived.Test.YtejadojilncbjabGreatH01
import Derived.Deep.LoopGhost
namespace Go.Proofs.YtejadojilncbjabGreat
open Go.RowKit
set_option linter.unusedVariables false

/-! Once, pure. -/

/-- The fate of a job's latest attempt. -/
def lastF (j : Int) (l : List AttD) : Int := l.foldl (fun last a => if a.job = j then a.fate else last) 0
/-- A thread's latest attempt: its end, whether it is open, its job. -/
def tnF (t : Int) (l : List AttD) : Int × Bool × Int := l.foldl (fun s a => if a.thread = t then (a.fin, a.fin == 0, a.job) else s) (0, false, -1)

theorem lastF_snoc (j : Int) (l : List AttD) (a : AttD) : lastF j (l ++ [a]) = if a.job = j then a.fate else lastF j l := by
  unfold lastF
  rw [List.foldl_append]
  rfl
theorem tnF_snoc (t : Int) (l : List AttD) (a : AttD) : tnF t (l ++ [a]) = if a.thread = t then (a.fin, a.fin == 0, a.job) else tnF t l := by
  unfold tnF
  rw [List.foldl_append]
  rfl
theorem tk_snoc {l : List AttD} {i : Nat} {a : AttD} (h : l[i]? = some a) : l.take (i + 1) = l.take i ++ [a] := by
  rw [List.take_add_one, h]
  rfl
theorem take_mem {l : List AttD} (hs : l.Pairwise fun a b => a.start < b.start) {i : Nat} {a b : AttD} (h : l[i]? = some a) (hb : b ∈ l.take i) : b ∈ l ∧ b.start < a.start := by
  refine ⟨List.mem_of_mem_take hb, ?_⟩
  obtain ⟨j, hj⟩ := List.mem_iff_getElem?.1 hb
  have hji : j < i := by
    have := (List.getElem?_eq_some_iff.1 hj).1
    simp at this
    omega
  rw [List.getElem?_take_of_lt hji] at hj
  obtain ⟨hj1, rfl⟩ := List.getElem?_eq_some_iff.1 hj
  obtain ⟨hi1, rfl⟩ := List.getElem?_eq_some_iff.1 h
  exact List.pairwise_iff_getElem.1 hs j i hj1 hi1 hji

/-- The latest attempt of a job, or none. -/
theorem lastF_cases (j : Int) : ∀ (n : Nat) (l : List AttD), l.length = n → (lastF j l = 0 ∧ ∀ a ∈ l, a.job ≠ j) ∨ ∃ l1 a l2, l = l1 ++ a :: l2 ∧ a.job = j ∧ (∀ b ∈ l2, b.job ≠ j) ∧ lastF j l = a.fate
  | 0, l, h => by
    obtain rfl := List.length_eq_zero_iff.1 h
    exact Or.inl ⟨rfl, fun a ha => by cases ha⟩
  | n + 1, l, h => by
    obtain ⟨l0, z, rfl⟩ := snoc_of (show l ≠ [] by intro e; rw [e] at h; cases h)
    have hl : l0.length = n := by simpa using h
    rw [lastF_snoc]
    by_cases hz : z.job = j
    · rw [if_pos hz]
      exact Or.inr ⟨l0, z, [], rfl, hz, (fun b hb => absurd hb (by simp)), rfl⟩
    · rw [if_neg hz]
      rcases lastF_cases j n l0 hl with ⟨h1, h2⟩ | ⟨l1, a, l2, rfl, h2, h3, h4⟩
      · refine Or.inl ⟨h1, fun a ha => ?_⟩
        rcases List.mem_append.1 ha with ha | ha
        · exact h2 a ha
        · simp at ha; subst ha; exact hz
      · refine Or.inr ⟨l1, a, l2 ++ [z], by simp, h2, fun b hb => ?_, h4⟩
        rcases List.mem_append.1 hb with hb | hb
        · exact h3 b hb
        · simp at hb; subst hb; exact hz
theorem tnF_cases (t : Int) : ∀ (n : Nat) (l : List AttD), l.length = n → tnF t l = (0, false, -1) ∨ ∃ a ∈ l, a.thread = t ∧ tnF t l = (a.fin, a.fin == 0, a.job)
  | 0, l, h => by
    obtain rfl := List.length_eq_zero_iff.1 h
    exact Or.inl rfl
  | n + 1, l, h => by
    obtain ⟨l0, z, rfl⟩ := snoc_of (show l ≠ [] by intro e; rw [e] at h; cases h)
    have hl : l0.length = n := by simpa using h
    rw [tnF_snoc]
    by_cases hz : z.thread = t
    · rw [if_pos hz]
      exact Or.inr ⟨z, by simp, hz, rfl⟩
    · rw [if_neg hz]
      rcases tnF_cases t n l0 hl with h1 | ⟨a, ha, h2, h3⟩
      · exact Or.inl h1
      · exact Or.inr ⟨a, by simp [ha], h2, h3⟩

section
variable {R : Rn}

theorem hist_in (O : R.Ok) {a : AttD} (ha : a ∈ R.hist) : 0 ≤ a.thread ∧ a.thread < R.c.t ∧ er a ∈ R.l R.ps.length a.thread ∧ AttT R R.ps.length a.thread (er a) := by
  obtain ⟨t, t0, t1, h⟩ := (hist_mem O).1 ha
  have hm : er a ∈ R.l R.ps.length t := List.mem_map.2 ⟨a, h, rfl⟩
  have A := (ti_at O t t0 t1 R.ps.length).all _ hm
  have e : a.thread = t := A.thr
  rw [e]
  exact ⟨t0, t1, hm, A⟩
theorem hist_job (O : R.Ok) {a : AttD} (ha : a ∈ R.hist) {j : Nat} (hj : a.job = (j : Int)) : j < R.jobs.length ∧ (R.jobs.getD j (0, [])).1 = a.thread := by
  obtain ⟨_, _, _, A⟩ := hist_in O ha
  obtain ⟨i, h1, h2, h3⟩ := A.jb
  have : i = j := by have h1' : a.job = (i : Int) := h1; omega
  subst this
  exact ⟨h2, h3⟩
theorem same_job (O : R.Ok) {a b : AttD} (ha : a ∈ R.hist) (hb : b ∈ R.hist) (hj : a.job = b.job) (hs : a.start < b.start) : a.fate = 5 := by
  obtain ⟨a0, a1, am, A⟩ := hist_in O ha
  obtain ⟨b0, b1, bm, B⟩ := hist_in O hb
  obtain ⟨i, h1, _, _⟩ := A.jb
  have h1' : a.job = (i : Int) := h1
  have e1 := (hist_job O ha h1').2
  have e2 := (hist_job O hb (hj ▸ h1')).2
  have e : b.thread = a.thread := e2.symm.trans e1
  rw [e] at bm
  exact (job_last O R.ps.length a.thread a0 a1 am bm hj hs).1

/-- What once asks of the attempts of a job. -/
structure OnceOk (h : List AttD) (j : Int) (r : ResD) : Prop where
  rf : 0 ≤ r.fate ∧ r.fate ≤ 4
  at_ : ∀ (i : Nat) (a : AttD), h[i]? = some a → a.job = j → (lastF j (h.take i) = 0 ∨ lastF j (h.take i) = 5) ∧ (a.stamp ≠ 0 → a.fate = 0 ∨ a.fate = 1)
  op : r.fate = 0 → r = noRes ∧ (lastF j h = 0 ∨ lastF j h = 5)
  cl : r.fate ≠ 0 → lastF j h = r.fate

theorem once_at (O : R.Ok) (j : Nat) (hj : j < R.jobs.length) (hjt : ∀ j ∈ R.jobs, 0 ≤ j.1 ∧ j.1 < R.c.t) : OnceOk R.hist (j : Int) (endOf ((R.g R.ps.length).th (R.jobs.getD j (0, [])).1) j) := by
  have hmem : R.jobs.getD j (0, []) ∈ R.jobs := by
    rw [show R.jobs.getD j (0, []) = R.jobs[j] from by simp [List.getD, List.getElem?_eq_getElem hj]]
    exact List.getElem_mem hj
  have ht := hjt _ hmem
  obtain ⟨t, hT⟩ : ∃ t, t = (R.jobs.getD j (0, [])).1 := ⟨_, rfl⟩
  rw [← hT] at ht ⊢
  have T := ti_at O t ht.1 ht.2 R.ps.length
  have hr : 0 ≤ (endOf ((R.g R.ps.length).th t) j).fate ∧ (endOf ((R.g R.ps.length).th t) j).fate ≤ 4 := by
    by_cases h0 : (endOf ((R.g R.ps.length).th t) j).fate = 0
    · omega
    · obtain ⟨a, _, _, e1, e2, e3⟩ := T.ee j h0
      omega
  have fate_in : ∀ a ∈ R.hist, a.fate = 0 ∨ (1 ≤ a.fate ∧ a.fate ≤ 5) := fun a ha => by
    obtain ⟨_, _, _, A⟩ := hist_in O ha
    rcases A.en with ⟨_, h⟩ | ⟨_, _, h, _⟩
    · exact Or.inl h
    · exact Or.inr h
  have in_t : ∀ a ∈ R.hist, a.job = (j : Int) → er a ∈ ((R.g R.ps.length).th t).list.map er := fun a ha hja => by
    obtain ⟨_, _, am, _⟩ := hist_in O ha
    rw [show a.thread = t from by rw [hT]; exact (hist_job O ha hja).2.symm] at am
    exact am
  refine ⟨hr, fun i a ha hja => ⟨?_, ?_⟩, fun h0 => ⟨T.eo j h0, ?_⟩, fun h0 => ?_⟩
  · rcases lastF_cases (j : Int) _ (R.hist.take i) rfl with ⟨h1, _⟩ | ⟨l1, b, l2, hl, hb, _, h1⟩
    · exact Or.inl h1
    · have hbm : b ∈ R.hist.take i := by rw [hl]; simp
      obtain ⟨b1, b2⟩ := take_mem (hist_srt O) ha hbm
      exact Or.inr (h1.trans (same_job O b1 (List.mem_of_getElem? ha) (hb.trans hja.symm) b2))
  · obtain ⟨_, _, _, A⟩ := hist_in O (List.mem_of_getElem? ha)
    exact A.sp
  · rcases lastF_cases (j : Int) _ R.hist rfl with ⟨h1, _⟩ | ⟨l1, b, l2, hl, hb, _, h1⟩
    · exact Or.inl h1
    · have hbm : b ∈ R.hist := by rw [hl]; simp
      rw [h1]
      rcases fate_in b hbm with h2 | h2
      · exact Or.inl h2
      · by_cases h5 : b.fate = 5
        · exact Or.inr h5
        · have h6 : (endOf ((R.g R.ps.length).th t) j).fate = b.fate := T.fa (er b) (in_t b hbm hb) j hb h2.1 (show b.fate ≤ 4 by omega)
          omega
  · obtain ⟨a, ha, ja, e1, e2, e3⟩ := T.ee j h0
    obtain ⟨a', ha', rfl⟩ := er_mem ha
    have ha2 : a' ∈ R.hist := (hist_mem O).2 ⟨t, ht.1, ht.2, ha'⟩
    have ja' : a'.job = (j : Int) := ja
    have e1' : a'.fate = _ := e1
    rcases lastF_cases (j : Int) _ R.hist rfl with ⟨_, h2⟩ | ⟨l1, b, l2, hl, hb, h2, h1⟩
    · exact absurd ja' (h2 a' ha2)
    · rw [h1, ← e1']
      have hs := hist_srt O
      rw [hl] at hs ha2
      rcases List.mem_append.1 ha2 with h3 | h3
      · have hlt : a'.start < b.start := (List.pairwise_append.1 hs).2.2 a' h3 b (by simp)
        have := same_job O (show a' ∈ R.hist by rw [hl]; simp [h3]) (show b ∈ R.hist by rw [hl]; simp) (ja'.trans hb.symm) hlt
        have e3' : a'.fate ≤ 4 := e3
        omega
      · rcases List.mem_cons.1 h3 with h3 | h3
        · rw [h3]
        · exact absurd ja' (h2 a' h3)

/-- What turns asks of the attempts of a thread. -/
def TurnsOk (jobs : List (Int × List InsD)) (h : List AttD) (rs : Nat → ResD) (t : Int) : Prop :=
  ∀ (i : Nat) (a : AttD), h[i]? = some a → a.thread = t → (tnF t (h.take i)).2.1 = false ∧ (tnF t (h.take i)).1 < a.start ∧ (tnF t (h.take i)).2.2 ≤ a.job ∧ 0 ≤ a.job ∧ a.job < (jobs.length : Int) ∧ ∀ j : Nat, (j : Int) < a.job → (jobs.getD j (0, [])).1 = t → (rs j).fate ≠ 0

theorem turns_at (O : R.Ok) (t : Int) : TurnsOk R.jobs R.hist (fun j => endOf ((R.g R.ps.length).th (R.jobs.getD j (0, [])).1) j) t := fun i a ha hat => by
  have ham := List.mem_of_getElem? ha
  obtain ⟨a0, a1, am, A⟩ := hist_in O ham
  obtain ⟨j0, h1, h2, h3⟩ := A.jb
  have h1' : a.job = (j0 : Int) := h1
  have s1 : 1 ≤ a.start := A.s1
  have tail : 0 ≤ a.job ∧ a.job < (R.jobs.length : Int) ∧ ∀ j : Nat, (j : Int) < a.job → (R.jobs.getD j (0, [])).1 = t → (endOf ((R.g R.ps.length).th (R.jobs.getD j (0, [])).1) j).fate ≠ 0 :=
    ⟨by omega, by omega, fun j hj ht => by
      rw [ht, ← hat]
      exact job_ahead O R.ps.length a.thread a0 a1 am j hj (ht.trans hat.symm) (by omega)⟩
  rcases tnF_cases t _ (R.hist.take i) rfl with e | ⟨b, hb, hbt, e⟩
  · rw [e]
    exact ⟨rfl, show (0 : Int) < a.start by omega, show (-1 : Int) ≤ a.job by omega, tail⟩
  · rw [e]
    obtain ⟨b1, b2⟩ := take_mem (hist_srt O) ha hb
    obtain ⟨_, _, bm, _⟩ := hist_in O b1
    rw [hbt] at bm
    rw [hat] at am a0 a1
    have B := bef_of O R.ps.length t a0 a1 bm am b2
    have B1 : b.fin ≠ 0 := B.1
    have B2 : b.fin < a.start := B.2.1
    have B3 : b.job ≤ a.job := B.2.2.1
    exact ⟨by simp [B1], B2, B3, tail⟩

end

end Go.Proofs.YtejadojilncbjabGreat

namespace Go.Proofs.YtejadojilncbjabGreat
set_option linter.unusedVariables false

/-! What an access does to the list of a thread's attempts: it changes the last one at most, or adds one. -/

/-- The last one is changed at most, not its Start. -/
def LM (l l' : List AttD) : Prop := ∃ f : AttD → AttD, (∀ t, (f t).start = t.start ∧ (f t).thread = t.thread) ∧ l' = modLast l f

theorem modLast_id (l : List AttD) : modLast l (fun t => t) = l := by
  unfold modLast
  apply List.ext_getElem?
  intro i
  rw [List.getElem?_modify]
  split <;> simp
theorem modLast_comp (l : List AttD) (f g : AttD → AttD) : modLast (modLast l f) g = modLast l (fun t => g (f t)) := by
  unfold modLast
  apply List.ext_getElem?
  intro i
  simp only [List.length_modify, List.getElem?_modify]
  split <;> simp [Option.map_map, Function.comp_def]
theorem LM.refl (l : List AttD) : LM l l := ⟨fun t => t, fun _ => ⟨rfl, rfl⟩, (modLast_id l).symm⟩
theorem LM.trans {l l' l2 : List AttD} (h : LM l l') (k : LM l' l2) : LM l l2 := by
  obtain ⟨f, hf, rfl⟩ := h
  obtain ⟨g, hg, rfl⟩ := k
  exact ⟨fun t => g (f t), fun t => ⟨(hg _).1.trans (hf t).1, (hg _).2.trans (hf t).2⟩, modLast_comp l f g⟩
theorem LM.of {l l' : List AttD} (h : l' = l) : LM l l' := by subst h; exact LM.refl _

theorem lm_noted (h : Th) (op a v : Int) : LM h.list (h.noted op a v).list := ⟨fun t => { t with notes := t.notes ++ [⟨op, a, v⟩] }, fun t => ⟨rfl, rfl⟩, rfl⟩
theorem lm_ended (h : Th) (n f : Int) : LM h.list (h.ended n f).list := ⟨fun t => { t with fin := n, fate := f }, fun t => ⟨rfl, rfl⟩, rfl⟩
theorem lm_stamp (l : List AttD) (c : Int) : LM l (modLast l fun t => { t with stamp := c }) := ⟨fun t => { t with stamp := c }, fun t => ⟨rfl, rfl⟩, rfl⟩
theorem lm_ite {l : List AttD} {c : Prop} [Decidable c] {a b : Bool × Th} (h1 : LM l a.2.list) (h2 : LM l b.2.list) : LM l (if c then a else b).2.list := by split <;> assumption
theorem lm_iteT {l : List AttD} {c : Prop} [Decidable c] {a b : Th} (h1 : LM l a.list) (h2 : LM l b.list) : LM l (if c then a else b).list := by split <;> assumption
theorem l_to (K : Cx) (j : Nat) (h : Th) : (hTo K j h).list = h.list := by unfold hTo; split <;> rfl
theorem l_freeAt (e : Int) (r : List Int) (h : Th) : (hFreeAt e r h).list = h.list := by unfold hFreeAt; split <;> rfl
theorem l_close (e : Int) (h : Th) : (hClose e h).list = h.list := by
  unfold hClose
  split
  · rfl
  · exact l_freeAt _ _ _
theorem l_count (K : Cx) (h : Th) : (hCount K h).list = h.list := by unfold hCount; split <;> rfl
theorem l_failOwn (K : Cx) (r : List Int) (h : Th) : (hFailOwn K r h).list = h.list := by
  unfold hFailOwn
  split
  · exact l_count _ _
  · rfl
theorem l_fail (K : Cx) (h : Th) : (hFail K h).list = h.list := by
  unfold hFail
  split
  · rfl
  · exact l_failOwn _ _ _
theorem lm_read (K : Cx) (i : InsD) (h : Th) : LM h.list (hRead K i h).2.list := by
  unfold hRead
  simp only
  split
  · exact LM.of (l_close _ _)
  · split
    · exact lm_noted _ _ _ _
    · simp only
      split <;> exact LM.refl _
theorem lm_put (i : InsD) (a : Int) (h : Th) : LM h.list (hPut i a h).list := lm_noted _ _ _ _
theorem lm_write (K : Cx) (i : InsD) (h : Th) : LM h.list (hWrite K i h).2.list := by
  unfold hWrite
  simp only
  split
  · exact LM.of (l_close _ _)
  · split
    · exact lm_put _ _ _
    · exact LM.refl _
attribute [local irreducible] hRead hWrite in
theorem lm_step (K : Cx) (h : Th) : LM h.list (hStep K h).2.list := by
  unfold hStep
  simp only
  repeat' (refine lm_ite ?_ ?_)
  all_goals first
    | exact LM.of (l_close _ _)
    | exact LM.refl _
    | exact lm_read K _ _
    | exact lm_write K _ _
theorem lm_adv (K : Cx) : ∀ (n : Nat) (h : Th), LM h.list (hAdv K n h).list
  | 0, h => LM.refl _
  | n + 1, h => by
    unfold hAdv
    split
    · exact (lm_step K h).trans (lm_adv K n _)
    · exact lm_step K h
theorem lm_go (K : Cx) (h : Th) : LM h.list (hGo K h).list := lm_adv K _ h
theorem lm_got (K : Cx) (i : InsD) (a v : Int) (h : Th) : LM h.list (hGot K i a v h).list := (lm_noted ({ h with x := setReg h.x i.a v } : Th) 7 a v).trans (lm_go K _)
theorem lm_wrote (K : Cx) (i : InsD) (a : Int) (h : Th) : LM h.list (hWrote K i a h).list := by
  unfold hWrote
  split
  · exact (lm_put i a h).trans (lm_go K _)
  · exact lm_put i a h
theorem lm_exDone (K : Cx) (k : Ex) (c : Int) (h : Th) : LM h.list (hExDone K k c h).list := by
  have h0 : LM h.list (modLast h.list (fun t => { t with valid := c })) := ⟨fun t => { t with valid := c }, fun t => ⟨rfl, rfl⟩, rfl⟩
  unfold hExDone
  simp only
  split
  · exact h0.trans (lm_got K _ _ _ _)
  · exact h0.trans (lm_wrote K _ _ _)
theorem lm_exStill (K : Cx) (k : Ex) (c : Int) (r : List EntD) (h : Th) : LM h.list (hExStill K k c r h).list := by
  unfold hExStill
  split
  · exact lm_exDone _ _ _ _
  · exact LM.refl _
theorem l_openAt (c : Int) (r : List Int) (h : Th) : (hOpenAt c r h).list = h.list := by unfold hOpenAt; split <;> rfl
theorem l_wordAt (c : Int) (r : List EntD) (h : Th) : (hWordAt c r h).list = h.list := by
  unfold hWordAt
  split
  · exact l_openAt _ _ _
  · rfl
theorem l_shutAt (c : Int) (r : List Int) (h : Th) : (hShutAt c r h).list = h.list := by unfold hShutAt; split <;> rfl
theorem l_stillAt (c : Int) : ∀ (r : List EntD) (h : Th), (hStillAt c r h).list = h.list
  | [], h => by unfold hStillAt; exact l_shutAt _ _ _
  | e :: r, h => by
    unfold hStillAt
    split
    · exact l_stillAt c r h
    · rfl
theorem l_rest (K : Cx) (d : Int) (h : Th) : (hRest K d h).list = h.list := by
  unfold hRest
  simp only
  split <;> split <;> rfl

attribute [local irreducible] hWrote hFail hRest hFailOwn hCount hGot hGo hExStill hShutAt hStillAt hTo hFreeAt hOpenAt hWordAt in
/-- An access changes the last attempt at most, but where it starts one. -/
theorem lm_next (K : Cx) (h : Th) (v : AnsD) (hs : h.st ≠ .start) : LM h.list (hNext K h v).list := by
  unfold hNext
  split
  all_goals first
    | exact LM.refl _
    | (exfalso; apply hs; assumption)
    | skip
  all_goals try simp only
  all_goals repeat' (refine lm_iteT ?_ ?_)
  all_goals first
    | exact LM.refl _
    | exact lm_got K _ _ _ _
    | exact lm_exStill K _ _ _ _
    | exact LM.of (l_fail _ _)
    | exact lm_wrote K _ _ _
    | exact lm_go K _
    | exact LM.of (l_stillAt _ _ _)
    | exact LM.of (l_shutAt _ _ _)
    | exact lm_stamp _ _
    | exact LM.of (l_wordAt _ _ _)
    | exact LM.of (l_openAt _ _ _)
    | exact LM.of (l_freeAt _ _ _)
    | exact (lm_ended h _ _).trans (LM.of (l_to _ _ _))
    | exact LM.of (l_failOwn _ _ _)
    | exact lm_ended h _ _
    | exact (lm_ended h _ _).trans (LM.of (l_rest _ _ _))

theorem lm_start (K : Cx) (h : Th) (v : AnsD) (hs : h.st = .start) : ∃ a : AttD, (hNext K h v).list = h.list ++ [a] ∧ a.start = v.num ∧ a.thread = K.me := by
  have e : hNext K h v = hGo K { h with list := h.list ++ [⟨K.me, h.job, v.num, 0, v.seen, 0, 0, []⟩], x := newTS (K.jobs.getD h.job (0, [])).2 v.seen } := by
    unfold hNext
    rw [hs]
  obtain ⟨f, hf, hl⟩ := lm_go K { h with list := h.list ++ [⟨K.me, h.job, v.num, 0, v.seen, 0, 0, []⟩], x := newTS (K.jobs.getD h.job (0, [])).2 v.seen }
  refine ⟨f ⟨K.me, h.job, v.num, 0, v.seen, 0, 0, []⟩, ?_, (hf _).1, (hf _).2⟩
  rw [e, hl]
  unfold modLast
  apply List.ext_getElem?
  intro i
  simp only [List.getElem?_modify, List.length_append, List.length_singleton, Nat.add_sub_cancel]
  by_cases hi : h.list.length = i
  · subst hi
    simp
  · rcases Nat.lt_or_ge i h.list.length with h1 | h1
    · rw [List.getElem?_append_left h1, List.getElem?_append_left h1]; simp [hi]
    · rw [List.getElem?_append_right h1, List.getElem?_append_right h1]
      have : i - h.list.length ≠ 0 := by omega
      obtain ⟨n, hn⟩ := Nat.exists_eq_succ_of_ne_zero this
      rw [hn]
      simp [hi]

end Go.Proofs.YtejadojilncbjabGreat

namespace Go.Proofs.YtejadojilncbjabGreat
set_option linter.unusedVariables false

/-! What is true of each attempt of a thread, told from its list alone. -/

structure LA (R : Rn) (k : Nat) (t : Int) (a : AttD) : Prop where
  thr : a.thread = t
  s1 : 1 ≤ a.start
  s2 : a.start ≤ k
  pk : (R.pk (a.start - 1).toNat).thread = t

theorem la_at (R : Rn) (t : Int) (t0 : 0 ≤ t) (t1 : t < R.c.t) : ∀ k : Nat, (∀ a ∈ ((R.g k).th t).list, LA R k t a) ∧ ((R.g k).th t).list.Pairwise fun a b => a.start < b.start
  | 0 => by
    have e : ((R.g 0).th t).list = [] := by
      show (hTo (R.K t) 0 _).list = _
      rw [l_to]
    rw [e]
    exact ⟨fun a ha => (by cases ha), List.Pairwise.nil⟩
  | k + 1 => by
    obtain ⟨h1, h2⟩ := la_at R t t0 t1 k
    have up : ∀ a ∈ ((R.g k).th t).list, LA R (k + 1) t a := fun a ha => ⟨(h1 a ha).thr, (h1 a ha).s1, by have := (h1 a ha).s2; omega, (h1 a ha).pk⟩
    by_cases hp : (R.pk k).thread = t
    · rw [R.at k hp t0 t1]
      by_cases hs : ((R.g k).th t).st = .start
      · obtain ⟨a, e, ea, et⟩ := lm_start (R.K t) ((R.g k).th t) ⟨(accBy (R.g k).m (R.out k t)).seen, (R.pk k).draw, (k : Int) + 1⟩ hs
        have ea' : a.start = (k : Int) + 1 := ea
        rw [e]
        refine ⟨fun b hb => ?_, ?_⟩
        · rcases List.mem_append.1 hb with hb | hb
          · exact up b hb
          · simp at hb
            subst hb
            refine ⟨et, by omega, by omega, ?_⟩
            rw [ea', show ((k : Int) + 1 - 1).toNat = k by omega]
            exact hp
        · rw [List.pairwise_append]
          refine ⟨h2, by simp, fun b hb c hc => ?_⟩
          simp at hc
          subst hc
          have := (h1 b hb).s2
          omega
      · obtain ⟨f, hf, e⟩ := lm_next (R.K t) ((R.g k).th t) ⟨(accBy (R.g k).m (R.out k t)).seen, (R.pk k).draw, (k : Int) + 1⟩ hs
        rw [e]
        by_cases hn : ((R.g k).th t).list = []
        · rw [hn]
          exact ⟨fun a ha => (by simp [modLast] at ha), by simp [modLast]⟩
        · obtain ⟨l0, y, hy⟩ := snoc_of hn
          rw [hy] at up h2 ⊢
          rw [modLast_snoc]
          obtain ⟨p1, p2, p3⟩ := List.pairwise_append.1 h2
          have hfy := hf y
          refine ⟨fun b hb => ?_, ?_⟩
          · rcases List.mem_append.1 hb with hb | hb
            · exact up b (by simp [hb])
            · simp at hb
              subst hb
              have A := up y (by simp)
              exact ⟨hfy.2.trans A.thr, by rw [hfy.1]; exact A.s1, by rw [hfy.1]; exact A.s2, by rw [hfy.1]; exact A.pk⟩
          · rw [List.pairwise_append]
            refine ⟨p1, by simp, fun b hb c hc => ?_⟩
            simp at hc
            subst hc
            rw [hfy.1]
            exact p3 b hb y (by simp)
    · rw [R.off k hp]
      exact ⟨up, h2⟩

theorem la_t {R : Rn} (k : Nat) (t : Int) (t0 : 0 ≤ t) (t1 : t < R.c.t) {a : AttD} (ha : a ∈ ((R.g k).th t).list) : LA R k t a := (la_at R t t0 t1 k).1 a ha
theorem la_srt {R : Rn} (k : Nat) (t : Int) (t0 : 0 ≤ t) (t1 : t < R.c.t) : ((R.g k).th t).list.Pairwise fun a b => a.start < b.start := (la_at R t t0 t1 k).2

theorem histL_mem {R : Rn} {a : AttD} : a ∈ R.hist ↔ ∃ t, 0 ≤ t ∧ t < R.c.t ∧ a ∈ ((R.g R.ps.length).th t).list := by
  unfold Rn.hist
  rw [List.mem_flatMap]
  constructor
  · rintro ⟨i, _, ha⟩
    exact all_mem.1 (List.mem_filter.1 ha).1
  · rintro ⟨t, t0, t1, ha⟩
    have A := la_t _ t t0 t1 ha
    have h1 := A.s1
    have h2 := A.s2
    exact ⟨(a.start - 1).toNat, by rw [List.mem_range]; omega, List.mem_filter.2 ⟨all_mem.2 ⟨t, t0, t1, ha⟩, by simp only [decide_eq_true_eq]; omega⟩⟩

theorem allL_srt (R : Rn) (k : Nat) : (R.all k).Pairwise fun a b => a.start ≠ b.start := by
  unfold Rn.all
  rw [List.pairwise_flatMap]
  constructor
  · intro t ht
    rw [List.mem_range] at ht
    exact (la_srt k (t : Int) (by omega) (by omega)).imp (fun h => by omega)
  · have hl : ∀ n, n ≤ R.c.t.toNat → (List.range n).Pairwise fun t u : Nat => ∀ x ∈ ((R.g k).th (t : Int)).list, ∀ y ∈ ((R.g k).th (u : Int)).list, x.start ≠ y.start := by
      intro n
      induction n with
      | zero => intro _; exact List.Pairwise.nil
      | succ n ih =>
        intro hn
        rw [List.range_succ, List.pairwise_append]
        refine ⟨ih (by omega), List.pairwise_singleton _ _, fun t ht u hu x hx y hy e => ?_⟩
        rw [List.mem_range] at ht
        rw [List.mem_singleton] at hu
        have h1 := (la_t k (t : Int) (by omega) (by omega) hx).pk
        have h2 := (la_t k (u : Int) (by omega) (by omega) hy).pk
        rw [e, h2] at h1
        omega
    exact hl _ (Nat.le_refl _)

theorem histL_srt (R : Rn) : R.hist.Pairwise fun a b => a.start < b.start := by
  unfold Rn.hist
  rw [List.pairwise_flatMap]
  constructor
  · intro i hi
    have h := (allL_srt R R.ps.length).filter (fun a => decide (a.start = (i : Int) + 1))
    refine h.imp_of_mem fun {a b} ha hb x => ?_
    have h1 := (List.mem_filter.1 ha).2
    have h2 := (List.mem_filter.1 hb).2
    simp only [decide_eq_true_eq] at h1 h2
    omega
  · refine List.Pairwise.imp (R := fun i j : Nat => i < j) (fun {i j} hij x hx y hy => ?_) List.pairwise_lt_range
    have h1 := (List.mem_filter.1 hx).2
    have h2 := (List.mem_filter.1 hy).2
    simp only [decide_eq_true_eq] at h1 h2
    omega

end Go.Proofs.YtejadojilncbjabGreat

namespace Go.Proofs.YtejadojilncbjabGreat
open Go.RowKit
set_option linter.unusedVariables false
attribute [local go_sem ↓] Go.wp_at_zero Go.wp_at_succ

theorem pComp_begun (m : MS) (i : InsD) : (pComp m i).begun = m.begun := by
  unfold pComp
  split
  · rfl
  · split
    · rfl
    · split
      · rfl
      · split
        · rfl
        · split <;> rfl

end Go.Proofs.YtejadojilncbjabGreat

namespace Go.Proofs.YtejadojilncbjabGreat
open Go.RowKit
set_option linter.unusedVariables false
attribute [local go_sem ↓] Go.wp_at_zero Go.wp_at_succ

/-- The program's machine as a part of a greater block, from place z on. -/
def MAt (w : World) (p z : Nat) (T : TypeId) (A B : List Value) (m : MS) : Prop := A.length = z ∧ Blk w p T (A ++ ((mArr m).toList ++ B)).toArray

theorem mArr_size (m : MS) : (mArr m).toList.length = 7 := rfl
theorem MAt.cellAt {w : World} {p z : Nat} {T : TypeId} {A B : List Value} {m : MS} (h : MAt w p z T A B m) (i : Nat) (hi : i < 7) : w.cell? ⟨p, z + i, none⟩ = (mArr m)[i]? := by
  rw [h.2.cell, List.getElem?_toArray, ← h.1, List.getElem?_append_right (by omega), Nat.add_sub_cancel_left, List.getElem?_append_left (by rw [mArr_size]; exact hi)]
  simp
theorem MAt.c4 {w : World} {p z : Nat} {T : TypeId} {A B : List Value} {m : MS} (h : MAt w p z T A B m) : w.cell? ⟨p, z + 4, none⟩ = some (.int .i64 m.place) := h.cellAt 4 (by omega)
theorem MAt.c5 {w : World} {p z : Nat} {T : TypeId} {A B : List Value} {m : MS} (h : MAt w p z T A B m) : w.cell? ⟨p, z + 5, none⟩ = some (.int .i64 m.begun) := h.cellAt 5 (by omega)
theorem MAt.c6 {w : World} {p z : Nat} {T : TypeId} {A B : List Value} {m : MS} (h : MAt w p z T A B m) : w.cell? ⟨p, z + 6, none⟩ = some (.int .i64 m.into) := h.cellAt 6 (by omega)
theorem MAt.frozen {w : World} {p z : Nat} {T : TypeId} {A B : List Value} {m : MS} (h : MAt w p z T A B m) : ∀ i, w.frozen? ⟨p, i, none⟩ = false := h.2.frozen
theorem MAt.lt {w : World} {p z : Nat} {T : TypeId} {A B : List Value} {m : MS} (h : MAt w p z T A B m) : p < w.heap.size := h.2.lt
theorem MAt.alloc {w : World} {p z : Nat} {T : TypeId} {A B : List Value} {m : MS} (h : MAt w p z T A B m) (o : Obj) : MAt (w.alloc o) p z T A B m := ⟨h.1, h.2.alloc o⟩
theorem MAt.below {w w' : World} {p z n : Nat} {T : TypeId} {A B : List Value} {m : MS} (h : MAt w p z T A B m) (hb : Below n w w') (hp : p < n) : MAt w' p z T A B m := ⟨h.1, h.2.below hb hp⟩
theorem MAt.only {w w' : World} {p z q : Nat} {T : TypeId} {A B : List Value} {m : MS} (h : MAt w p z T A B m) (hb : Only q w w') (hp : p ≠ q) : MAt w' p z T A B m := ⟨h.1, h.2.only hb hp⟩
theorem MAt.drewN {w : World} {p z : Nat} {T : TypeId} {A B : List Value} {m : MS} (h : MAt w p z T A B m) (n : Nat) : MAt (w.drewN n) p z T A B m := h
theorem MAt.setAt {w : World} {p z : Nat} {T : TypeId} {A B : List Value} {m m' : MS} (h : MAt w p z T A B m) (i : Nat) (hi : i < 7) (v : Value) (e : (mArr m).toList.set i v = (mArr m').toList) : MAt (w.setCell ⟨p, z + i, none⟩ v) p z T A B m' := by
  refine ⟨h.1, h.2.set.congr ?_⟩
  rw [List.setIfInBounds_toArray, ← h.1, List.set_append_right _ _ (by omega), Nat.add_sub_cancel_left, List.set_append_left _ _ (by rw [mArr_size]; exact hi), e]
theorem MAt.place {w : World} {p z : Nat} {T : TypeId} {A B : List Value} {m : MS} (h : MAt w p z T A B m) (k : Nat) : MAt (w.setCell ⟨p, z + 4, none⟩ (.int .i64 (k : Int))) p z T A B { m with place := k } := h.setAt 4 (by omega) _ rfl
theorem MAt.begun {w : World} {p z : Nat} {T : TypeId} {A B : List Value} {m : MS} (h : MAt w p z T A B m) (k : Nat) : MAt (w.setCell ⟨p, z + 5, none⟩ (.int .i64 (k : Int))) p z T A B { m with begun := k } := h.setAt 5 (by omega) _ rfl
theorem MAt.into {w : World} {p z : Nat} {T : TypeId} {A B : List Value} {m : MS} (h : MAt w p z T A B m) (k : Int) : MAt (w.setCell ⟨p, z + 6, none⟩ (.int .i64 k)) p z T A B { m with into := k } := h.setAt 6 (by omega) _ rfl
theorem z_mArr_reg {w : World} {p z : Nat} {T : TypeId} {A B : List Value} {m : MS} (h : MAt w p z T A B m) (k : Nat) (hk : k < 4) : w.cell? ⟨p, z + k, none⟩ = some (.int .i64 (m.regs.getD k 0)) := by
  rw [h.cellAt k (by omega)]
  have : k = 0 ∨ k = 1 ∨ k = 2 ∨ k = 3 := by omega
  rcases this with rfl | rfl | rfl | rfl <;> rfl
theorem z_mArr_set {w : World} {p z : Nat} {T : TypeId} {A B : List Value} {m : MS} (h : MAt w p z T A B m) (hl : m.regs.length = 4) (k : Nat) (hk : k < 4) (v : Int) : MAt (w.setCell ⟨p, z + k, none⟩ (.int .i64 v)) p z T A B { m with regs := m.regs.set k v } := by
  refine h.setAt k (by omega) _ ?_
  obtain ⟨regs, place, begun, into⟩ := m
  simp only at hl
  obtain ⟨a, b, c, d, rfl⟩ := list4 hl
  have : k = 0 ∨ k = 1 ∨ k = 2 ∨ k = 3 := by omega
  rcases this with rfl | rfl | rfl | rfl <;> rfl

set_option maxHeartbeats 2000000 in
theorem z_give_any (z : Nat) (T : TypeId) (A B : List Value) (p ki : Nat) (m : MS) (v : Int) (w : World) (hb : MAt w p z T A B m) (hl : m.regs.length = 4) (hi : m.into = (ki : Int)) (hk : ki < 4) :
    Calls Tryz.prog 114 #[.pointer (some ⟨p, z, none⟩), .int .i64 v] w fun e w' => e = .returned (.tuple #[]) ∧ MAt w' p z T A B { m with regs := m.regs.set ki v } ∧ Only p w w' := by
  have HB : Hid (MAt w p z T A B m) := hb
  have h6 : w.cell? ⟨p, z + 6, none⟩ = some (.int .i64 (ki : Int)) := by rw [← hi]; exact hb.c6
  have hr := z_mArr_reg hb ki hk
  have hf := hb.frozen (z + ki)
  have hk0 : (0 : Int) ≤ (ki : Int) := by omega
  have hk1 : (ki : Int) < 4 := by omega
  clear hb hi
  go_enter Tryz.func114, Tryz.ntmps114
  go_wp2
  go_region
  all_goals
    go_wp2
    go_end0
    refine ⟨rfl, ?_, ?_⟩
    · exact z_mArr_set (show MAt w.drew p z T A B m from HB.out) hl ki hk v
    · exact (Only.refl _ _).drew.set

set_option maxHeartbeats 4000000 in
theorem z_compute_set (z : Nat) (T : TypeId) (A B : List Value) (p ka : Nat) (m : MS) (b c : Int) (w : World) (hb : MAt w p z T A B m) (hl : m.regs.length = 4) (hk : ka < 4) :
    Calls Tryz.prog 125 #[.pointer (some ⟨p, z, none⟩), .agg #[.int .i64 2, .int .i64 (ka : Int), .int .i64 b, .int .i64 c]] w fun e w' => e = .returned (.tuple #[]) ∧ MAt w' p z T A B { m with regs := m.regs.set ka b } ∧ Only p w w' := by
  have HB : Hid (MAt w p z T A B m) := hb
  have hr := z_mArr_reg hb ka hk
  have hf := hb.frozen (z + ka)
  have hlt := hb.lt
  have hk0 : (0 : Int) ≤ (ka : Int) := by omega
  have hk1 : (ka : Int) < 4 := by omega
  clear hb
  go_enter Tryz.func125, Tryz.ntmps125
  go_wp2_with fail
  go_region
  all_goals
    go_wp2
    go_end0
    refine ⟨rfl, ?_, ?_⟩
    · exact (z_mArr_set HB.out hl ka hk b).alloc _
    · exact (((Only.refl _ _).set).trans (Only.below ((Below.refl _ _).alloc (Nat.le_refl _) _))).drew

set_option maxHeartbeats 4000000 in
theorem z_compute_jump (z : Nat) (T : TypeId) (A B : List Value) (p kc : Nat) (m : MS) (a b : Int) (w : World) (hb : MAt w p z T A B m) :
    Calls Tryz.prog 125 #[.pointer (some ⟨p, z, none⟩), .agg #[.int .i64 5, .int .i64 a, .int .i64 b, .int .i64 (kc : Int)]] w fun e w' => e = .returned (.tuple #[]) ∧ MAt w' p z T A B { m with place := kc } ∧ Only p w w' := by
  have HB : Hid (MAt w p z T A B m) := hb
  have h4 : w.cell? ⟨p, z + 4, none⟩ = some (.int .i64 m.place) := hb.c4
  have hf := hb.frozen (z + 4)
  have hlt := hb.lt
  clear hb
  go_enter Tryz.func125, Tryz.ntmps125
  go_wp2
  go_end0
  refine ⟨rfl, ?_, ?_⟩
  · exact ((HB.out).place kc).alloc _
  · exact ((Only.refl _ _).set).trans (Only.below ((Below.refl _ _).alloc (Nat.le_refl _) _))

set_option maxHeartbeats 4000000 in
theorem z_compute_less (z : Nat) (T : TypeId) (A B : List Value) (p ka kb kc : Nat) (m : MS) (w : World) (hb : MAt w p z T A B m) (hka : ka < 4) (hkb : kb < 4) :
    Calls Tryz.prog 125 #[.pointer (some ⟨p, z, none⟩), .agg #[.int .i64 6, .int .i64 (ka : Int), .int .i64 (kb : Int), .int .i64 (kc : Int)]] w fun e w' => e = .returned (.tuple #[]) ∧ MAt w' p z T A B (if m.regs.getD ka 0 < m.regs.getD kb 0 then { m with place := kc } else m) ∧ Only p w w' := by
  have HB : Hid (MAt w p z T A B m) := hb
  have h4 : w.cell? ⟨p, z + 4, none⟩ = some (.int .i64 m.place) := hb.c4
  have hf := hb.frozen (z + 4)
  have hlt := hb.lt
  have hra := z_mArr_reg hb ka hka
  have hrb := z_mArr_reg hb kb hkb
  have hk0 : (0 : Int) ≤ (ka : Int) := by omega
  have hk1 : (ka : Int) < 4 := by omega
  have hk2 : (0 : Int) ≤ (kb : Int) := by omega
  have hk3 : (kb : Int) < 4 := by omega
  clear hb
  by_cases hlt2 : m.regs.getD ka 0 < m.regs.getD kb 0
  · rw [if_pos hlt2]
    generalize m.regs.getD ka 0 = va at *
    generalize m.regs.getD kb 0 = vb at *
    go_enter Tryz.func125, Tryz.ntmps125
    go_wp2_with fail
    go_quiet (fail)
    go_wp2
    go_end0
    refine ⟨rfl, ?_, ?_⟩
    · exact (((HB.out).alloc _).drewN nq).place kc
    · exact ((Only.below ((Below.refl _ _).alloc (Nat.le_refl _) _)).drewN nq).set
  · rw [if_neg hlt2]
    generalize m.regs.getD ka 0 = va at *
    generalize m.regs.getD kb 0 = vb at *
    go_enter Tryz.func125, Tryz.ntmps125
    go_wp2_with fail
    go_quiet (fail)
    go_wp2
    go_end0
    refine ⟨rfl, ?_, ?_⟩
    · exact ((HB.out).alloc _).drewN nq
    · exact (Only.below ((Below.refl _ _).alloc (Nat.le_refl _) _)).drewN nq

end Go.Proofs.YtejadojilncbjabGreat
