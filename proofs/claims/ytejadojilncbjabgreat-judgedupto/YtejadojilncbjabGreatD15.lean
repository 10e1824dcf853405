import Derived.Test.YtejadojilncbjabGreatD14
import Derived.Test.YtejadojilncbjabGreatD01
namespace Go.Proofs.YtejadojilncbjabGreat
set_option linter.unusedVariables false
def Rn.all (R : Rn) (k : Nat) : List AttD := (List.range R.c.t.toNat).flatMap fun t : Nat => ((R.g k).th (t : Int)).list
def Rn.hist (R : Rn) : List AttD := (List.range R.ps.length).flatMap fun i : Nat => (R.all R.ps.length).filter fun a => decide (a.start = (i : Int) + 1)
theorem AttT.of_er {R : Rn} {k : Nat} {t : Int} {a : AttD} (A : AttT R k t (er a)) : AttT R k t a := ⟨A.thr, A.jb, A.s1, A.s2, A.pk, A.ac, A.vl, A.en, A.sp⟩
theorem att_t {R : Rn} (O : R.Ok) (k : Nat) (t : Int) (t0 : 0 ≤ t) (t1 : t < R.c.t) {a : AttD} (ha : a ∈ ((R.g k).th t).list) : AttT R k t a :=
 ((ti_at O t t0 t1 k).all (er a) (List.mem_map.2 ⟨a, ha, rfl⟩)).of_er
theorem all_mem {R : Rn} {k : Nat} {a : AttD} : a ∈ R.all k ↔ ∃ t, 0 ≤ t ∧ t < R.c.t ∧ a ∈ ((R.g k).th t).list := by
 unfold Rn.all
 rw [List.mem_flatMap]
 constructor
 ·rintro ⟨t, ht, ha⟩
  rw [List.mem_range] at ht
  exact ⟨(t : Int), by omega, by omega, ha⟩
 ·rintro ⟨t, t0, t1, ha⟩
  refine ⟨t.toNat, by rw [List.mem_range]; omega, ?_⟩
  rw [show ((t.toNat : Nat) : Int) = t from by omega]
  exact ha
theorem hist_mem {R : Rn} (O : R.Ok) {a : AttD} : a ∈ R.hist ↔ ∃ t, 0 ≤ t ∧ t < R.c.t ∧ a ∈ ((R.g R.ps.length).th t).list := by
 unfold Rn.hist
 rw [List.mem_flatMap]
 constructor
 ·rintro ⟨i, _, ha⟩
  exact all_mem.1 (List.mem_filter.1 ha).1
 ·rintro ⟨t, t0, t1, ha⟩
  have A := att_t O _ t t0 t1 ha
  have h1 := A.s1
  have h2 := A.s2
  exact ⟨(a.start - 1).toNat, by rw [List.mem_range]; omega, List.mem_filter.2 ⟨all_mem.2 ⟨t, t0, t1, ha⟩, by simp only [decide_eq_true_eq]; omega⟩⟩
theorem bef_start {R : Rn} {k : Nat} {t : Int} {a b : AttD} (A : AttT R k t a) (B : Bef a b) : a.start < b.start := by
 rcases A.en with x | x
 ·exact absurd x.1 B.1
 ·have h1 := x.1
  have h2 := B.2.1
  omega
theorem list_srt {R : Rn} (O : R.Ok) (k : Nat) (t : Int) (t0 : 0 ≤ t) (t1 : t < R.c.t) : ((R.g k).th t).list.Pairwise fun a b => a.start < b.start := by
 have T := ti_at O t t0 t1 k
 have h := T.srt
 rw [List.pairwise_map] at h
 refine h.imp_of_mem fun {a b} ha hb x => ?_
 have A : AttT R k t (er a) := T.all _ (List.mem_map.2 ⟨a, ha, rfl⟩)
 exact (show (er a).start < (er b).start from bef_start A x)
theorem all_srt {R : Rn} (O : R.Ok) (k : Nat) : (R.all k).Pairwise fun a b => a.start ≠ b.start := by
 unfold Rn.all
 rw [List.pairwise_flatMap]
 constructor
 ·intro t ht
  rw [List.mem_range] at ht
  exact (list_srt O k (t : Int) (by omega) (by omega)).imp (fun h => by omega)
 ·have hl : ∀ n, n ≤ R.c.t.toNat → (List.range n).Pairwise fun t u : Nat => ∀ x ∈ ((R.g k).th (t : Int)).list, ∀ y ∈ ((R.g k).th (u : Int)).list, x.start ≠ y.start := by
   intro n
   induction n with
   | zero => intro _; exact List.Pairwise.nil
   | succ n ih =>
    intro hn
    rw [List.range_succ, List.pairwise_append]
    refine ⟨ih (by omega), List.pairwise_singleton _ _, fun t ht u hu x hx y hy e => ?_⟩
    rw [List.mem_range] at ht
    rw [List.mem_singleton] at hu
    have A := att_t O k (t : Int) (by omega) (by omega) hx
    have B := att_t O k (u : Int) (by omega) (by omega) hy
    have h1 := A.pk
    have h2 := B.pk
    rw [e, h2] at h1
    omega
  exact hl _ (Nat.le_refl _)
theorem hist_srt {R : Rn} (O : R.Ok) : R.hist.Pairwise fun a b => a.start < b.start := by
 unfold Rn.hist
 rw [List.pairwise_flatMap]
 constructor
 ·intro i hi
  have h := (all_srt O R.ps.length).filter (fun a => decide (a.start = (i : Int) + 1))
  refine h.imp_of_mem fun {a b} ha hb x => ?_
  have h1 := (List.mem_filter.1 ha).2
  have h2 := (List.mem_filter.1 hb).2
  simp only [decide_eq_true_eq] at h1 h2
  omega
 ·refine List.Pairwise.imp (R := fun i j : Nat => i < j) (fun {i j} hij x hx y hy => ?_) List.pairwise_lt_range
  have h1 := (List.mem_filter.1 hx).2
  have h2 := (List.mem_filter.1 hy).2
  simp only [decide_eq_true_eq] at h1 h2
  omega
def plA (a : AttD) : Int := if 0 < a.stamp then a.stamp else a.valid
def plB (a : AttD) : Int := if 0 < a.stamp then 0 else 1
def Sooner (a b : AttD) : Prop := plA a < plA b ∨ (plA a = plA b ∧ plB a < plB b)
instance (a b : AttD) : Decidable (Sooner a b) := by unfold Sooner; infer_instance
def Ahd (a b : AttD) : Prop := Sooner a b ∨ (¬ Sooner b a ∧ a.start < b.start)
theorem Sooner.tr {a b c : AttD} (h : Sooner a b) (g : Sooner b c) : Sooner a c := by unfold Sooner at *; omega
def LM (l l' : List AttD) : Prop := ∃ f : AttD → AttD, (∀ t, (f t).start = t.start ∧ (f t).thread = t.thread) ∧ l' = modLast l f
theorem modLast_id (l : List AttD) : modLast l (fun t => t) = l := by
 unfold modLast
 apply List.ext_getElem?
 intro i
 rw [List.getElem?_modify]
 split <;> simp
theorem modLast_comp (l : List AttD) (f g : AttD → AttD) : modLast (modLast l f) g = modLast l (fun t => g (f t)) := by
 unfold modLast
 apply List.ext_getElem?
 intro i
 simp only [List.length_modify, List.getElem?_modify]
 split <;> simp [Option.map_map, Function.comp_def]
theorem LM.refl (l : List AttD) : LM l l := ⟨fun t => t, fun _ => ⟨rfl, rfl⟩, (modLast_id l).symm⟩
theorem LM.trans {l l' l2 : List AttD} (h : LM l l') (k : LM l' l2) : LM l l2 := by
 obtain ⟨f, hf, rfl⟩ := h
 obtain ⟨g, hg, rfl⟩ := k
 exact ⟨fun t => g (f t), fun t => ⟨(hg _).1.trans (hf t).1, (hg _).2.trans (hf t).2⟩, modLast_comp l f g⟩
theorem LM.of {l l' : List AttD} (h : l' = l) : LM l l' := by subst h; exact LM.refl _
theorem lm_noted (h : Th) (op a v : Int) : LM h.list (h.noted op a v).list := ⟨fun t => { t with notes := t.notes ++ [⟨op, a, v⟩] }, fun t => ⟨rfl, rfl⟩, rfl⟩
theorem lm_ended (h : Th) (n f : Int) : LM h.list (h.ended n f).list := ⟨fun t => { t with fin := n, fate := f }, fun t => ⟨rfl, rfl⟩, rfl⟩
theorem lm_stamp (l : List AttD) (c : Int) : LM l (modLast l fun t => { t with stamp := c }) := ⟨fun t => { t with stamp := c }, fun t => ⟨rfl, rfl⟩, rfl⟩
theorem lm_ite {l : List AttD} {c : Prop} [Decidable c] {a b : Bool × Th} (h1 : LM l a.2.list) (h2 : LM l b.2.list) : LM l (if c then a else b).2.list := by split <;> assumption
theorem lm_iteT {l : List AttD} {c : Prop} [Decidable c] {a b : Th} (h1 : LM l a.list) (h2 : LM l b.list) : LM l (if c then a else b).list := by split <;> assumption
theorem l_to (K : Cx) (j : Nat) (h : Th) : (hTo K j h).list = h.list := by unfold hTo; split <;> rfl
theorem l_freeAt (e : Int) (r : List Int) (h : Th) : (hFreeAt e r h).list = h.list := by unfold hFreeAt; split <;> rfl
theorem l_close (e : Int) (h : Th) : (hClose e h).list = h.list := by
 unfold hClose
 split
 ·rfl
 ·exact l_freeAt _ _ _
theorem l_count (K : Cx) (h : Th) : (hCount K h).list = h.list := by unfold hCount; split <;> rfl
theorem l_failOwn (K : Cx) (r : List Int) (h : Th) : (hFailOwn K r h).list = h.list := by
 unfold hFailOwn
 split
 ·exact l_count _ _
 ·rfl
theorem l_fail (K : Cx) (h : Th) : (hFail K h).list = h.list := by
 unfold hFail
 split
 ·rfl
 ·exact l_failOwn _ _ _
theorem lm_read (K : Cx) (i : InsD) (h : Th) : LM h.list (hRead K i h).2.list := by
 unfold hRead
 simp only
 split
 ·exact LM.of (l_close _ _)
 ·split
  ·exact lm_noted _ _ _ _
  ·simp only
   split <;> exact LM.refl _
theorem lm_put (i : InsD) (a : Int) (h : Th) : LM h.list (hPut i a h).list := lm_noted _ _ _ _
theorem lm_write (K : Cx) (i : InsD) (h : Th) : LM h.list (hWrite K i h).2.list := by
 unfold hWrite
 simp only
 split
 ·exact LM.of (l_close _ _)
 ·split
  ·exact lm_put _ _ _
  ·exact LM.refl _
attribute [local irreducible] hRead hWrite in
theorem lm_step (K : Cx) (h : Th) : LM h.list (hStep K h).2.list := by
 unfold hStep
 simp only
 repeat' (refine lm_ite ?_ ?_)
 all_goals first
  | exact LM.of (l_close _ _)
  | exact LM.refl _
  | exact lm_read K _ _
  | exact lm_write K _ _
theorem lm_adv (K : Cx) : ∀ (n : Nat) (h : Th), LM h.list (hAdv K n h).list
 | 0, h => LM.refl _
 | n + 1, h => by
  unfold hAdv
  split
  ·exact (lm_step K h).trans (lm_adv K n _)
  ·exact lm_step K h
theorem lm_go (K : Cx) (h : Th) : LM h.list (hGo K h).list := lm_adv K _ h
theorem lm_got (K : Cx) (i : InsD) (a v : Int) (h : Th) : LM h.list (hGot K i a v h).list := (lm_noted ({ h with x := setReg h.x i.a v } : Th) 7 a v).trans (lm_go K _)
theorem lm_wrote (K : Cx) (i : InsD) (a : Int) (h : Th) : LM h.list (hWrote K i a h).list := by
 unfold hWrote
 split
 ·exact (lm_put i a h).trans (lm_go K _)
 ·exact lm_put i a h
theorem lm_exDone (K : Cx) (k : Ex) (c : Int) (h : Th) : LM h.list (hExDone K k c h).list := by
 have h0 : LM h.list (modLast h.list (fun t => { t with valid := c })) := ⟨fun t => { t with valid := c }, fun t => ⟨rfl, rfl⟩, rfl⟩
 unfold hExDone
 simp only
 split
 ·exact h0.trans (lm_got K _ _ _ _)
 ·exact h0.trans (lm_wrote K _ _ _)
theorem lm_exStill (K : Cx) (k : Ex) (c : Int) (r : List EntD) (h : Th) : LM h.list (hExStill K k c r h).list := by
 unfold hExStill
 split
 ·exact lm_exDone _ _ _ _
 ·exact LM.refl _
theorem l_openAt (c : Int) (r : List Int) (h : Th) : (hOpenAt c r h).list = h.list := by unfold hOpenAt; split <;> rfl
theorem l_wordAt (c : Int) (r : List EntD) (h : Th) : (hWordAt c r h).list = h.list := by
 unfold hWordAt
 split
 ·exact l_openAt _ _ _
 ·rfl
theorem l_shutAt (c : Int) (r : List Int) (h : Th) : (hShutAt c r h).list = h.list := by unfold hShutAt; split <;> rfl
theorem l_stillAt (c : Int) : ∀ (r : List EntD) (h : Th), (hStillAt c r h).list = h.list
 | [], h => by unfold hStillAt; exact l_shutAt _ _ _
 | e :: r, h => by
  unfold hStillAt
  split
  ·exact l_stillAt c r h
  ·rfl
theorem l_rest (K : Cx) (d : Int) (h : Th) : (hRest K d h).list = h.list := by
 unfold hRest
 simp only
 split <;> split <;> rfl
attribute [local irreducible] hWrote hFail hRest hFailOwn hCount hGot hGo hExStill hShutAt hStillAt hTo hFreeAt hOpenAt hWordAt in
theorem lm_next (K : Cx) (h : Th) (v : AnsD) (hs : h.st ≠ .start) : LM h.list (hNext K h v).list := by
 unfold hNext
 split
 all_goals first
  | exact LM.refl _
  | (exfalso; apply hs; assumption)
  | skip
 all_goals try simp only
 all_goals repeat' (refine lm_iteT ?_ ?_)
 all_goals first
  | exact LM.refl _
  | exact lm_got K _ _ _ _
  | exact lm_exStill K _ _ _ _
  | exact LM.of (l_fail _ _)
  | exact lm_wrote K _ _ _
  | exact lm_go K _
  | exact LM.of (l_stillAt _ _ _)
  | exact LM.of (l_shutAt _ _ _)
  | exact lm_stamp _ _
  | exact LM.of (l_wordAt _ _ _)
  | exact LM.of (l_openAt _ _ _)
  | exact LM.of (l_freeAt _ _ _)
  | exact (lm_ended h _ _).trans (LM.of (l_to _ _ _))
  | exact LM.of (l_failOwn _ _ _)
  | exact lm_ended h _ _
  | exact (lm_ended h _ _).trans (LM.of (l_rest _ _ _))
theorem lm_start (K : Cx) (h : Th) (v : AnsD) (hs : h.st = .start) : ∃ a : AttD, (hNext K h v).list = h.list ++ [a] ∧ a.start = v.num ∧ a.thread = K.me := by
 have e : hNext K h v = hGo K { h with list := h.list ++ [⟨K.me, h.job, v.num, 0, v.seen, 0, 0, []⟩], x := newTS (K.jobs.getD h.job (0, [])).2 v.seen } := by
  unfold hNext
  rw [hs]
 obtain ⟨f, hf, hl⟩ := lm_go K { h with list := h.list ++ [⟨K.me, h.job, v.num, 0, v.seen, 0, 0, []⟩], x := newTS (K.jobs.getD h.job (0, [])).2 v.seen }
 refine ⟨f ⟨K.me, h.job, v.num, 0, v.seen, 0, 0, []⟩, ?_, (hf _).1, (hf _).2⟩
 rw [e, hl]
 unfold modLast
 apply List.ext_getElem?
 intro i
 simp only [List.getElem?_modify, List.length_append, List.length_singleton, Nat.add_sub_cancel]
 by_cases hi : h.list.length = i
 ·subst hi
  simp
 ·rcases Nat.lt_or_ge i h.list.length with h1 | h1
  ·rw [List.getElem?_append_left h1, List.getElem?_append_left h1]; simp [hi]
  ·rw [List.getElem?_append_right h1, List.getElem?_append_right h1]
   have : i - h.list.length ≠ 0 := by omega
   obtain ⟨n, hn⟩ := Nat.exists_eq_succ_of_ne_zero this
   rw [hn]
   simp [hi]
structure LA (R : Rn) (k : Nat) (t : Int) (a : AttD) : Prop where
 thr : a.thread = t
 s1 : 1 ≤ a.start
 s2 : a.start ≤ k
 pk : (R.pk (a.start - 1).toNat).thread = t
theorem la_at (R : Rn) (t : Int) (t0 : 0 ≤ t) (t1 : t < R.c.t) : ∀ k : Nat, (∀ a ∈ ((R.g k).th t).list, LA R k t a) ∧ ((R.g k).th t).list.Pairwise fun a b => a.start < b.start
 | 0 => by
  have e : ((R.g 0).th t).list = [] := by
   show (hTo (R.K t) 0 _).list = _
   rw [l_to]
  rw [e]
  exact ⟨fun a ha => (by cases ha), List.Pairwise.nil⟩
 | k + 1 => by
  obtain ⟨h1, h2⟩ := la_at R t t0 t1 k
  have up : ∀ a ∈ ((R.g k).th t).list, LA R (k + 1) t a := fun a ha => ⟨(h1 a ha).thr, (h1 a ha).s1, by have := (h1 a ha).s2; omega, (h1 a ha).pk⟩
  by_cases hp : (R.pk k).thread = t
  ·rw [R.at k hp t0 t1]
   by_cases hs : ((R.g k).th t).st = .start
   ·obtain ⟨a, e, ea, et⟩ := lm_start (R.K t) ((R.g k).th t) ⟨(accBy (R.g k).m (R.out k t)).seen, (R.pk k).draw, (k : Int) + 1⟩ hs
    have ea' : a.start = (k : Int) + 1 := ea
    rw [e]
    refine ⟨fun b hb => ?_, ?_⟩
    ·rcases List.mem_append.1 hb with hb | hb
     ·exact up b hb
     ·simp at hb
      subst hb
      refine ⟨et, by omega, by omega, ?_⟩
      rw [ea', show ((k : Int) + 1 - 1).toNat = k by omega]
      exact hp
    ·rw [List.pairwise_append]
     refine ⟨h2, by simp, fun b hb c hc => ?_⟩
     simp at hc
     subst hc
     have := (h1 b hb).s2
     omega
   ·obtain ⟨f, hf, e⟩ := lm_next (R.K t) ((R.g k).th t) ⟨(accBy (R.g k).m (R.out k t)).seen, (R.pk k).draw, (k : Int) + 1⟩ hs
    rw [e]
    by_cases hn : ((R.g k).th t).list = []
    ·rw [hn]
     exact ⟨fun a ha => (by simp [modLast] at ha), by simp [modLast]⟩
    ·obtain ⟨l0, y, hy⟩ := snoc_of hn
     rw [hy] at up h2 ⊢
     rw [modLast_snoc]
     obtain ⟨p1, p2, p3⟩ := List.pairwise_append.1 h2
     have hfy := hf y
     refine ⟨fun b hb => ?_, ?_⟩
     ·rcases List.mem_append.1 hb with hb | hb
      ·exact up b (by simp [hb])
      ·simp at hb
       subst hb
       have A := up y (by simp)
       exact ⟨hfy.2.trans A.thr, by rw [hfy.1]; exact A.s1, by rw [hfy.1]; exact A.s2, by rw [hfy.1]; exact A.pk⟩
     ·rw [List.pairwise_append]
      refine ⟨p1, by simp, fun b hb c hc => ?_⟩
      simp at hc
      subst hc
      rw [hfy.1]
      exact p3 b hb y (by simp)
  ·rw [R.off k hp]
   exact ⟨up, h2⟩
theorem la_t {R : Rn} (k : Nat) (t : Int) (t0 : 0 ≤ t) (t1 : t < R.c.t) {a : AttD} (ha : a ∈ ((R.g k).th t).list) : LA R k t a := (la_at R t t0 t1 k).1 a ha
theorem la_srt {R : Rn} (k : Nat) (t : Int) (t0 : 0 ≤ t) (t1 : t < R.c.t) : ((R.g k).th t).list.Pairwise fun a b => a.start < b.start := (la_at R t t0 t1 k).2
theorem histL_mem {R : Rn} {a : AttD} : a ∈ R.hist ↔ ∃ t, 0 ≤ t ∧ t < R.c.t ∧ a ∈ ((R.g R.ps.length).th t).list := by
 unfold Rn.hist
 rw [List.mem_flatMap]
 constructor
 ·rintro ⟨i, _, ha⟩
  exact all_mem.1 (List.mem_filter.1 ha).1
 ·rintro ⟨t, t0, t1, ha⟩
  have A := la_t _ t t0 t1 ha
  have h1 := A.s1
  have h2 := A.s2
  exact ⟨(a.start - 1).toNat, by rw [List.mem_range]; omega, List.mem_filter.2 ⟨all_mem.2 ⟨t, t0, t1, ha⟩, by simp only [decide_eq_true_eq]; omega⟩⟩
theorem allL_srt (R : Rn) (k : Nat) : (R.all k).Pairwise fun a b => a.start ≠ b.start := by
 unfold Rn.all
 rw [List.pairwise_flatMap]
 constructor
 ·intro t ht
  rw [List.mem_range] at ht
  exact (la_srt k (t : Int) (by omega) (by omega)).imp (fun h => by omega)
 ·have hl : ∀ n, n ≤ R.c.t.toNat → (List.range n).Pairwise fun t u : Nat => ∀ x ∈ ((R.g k).th (t : Int)).list, ∀ y ∈ ((R.g k).th (u : Int)).list, x.start ≠ y.start := by
   intro n
   induction n with
   | zero => intro _; exact List.Pairwise.nil
   | succ n ih =>
    intro hn
    rw [List.range_succ, List.pairwise_append]
    refine ⟨ih (by omega), List.pairwise_singleton _ _, fun t ht u hu x hx y hy e => ?_⟩
    rw [List.mem_range] at ht
    rw [List.mem_singleton] at hu
    have h1 := (la_t k (t : Int) (by omega) (by omega) hx).pk
    have h2 := (la_t k (u : Int) (by omega) (by omega) hy).pk
    rw [e, h2] at h1
    omega
  exact hl _ (Nat.le_refl _)
theorem histL_srt (R : Rn) : R.hist.Pairwise fun a b => a.start < b.start := by
 unfold Rn.hist
 rw [List.pairwise_flatMap]
 constructor
 ·intro i hi
  have h := (allL_srt R R.ps.length).filter (fun a => decide (a.start = (i : Int) + 1))
  refine h.imp_of_mem fun {a b} ha hb x => ?_
  have h1 := (List.mem_filter.1 ha).2
  have h2 := (List.mem_filter.1 hb).2
  simp only [decide_eq_true_eq] at h1 h2
  omega
 ·refine List.Pairwise.imp (R := fun i j : Nat => i < j) (fun {i j} hij x hx y hy => ?_) List.pairwise_lt_range
  have h1 := (List.mem_filter.1 hx).2
  have h2 := (List.mem_filter.1 hy).2
  simp only [decide_eq_true_eq] at h1 h2
  omega
def Srt (l : List AttD) : Prop := l.Pairwise fun a b => a.start < b.start
theorem srt_eq : ∀ (l l' : List AttD), Srt l → Srt l' → (∀ a, a ∈ l ↔ a ∈ l') → l = l'
 | [], [], _, _, _ => rfl
 | [], b :: l', _, _, h => by have := (h b).2 (by simp); cases this
 | a :: l, [], _, _, h => by have := (h a).1 (by simp); cases this
 | a :: l, b :: l', h1, h2, h => by
  obtain ⟨p1, p2⟩ := List.pairwise_cons.1 h1
  obtain ⟨q1, q2⟩ := List.pairwise_cons.1 h2
  have e : a = b := by
   have ha := (h a).1 (by simp)
   have hb := (h b).2 (by simp)
   simp only [List.mem_cons] at ha hb
   rcases ha with ha | ha
   ·exact ha
   ·rcases hb with hb | hb
    ·exact hb.symm
    ·have := q1 a ha
     have := p1 b hb
     omega
  subst e
  have : l = l' := srt_eq l l' p2 q2 (fun c => by
      have := h c
      simp only [List.mem_cons] at this
      constructor
      ·intro hc
       rcases this.1 (Or.inr hc) with rfl | h3
       ·have := p1 c hc; omega
       ·exact h3
      ·intro hc
       rcases this.2 (Or.inr hc) with rfl | h3
       ·have := q1 c hc; omega
       ·exact h3)
  rw [this]
structure BkI (R : Rn) (k : Nat) (l : List AttD) (lat : List Int) : Prop where
 srt : Srt l
 mem : ∀ a, a ∈ l ↔ ∃ t, 0 ≤ t ∧ t < R.c.t ∧ a ∈ ((R.g k).th t).list
 lst : ∀ t : Nat, (t : Int) < R.c.t → ∀ z, ((R.g k).th (t : Int)).list.getLast? = some z → ∃ m : Nat, lat.getD t 0 = (m : Int) ∧ l[m]? = some z
theorem BkI.hist {R : Rn} (O : R.Ok) {l : List AttD} {lat : List Int} (h : BkI R R.ps.length l lat) : l = R.hist :=
 srt_eq l R.hist h.srt (histL_srt R) (fun a => by rw [h.mem a, histL_mem])
theorem BkI.same {R : Rn} {k : Nat} {l : List AttD} {lat : List Int} (h : BkI R k l lat) (e : ∀ t, 0 ≤ t → t < R.c.t → ((R.g (k + 1)).th t).list = ((R.g k).th t).list) : BkI R (k + 1) l lat := by
 refine ⟨h.srt, fun a => ?_, fun t ht z hz => h.lst t ht z (by rw [← e t (by omega) ht]; exact hz)⟩
 rw [h.mem a]
 constructor
 ·rintro ⟨t, h0, h1, h2⟩; exact ⟨t, h0, h1, by rw [e t h0 h1]; exact h2⟩
 ·rintro ⟨t, h0, h1, h2⟩; exact ⟨t, h0, h1, by rw [← e t h0 h1]; exact h2⟩
theorem BkI.new {R : Rn} (O : R.Ok) {k : Nat} {l : List AttD} {lat : List Int} (h : BkI R k l lat) (t : Nat) (ht : (t : Int) < R.c.t) (hlat : t < lat.length) (a : AttD) (hs : a.start = (k : Int) + 1)
  (e1 : ((R.g (k + 1)).th (t : Int)).list = ((R.g k).th (t : Int)).list ++ [a]) (e : ∀ u, 0 ≤ u → u < R.c.t → u ≠ (t : Int) → ((R.g (k + 1)).th u).list = ((R.g k).th u).list) : BkI R (k + 1) (l ++ [a]) (lat.set t (l.length : Int)) := by
 refine ⟨?_, fun b => ?_, fun u hu z hz => ?_⟩
 ·unfold Srt
  rw [List.pairwise_append]
  refine ⟨h.srt, by simp, fun b hb c hc => ?_⟩
  simp at hc
  subst hc
  obtain ⟨u, u0, u1, u2⟩ := (h.mem b).1 hb
  have := (la_t k u u0 u1 u2).s2
  omega
 ·rw [List.mem_append, h.mem b]
  constructor
  ·rintro (⟨u, u0, u1, u2⟩ | hb)
   ·by_cases hu : u = (t : Int)
    ·subst hu; exact ⟨_, u0, u1, by rw [e1]; simp [u2]⟩
    ·exact ⟨u, u0, u1, by rw [e u u0 u1 hu]; exact u2⟩
   ·simp at hb; subst hb; exact ⟨(t : Int), by omega, ht, by rw [e1]; simp⟩
  ·rintro ⟨u, u0, u1, u2⟩
   by_cases hu : u = (t : Int)
   ·subst hu
    rw [e1, List.mem_append] at u2
    rcases u2 with u2 | u2
    ·exact Or.inl ⟨_, u0, u1, u2⟩
    ·exact Or.inr u2
   ·exact Or.inl ⟨u, u0, u1, by rw [← e u u0 u1 hu]; exact u2⟩
 ·by_cases hu' : u = t
  ·subst hu'
   rw [e1, List.getLast?_append] at hz
   simp at hz
   subst hz
   exact ⟨l.length, by simp [List.getD, hlat], by simp⟩
  ·rw [e (u : Int) (by omega) hu (by omega)] at hz
   obtain ⟨m, h1, h2⟩ := h.lst u hu z hz
   refine ⟨m, ?_, ?_⟩
   ·rw [← h1]
    simp [List.getD, Ne.symm hu']
   ·rw [List.getElem?_append_left (List.getElem?_eq_some_iff.1 h2).1]
    exact h2
theorem srt_at {l : List AttD} (h : Srt l) {i j : Nat} {a b : AttD} (hi : l[i]? = some a) (hj : l[j]? = some b) (hs : a.start = b.start) : i = j := by
 obtain ⟨li, rfl⟩ := List.getElem?_eq_some_iff.1 hi
 obtain ⟨lj, rfl⟩ := List.getElem?_eq_some_iff.1 hj
 have hp := List.pairwise_iff_getElem.1 h
 rcases Nat.lt_trichotomy i j with h1 | h1 | h1
 ·have := hp i j li lj h1; omega
 ·exact h1
 ·have := hp j i lj li h1; omega
theorem mem_modLast {l : List AttD} {f : AttD → AttD} {z b : AttD} (hz : l.getLast? = some z) (hl : Srt l) (hf : (f z).start = z.start) : b ∈ modLast l f ↔ b = f z ∨ (b ∈ l ∧ b.start ≠ z.start) := by
 obtain ⟨l0, rfl⟩ := List.getLast?_eq_some_iff.1 hz
 have hm : modLast (l0 ++ [z]) f = l0 ++ [f z] := modLast_snoc _ _ _
 obtain ⟨p1, p2, p3⟩ := List.pairwise_append.1 hl
 rw [hm, List.mem_append, List.mem_append]
 constructor
 ·rintro (h | h)
  ·have := p3 b h z (by simp)
   exact Or.inr ⟨Or.inl h, by omega⟩
  ·simp at h; exact Or.inl h
 ·rintro (h | ⟨h | h, h2⟩)
  ·exact Or.inr (by simp [h])
  ·exact Or.inl h
  ·simp at h; subst h; exact absurd rfl h2
theorem BkI.mod {R : Rn} (O : R.Ok) {k : Nat} {l : List AttD} {lat : List Int} (h : BkI R k l lat) (t : Nat) (ht : (t : Int) < R.c.t) (z : AttD) (hz : ((R.g k).th (t : Int)).list.getLast? = some z) (f : AttD → AttD) (hf : (f z).start = z.start)
  (e1 : ((R.g (k + 1)).th (t : Int)).list = modLast ((R.g k).th (t : Int)).list f) (e : ∀ u, 0 ≤ u → u < R.c.t → u ≠ (t : Int) → ((R.g (k + 1)).th u).list = ((R.g k).th u).list) :
  ∃ m : Nat, m < l.length ∧ lat.getD t 0 = (m : Int) ∧ BkI R (k + 1) (l.set m (f z)) lat := by
 obtain ⟨m, hm1, hm2⟩ := h.lst t ht z hz
 obtain ⟨hml, hme⟩ := List.getElem?_eq_some_iff.1 hm2
 have hzm : z ∈ ((R.g k).th (t : Int)).list := List.mem_of_getLast? hz
 have hst := la_srt k (t : Int) (by omega) ht
 have hset : ∀ b, b ∈ l.set m (f z) ↔ b = f z ∨ (b ∈ l ∧ b.start ≠ z.start) := fun b => by
  rw [List.mem_iff_getElem?]
  constructor
  ·rintro ⟨i, hi⟩
   rw [List.getElem?_set] at hi
   by_cases hmi : m = i
   ·rw [if_pos hmi, if_pos hml] at hi
    exact Or.inl (Option.some.inj hi).symm
   ·rw [if_neg hmi] at hi
    exact Or.inr ⟨List.mem_of_getElem? hi, fun hs => hmi (srt_at h.srt hi hm2 hs).symm⟩
  ·rintro (rfl | ⟨hb, hs⟩)
   ·exact ⟨m, by rw [List.getElem?_set, if_pos rfl, if_pos hml]⟩
   ·obtain ⟨i, hi⟩ := List.mem_iff_getElem?.1 hb
    refine ⟨i, ?_⟩
    rw [List.getElem?_set, if_neg]
    ·exact hi
    ·rintro rfl
     rw [hm2] at hi
     exact hs (by rw [← Option.some.inj hi])
 refine ⟨m, hml, hm1, ?_, fun b => ?_, fun u hu y hy => ?_⟩
 ·unfold Srt
  rw [List.pairwise_iff_getElem]
  intro i j hi hj hij
  have hp := List.pairwise_iff_getElem.1 h.srt
  have key : ∀ (i : Nat) (hi : i < (l.set m (f z)).length), ((l.set m (f z))[i]).start = (l[i]'(by simpa using hi)).start := fun i hi => by
   rw [List.getElem_set]
   split
   ·rename_i hmi
    subst hmi
    rw [hf, hme]
   ·rfl
  rw [key i hi, key j hj]
  exact hp i j _ _ hij
 ·rw [hset b, h.mem b]
  constructor
  ·rintro (hb | ⟨⟨u, u0, u1, u2⟩, hs⟩)
   ·exact ⟨(t : Int), by omega, ht, by rw [e1]; exact (mem_modLast hz hst hf).2 (Or.inl hb)⟩
   ·by_cases hu : u = (t : Int)
    ·subst hu
     exact ⟨_, u0, u1, by rw [e1]; exact (mem_modLast hz hst hf).2 (Or.inr ⟨u2, hs⟩)⟩
    ·exact ⟨u, u0, u1, by rw [e u u0 u1 hu]; exact u2⟩
  ·rintro ⟨u, u0, u1, u2⟩
   by_cases hu : u = (t : Int)
   ·subst hu
    rw [e1] at u2
    rcases (mem_modLast hz hst hf).1 u2 with h1 | ⟨h1, h2⟩
    ·exact Or.inl h1
    ·exact Or.inr ⟨⟨_, u0, u1, h1⟩, h2⟩
   ·rw [e u u0 u1 hu] at u2
    refine Or.inr ⟨⟨u, u0, u1, u2⟩, fun hs => hu ?_⟩
    have A := la_t k u u0 u1 u2
    have B := la_t k (t : Int) (by omega) ht hzm
    have p1 := A.pk
    have p2 := B.pk
    rw [hs] at p1
    exact p1.symm.trans p2
 ·by_cases hu' : u = t
  ·subst hu'
   have hy2 : y = f z := by
    obtain ⟨l0, hl0⟩ := List.getLast?_eq_some_iff.1 hz
    rw [e1, hl0] at hy
    have hm : modLast (l0 ++ [z]) f = l0 ++ [f z] := modLast_snoc _ _ _
    rw [hm] at hy
    simp at hy
    exact hy.symm
   exact ⟨m, hm1, by rw [List.getElem?_set, if_pos rfl, if_pos hml, hy2]⟩
  ·rw [e (u : Int) (by omega) hu (by omega)] at hy
   obtain ⟨n, h1, h2⟩ := h.lst u hu y hy
   refine ⟨n, h1, ?_⟩
   rw [List.getElem?_set, if_neg]
   ·exact h2
   ·rintro rfl
    rw [hm2] at h2
    have hyz := Option.some.inj h2
    have A := la_t k (u : Int) (by omega) hu (List.mem_of_getLast? hy)
    have B := la_t k (t : Int) (by omega) ht hzm
    have p1 := A.pk
    have p2 := B.pk
    rw [← hyz] at p1
    have := p1.symm.trans p2
    omega
theorem list_kind0 {K : Cx} {h : Th} {v : AnsD} (h0 : (hOut K h).kind = 0) : (hNext K h v).list = h.list := by
 unfold hNext
 split
 all_goals rename_i heq
 all_goals first
  | rfl
  | (exfalso; unfold hOut at h0; rw [heq] at h0; simp at h0; done)
  | (split <;> rfl)
theorem BkI.step {R : Rn} (O : R.Ok) {k : Nat} {l : List AttD} {lat : List Int} (h : BkI R k l lat) (hlat : R.c.t ≤ (lat.length : Int)) (hne : ∀ t, 0 ≤ t → t < R.c.t → ((R.g k).th t).st ≠ .start → (R.out k t).kind ≠ 0 → ((R.g k).th t).list ≠ []) :
  ((¬ (0 ≤ (R.pk k).thread ∧ (R.pk k).thread < R.c.t) ∨ (R.out k (R.pk k).thread).kind = 0) ∧ BkI R (k + 1) l lat) ∨
  (∃ (t : Nat) (z : AttD), (R.pk k).thread = (t : Int) ∧ (t : Int) < R.c.t ∧ (R.out k (t : Int)).kind ≠ 0 ∧ ((R.g (k + 1)).th (t : Int)).list.getLast? = some z ∧
      ((z.start = (k : Int) + 1 ∧ BkI R (k + 1) (l ++ [z]) (lat.set t (l.length : Int))) ∨ (z.start ≠ (k : Int) + 1 ∧ ∃ m : Nat, m < l.length ∧ lat.getD t 0 = (m : Int) ∧ BkI R (k + 1) (l.set m z) lat))) := by
 by_cases hr : 0 ≤ (R.pk k).thread ∧ (R.pk k).thread < R.c.t
 ·obtain ⟨t, ht⟩ := Int.eq_ofNat_of_zero_le hr.1
  have ht' : (R.pk k).thread = (t : Int) := ht
  have h1 : (t : Int) < R.c.t := by omega
  have off : ∀ u, 0 ≤ u → u < R.c.t → u ≠ (t : Int) → ((R.g (k + 1)).th u).list = ((R.g k).th u).list := fun u _ _ hu => by rw [R.off k (by rw [ht']; exact fun e => hu e.symm)]
  have at_ := R.at k ht' (by omega) h1
  by_cases h0 : (R.out k (t : Int)).kind = 0
  ·refine Or.inl ⟨Or.inr (by rw [ht']; exact h0), h.same fun u u0 u1 => ?_⟩
   by_cases hu : u = (t : Int)
   ·subst hu
    rw [at_]
    exact list_kind0 h0
   ·exact off u u0 u1 hu
  ·refine Or.inr ⟨t, ?_⟩
   by_cases hs : ((R.g k).th (t : Int)).st = .start
   ·obtain ⟨a, e1, e2, _⟩ := lm_start (R.K (t : Int)) ((R.g k).th (t : Int)) ⟨(accBy (R.g k).m (R.out k (t : Int))).seen, (R.pk k).draw, (k : Int) + 1⟩ hs
    rw [← at_] at e1
    exact ⟨a, ht', h1, h0, by rw [e1]; simp, Or.inl ⟨e2, h.new O t h1 (by omega) a e2 e1 off⟩⟩
   ·obtain ⟨f, hf, e1⟩ := lm_next (R.K (t : Int)) ((R.g k).th (t : Int)) ⟨(accBy (R.g k).m (R.out k (t : Int))).seen, (R.pk k).draw, (k : Int) + 1⟩ hs
    rw [← at_] at e1
    obtain ⟨l0, z, hz⟩ := snoc_of (hne (t : Int) (by omega) h1 hs h0)
    have hzl : ((R.g k).th (t : Int)).list.getLast? = some z := by rw [hz]; simp
    obtain ⟨m, m1, m2, m3⟩ := h.mod O t h1 z hzl f (hf z).1 e1 off
    have A := la_t k (t : Int) (by omega) h1 (List.mem_of_getLast? hzl)
    refine ⟨f z, ht', h1, h0, ?_, Or.inr ⟨?_, m, m1, m2, m3⟩⟩
    ·rw [e1, hz, modLast_snoc]; simp
    ·rw [(hf z).1]; have := A.s2; omega
 ·refine Or.inl ⟨Or.inl hr, h.same fun u u0 u1 => ?_⟩
  rw [R.off k (fun e => hr (by rw [e]; exact ⟨u0, u1⟩))]
end Go.Proofs.YtejadojilncbjabGreat
namespace Go.Proofs.YtejadojilncbjabGreat
open Go.RowKit
set_option linter.unusedVariables false
attribute [local go_sem ↓] Go.wp_at_zero Go.wp_at_succ
structure MS where
 regs : List Int
 place : Nat
 begun : Nat
 into : Int
def mArr (m : MS) : Array Value := #[.int .i64 (m.regs.getD 0 0), .int .i64 (m.regs.getD 1 0), .int .i64 (m.regs.getD 2 0), .int .i64 (m.regs.getD 3 0), .int .i64 m.place, .int .i64 m.begun, .int .i64 m.into]
end Go.Proofs.YtejadojilncbjabGreat
namespace Go.Proofs.YtejadojilncbjabGreat
open Go.RowKit
set_option linter.unusedVariables false
def MOk (m : MS) : Prop := m.regs.length = 4 ∧ ∀ v ∈ m.regs, 0 ≤ v ∧ v ≤ 65535
def mReg (m : MS) (i : Int) : Int := m.regs.getD i.toNat 0
def pComp (m : MS) (i : InsD) : MS :=
 if i.op = 2 then { m with regs := m.regs.set i.a.toNat i.b }
 else if i.op = 3 then { m with regs := m.regs.set i.a.toNat ((mReg m i.b + mReg m i.c).tmod 65536) }
 else if i.op = 4 then { m with regs := m.regs.set i.a.toNat ((mReg m i.b + 65535 + 1 - mReg m i.c).tmod 65536) }
 else if i.op = 5 then { m with place := i.c.toNat }
 else if mReg m i.a < mReg m i.b then { m with place := i.c.toNat } else m
theorem formed2 {i : InsD} {n : Int} (h : formedB i n = true) (o : i.op = 2) : (0 ≤ i.a ∧ i.a ≤ 3) ∧ (0 ≤ i.b ∧ i.b ≤ 65535) := by
 simp [formedB, o, inB] at h
 omega
theorem formed34 {i : InsD} {n : Int} (h : formedB i n = true) (o : i.op = 3 ∨ i.op = 4) : (0 ≤ i.a ∧ i.a ≤ 3) ∧ (0 ≤ i.b ∧ i.b ≤ 3) ∧ (0 ≤ i.c ∧ i.c ≤ 3) := by
 unfold formedB at h
 rw [if_neg (by omega), if_neg (by omega), if_pos o] at h
 simp [inB] at h
 omega
theorem formed5 {i : InsD} {n : Int} (h : formedB i n = true) (o : i.op = 5) : 0 ≤ i.c ∧ i.c ≤ n := by
 simp [formedB, o, inB] at h
 omega
theorem formed6 {i : InsD} {n : Int} (h : formedB i n = true) (o : i.op = 6) : (0 ≤ i.a ∧ i.a ≤ 3) ∧ (0 ≤ i.b ∧ i.b ≤ 3) ∧ (0 ≤ i.c ∧ i.c ≤ n) := by
 simp [formedB, o, inB] at h
 omega
theorem formed78 {i : InsD} {n : Int} (h : formedB i n = true) (o : i.op = 7 ∨ i.op = 8) : (0 ≤ i.a ∧ i.a ≤ 3) ∧ (0 ≤ i.b ∧ i.b ≤ 3) := by
 unfold formedB at h
 rw [if_neg (by omega), if_neg (by omega), if_neg (by omega), if_neg (by omega), if_neg (by omega), if_pos o] at h
 simp [inB] at h
 omega
theorem formed_op {i : InsD} {n : Int} (h : formedB i n = true) : 0 ≤ i.op ∧ i.op ≤ 8 := by
 unfold formedB at h
 by_cases h1 : i.op = 0 ∨ i.op = 1
 ·omega
 rw [if_neg h1] at h
 by_cases h2 : i.op = 2
 ·omega
 rw [if_neg h2] at h
 by_cases h3 : i.op = 3 ∨ i.op = 4
 ·omega
 rw [if_neg h3] at h
 by_cases h5 : i.op = 5
 ·omega
 rw [if_neg h5] at h
 by_cases h6 : i.op = 6
 ·omega
 rw [if_neg h6] at h
 by_cases h7 : i.op = 7 ∨ i.op = 8
 ·omega
 rw [if_neg h7] at h
 cases h
structure TurnD where
 fate : Int
 op : Int
 addr : Int
 val : Int
def turnCells (t : TurnD) : Array Value := #[.int .i64 t.fate, .int .i64 t.op, .int .i64 t.addr, .int .i64 t.val]
def pWord (wd : Int) (m : MS) (i : InsD) : TurnD × MS :=
 if i.op = 7 then ((if inB (mReg m i.b) 0 (wd - 1) then ⟨0, 7, mReg m i.b, 0⟩ else ⟨3, 0, 0, 0⟩), { m with into := i.a })
 else ((if inB (mReg m i.a) 0 (wd - 1) then ⟨0, 8, mReg m i.a, mReg m i.b⟩ else ⟨3, 0, 0, 0⟩), m)
def pNext (f wd : Int) (code : List InsD) : Nat → MS → TurnD × MS
 | 0, m => (⟨0, 0, 0, 0⟩, m)
 | n + 1, m =>
  if code.length ≤ m.place then (⟨1, 0, 0, 0⟩, m) else if f ≤ m.begun then (⟨4, 0, 0, 0⟩, m) else
   let i := insAt code m.place
   if formedB i code.length = false then (⟨3, 0, 0, 0⟩, { m with begun := m.begun + 1 }) else
    let m2 : MS := { m with begun := m.begun + 1, place := m.place + 1 }
    if i.op = 0 then (⟨1, 0, 0, 0⟩, m2) else if i.op = 1 then (⟨2, 0, 0, 0⟩, m2) else if i.op = 7 ∨ i.op = 8 then pWord wd m2 i else pNext f wd code n (pComp m2 i)
theorem MOk.comp {m : MS} {i : InsD} {n : Int} (h : MOk m) (hf : formedB i n = true) (ho : 2 ≤ i.op ∧ i.op ≤ 6) : MOk (pComp m i) := by
 have hreg : ∀ k : Int, 0 ≤ mReg m k ∧ mReg m k ≤ 65535 := fun k => by
  unfold mReg
  by_cases hk : k.toNat < m.regs.length
  ·rw [show m.regs.getD k.toNat 0 = m.regs[k.toNat] from by simp [List.getD, List.getElem?_eq_getElem hk]]
   exact h.2 _ (List.getElem_mem hk)
  ·rw [show m.regs.getD k.toNat 0 = 0 from by simp [List.getD, List.getElem?_eq_none (Nat.le_of_not_lt hk)]]
   omega
 have hset : ∀ (k : Nat) (v : Int), 0 ≤ v → v ≤ 65535 → MOk { m with regs := m.regs.set k v } := fun k v h0 h1 => by
  refine ⟨by simp [h.1], fun u hu => ?_⟩
  rcases List.mem_or_eq_of_mem_set hu with h2 | h2
  ·exact h.2 u h2
  ·omega
 have hmod : ∀ v : Int, 0 ≤ v → 0 ≤ v.tmod 65536 ∧ v.tmod 65536 ≤ 65535 := fun v hv => ⟨Int.tmod_nonneg _ hv, by have := Int.tmod_lt_of_pos v (b := 65536) (by omega); omega⟩
 unfold pComp
 split
 ·rename_i o
  obtain ⟨_, b0, b1⟩ := formed2 hf o
  exact hset _ _ b0 b1
 split
 ·have h1 := hreg i.b
  have h2 := hreg i.c
  have := hmod (mReg m i.b + mReg m i.c) (by omega)
  exact hset _ _ this.1 this.2
 split
 ·have h1 := hreg i.b
  have h2 := hreg i.c
  have := hmod (mReg m i.b + 65535 + 1 - mReg m i.c) (by omega)
  exact hset _ _ this.1 this.2
 split
 ·exact h
 split
 ·exact h
 ·exact h
end Go.Proofs.YtejadojilncbjabGreat
