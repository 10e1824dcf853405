import Derived.Test.YtejadojilncbjabGreatK14
import Derived.Test.YtejadojilncbjabGreatK01
namespace Go.Proofs.YtejadojilncbjabGreat
set_option linter.unusedVariables false
def Rn.all (R : Rn) (k : Nat) : List AttD := (List.range R.c.t.toNat).flatMap fun t : Nat => ((R.g k).th (t : Int)).list
def Rn.hist (R : Rn) : List AttD := (List.range R.ps.length).flatMap fun i : Nat => (R.all R.ps.length).filter fun a => decide (a.start = (i : Int) + 1)
theorem AttT.of_er {R : Rn} {k : Nat} {t : Int} {a : AttD} (A : AttT R k t (er a)) : AttT R k t a := ⟨A.thr, A.jb, A.s1, A.s2, A.pk, A.ac, A.vl, A.en, A.sp⟩
theorem att_t {R : Rn} (O : R.Ok) (k : Nat) (t : Int) (t0 : 0 ≤ t) (t1 : t < R.c.t) {a : AttD} (ha : a ∈ ((R.g k).th t).list) : AttT R k t a :=
 ((ti_at O t t0 t1 k).all (er a) (List.mem_map.2 ⟨a, ha, rfl⟩)).of_er
theorem all_mem {R : Rn} {k : Nat} {a : AttD} : a ∈ R.all k ↔ ∃ t, 0 ≤ t ∧ t < R.c.t ∧ a ∈ ((R.g k).th t).list := by
 unfold Rn.all
 rw [List.mem_flatMap]
 constructor
 ·rintro ⟨t, ht, ha⟩
  rw [List.mem_range] at ht
  exact ⟨(t : Int), by omega, by omega, ha⟩
 ·rintro ⟨t, t0, t1, ha⟩
  refine ⟨t.toNat, by rw [List.mem_range]; omega, ?_⟩
  rw [show ((t.toNat : Nat) : Int) = t from by omega]
  exact ha
theorem hist_mem {R : Rn} (O : R.Ok) {a : AttD} : a ∈ R.hist ↔ ∃ t, 0 ≤ t ∧ t < R.c.t ∧ a ∈ ((R.g R.ps.length).th t).list := by
 unfold Rn.hist
 rw [List.mem_flatMap]
 constructor
 ·rintro ⟨i, _, ha⟩
  exact all_mem.1 (List.mem_filter.1 ha).1
 ·rintro ⟨t, t0, t1, ha⟩
  have A := att_t O _ t t0 t1 ha
  have h1 := A.s1
  have h2 := A.s2
  exact ⟨(a.start - 1).toNat, by rw [List.mem_range]; omega, List.mem_filter.2 ⟨all_mem.2 ⟨t, t0, t1, ha⟩, by simp only [decide_eq_true_eq]; omega⟩⟩
theorem bef_start {R : Rn} {k : Nat} {t : Int} {a b : AttD} (A : AttT R k t a) (B : Bef a b) : a.start < b.start := by
 rcases A.en with x | x
 ·exact absurd x.1 B.1
 ·have h1 := x.1
  have h2 := B.2.1
  omega
theorem list_srt {R : Rn} (O : R.Ok) (k : Nat) (t : Int) (t0 : 0 ≤ t) (t1 : t < R.c.t) : ((R.g k).th t).list.Pairwise fun a b => a.start < b.start := by
 have T := ti_at O t t0 t1 k
 have h := T.srt
 rw [List.pairwise_map] at h
 refine h.imp_of_mem fun {a b} ha hb x => ?_
 have A : AttT R k t (er a) := T.all _ (List.mem_map.2 ⟨a, ha, rfl⟩)
 exact (show (er a).start < (er b).start from bef_start A x)
theorem all_srt {R : Rn} (O : R.Ok) (k : Nat) : (R.all k).Pairwise fun a b => a.start ≠ b.start := by
 unfold Rn.all
 rw [List.pairwise_flatMap]
 constructor
 ·intro t ht
  rw [List.mem_range] at ht
  exact (list_srt O k (t : Int) (by omega) (by omega)).imp (fun h => by omega)
 ·have hl : ∀ n, n ≤ R.c.t.toNat → (List.range n).Pairwise fun t u : Nat => ∀ x ∈ ((R.g k).th (t : Int)).list, ∀ y ∈ ((R.g k).th (u : Int)).list, x.start ≠ y.start := by
   intro n
   induction n with
   | zero => intro _; exact List.Pairwise.nil
   | succ n ih =>
    intro hn
    rw [List.range_succ, List.pairwise_append]
    refine ⟨ih (by omega), List.pairwise_singleton _ _, fun t ht u hu x hx y hy e => ?_⟩
    rw [List.mem_range] at ht
    rw [List.mem_singleton] at hu
    have A := att_t O k (t : Int) (by omega) (by omega) hx
    have B := att_t O k (u : Int) (by omega) (by omega) hy
    have h1 := A.pk
    have h2 := B.pk
    rw [e, h2] at h1
    omega
  exact hl _ (Nat.le_refl _)
theorem hist_srt {R : Rn} (O : R.Ok) : R.hist.Pairwise fun a b => a.start < b.start := by
 unfold Rn.hist
 rw [List.pairwise_flatMap]
 constructor
 ·intro i hi
  have h := (all_srt O R.ps.length).filter (fun a => decide (a.start = (i : Int) + 1))
  refine h.imp_of_mem fun {a b} ha hb x => ?_
  have h1 := (List.mem_filter.1 ha).2
  have h2 := (List.mem_filter.1 hb).2
  simp only [decide_eq_true_eq] at h1 h2
  omega
 ·refine List.Pairwise.imp (R := fun i j : Nat => i < j) (fun {i j} hij x hx y hy => ?_) List.pairwise_lt_range
  have h1 := (List.mem_filter.1 hx).2
  have h2 := (List.mem_filter.1 hy).2
  simp only [decide_eq_true_eq] at h1 h2
  omega
def plA (a : AttD) : Int := if 0 < a.stamp then a.stamp else a.valid
def plB (a : AttD) : Int := if 0 < a.stamp then 0 else 1
def Sooner (a b : AttD) : Prop := plA a < plA b ∨ (plA a = plA b ∧ plB a < plB b)
instance (a b : AttD) : Decidable (Sooner a b) := by unfold Sooner; infer_instance
def Ahd (a b : AttD) : Prop := Sooner a b ∨ (¬ Sooner b a ∧ a.start < b.start)
def bub : List AttD → List AttD
 | [] => []
 | [x] => [x]
 | x :: y :: r => if Sooner x y then y :: bub (x :: r) else x :: bub (y :: r)
termination_by l => l.length
def ordR : List AttD → List AttD
 | [] => []
 | x :: r => bub (x :: ordR r)
theorem bub_mem : ∀ (n : Nat) (l : List AttD), l.length ≤ n → ∀ a, a ∈ bub l ↔ a ∈ l
 | 0, l, h, a => by
  have : l = [] := List.length_eq_zero_iff.1 (by omega)
  subst this
  simp [bub]
 | n + 1, l, h, a => by
  cases l with
  | nil => simp [bub]
  | cons x l =>
   cases l with
   | nil => simp [bub]
   | cons y r =>
    unfold bub
    split
    ·rw [List.mem_cons, bub_mem n (x :: r) (by simp at h ⊢; omega) a]
     simp only [List.mem_cons]
     constructor
     ·rintro (e | e | e)
      ·exact Or.inr (Or.inl e)
      ·exact Or.inl e
      ·exact Or.inr (Or.inr e)
     ·rintro (e | e | e)
      ·exact Or.inr (Or.inl e)
      ·exact Or.inl e
      ·exact Or.inr (Or.inr e)
    ·rw [List.mem_cons, bub_mem n (y :: r) (by simp at h ⊢; omega) a]
     simp only [List.mem_cons]
theorem ord_mem (a : AttD) : ∀ l : List AttD, a ∈ ordR l ↔ a ∈ l
 | [] => Iff.rfl
 | x :: r => by
  unfold ordR
  rw [bub_mem _ _ (Nat.le_refl _), List.mem_cons, List.mem_cons, ord_mem a r]
theorem Sooner.tr {a b c : AttD} (h : Sooner a b) (g : Sooner b c) : Sooner a c := by unfold Sooner at *; omega
theorem ahd_tr {a b c : AttD} (h : Ahd a b) (g : Ahd b c) : Ahd a c := by unfold Ahd Sooner at *; omega
def Dn (l : List AttD) : Prop := l.Pairwise fun a b => Ahd b a
theorem bub_same : ∀ (n : Nat) (l : List AttD), l.length ≤ n → Dn l → bub l = l
 | 0, l, h, d => by
  have : l = [] := List.length_eq_zero_iff.1 (by omega)
  subst this
  simp [bub]
 | n + 1, l, h, d => by
  cases l with
  | nil => simp [bub]
  | cons x l =>
   cases l with
   | nil => simp [bub]
   | cons y r =>
    unfold bub
    have hxy := (List.pairwise_cons.1 d).1 y List.mem_cons_self
    rw [if_neg (fun s => by unfold Ahd Sooner at *; omega), bub_same n (y :: r) (by simp at h ⊢; omega) (List.pairwise_cons.1 d).2]
theorem bub_dn : ∀ (n : Nat) (x : AttD) (l : List AttD), l.length ≤ n → Dn l → (∀ y ∈ l, y.start < x.start) → Dn (bub (x :: l))
 | 0, x, l, h, d, s => by
  have : l = [] := List.length_eq_zero_iff.1 (by omega)
  subst this
  show Dn (bub [x])
  unfold bub
  exact List.pairwise_singleton _ _
 | n + 1, x, l, h, d, s => by
  cases l with
  | nil =>
   show Dn (bub [x])
   unfold bub
   exact List.pairwise_singleton _ _
  | cons y r =>
   unfold bub
   have hy := List.pairwise_cons.1 d
   split
   ·rename_i hs
    have ih := bub_dn n x r (by simp at h; omega) hy.2 (fun z hz => s z (List.mem_cons_of_mem _ hz))
    refine List.pairwise_cons.2 ⟨fun z hz => ?_, ih⟩
    rw [bub_mem _ _ (Nat.le_refl _)] at hz
    rcases List.mem_cons.1 hz with e | e
    ·rw [e]; exact Or.inl hs
    ·exact hy.1 z e
   ·rename_i hs
    rw [bub_same _ (y :: r) (Nat.le_refl _) d]
    refine List.pairwise_cons.2 ⟨fun z hz => ?_, d⟩
    have hxy : Ahd y x := Or.inr ⟨hs, s y List.mem_cons_self⟩
    rcases List.mem_cons.1 hz with e | e
    ·rw [e]; exact hxy
    ·exact ahd_tr (hy.1 z e) hxy
theorem ord_dn : ∀ l : List AttD, (l.Pairwise fun a b => b.start < a.start) → Dn (ordR l)
 | [], _ => List.Pairwise.nil
 | x :: r, h => by
  unfold ordR
  have hx := List.pairwise_cons.1 h
  exact bub_dn _ x _ (Nat.le_refl _) (ord_dn r hx.2) (fun y hy => hx.1 y ((ord_mem y r).1 hy))
def Rn.ord (R : Rn) : List AttD := (ordR R.hist.reverse).reverse
theorem hord_mem {R : Rn} (a : AttD) : a ∈ R.ord ↔ a ∈ R.hist := by
 unfold Rn.ord
 rw [List.mem_reverse, ord_mem, List.mem_reverse]
theorem hord_srt {R : Rn} (O : R.Ok) : R.ord.Pairwise Ahd := by
 unfold Rn.ord
 rw [List.pairwise_reverse]
 exact ord_dn _ (by rw [List.pairwise_reverse]; exact hist_srt O)
def LM (l l' : List AttD) : Prop := ∃ f : AttD → AttD, (∀ t, (f t).start = t.start ∧ (f t).thread = t.thread) ∧ l' = modLast l f
theorem modLast_id (l : List AttD) : modLast l (fun t => t) = l := by
 unfold modLast
 apply List.ext_getElem?
 intro i
 rw [List.getElem?_modify]
 split <;> simp
theorem modLast_comp (l : List AttD) (f g : AttD → AttD) : modLast (modLast l f) g = modLast l (fun t => g (f t)) := by
 unfold modLast
 apply List.ext_getElem?
 intro i
 simp only [List.length_modify, List.getElem?_modify]
 split <;> simp [Option.map_map, Function.comp_def]
theorem LM.refl (l : List AttD) : LM l l := ⟨fun t => t, fun _ => ⟨rfl, rfl⟩, (modLast_id l).symm⟩
theorem LM.trans {l l' l2 : List AttD} (h : LM l l') (k : LM l' l2) : LM l l2 := by
 obtain ⟨f, hf, rfl⟩ := h
 obtain ⟨g, hg, rfl⟩ := k
 exact ⟨fun t => g (f t), fun t => ⟨(hg _).1.trans (hf t).1, (hg _).2.trans (hf t).2⟩, modLast_comp l f g⟩
theorem LM.of {l l' : List AttD} (h : l' = l) : LM l l' := by subst h; exact LM.refl _
theorem lm_noted (h : Th) (op a v : Int) : LM h.list (h.noted op a v).list := ⟨fun t => { t with notes := t.notes ++ [⟨op, a, v⟩] }, fun t => ⟨rfl, rfl⟩, rfl⟩
theorem lm_ended (h : Th) (n f : Int) : LM h.list (h.ended n f).list := ⟨fun t => { t with fin := n, fate := f }, fun t => ⟨rfl, rfl⟩, rfl⟩
theorem lm_stamp (l : List AttD) (c : Int) : LM l (modLast l fun t => { t with stamp := c }) := ⟨fun t => { t with stamp := c }, fun t => ⟨rfl, rfl⟩, rfl⟩
theorem lm_ite {l : List AttD} {c : Prop} [Decidable c] {a b : Bool × Th} (h1 : LM l a.2.list) (h2 : LM l b.2.list) : LM l (if c then a else b).2.list := by split <;> assumption
theorem lm_iteT {l : List AttD} {c : Prop} [Decidable c] {a b : Th} (h1 : LM l a.list) (h2 : LM l b.list) : LM l (if c then a else b).list := by split <;> assumption
theorem l_to (K : Cx) (j : Nat) (h : Th) : (hTo K j h).list = h.list := by unfold hTo; split <;> rfl
theorem l_freeAt (e : Int) (r : List Int) (h : Th) : (hFreeAt e r h).list = h.list := by unfold hFreeAt; split <;> rfl
theorem l_close (e : Int) (h : Th) : (hClose e h).list = h.list := by
 unfold hClose
 split
 ·rfl
 ·exact l_freeAt _ _ _
theorem l_count (K : Cx) (h : Th) : (hCount K h).list = h.list := by unfold hCount; split <;> rfl
theorem l_failOwn (K : Cx) (r : List Int) (h : Th) : (hFailOwn K r h).list = h.list := by
 unfold hFailOwn
 split
 ·exact l_count _ _
 ·rfl
theorem l_fail (K : Cx) (h : Th) : (hFail K h).list = h.list := by
 unfold hFail
 split
 ·rfl
 ·exact l_failOwn _ _ _
theorem lm_read (K : Cx) (i : InsD) (h : Th) : LM h.list (hRead K i h).2.list := by
 unfold hRead
 simp only
 split
 ·exact LM.of (l_close _ _)
 ·split
  ·exact lm_noted _ _ _ _
  ·simp only
   split <;> exact LM.refl _
theorem lm_put (i : InsD) (a : Int) (h : Th) : LM h.list (hPut i a h).list := lm_noted _ _ _ _
theorem lm_write (K : Cx) (i : InsD) (h : Th) : LM h.list (hWrite K i h).2.list := by
 unfold hWrite
 simp only
 split
 ·exact LM.of (l_close _ _)
 ·split
  ·exact lm_put _ _ _
  ·exact LM.refl _
attribute [local irreducible] hRead hWrite in
theorem lm_step (K : Cx) (h : Th) : LM h.list (hStep K h).2.list := by
 unfold hStep
 simp only
 repeat' (refine lm_ite ?_ ?_)
 all_goals first
  | exact LM.of (l_close _ _)
  | exact LM.refl _
  | exact lm_read K _ _
  | exact lm_write K _ _
theorem lm_adv (K : Cx) : ∀ (n : Nat) (h : Th), LM h.list (hAdv K n h).list
 | 0, h => LM.refl _
 | n + 1, h => by
  unfold hAdv
  split
  ·exact (lm_step K h).trans (lm_adv K n _)
  ·exact lm_step K h
theorem lm_go (K : Cx) (h : Th) : LM h.list (hGo K h).list := lm_adv K _ h
theorem lm_got (K : Cx) (i : InsD) (a v : Int) (h : Th) : LM h.list (hGot K i a v h).list := (lm_noted ({ h with x := setReg h.x i.a v } : Th) 7 a v).trans (lm_go K _)
theorem lm_wrote (K : Cx) (i : InsD) (a : Int) (h : Th) : LM h.list (hWrote K i a h).list := by
 unfold hWrote
 split
 ·exact (lm_put i a h).trans (lm_go K _)
 ·exact lm_put i a h
theorem lm_exDone (K : Cx) (k : Ex) (c : Int) (h : Th) : LM h.list (hExDone K k c h).list := by
 have h0 : LM h.list (modLast h.list (fun t => { t with valid := c })) := ⟨fun t => { t with valid := c }, fun t => ⟨rfl, rfl⟩, rfl⟩
 unfold hExDone
 simp only
 split
 ·exact h0.trans (lm_got K _ _ _ _)
 ·exact h0.trans (lm_wrote K _ _ _)
theorem lm_exStill (K : Cx) (k : Ex) (c : Int) (r : List EntD) (h : Th) : LM h.list (hExStill K k c r h).list := by
 unfold hExStill
 split
 ·exact lm_exDone _ _ _ _
 ·exact LM.refl _
theorem l_openAt (c : Int) (r : List Int) (h : Th) : (hOpenAt c r h).list = h.list := by unfold hOpenAt; split <;> rfl
theorem l_wordAt (c : Int) (r : List EntD) (h : Th) : (hWordAt c r h).list = h.list := by
 unfold hWordAt
 split
 ·exact l_openAt _ _ _
 ·rfl
theorem l_shutAt (c : Int) (r : List Int) (h : Th) : (hShutAt c r h).list = h.list := by unfold hShutAt; split <;> rfl
theorem l_stillAt (c : Int) : ∀ (r : List EntD) (h : Th), (hStillAt c r h).list = h.list
 | [], h => by unfold hStillAt; exact l_shutAt _ _ _
 | e :: r, h => by
  unfold hStillAt
  split
  ·exact l_stillAt c r h
  ·rfl
theorem l_rest (K : Cx) (d : Int) (h : Th) : (hRest K d h).list = h.list := by
 unfold hRest
 simp only
 split <;> split <;> rfl
attribute [local irreducible] hWrote hFail hRest hFailOwn hCount hGot hGo hExStill hShutAt hStillAt hTo hFreeAt hOpenAt hWordAt in
theorem lm_next (K : Cx) (h : Th) (v : AnsD) (hs : h.st ≠ .start) : LM h.list (hNext K h v).list := by
 unfold hNext
 split
 all_goals first
  | exact LM.refl _
  | (exfalso; apply hs; assumption)
  | skip
 all_goals try simp only
 all_goals repeat' (refine lm_iteT ?_ ?_)
 all_goals first
  | exact LM.refl _
  | exact lm_got K _ _ _ _
  | exact lm_exStill K _ _ _ _
  | exact LM.of (l_fail _ _)
  | exact lm_wrote K _ _ _
  | exact lm_go K _
  | exact LM.of (l_stillAt _ _ _)
  | exact LM.of (l_shutAt _ _ _)
  | exact lm_stamp _ _
  | exact LM.of (l_wordAt _ _ _)
  | exact LM.of (l_openAt _ _ _)
  | exact LM.of (l_freeAt _ _ _)
  | exact (lm_ended h _ _).trans (LM.of (l_to _ _ _))
  | exact LM.of (l_failOwn _ _ _)
  | exact lm_ended h _ _
  | exact (lm_ended h _ _).trans (LM.of (l_rest _ _ _))
theorem lm_start (K : Cx) (h : Th) (v : AnsD) (hs : h.st = .start) : ∃ a : AttD, (hNext K h v).list = h.list ++ [a] ∧ a.start = v.num ∧ a.thread = K.me := by
 have e : hNext K h v = hGo K { h with list := h.list ++ [⟨K.me, h.job, v.num, 0, v.seen, 0, 0, []⟩], x := newTS (K.jobs.getD h.job (0, [])).2 v.seen } := by
  unfold hNext
  rw [hs]
 obtain ⟨f, hf, hl⟩ := lm_go K { h with list := h.list ++ [⟨K.me, h.job, v.num, 0, v.seen, 0, 0, []⟩], x := newTS (K.jobs.getD h.job (0, [])).2 v.seen }
 refine ⟨f ⟨K.me, h.job, v.num, 0, v.seen, 0, 0, []⟩, ?_, (hf _).1, (hf _).2⟩
 rw [e, hl]
 unfold modLast
 apply List.ext_getElem?
 intro i
 simp only [List.getElem?_modify, List.length_append, List.length_singleton, Nat.add_sub_cancel]
 by_cases hi : h.list.length = i
 ·subst hi
  simp
 ·rcases Nat.lt_or_ge i h.list.length with h1 | h1
  ·rw [List.getElem?_append_left h1, List.getElem?_append_left h1]; simp [hi]
  ·rw [List.getElem?_append_right h1, List.getElem?_append_right h1]
   have : i - h.list.length ≠ 0 := by omega
   obtain ⟨n, hn⟩ := Nat.exists_eq_succ_of_ne_zero this
   rw [hn]
   simp [hi]
structure LA (R : Rn) (k : Nat) (t : Int) (a : AttD) : Prop where
 thr : a.thread = t
 s1 : 1 ≤ a.start
 s2 : a.start ≤ k
 pk : (R.pk (a.start - 1).toNat).thread = t
theorem la_at (R : Rn) (t : Int) (t0 : 0 ≤ t) (t1 : t < R.c.t) : ∀ k : Nat, (∀ a ∈ ((R.g k).th t).list, LA R k t a) ∧ ((R.g k).th t).list.Pairwise fun a b => a.start < b.start
 | 0 => by
  have e : ((R.g 0).th t).list = [] := by
   show (hTo (R.K t) 0 _).list = _
   rw [l_to]
  rw [e]
  exact ⟨fun a ha => (by cases ha), List.Pairwise.nil⟩
 | k + 1 => by
  obtain ⟨h1, h2⟩ := la_at R t t0 t1 k
  have up : ∀ a ∈ ((R.g k).th t).list, LA R (k + 1) t a := fun a ha => ⟨(h1 a ha).thr, (h1 a ha).s1, by have := (h1 a ha).s2; omega, (h1 a ha).pk⟩
  by_cases hp : (R.pk k).thread = t
  ·rw [R.at k hp t0 t1]
   by_cases hs : ((R.g k).th t).st = .start
   ·obtain ⟨a, e, ea, et⟩ := lm_start (R.K t) ((R.g k).th t) ⟨(accBy (R.g k).m (R.out k t)).seen, (R.pk k).draw, (k : Int) + 1⟩ hs
    have ea' : a.start = (k : Int) + 1 := ea
    rw [e]
    refine ⟨fun b hb => ?_, ?_⟩
    ·rcases List.mem_append.1 hb with hb | hb
     ·exact up b hb
     ·simp at hb
      subst hb
      refine ⟨et, by omega, by omega, ?_⟩
      rw [ea', show ((k : Int) + 1 - 1).toNat = k by omega]
      exact hp
    ·rw [List.pairwise_append]
     refine ⟨h2, by simp, fun b hb c hc => ?_⟩
     simp at hc
     subst hc
     have := (h1 b hb).s2
     omega
   ·obtain ⟨f, hf, e⟩ := lm_next (R.K t) ((R.g k).th t) ⟨(accBy (R.g k).m (R.out k t)).seen, (R.pk k).draw, (k : Int) + 1⟩ hs
    rw [e]
    by_cases hn : ((R.g k).th t).list = []
    ·rw [hn]
     exact ⟨fun a ha => (by simp [modLast] at ha), by simp [modLast]⟩
    ·obtain ⟨l0, y, hy⟩ := snoc_of hn
     rw [hy] at up h2 ⊢
     rw [modLast_snoc]
     obtain ⟨p1, p2, p3⟩ := List.pairwise_append.1 h2
     have hfy := hf y
     refine ⟨fun b hb => ?_, ?_⟩
     ·rcases List.mem_append.1 hb with hb | hb
      ·exact up b (by simp [hb])
      ·simp at hb
       subst hb
       have A := up y (by simp)
       exact ⟨hfy.2.trans A.thr, by rw [hfy.1]; exact A.s1, by rw [hfy.1]; exact A.s2, by rw [hfy.1]; exact A.pk⟩
     ·rw [List.pairwise_append]
      refine ⟨p1, by simp, fun b hb c hc => ?_⟩
      simp at hc
      subst hc
      rw [hfy.1]
      exact p3 b hb y (by simp)
  ·rw [R.off k hp]
   exact ⟨up, h2⟩
theorem la_t {R : Rn} (k : Nat) (t : Int) (t0 : 0 ≤ t) (t1 : t < R.c.t) {a : AttD} (ha : a ∈ ((R.g k).th t).list) : LA R k t a := (la_at R t t0 t1 k).1 a ha
theorem la_srt {R : Rn} (k : Nat) (t : Int) (t0 : 0 ≤ t) (t1 : t < R.c.t) : ((R.g k).th t).list.Pairwise fun a b => a.start < b.start := (la_at R t t0 t1 k).2
theorem histL_mem {R : Rn} {a : AttD} : a ∈ R.hist ↔ ∃ t, 0 ≤ t ∧ t < R.c.t ∧ a ∈ ((R.g R.ps.length).th t).list := by
 unfold Rn.hist
 rw [List.mem_flatMap]
 constructor
 ·rintro ⟨i, _, ha⟩
  exact all_mem.1 (List.mem_filter.1 ha).1
 ·rintro ⟨t, t0, t1, ha⟩
  have A := la_t _ t t0 t1 ha
  have h1 := A.s1
  have h2 := A.s2
  exact ⟨(a.start - 1).toNat, by rw [List.mem_range]; omega, List.mem_filter.2 ⟨all_mem.2 ⟨t, t0, t1, ha⟩, by simp only [decide_eq_true_eq]; omega⟩⟩
theorem allL_srt (R : Rn) (k : Nat) : (R.all k).Pairwise fun a b => a.start ≠ b.start := by
 unfold Rn.all
 rw [List.pairwise_flatMap]
 constructor
 ·intro t ht
  rw [List.mem_range] at ht
  exact (la_srt k (t : Int) (by omega) (by omega)).imp (fun h => by omega)
 ·have hl : ∀ n, n ≤ R.c.t.toNat → (List.range n).Pairwise fun t u : Nat => ∀ x ∈ ((R.g k).th (t : Int)).list, ∀ y ∈ ((R.g k).th (u : Int)).list, x.start ≠ y.start := by
   intro n
   induction n with
   | zero => intro _; exact List.Pairwise.nil
   | succ n ih =>
    intro hn
    rw [List.range_succ, List.pairwise_append]
    refine ⟨ih (by omega), List.pairwise_singleton _ _, fun t ht u hu x hx y hy e => ?_⟩
    rw [List.mem_range] at ht
    rw [List.mem_singleton] at hu
    have h1 := (la_t k (t : Int) (by omega) (by omega) hx).pk
    have h2 := (la_t k (u : Int) (by omega) (by omega) hy).pk
    rw [e, h2] at h1
    omega
  exact hl _ (Nat.le_refl _)
theorem histL_srt (R : Rn) : R.hist.Pairwise fun a b => a.start < b.start := by
 unfold Rn.hist
 rw [List.pairwise_flatMap]
 constructor
 ·intro i hi
  have h := (allL_srt R R.ps.length).filter (fun a => decide (a.start = (i : Int) + 1))
  refine h.imp_of_mem fun {a b} ha hb x => ?_
  have h1 := (List.mem_filter.1 ha).2
  have h2 := (List.mem_filter.1 hb).2
  simp only [decide_eq_true_eq] at h1 h2
  omega
 ·refine List.Pairwise.imp (R := fun i j : Nat => i < j) (fun {i j} hij x hx y hy => ?_) List.pairwise_lt_range
  have h1 := (List.mem_filter.1 hx).2
  have h2 := (List.mem_filter.1 hy).2
  simp only [decide_eq_true_eq] at h1 h2
  omega
end Go.Proofs.YtejadojilncbjabGreat
namespace Go.Proofs.YtejadojilncbjabGreat
open Go.RowKit
set_option linter.unusedVariables false
attribute [local go_sem ↓] Go.wp_at_zero Go.wp_at_succ
structure MS where
 regs : List Int
 place : Nat
 begun : Nat
 into : Int
def mArr (m : MS) : Array Value := #[.int .i64 (m.regs.getD 0 0), .int .i64 (m.regs.getD 1 0), .int .i64 (m.regs.getD 2 0), .int .i64 (m.regs.getD 3 0), .int .i64 m.place, .int .i64 m.begun, .int .i64 m.into]
theorem mArr_reg {w : World} {p : Nat} {m : MS} (h : Blk w p 130 (mArr m)) (k : Nat) (hk : k < 4) : w.cell? ⟨p, k, none⟩ = some (.int .i64 (m.regs.getD k 0)) := by
 rw [h.cell]
 have : k = 0 ∨ k = 1 ∨ k = 2 ∨ k = 3 := by omega
 rcases this with rfl | rfl | rfl | rfl <;> rfl
theorem mArr_set {w : World} {p : Nat} {m : MS} (h : Blk w p 130 (mArr m)) (hl : m.regs.length = 4) (k : Nat) (hk : k < 4) (v : Int) : Blk (w.setCell ⟨p, k, none⟩ (.int .i64 v)) p 130 (mArr { m with regs := m.regs.set k v }) := by
 refine h.set.congr ?_
 obtain ⟨regs, place, begun, into⟩ := m
 simp only at hl
 obtain ⟨a, b, c, d, rfl⟩ := list4 hl
 have : k = 0 ∨ k = 1 ∨ k = 2 ∨ k = 3 := by omega
 rcases this with rfl | rfl | rfl | rfl <;> rfl
set_option maxHeartbeats 2000000 in
theorem give_any (p ki : Nat) (m : MS) (v : Int) (w : World) (hb : Blk w p 130 (mArr m)) (hl : m.regs.length = 4) (hi : m.into = (ki : Int)) (hk : ki < 4) :
  Calls Tryz.prog 114 #[.pointer (some ⟨p, 0, none⟩), .int .i64 v] w fun e w' => e = .returned (.tuple #[]) ∧ Blk w' p 130 (mArr { m with regs := m.regs.set ki v }) ∧ Only p w w' := by
 have HB : Hid (Blk w p 130 (mArr m)) := hb
 have h6 : w.cell? ⟨p, 6, none⟩ = some (.int .i64 (ki : Int)) := by rw [hb.cell, ← hi]; rfl
 have hr := mArr_reg hb ki hk
 have hf := hb.frozen ki
 have hk0 : (0 : Int) ≤ (ki : Int) := by omega
 have hk1 : (ki : Int) < 4 := by omega
 clear hb hi
 go_enter Tryz.func114, Tryz.ntmps114
 go_wp2
 go_region
 all_goals
  go_wp2
  go_end0
  refine ⟨rfl, ?_, ?_⟩
  ·exact mArr_set (show Blk w.drew p 130 (mArr m) from HB.out) hl ki hk v
  ·exact (Only.refl _ _).drew.set
set_option maxHeartbeats 4000000 in
theorem compute_set (p ka : Nat) (m : MS) (b c : Int) (w : World) (hb : Blk w p 130 (mArr m)) (hl : m.regs.length = 4) (hk : ka < 4) :
  Calls Tryz.prog 125 #[.pointer (some ⟨p, 0, none⟩), .agg #[.int .i64 2, .int .i64 (ka : Int), .int .i64 b, .int .i64 c]] w fun e w' => e = .returned (.tuple #[]) ∧ Blk w' p 130 (mArr { m with regs := m.regs.set ka b }) ∧ Only p w w' := by
 have HB : Hid (Blk w p 130 (mArr m)) := hb
 have hr := mArr_reg hb ka hk
 have hf := hb.frozen ka
 have hlt := hb.lt
 have hk0 : (0 : Int) ≤ (ka : Int) := by omega
 have hk1 : (ka : Int) < 4 := by omega
 clear hb
 go_enter Tryz.func125, Tryz.ntmps125
 go_wp2_with fail
 go_region
 all_goals
  go_wp2
  go_end0
  refine ⟨rfl, ?_, ?_⟩
  ·exact (mArr_set HB.out hl ka hk b).alloc _
  ·exact (((Only.refl _ _).set).trans (Only.below ((Below.refl _ _).alloc (Nat.le_refl _) _))).drew
set_option maxHeartbeats 4000000 in
theorem compute_jump (p kc : Nat) (m : MS) (a b : Int) (w : World) (hb : Blk w p 130 (mArr m)) :
  Calls Tryz.prog 125 #[.pointer (some ⟨p, 0, none⟩), .agg #[.int .i64 5, .int .i64 a, .int .i64 b, .int .i64 (kc : Int)]] w fun e w' => e = .returned (.tuple #[]) ∧ Blk w' p 130 (mArr { m with place := kc }) ∧ Only p w w' := by
 have HB : Hid (Blk w p 130 (mArr m)) := hb
 have h4 : w.cell? ⟨p, 4, none⟩ = some (.int .i64 m.place) := by rw [hb.cell]; rfl
 have hf := hb.frozen 4
 have hlt := hb.lt
 clear hb
 go_enter Tryz.func125, Tryz.ntmps125
 go_wp2
 go_end0
 refine ⟨rfl, ?_, ?_⟩
 ·exact ((((HB.out).set (i := 4) (v := .int .i64 (kc : Int))).congr (show _ = mArr { m with place := kc } by simp [mArr])).alloc _)
 ·exact ((Only.refl _ _).set).trans (Only.below ((Below.refl _ _).alloc (Nat.le_refl _) _))
set_option maxHeartbeats 4000000 in
theorem compute_less (p ka kb kc : Nat) (m : MS) (w : World) (hb : Blk w p 130 (mArr m)) (hka : ka < 4) (hkb : kb < 4) :
  Calls Tryz.prog 125 #[.pointer (some ⟨p, 0, none⟩), .agg #[.int .i64 6, .int .i64 (ka : Int), .int .i64 (kb : Int), .int .i64 (kc : Int)]] w fun e w' => e = .returned (.tuple #[]) ∧ Blk w' p 130 (mArr (if m.regs.getD ka 0 < m.regs.getD kb 0 then { m with place := kc } else m)) ∧ Only p w w' := by
 have HB : Hid (Blk w p 130 (mArr m)) := hb
 have h4 : w.cell? ⟨p, 4, none⟩ = some (.int .i64 m.place) := by rw [hb.cell]; rfl
 have hf := hb.frozen 4
 have hlt := hb.lt
 have hra := mArr_reg hb ka hka
 have hrb := mArr_reg hb kb hkb
 have hk0 : (0 : Int) ≤ (ka : Int) := by omega
 have hk1 : (ka : Int) < 4 := by omega
 have hk2 : (0 : Int) ≤ (kb : Int) := by omega
 have hk3 : (kb : Int) < 4 := by omega
 clear hb
 by_cases hlt2 : m.regs.getD ka 0 < m.regs.getD kb 0
 ·rw [if_pos hlt2]
  generalize m.regs.getD ka 0 = va at *
  generalize m.regs.getD kb 0 = vb at *
  go_enter Tryz.func125, Tryz.ntmps125
  go_wp2_with fail
  go_quiet (fail)
  go_wp2
  go_end0
  refine ⟨rfl, ?_, ?_⟩
  ·exact ((((HB.out).alloc _).drewN nq).set (i := 4) (v := .int .i64 (kc : Int))).congr (by simp [mArr])
  ·exact ((Only.below ((Below.refl _ _).alloc (Nat.le_refl _) _)).drewN nq).set
 ·rw [if_neg hlt2]
  generalize m.regs.getD ka 0 = va at *
  generalize m.regs.getD kb 0 = vb at *
  go_enter Tryz.func125, Tryz.ntmps125
  go_wp2_with fail
  go_quiet (fail)
  go_wp2
  go_end0
  refine ⟨rfl, ?_, ?_⟩
  ·exact ((HB.out).alloc _).drewN nq
  ·exact (Only.below ((Below.refl _ _).alloc (Nat.le_refl _) _)).drewN nq
end Go.Proofs.YtejadojilncbjabGreat
