import Derived.Test.YtejadojilncbjaaGreatG17
import Derived.Test.YtejadojilncbjaaGreatG01
import Derived.Test.YtejadojilncbjaaGreatG02
namespace Go.Proofs.YtejadojilncbjaaGreat
set_option linter.unusedVariables false

/-! The list of attempts, part 5: the stamps are 1 and up to the clock, each one attempt's. -/

/-- The same attempts have the same stamps. -/
def Cor (l l' : List AttD) : Prop := (∀ a ∈ l', a.stamp ≠ 0 → ∃ b ∈ l, b.start = a.start ∧ b.stamp = a.stamp) ∧ (∀ a ∈ l, a.stamp ≠ 0 → ∃ b ∈ l', b.start = a.start ∧ b.stamp = a.stamp)
theorem Cor.refl (l : List AttD) : Cor l l := ⟨fun a ha _ => ⟨a, ha, rfl, rfl⟩, fun a ha _ => ⟨a, ha, rfl, rfl⟩⟩
theorem cor_last {l0 : List AttD} {q q' : AttD} (e1 : q'.start = q.start) (e2 : q'.stamp = q.stamp) : Cor (l0 ++ [q]) (l0 ++ [q']) := by
  constructor
  · intro a ha _
    rcases List.mem_append.1 ha with ha | ha
    · exact ⟨a, List.mem_append_left _ ha, rfl, rfl⟩
    · rw [List.mem_singleton.1 ha]; exact ⟨q, by simp, e1.symm, e2.symm⟩
  · intro a ha _
    rcases List.mem_append.1 ha with ha | ha
    · exact ⟨a, List.mem_append_left _ ha, rfl, rfl⟩
    · rw [List.mem_singleton.1 ha]; exact ⟨q', by simp, e1, e2⟩

theorem stamps_le {R : Rn} (O : R.Ok) (k : Nat) (t : Int) (t0 : 0 ≤ t) (t1 : t < R.c.t) : ∀ a ∈ R.l k t, 0 ≤ a.stamp ∧ a.stamp ≤ R.clk k ∧ 0 ≤ a.valid ∧ a.valid ≤ R.clk k := fun a ha => by
  obtain ⟨b, hb, e⟩ := er_mem ha
  have A : AttOk (R.K t) (R.gh k) (R.clk k) b := att_at O.c O.w O.m R.jobs R.ps k t t0 t1 b hb
  rw [e]
  show 0 ≤ b.stamp ∧ b.stamp ≤ R.clk k ∧ 0 ≤ b.valid ∧ b.valid ≤ R.clk k
  have := A.va
  rcases A.snd with ⟨x, y, z⟩ | ⟨x, y, z⟩
  · omega
  · omega

theorem cor_step {R : Rn} (O : R.Ok) (k : Nat) (h : 0 ≤ (R.pk k).thread ∧ (R.pk k).thread < R.c.t) (hn : ∀ c, ((R.g k).th (R.pk k).thread).st ≠ .cStamp c) : Cor (R.l k (R.pk k).thread) (R.l (k + 1) (R.pk k).thread) := by
  obtain ⟨_, _, ⟨s1, s2⟩, _, _, _, ⟨f1, f2⟩⟩ := cfgB_true O.c
  have G := Rn.okT O k (R.pk k).thread h.1 h.2
  have T := ti_at O (R.pk k).thread h.1 h.2 k
  have L := leff_next (K := R.K (R.pk k).thread) (by show 0 ≤ R.c.f; omega) G ⟨(accBy (R.g k).m (R.out k (R.pk k).thread)).seen, (R.pk k).draw, (k : Int) + 1⟩
  unfold Rn.l
  rw [R.at k rfl h.1 h.2]
  generalize (R.g k).th (R.pk k).thread = y at *
  generalize (⟨(accBy (R.g k).m (R.out k (R.pk k).thread)).seen, (R.pk k).draw, (k : Int) + 1⟩ : AnsD) = v at *
  generalize hNext (R.K (R.pk k).thread) y v = y' at *
  cases L with
  | note E O' J N P Z => rw [E]; exact Cor.refl _
  | new e E O' J N P =>
    rw [E]
    constructor
    · intro a ha hs
      rcases List.mem_append.1 ha with ha | ha
      · exact ⟨a, ha, rfl, rfl⟩
      · rw [List.mem_singleton.1 ha] at hs; exact absurd rfl hs
    · intro a ha _
      exact ⟨a, List.mem_append_left _ ha, rfl, rfl⟩
  | valid c e E O' J N P =>
    obtain ⟨l0, q, E0, q1, _⟩ := T.ne (by rcases e with ⟨x, e, _⟩ | ⟨x, r, e⟩ <;> simp [Opn, e])
    rw [E, er_mod (f := fun t => { t with valid := c }) (fun _ => rfl), E0, modLast_snoc]
    exact cor_last rfl rfl
  | stamp c e E O' J N P => exact absurd e (hn c)
  | failed e E O' J N Z =>
    obtain ⟨l0, q, E0, q1, _⟩ := T.ne (by simp [Opn, e])
    rw [E, er_mod (f := fun t => { t with fin := v.num, fate := 5 }) (fun _ => rfl), E0, modLast_snoc]
    exact cor_last rfl rfl
  | fin f e E =>
    obtain ⟨l0, q, E0, q1, _⟩ := T.ne (by simp [Opn, e])
    have e1 : y'.list = modLast y.list fun t => { t with fin := v.num, fate := f } := by
      rw [E]; unfold hTo; split <;> rfl
    rw [e1, er_mod (f := fun t => { t with fin := v.num, fate := f }) (fun _ => rfl), E0, modLast_snoc]
    exact cor_last rfl rfl

structure StI (R : Rn) (k : Nat) : Prop where
  ex : ∀ v, 1 ≤ v → v ≤ R.clk k → ∃ t, 0 ≤ t ∧ t < R.c.t ∧ ∃ a ∈ R.l k t, a.stamp = v
  un : ∀ t t', 0 ≤ t → t < R.c.t → 0 ≤ t' → t' < R.c.t → ∀ a ∈ R.l k t, ∀ b ∈ R.l k t', a.stamp ≠ 0 → a.stamp = b.stamp → t = t' ∧ a.start = b.start

theorem sti_at {R : Rn} (O : R.Ok) : ∀ k : Nat, StI R k
  | 0 => by
    have e : ∀ t, R.l 0 t = [] := fun t => by
      show (hInit (R.K t)).list.map er = []
      unfold hInit hTo
      split <;> rfl
    have z : R.clk 0 = 0 := by rw [← draws_at O 0]; rfl
    refine ⟨fun v v1 v2 => by omega, fun t t' _ _ _ _ a ha => ?_⟩
    rw [e] at ha
    cases ha
  | k + 1 => by
    have I := sti_at O k
    by_cases h : 0 ≤ (R.pk k).thread ∧ (R.pk k).thread < R.c.t
    · have off : ∀ t, t ≠ (R.pk k).thread → R.l (k + 1) t = R.l k t := fun t ht => by
        unfold Rn.l
        rw [R.off k (fun e => ht e.symm)]
      have G := Rn.okT O k (R.pk k).thread h.1 h.2
      have hcK : cfgB (R.K (R.pk k).thread).c = true := O.c
      have outE : R.out k (R.pk k).thread = hOut (R.K (R.pk k).thread) ((R.g k).th (R.pk k).thread) := rfl
      by_cases hs : ∃ c, ((R.g k).th (R.pk k).thread).st = .cStamp c
      · obtain ⟨c, hs⟩ := hs
        have hcl : R.clk k = c := (Rn.okL O k).clk _ h.1 h.2 c (by simp [hClk, hs])
        have hcl' : R.clk (k + 1) = c + 1 := by
          show (R.g (k + 1)).m 0 = _
          rw [R.mem_at k h, outE]
          unfold hOut
          rw [hs]
          simp only
          rw [mNext_store, upd_at]
        have T := ti_at O (R.pk k).thread h.1 h.2 k
        obtain ⟨l0, q, E0, q1, q2, q3, q4, q5⟩ := T.ne (by simp [Opn, hs])
        have q0 : q.stamp = 0 := by unfold Ph at q5; rw [hs] at q5; exact q5
        have El : R.l k (R.pk k).thread = l0 ++ [q] := E0
        have El' : R.l (k + 1) (R.pk k).thread = l0 ++ [{ q with stamp := c + 1 }] := by
          unfold Rn.l
          rw [R.at k rfl h.1 h.2]
          unfold hNext
          rw [hs]
          simp only
          rw [er_mod (f := fun t => { t with stamp := c + 1 }) (fun _ => rfl), E0, modLast_snoc]
        -- an attempt that has a stamp now had it before, or is the new one
        have back : ∀ t, 0 ≤ t → t < R.c.t → ∀ a ∈ R.l (k + 1) t, a.stamp ≠ 0 → (a ∈ R.l k t ∧ a.stamp ≤ c) ∨ (t = (R.pk k).thread ∧ a = { q with stamp := c + 1 }) := fun t t0 t1 a ha hn => by
          by_cases ht : t = (R.pk k).thread
          · rw [ht, El'] at ha
            rcases List.mem_append.1 ha with ha | ha
            · have : a ∈ R.l k t := by rw [ht, El]; exact List.mem_append_left _ ha
              have := (stamps_le O k t t0 t1 a this).2.1
              exact Or.inl ⟨by assumption, by omega⟩
            · exact Or.inr ⟨ht, List.mem_singleton.1 ha⟩
          · rw [off t ht] at ha
            have := (stamps_le O k t t0 t1 a ha).2.1
            exact Or.inl ⟨ha, by omega⟩
        refine ⟨fun v v1 v2 => ?_, fun t t' t0 t1 u0 u1 a ha b hb hn hab => ?_⟩
        · by_cases hv : v = c + 1
          · exact ⟨_, h.1, h.2, { q with stamp := c + 1 }, by rw [El']; simp, hv.symm⟩
          · obtain ⟨t, t0, t1, a, ha, e⟩ := I.ex v v1 (by omega)
            refine ⟨t, t0, t1, a, ?_, e⟩
            by_cases ht : t = (R.pk k).thread
            · rw [ht, El'] 
              rw [ht, El] at ha
              rcases List.mem_append.1 ha with ha | ha
              · exact List.mem_append_left _ ha
              · rw [List.mem_singleton.1 ha] at e; omega
            · rw [off t ht]; exact ha
        · rcases back t t0 t1 a ha hn with ⟨x, x1⟩ | ⟨x, x1⟩
          · rcases back t' u0 u1 b hb (by omega) with ⟨y, y1⟩ | ⟨y, y1⟩
            · exact I.un t t' t0 t1 u0 u1 a x b y hn hab
            · rw [y1] at hab
              have : a.stamp = c + 1 := hab
              omega
          · rcases back t' u0 u1 b hb (by omega) with ⟨y, y1⟩ | ⟨y, y1⟩
            · rw [x1] at hab
              have : c + 1 = b.stamp := hab
              omega
            · exact ⟨x.trans y.symm, by rw [x1, y1]⟩
      · have hn : ∀ c, ((R.g k).th (R.pk k).thread).st ≠ .cStamp c := fun c e => hs ⟨c, e⟩
        have hcl : R.clk (k + 1) = R.clk k := by
          show (R.g (k + 1)).m 0 = _
          rw [R.mem_at k h, outE, clk_next hcK h G.step hn]
          rfl
        have C : ∀ t, Cor (R.l k t) (R.l (k + 1) t) := fun t => by
          by_cases ht : t = (R.pk k).thread
          · rw [ht]; exact cor_step O k h hn
          · rw [off t ht]; exact Cor.refl _
        refine ⟨fun v v1 v2 => ?_, fun t t' t0 t1 u0 u1 a ha b hb hnn hab => ?_⟩
        · rw [hcl] at v2
          obtain ⟨t, t0, t1, a, ha, e⟩ := I.ex v v1 v2
          obtain ⟨b, hb, _, e2⟩ := (C t).2 a ha (by omega)
          exact ⟨t, t0, t1, b, hb, by omega⟩
        · obtain ⟨a', ha', x1, x2⟩ := (C t).1 a ha hnn
          obtain ⟨b', hb', y1, y2⟩ := (C t').1 b hb (by omega)
          have := I.un t t' t0 t1 u0 u1 a' ha' b' hb' (by omega) (by omega)
          exact ⟨this.1, by omega⟩
    · have off : ∀ t, 0 ≤ t → t < R.c.t → R.l (k + 1) t = R.l k t := fun t t0 t1 => by
        unfold Rn.l
        rw [R.off k (fun e => h (by rw [e]; exact ⟨t0, t1⟩))]
      have hcl : R.clk (k + 1) = R.clk k := by
        show (R.g (k + 1)).m 0 = _
        rw [R.mem_off k h]
        rfl
      refine ⟨fun v v1 v2 => ?_, fun t t' t0 t1 u0 u1 a ha b hb hnn hab => ?_⟩
      · rw [hcl] at v2
        obtain ⟨t, t0, t1, a, ha, e⟩ := I.ex v v1 v2
        exact ⟨t, t0, t1, a, by rw [off t t0 t1]; exact ha, e⟩
      · rw [off t t0 t1] at ha
        rw [off t' u0 u1] at hb
        exact I.un t t' t0 t1 u0 u1 a ha b hb hnn hab

end Go.Proofs.YtejadojilncbjaaGreat

namespace Go.Proofs.YtejadojilncbjaaGreat
set_option linter.unusedVariables false

/-! One order of all attempts, part 7: the history, in the order of places. -/

def Rn.all (R : Rn) (k : Nat) : List AttD := (List.range R.c.t.toNat).flatMap fun t : Nat => ((R.g k).th (t : Int)).list
/-- The history behind all picks. -/
def Rn.hist (R : Rn) : List AttD := (List.range R.ps.length).flatMap fun i : Nat => (R.all R.ps.length).filter fun a => decide (a.start = (i : Int) + 1)

theorem AttT.of_er {R : Rn} {k : Nat} {t : Int} {a : AttD} (A : AttT R k t (er a)) : AttT R k t a := ⟨A.thr, A.jb, A.s1, A.s2, A.pk, A.ac, A.vl, A.en, A.sp⟩
theorem att_t {R : Rn} (O : R.Ok) (k : Nat) (t : Int) (t0 : 0 ≤ t) (t1 : t < R.c.t) {a : AttD} (ha : a ∈ ((R.g k).th t).list) : AttT R k t a :=
  ((ti_at O t t0 t1 k).all (er a) (List.mem_map.2 ⟨a, ha, rfl⟩)).of_er

theorem all_mem {R : Rn} {k : Nat} {a : AttD} : a ∈ R.all k ↔ ∃ t, 0 ≤ t ∧ t < R.c.t ∧ a ∈ ((R.g k).th t).list := by
  unfold Rn.all
  rw [List.mem_flatMap]
  constructor
  · rintro ⟨t, ht, ha⟩
    rw [List.mem_range] at ht
    exact ⟨(t : Int), by omega, by omega, ha⟩
  · rintro ⟨t, t0, t1, ha⟩
    refine ⟨t.toNat, by rw [List.mem_range]; omega, ?_⟩
    rw [show ((t.toNat : Nat) : Int) = t from by omega]
    exact ha

theorem hist_mem {R : Rn} (O : R.Ok) {a : AttD} : a ∈ R.hist ↔ ∃ t, 0 ≤ t ∧ t < R.c.t ∧ a ∈ ((R.g R.ps.length).th t).list := by
  unfold Rn.hist
  rw [List.mem_flatMap]
  constructor
  · rintro ⟨i, _, ha⟩
    exact all_mem.1 (List.mem_filter.1 ha).1
  · rintro ⟨t, t0, t1, ha⟩
    have A := att_t O _ t t0 t1 ha
    have h1 := A.s1
    have h2 := A.s2
    exact ⟨(a.start - 1).toNat, by rw [List.mem_range]; omega, List.mem_filter.2 ⟨all_mem.2 ⟨t, t0, t1, ha⟩, by simp only [decide_eq_true_eq]; omega⟩⟩

theorem bef_start {R : Rn} {k : Nat} {t : Int} {a b : AttD} (A : AttT R k t a) (B : Bef a b) : a.start < b.start := by
  rcases A.en with x | x
  · exact absurd x.1 B.1
  · have h1 := x.1
    have h2 := B.2.1
    omega

/-- In a thread's list each attempt begins behind the one ahead of it. -/
theorem list_srt {R : Rn} (O : R.Ok) (k : Nat) (t : Int) (t0 : 0 ≤ t) (t1 : t < R.c.t) : ((R.g k).th t).list.Pairwise fun a b => a.start < b.start := by
  have T := ti_at O t t0 t1 k
  have h := T.srt
  rw [List.pairwise_map] at h
  refine h.imp_of_mem fun {a b} ha hb x => ?_
  have A : AttT R k t (er a) := T.all _ (List.mem_map.2 ⟨a, ha, rfl⟩)
  exact (show (er a).start < (er b).start from bef_start A x)

theorem all_srt {R : Rn} (O : R.Ok) (k : Nat) : (R.all k).Pairwise fun a b => a.start ≠ b.start := by
  unfold Rn.all
  rw [List.pairwise_flatMap]
  constructor
  · intro t ht
    rw [List.mem_range] at ht
    exact (list_srt O k (t : Int) (by omega) (by omega)).imp (fun h => by omega)
  · have hl : ∀ n, n ≤ R.c.t.toNat → (List.range n).Pairwise fun t u : Nat => ∀ x ∈ ((R.g k).th (t : Int)).list, ∀ y ∈ ((R.g k).th (u : Int)).list, x.start ≠ y.start := by
      intro n
      induction n with
      | zero => intro _; exact List.Pairwise.nil
      | succ n ih =>
        intro hn
        rw [List.range_succ, List.pairwise_append]
        refine ⟨ih (by omega), List.pairwise_singleton _ _, fun t ht u hu x hx y hy e => ?_⟩
        rw [List.mem_range] at ht
        rw [List.mem_singleton] at hu
        have A := att_t O k (t : Int) (by omega) (by omega) hx
        have B := att_t O k (u : Int) (by omega) (by omega) hy
        have h1 := A.pk
        have h2 := B.pk
        rw [e, h2] at h1
        omega
    exact hl _ (Nat.le_refl _)

/-- The history is in the order of Starts. -/
theorem hist_srt {R : Rn} (O : R.Ok) : R.hist.Pairwise fun a b => a.start < b.start := by
  unfold Rn.hist
  rw [List.pairwise_flatMap]
  constructor
  · intro i hi
    have h := (all_srt O R.ps.length).filter (fun a => decide (a.start = (i : Int) + 1))
    refine h.imp_of_mem fun {a b} ha hb x => ?_
    have h1 := (List.mem_filter.1 ha).2
    have h2 := (List.mem_filter.1 hb).2
    simp only [decide_eq_true_eq] at h1 h2
    omega
  · refine List.Pairwise.imp (R := fun i j : Nat => i < j) (fun {i j} hij x hx y hy => ?_) List.pairwise_lt_range
    have h1 := (List.mem_filter.1 hx).2
    have h2 := (List.mem_filter.1 hy).2
    simp only [decide_eq_true_eq] at h1 h2
    omega

/-! Places. -/

def plA (a : AttD) : Int := if 0 < a.stamp then a.stamp else a.valid
def plB (a : AttD) : Int := if 0 < a.stamp then 0 else 1
/-- Has a the lesser place? -/
def Sooner (a b : AttD) : Prop := plA a < plA b ∨ (plA a = plA b ∧ plB a < plB b)
instance (a b : AttD) : Decidable (Sooner a b) := by unfold Sooner; infer_instance
/-- Is a ahead of b? -/
def Ahd (a b : AttD) : Prop := Sooner a b ∨ (¬ Sooner b a ∧ a.start < b.start)

/-- One attempt comes to its place in a list that is told from its end. -/
def bub : List AttD → List AttD
  | [] => []
  | [x] => [x]
  | x :: y :: r => if Sooner x y then y :: bub (x :: r) else x :: bub (y :: r)
termination_by l => l.length
/-- All attempts in the order of their places, told from the end. -/
def ordR : List AttD → List AttD
  | [] => []
  | x :: r => bub (x :: ordR r)

theorem bub_mem : ∀ (n : Nat) (l : List AttD), l.length ≤ n → ∀ a, a ∈ bub l ↔ a ∈ l
  | 0, l, h, a => by
    have : l = [] := List.length_eq_zero_iff.1 (by omega)
    subst this
    simp [bub]
  | n + 1, l, h, a => by
    cases l with
    | nil => simp [bub]
    | cons x l =>
      cases l with
      | nil => simp [bub]
      | cons y r =>
        unfold bub
        split
        · rw [List.mem_cons, bub_mem n (x :: r) (by simp at h ⊢; omega) a]
          simp only [List.mem_cons]
          constructor
          · rintro (e | e | e)
            · exact Or.inr (Or.inl e)
            · exact Or.inl e
            · exact Or.inr (Or.inr e)
          · rintro (e | e | e)
            · exact Or.inr (Or.inl e)
            · exact Or.inl e
            · exact Or.inr (Or.inr e)
        · rw [List.mem_cons, bub_mem n (y :: r) (by simp at h ⊢; omega) a]
          simp only [List.mem_cons]
theorem ord_mem (a : AttD) : ∀ l : List AttD, a ∈ ordR l ↔ a ∈ l
  | [] => Iff.rfl
  | x :: r => by
    unfold ordR
    rw [bub_mem _ _ (Nat.le_refl _), List.mem_cons, List.mem_cons, ord_mem a r]

theorem Sooner.tr {a b c : AttD} (h : Sooner a b) (g : Sooner b c) : Sooner a c := by unfold Sooner at *; omega
theorem ahd_tr {a b c : AttD} (h : Ahd a b) (g : Ahd b c) : Ahd a c := by unfold Ahd Sooner at *; omega

/-- Told from the end, each one ahead of the one told before it. -/
def Dn (l : List AttD) : Prop := l.Pairwise fun a b => Ahd b a

theorem bub_same : ∀ (n : Nat) (l : List AttD), l.length ≤ n → Dn l → bub l = l
  | 0, l, h, d => by
    have : l = [] := List.length_eq_zero_iff.1 (by omega)
    subst this
    simp [bub]
  | n + 1, l, h, d => by
    cases l with
    | nil => simp [bub]
    | cons x l =>
      cases l with
      | nil => simp [bub]
      | cons y r =>
        unfold bub
        have hxy := (List.pairwise_cons.1 d).1 y List.mem_cons_self
        rw [if_neg (fun s => by unfold Ahd Sooner at *; omega), bub_same n (y :: r) (by simp at h ⊢; omega) (List.pairwise_cons.1 d).2]

/-- An attempt that began behind all of them comes to its place. -/
theorem bub_dn : ∀ (n : Nat) (x : AttD) (l : List AttD), l.length ≤ n → Dn l → (∀ y ∈ l, y.start < x.start) → Dn (bub (x :: l))
  | 0, x, l, h, d, s => by
    have : l = [] := List.length_eq_zero_iff.1 (by omega)
    subst this
    show Dn (bub [x])
    unfold bub
    exact List.pairwise_singleton _ _
  | n + 1, x, l, h, d, s => by
    cases l with
    | nil =>
      show Dn (bub [x])
      unfold bub
      exact List.pairwise_singleton _ _
    | cons y r =>
      unfold bub
      have hy := List.pairwise_cons.1 d
      split
      · rename_i hs
        have ih := bub_dn n x r (by simp at h; omega) hy.2 (fun z hz => s z (List.mem_cons_of_mem _ hz))
        refine List.pairwise_cons.2 ⟨fun z hz => ?_, ih⟩
        rw [bub_mem _ _ (Nat.le_refl _)] at hz
        rcases List.mem_cons.1 hz with e | e
        · rw [e]; exact Or.inl hs
        · exact hy.1 z e
      · rename_i hs
        rw [bub_same _ (y :: r) (Nat.le_refl _) d]
        refine List.pairwise_cons.2 ⟨fun z hz => ?_, d⟩
        have hxy : Ahd y x := Or.inr ⟨hs, s y List.mem_cons_self⟩
        rcases List.mem_cons.1 hz with e | e
        · rw [e]; exact hxy
        · exact ahd_tr (hy.1 z e) hxy

theorem ord_dn : ∀ l : List AttD, (l.Pairwise fun a b => b.start < a.start) → Dn (ordR l)
  | [], _ => List.Pairwise.nil
  | x :: r, h => by
    unfold ordR
    have hx := List.pairwise_cons.1 h
    exact bub_dn _ x _ (Nat.le_refl _) (ord_dn r hx.2) (fun y hy => hx.1 y ((ord_mem y r).1 hy))

/-- All attempts in the order of their places. -/
def Rn.ord (R : Rn) : List AttD := (ordR R.hist.reverse).reverse
theorem hord_mem {R : Rn} (a : AttD) : a ∈ R.ord ↔ a ∈ R.hist := by
  unfold Rn.ord
  rw [List.mem_reverse, ord_mem, List.mem_reverse]
theorem hord_srt {R : Rn} (O : R.Ok) : R.ord.Pairwise Ahd := by
  unfold Rn.ord
  rw [List.pairwise_reverse]
  exact ord_dn _ (by rw [List.pairwise_reverse]; exact hist_srt O)

/-- One behind the other: each reads what stands there, and none that ended before it began comes behind it. -/
def procOk (f : Int → Int) : List AttD → Prop
  | [] => True
  | x :: r => fOk x.notes f ∧ (∀ y ∈ r, ¬ (0 < y.fin ∧ y.fin < x.start)) ∧ procOk (if 0 < x.stamp then overN x.notes f else f) r

end Go.Proofs.YtejadojilncbjaaGreat

namespace Go.Proofs.YtejadojilncbjaaGreat
set_option linter.unusedVariables false

/-! What an access does to the list of a thread's attempts: it changes the last one at most, or adds one. -/

/-- The last one is changed at most, not its Start. -/
def LM (l l' : List AttD) : Prop := ∃ f : AttD → AttD, (∀ t, (f t).start = t.start ∧ (f t).thread = t.thread) ∧ l' = modLast l f

theorem modLast_id (l : List AttD) : modLast l (fun t => t) = l := by
  unfold modLast
  apply List.ext_getElem?
  intro i
  rw [List.getElem?_modify]
  split <;> simp
theorem modLast_comp (l : List AttD) (f g : AttD → AttD) : modLast (modLast l f) g = modLast l (fun t => g (f t)) := by
  unfold modLast
  apply List.ext_getElem?
  intro i
  simp only [List.length_modify, List.getElem?_modify]
  split <;> simp [Option.map_map, Function.comp_def]
theorem LM.refl (l : List AttD) : LM l l := ⟨fun t => t, fun _ => ⟨rfl, rfl⟩, (modLast_id l).symm⟩
theorem LM.trans {l l' l2 : List AttD} (h : LM l l') (k : LM l' l2) : LM l l2 := by
  obtain ⟨f, hf, rfl⟩ := h
  obtain ⟨g, hg, rfl⟩ := k
  exact ⟨fun t => g (f t), fun t => ⟨(hg _).1.trans (hf t).1, (hg _).2.trans (hf t).2⟩, modLast_comp l f g⟩
theorem LM.of {l l' : List AttD} (h : l' = l) : LM l l' := by subst h; exact LM.refl _

theorem lm_noted (h : Th) (op a v : Int) : LM h.list (h.noted op a v).list := ⟨fun t => { t with notes := t.notes ++ [⟨op, a, v⟩] }, fun t => ⟨rfl, rfl⟩, rfl⟩
theorem lm_ended (h : Th) (n f : Int) : LM h.list (h.ended n f).list := ⟨fun t => { t with fin := n, fate := f }, fun t => ⟨rfl, rfl⟩, rfl⟩
theorem lm_stamp (l : List AttD) (c : Int) : LM l (modLast l fun t => { t with stamp := c }) := ⟨fun t => { t with stamp := c }, fun t => ⟨rfl, rfl⟩, rfl⟩
theorem lm_ite {l : List AttD} {c : Prop} [Decidable c] {a b : Bool × Th} (h1 : LM l a.2.list) (h2 : LM l b.2.list) : LM l (if c then a else b).2.list := by split <;> assumption
theorem lm_iteT {l : List AttD} {c : Prop} [Decidable c] {a b : Th} (h1 : LM l a.list) (h2 : LM l b.list) : LM l (if c then a else b).list := by split <;> assumption
theorem l_to (K : Cx) (j : Nat) (h : Th) : (hTo K j h).list = h.list := by unfold hTo; split <;> rfl
theorem l_freeAt (e : Int) (r : List Int) (h : Th) : (hFreeAt e r h).list = h.list := by unfold hFreeAt; split <;> rfl
theorem l_close (e : Int) (h : Th) : (hClose e h).list = h.list := by
  unfold hClose
  split
  · rfl
  · exact l_freeAt _ _ _
theorem l_count (K : Cx) (h : Th) : (hCount K h).list = h.list := by unfold hCount; split <;> rfl
theorem l_failOwn (K : Cx) (r : List Int) (h : Th) : (hFailOwn K r h).list = h.list := by
  unfold hFailOwn
  split
  · exact l_count _ _
  · rfl
theorem l_fail (K : Cx) (h : Th) : (hFail K h).list = h.list := by
  unfold hFail
  split
  · rfl
  · exact l_failOwn _ _ _
theorem lm_read (K : Cx) (i : InsD) (h : Th) : LM h.list (hRead K i h).2.list := by
  unfold hRead
  simp only
  split
  · exact LM.of (l_close _ _)
  · split
    · exact lm_noted _ _ _ _
    · simp only
      split <;> exact LM.refl _
theorem lm_put (i : InsD) (a : Int) (h : Th) : LM h.list (hPut i a h).list := lm_noted _ _ _ _
theorem lm_write (K : Cx) (i : InsD) (h : Th) : LM h.list (hWrite K i h).2.list := by
  unfold hWrite
  simp only
  split
  · exact LM.of (l_close _ _)
  · split
    · exact lm_put _ _ _
    · exact LM.refl _
attribute [local irreducible] hRead hWrite in
theorem lm_step (K : Cx) (h : Th) : LM h.list (hStep K h).2.list := by
  unfold hStep
  simp only
  repeat' (refine lm_ite ?_ ?_)
  all_goals first
    | exact LM.of (l_close _ _)
    | exact LM.refl _
    | exact lm_read K _ _
    | exact lm_write K _ _
theorem lm_adv (K : Cx) : ∀ (n : Nat) (h : Th), LM h.list (hAdv K n h).list
  | 0, h => LM.refl _
  | n + 1, h => by
    unfold hAdv
    split
    · exact (lm_step K h).trans (lm_adv K n _)
    · exact lm_step K h
theorem lm_go (K : Cx) (h : Th) : LM h.list (hGo K h).list := lm_adv K _ h
theorem lm_got (K : Cx) (i : InsD) (a v : Int) (h : Th) : LM h.list (hGot K i a v h).list := (lm_noted ({ h with x := setReg h.x i.a v } : Th) 7 a v).trans (lm_go K _)
theorem lm_wrote (K : Cx) (i : InsD) (a : Int) (h : Th) : LM h.list (hWrote K i a h).list := by
  unfold hWrote
  split
  · exact (lm_put i a h).trans (lm_go K _)
  · exact lm_put i a h
theorem lm_exDone (K : Cx) (k : Ex) (c : Int) (h : Th) : LM h.list (hExDone K k c h).list := by
  have h0 : LM h.list (modLast h.list (fun t => { t with valid := c })) := ⟨fun t => { t with valid := c }, fun t => ⟨rfl, rfl⟩, rfl⟩
  unfold hExDone
  simp only
  split
  · exact h0.trans (lm_got K _ _ _ _)
  · exact h0.trans (lm_wrote K _ _ _)
theorem lm_exStill (K : Cx) (k : Ex) (c : Int) (r : List EntD) (h : Th) : LM h.list (hExStill K k c r h).list := by
  unfold hExStill
  split
  · exact lm_exDone _ _ _ _
  · exact LM.refl _
theorem l_openAt (c : Int) (r : List Int) (h : Th) : (hOpenAt c r h).list = h.list := by unfold hOpenAt; split <;> rfl
theorem l_wordAt (c : Int) (r : List EntD) (h : Th) : (hWordAt c r h).list = h.list := by
  unfold hWordAt
  split
  · exact l_openAt _ _ _
  · rfl
theorem l_shutAt (c : Int) (r : List Int) (h : Th) : (hShutAt c r h).list = h.list := by unfold hShutAt; split <;> rfl
theorem l_stillAt (c : Int) : ∀ (r : List EntD) (h : Th), (hStillAt c r h).list = h.list
  | [], h => by unfold hStillAt; exact l_shutAt _ _ _
  | e :: r, h => by
    unfold hStillAt
    split
    · exact l_stillAt c r h
    · rfl
theorem l_rest (K : Cx) (d : Int) (h : Th) : (hRest K d h).list = h.list := by
  unfold hRest
  simp only
  split <;> split <;> rfl

attribute [local irreducible] hWrote hFail hRest hFailOwn hCount hGot hGo hExStill hShutAt hStillAt hTo hFreeAt hOpenAt hWordAt in
/-- An access changes the last attempt at most, but where it starts one. -/
theorem lm_next (K : Cx) (h : Th) (v : AnsD) (hs : h.st ≠ .start) : LM h.list (hNext K h v).list := by
  unfold hNext
  split
  all_goals first
    | exact LM.refl _
    | (exfalso; apply hs; assumption)
    | skip
  all_goals try simp only
  all_goals repeat' (refine lm_iteT ?_ ?_)
  all_goals first
    | exact LM.refl _
    | exact lm_got K _ _ _ _
    | exact lm_exStill K _ _ _ _
    | exact LM.of (l_fail _ _)
    | exact lm_wrote K _ _ _
    | exact lm_go K _
    | exact LM.of (l_stillAt _ _ _)
    | exact LM.of (l_shutAt _ _ _)
    | exact lm_stamp _ _
    | exact LM.of (l_wordAt _ _ _)
    | exact LM.of (l_openAt _ _ _)
    | exact LM.of (l_freeAt _ _ _)
    | exact (lm_ended h _ _).trans (LM.of (l_to _ _ _))
    | exact LM.of (l_failOwn _ _ _)
    | exact lm_ended h _ _
    | exact (lm_ended h _ _).trans (LM.of (l_rest _ _ _))

theorem lm_start (K : Cx) (h : Th) (v : AnsD) (hs : h.st = .start) : ∃ a : AttD, (hNext K h v).list = h.list ++ [a] ∧ a.start = v.num ∧ a.thread = K.me := by
  have e : hNext K h v = hGo K { h with list := h.list ++ [⟨K.me, h.job, v.num, 0, v.seen, 0, 0, []⟩], x := newTS (K.jobs.getD h.job (0, [])).2 v.seen } := by
    unfold hNext
    rw [hs]
  obtain ⟨f, hf, hl⟩ := lm_go K { h with list := h.list ++ [⟨K.me, h.job, v.num, 0, v.seen, 0, 0, []⟩], x := newTS (K.jobs.getD h.job (0, [])).2 v.seen }
  refine ⟨f ⟨K.me, h.job, v.num, 0, v.seen, 0, 0, []⟩, ?_, (hf _).1, (hf _).2⟩
  rw [e, hl]
  unfold modLast
  apply List.ext_getElem?
  intro i
  simp only [List.getElem?_modify, List.length_append, List.length_singleton, Nat.add_sub_cancel]
  by_cases hi : h.list.length = i
  · subst hi
    simp
  · rcases Nat.lt_or_ge i h.list.length with h1 | h1
    · rw [List.getElem?_append_left h1, List.getElem?_append_left h1]; simp [hi]
    · rw [List.getElem?_append_right h1, List.getElem?_append_right h1]
      have : i - h.list.length ≠ 0 := by omega
      obtain ⟨n, hn⟩ := Nat.exists_eq_succ_of_ne_zero this
      rw [hn]
      simp [hi]

end Go.Proofs.YtejadojilncbjaaGreat

namespace Go.Proofs.YtejadojilncbjaaGreat
set_option linter.unusedVariables false

/-! What is true of each attempt of a thread, told from its list alone. -/

structure LA (R : Rn) (k : Nat) (t : Int) (a : AttD) : Prop where
  thr : a.thread = t
  s1 : 1 ≤ a.start
  s2 : a.start ≤ k
  pk : (R.pk (a.start - 1).toNat).thread = t

theorem la_at (R : Rn) (t : Int) (t0 : 0 ≤ t) (t1 : t < R.c.t) : ∀ k : Nat, (∀ a ∈ ((R.g k).th t).list, LA R k t a) ∧ ((R.g k).th t).list.Pairwise fun a b => a.start < b.start
  | 0 => by
    have e : ((R.g 0).th t).list = [] := by
      show (hTo (R.K t) 0 _).list = _
      rw [l_to]
    rw [e]
    exact ⟨fun a ha => (by cases ha), List.Pairwise.nil⟩
  | k + 1 => by
    obtain ⟨h1, h2⟩ := la_at R t t0 t1 k
    have up : ∀ a ∈ ((R.g k).th t).list, LA R (k + 1) t a := fun a ha => ⟨(h1 a ha).thr, (h1 a ha).s1, by have := (h1 a ha).s2; omega, (h1 a ha).pk⟩
    by_cases hp : (R.pk k).thread = t
    · rw [R.at k hp t0 t1]
      by_cases hs : ((R.g k).th t).st = .start
      · obtain ⟨a, e, ea, et⟩ := lm_start (R.K t) ((R.g k).th t) ⟨(accBy (R.g k).m (R.out k t)).seen, (R.pk k).draw, (k : Int) + 1⟩ hs
        have ea' : a.start = (k : Int) + 1 := ea
        rw [e]
        refine ⟨fun b hb => ?_, ?_⟩
        · rcases List.mem_append.1 hb with hb | hb
          · exact up b hb
          · simp at hb
            subst hb
            refine ⟨et, by omega, by omega, ?_⟩
            rw [ea', show ((k : Int) + 1 - 1).toNat = k by omega]
            exact hp
        · rw [List.pairwise_append]
          refine ⟨h2, by simp, fun b hb c hc => ?_⟩
          simp at hc
          subst hc
          have := (h1 b hb).s2
          omega
      · obtain ⟨f, hf, e⟩ := lm_next (R.K t) ((R.g k).th t) ⟨(accBy (R.g k).m (R.out k t)).seen, (R.pk k).draw, (k : Int) + 1⟩ hs
        rw [e]
        by_cases hn : ((R.g k).th t).list = []
        · rw [hn]
          exact ⟨fun a ha => (by simp [modLast] at ha), by simp [modLast]⟩
        · obtain ⟨l0, y, hy⟩ := snoc_of hn
          rw [hy] at up h2 ⊢
          rw [modLast_snoc]
          obtain ⟨p1, p2, p3⟩ := List.pairwise_append.1 h2
          have hfy := hf y
          refine ⟨fun b hb => ?_, ?_⟩
          · rcases List.mem_append.1 hb with hb | hb
            · exact up b (by simp [hb])
            · simp at hb
              subst hb
              have A := up y (by simp)
              exact ⟨hfy.2.trans A.thr, by rw [hfy.1]; exact A.s1, by rw [hfy.1]; exact A.s2, by rw [hfy.1]; exact A.pk⟩
          · rw [List.pairwise_append]
            refine ⟨p1, by simp, fun b hb c hc => ?_⟩
            simp at hc
            subst hc
            rw [hfy.1]
            exact p3 b hb y (by simp)
    · rw [R.off k hp]
      exact ⟨up, h2⟩

theorem la_t {R : Rn} (k : Nat) (t : Int) (t0 : 0 ≤ t) (t1 : t < R.c.t) {a : AttD} (ha : a ∈ ((R.g k).th t).list) : LA R k t a := (la_at R t t0 t1 k).1 a ha
theorem la_srt {R : Rn} (k : Nat) (t : Int) (t0 : 0 ≤ t) (t1 : t < R.c.t) : ((R.g k).th t).list.Pairwise fun a b => a.start < b.start := (la_at R t t0 t1 k).2

theorem histL_mem {R : Rn} {a : AttD} : a ∈ R.hist ↔ ∃ t, 0 ≤ t ∧ t < R.c.t ∧ a ∈ ((R.g R.ps.length).th t).list := by
  unfold Rn.hist
  rw [List.mem_flatMap]
  constructor
  · rintro ⟨i, _, ha⟩
    exact all_mem.1 (List.mem_filter.1 ha).1
  · rintro ⟨t, t0, t1, ha⟩
    have A := la_t _ t t0 t1 ha
    have h1 := A.s1
    have h2 := A.s2
    exact ⟨(a.start - 1).toNat, by rw [List.mem_range]; omega, List.mem_filter.2 ⟨all_mem.2 ⟨t, t0, t1, ha⟩, by simp only [decide_eq_true_eq]; omega⟩⟩

theorem allL_srt (R : Rn) (k : Nat) : (R.all k).Pairwise fun a b => a.start ≠ b.start := by
  unfold Rn.all
  rw [List.pairwise_flatMap]
  constructor
  · intro t ht
    rw [List.mem_range] at ht
    exact (la_srt k (t : Int) (by omega) (by omega)).imp (fun h => by omega)
  · have hl : ∀ n, n ≤ R.c.t.toNat → (List.range n).Pairwise fun t u : Nat => ∀ x ∈ ((R.g k).th (t : Int)).list, ∀ y ∈ ((R.g k).th (u : Int)).list, x.start ≠ y.start := by
      intro n
      induction n with
      | zero => intro _; exact List.Pairwise.nil
      | succ n ih =>
        intro hn
        rw [List.range_succ, List.pairwise_append]
        refine ⟨ih (by omega), List.pairwise_singleton _ _, fun t ht u hu x hx y hy e => ?_⟩
        rw [List.mem_range] at ht
        rw [List.mem_singleton] at hu
        have h1 := (la_t k (t : Int) (by omega) (by omega) hx).pk
        have h2 := (la_t k (u : Int) (by omega) (by omega) hy).pk
        rw [e, h2] at h1
        omega
    exact hl _ (Nat.le_refl _)

theorem histL_srt (R : Rn) : R.hist.Pairwise fun a b => a.start < b.start := by
  unfold Rn.hist
  rw [List.pairwise_flatMap]
  constructor
  · intro i hi
    have h := (allL_srt R R.ps.length).filter (fun a => decide (a.start = (i : Int) + 1))
    refine h.imp_of_mem fun {a b} ha hb x => ?_
    have h1 := (List.mem_filter.1 ha).2
    have h2 := (List.mem_filter.1 hb).2
    simp only [decide_eq_true_eq] at h1 h2
    omega
  · refine List.Pairwise.imp (R := fun i j : Nat => i < j) (fun {i j} hij x hx y hy => ?_) List.pairwise_lt_range
    have h1 := (List.mem_filter.1 hx).2
    have h2 := (List.mem_filter.1 hy).2
    simp only [decide_eq_true_eq] at h1 h2
    omega

end Go.Proofs.YtejadojilncbjaaGreat

namespace Go.Proofs.YtejadojilncbjaaGreat
open Go.RowKit
set_option linter.unusedVariables false
attribute [local go_sem ↓] Go.wp_at_zero Go.wp_at_succ

/-- The program's machine. -/
structure MS where
  regs : List Int
  place : Nat
  begun : Nat
  into : Int

def mArr (m : MS) : Array Value := #[.int .i64 (m.regs.getD 0 0), .int .i64 (m.regs.getD 1 0), .int .i64 (m.regs.getD 2 0), .int .i64 (m.regs.getD 3 0), .int .i64 m.place, .int .i64 m.begun, .int .i64 m.into]

end Go.Proofs.YtejadojilncbjaaGreat

namespace Go.Proofs.YtejadojilncbjaaGreat
open Go.RowKit
set_option linter.unusedVariables false

def MOk (m : MS) : Prop := m.regs.length = 4 ∧ ∀ v ∈ m.regs, 0 ≤ v ∧ v ≤ 65535
def mReg (m : MS) (i : Int) : Int := m.regs.getD i.toNat 0

/-- An instruction that needs nothing but the registers. -/
def pComp (m : MS) (i : InsD) : MS :=
  if i.op = 2 then { m with regs := m.regs.set i.a.toNat i.b }
  else if i.op = 3 then { m with regs := m.regs.set i.a.toNat ((mReg m i.b + mReg m i.c).tmod 65536) }
  else if i.op = 4 then { m with regs := m.regs.set i.a.toNat ((mReg m i.b + 65535 + 1 - mReg m i.c).tmod 65536) }
  else if i.op = 5 then { m with place := i.c.toNat }
  else if mReg m i.a < mReg m i.b then { m with place := i.c.toNat } else m

theorem formed2 {i : InsD} {n : Int} (h : formedB i n = true) (o : i.op = 2) : (0 ≤ i.a ∧ i.a ≤ 3) ∧ (0 ≤ i.b ∧ i.b ≤ 65535) := by
  simp [formedB, o, inB] at h
  omega
theorem formed34 {i : InsD} {n : Int} (h : formedB i n = true) (o : i.op = 3 ∨ i.op = 4) : (0 ≤ i.a ∧ i.a ≤ 3) ∧ (0 ≤ i.b ∧ i.b ≤ 3) ∧ (0 ≤ i.c ∧ i.c ≤ 3) := by
  unfold formedB at h
  rw [if_neg (by omega), if_neg (by omega), if_pos o] at h
  simp [inB] at h
  omega
theorem formed5 {i : InsD} {n : Int} (h : formedB i n = true) (o : i.op = 5) : 0 ≤ i.c ∧ i.c ≤ n := by
  simp [formedB, o, inB] at h
  omega
theorem formed6 {i : InsD} {n : Int} (h : formedB i n = true) (o : i.op = 6) : (0 ≤ i.a ∧ i.a ≤ 3) ∧ (0 ≤ i.b ∧ i.b ≤ 3) ∧ (0 ≤ i.c ∧ i.c ≤ n) := by
  simp [formedB, o, inB] at h
  omega
theorem formed78 {i : InsD} {n : Int} (h : formedB i n = true) (o : i.op = 7 ∨ i.op = 8) : (0 ≤ i.a ∧ i.a ≤ 3) ∧ (0 ≤ i.b ∧ i.b ≤ 3) := by
  unfold formedB at h
  rw [if_neg (by omega), if_neg (by omega), if_neg (by omega), if_neg (by omega), if_neg (by omega), if_pos o] at h
  simp [inB] at h
  omega
theorem formed_op {i : InsD} {n : Int} (h : formedB i n = true) : 0 ≤ i.op ∧ i.op ≤ 8 := by
  unfold formedB at h
  by_cases h1 : i.op = 0 ∨ i.op = 1
  · omega
  rw [if_neg h1] at h
  by_cases h2 : i.op = 2
  · omega
  rw [if_neg h2] at h
  by_cases h3 : i.op = 3 ∨ i.op = 4
  · omega
  rw [if_neg h3] at h
  by_cases h5 : i.op = 5
  · omega
  rw [if_neg h5] at h
  by_cases h6 : i.op = 6
  · omega
  rw [if_neg h6] at h
  by_cases h7 : i.op = 7 ∨ i.op = 8
  · omega
  rw [if_neg h7] at h
  cases h

/-- What Next tells. -/
structure TurnD where
  fate : Int
  op : Int
  addr : Int
  val : Int

def turnCells (t : TurnD) : Array Value := #[.int .i64 t.fate, .int .i64 t.op, .int .i64 t.addr, .int .i64 t.val]

/-- A Read or Write comes up. -/
def pWord (wd : Int) (m : MS) (i : InsD) : TurnD × MS :=
  if i.op = 7 then ((if inB (mReg m i.b) 0 (wd - 1) then ⟨0, 7, mReg m i.b, 0⟩ else ⟨3, 0, 0, 0⟩), { m with into := i.a })
  else ((if inB (mReg m i.a) 0 (wd - 1) then ⟨0, 8, mReg m i.a, mReg m i.b⟩ else ⟨3, 0, 0, 0⟩), m)

/-- Next. -/
def pNext (f wd : Int) (code : List InsD) : Nat → MS → TurnD × MS
  | 0, m => (⟨0, 0, 0, 0⟩, m)
  | n + 1, m =>
    if code.length ≤ m.place then (⟨1, 0, 0, 0⟩, m) else if f ≤ m.begun then (⟨4, 0, 0, 0⟩, m) else
      let i := insAt code m.place
      if formedB i code.length = false then (⟨3, 0, 0, 0⟩, { m with begun := m.begun + 1 }) else
        let m2 : MS := { m with begun := m.begun + 1, place := m.place + 1 }
        if i.op = 0 then (⟨1, 0, 0, 0⟩, m2) else if i.op = 1 then (⟨2, 0, 0, 0⟩, m2) else if i.op = 7 ∨ i.op = 8 then pWord wd m2 i else pNext f wd code n (pComp m2 i)

theorem MOk.comp {m : MS} {i : InsD} {n : Int} (h : MOk m) (hf : formedB i n = true) (ho : 2 ≤ i.op ∧ i.op ≤ 6) : MOk (pComp m i) := by
  have hreg : ∀ k : Int, 0 ≤ mReg m k ∧ mReg m k ≤ 65535 := fun k => by
    unfold mReg
    by_cases hk : k.toNat < m.regs.length
    · rw [show m.regs.getD k.toNat 0 = m.regs[k.toNat] from by simp [List.getD, List.getElem?_eq_getElem hk]]
      exact h.2 _ (List.getElem_mem hk)
    · rw [show m.regs.getD k.toNat 0 = 0 from by simp [List.getD, List.getElem?_eq_none (Nat.le_of_not_lt hk)]]
      omega
  have hset : ∀ (k : Nat) (v : Int), 0 ≤ v → v ≤ 65535 → MOk { m with regs := m.regs.set k v } := fun k v h0 h1 => by
    refine ⟨by simp [h.1], fun u hu => ?_⟩
    rcases List.mem_or_eq_of_mem_set hu with h2 | h2
    · exact h.2 u h2
    · omega
  have hmod : ∀ v : Int, 0 ≤ v → 0 ≤ v.tmod 65536 ∧ v.tmod 65536 ≤ 65535 := fun v hv => ⟨Int.tmod_nonneg _ hv, by have := Int.tmod_lt_of_pos v (b := 65536) (by omega); omega⟩
  unfold pComp
  split
  · rename_i o
    obtain ⟨_, b0, b1⟩ := formed2 hf o
    exact hset _ _ b0 b1
  split
  · have h1 := hreg i.b
    have h2 := hreg i.c
    have := hmod (mReg m i.b + mReg m i.c) (by omega)
    exact hset _ _ this.1 this.2
  split
  · have h1 := hreg i.b
    have h2 := hreg i.c
    have := hmod (mReg m i.b + 65535 + 1 - mReg m i.c) (by omega)
    exact hset _ _ this.1 this.2
  split
  · exact h
  split
  · exact h
  · exact h

end Go.Proofs.YtejadojilncbjaaGreat
