import Derived.Test.YtejadojilncbjabGreatH14
namespace Go.Proofs.YtejadojilncbjabGreat
set_option linter.unusedVariables false

/-! The list of attempts, part 3: behind any number of picks. -/

/-- The last attempt's own promise, of what is left of it without its notes. -/
theorem er_mem {l : List AttD} {a : AttD} (h : a ∈ l.map er) : ∃ b ∈ l, a = er b := by
  obtain ⟨b, hb, e⟩ := List.mem_map.1 h
  exact ⟨b, hb, e.symm⟩

theorem TI.mono {R : Rn} {k k' : Nat} {t : Int} {h : Th} (T : TI R k t h) (hk : k ≤ k') : TI R k' t h :=
  ⟨fun a ha => (T.all a ha).mono hk, T.ne, T.cl, T.srt, T.jn, T.ja, T.el, T.ed, T.ee, T.eo, T.fa⟩

/-- The last attempt turns, the others stay. -/
theorem srt_turn {l0 : List AttD} {q q' : AttD} (h : (l0 ++ [q]).Pairwise Bef) (e1 : q'.start = q.start) (e2 : q'.job = q.job) : (l0 ++ [q']).Pairwise Bef := by
  rw [List.pairwise_append] at h ⊢
  refine ⟨h.1, List.pairwise_singleton _ _, fun a ha b hb => ?_⟩
  rw [List.mem_singleton.1 hb]
  have := h.2.2 a ha q (List.mem_singleton.2 rfl)
  unfold Bef at this ⊢
  rw [e1, e2]
  exact this

/-- Of an attempt that goes on: its last entry is another one. -/
theorem ti_turn {R : Rn} {k : Nat} {t : Int} {h h' : Th} {q' : AttD} {l0 : List AttD} {q : AttD} (T : TI R k t h) (E : h.list.map er = l0 ++ [q]) (hfin : q.fin = 0) (hfate : q.fate = 0) (hjob : q.job = (h.job : Int)) (hold : ∀ a ∈ l0, a.fin ≠ 0)
    (E' : h'.list.map er = l0 ++ [q']) (O : Opn h = true) (O' : Opn h' = true) (J : h'.job = h.job) (N : h'.ends = h.ends) (A : AttT R (k + 1) t q') (f1 : q'.fin = 0) (f2 : q'.fate = 0) (f3 : q'.job = q.job) (f4 : q'.start = q.start) (P : Ph h' q'.stamp) : TI R (k + 1) t h' := by
  have ni : h.st ≠ .idle := fun e => by simp [Opn, e] at O
  have ni' : h'.st ≠ .idle := fun e => by simp [Opn, e] at O'
  have in0 : ∀ {a}, a ∈ l0 → a ∈ h.list.map er := fun ha => by rw [E]; exact List.mem_append_left _ ha
  have hs := T.srt
  rw [E] at hs
  refine ⟨fun a ha => ?_, fun _ => ⟨l0, q', E', f1, f2, by rw [f3, hjob, J], hold, P⟩, (fun o => by rw [O'] at o; cases o), ?_, fun _ => by rw [J]; exact T.jn ni, fun _ a ha => ?_, by rw [N]; exact T.el, fun j j1 j2 => ?_, fun j hj => ?_, fun j hj => ?_, fun a ha j e g1 g2 => ?_⟩
  · rw [E'] at ha
    rcases List.mem_append.1 ha with ha | ha
    · exact (T.all a (in0 ha)).mono (by omega)
    · rw [List.mem_singleton.1 ha]; exact A
  · rw [E']; exact srt_turn hs f4 f3
  · rw [E'] at ha
    rw [J]
    rcases List.mem_append.1 ha with ha | ha
    · exact T.ja ni a (in0 ha)
    · rw [List.mem_singleton.1 ha, f3, hjob]
      exact ⟨Int.le_refl _, fun _ g => absurd f2 g⟩
  · unfold endOf
    rw [N, J]
    exact (T.ed j j1 j2).imp id (fun x => ⟨ni', x.2⟩)
  · unfold endOf at hj ⊢
    rw [N] at hj ⊢
    obtain ⟨a, ha, x⟩ := T.ee j hj
    refine ⟨a, ?_, x⟩
    rw [E] at ha
    rw [E']
    rcases List.mem_append.1 ha with ha | ha
    · exact List.mem_append_left _ ha
    · rw [List.mem_singleton.1 ha, hfate] at x
      have := x.2.2.1
      omega
  · unfold endOf at hj ⊢
    rw [N] at hj ⊢
    exact T.eo j hj
  · rw [E'] at ha
    unfold endOf
    rw [N]
    rcases List.mem_append.1 ha with ha | ha
    · exact T.fa a (in0 ha) j e g1 g2
    · rw [List.mem_singleton.1 ha, f2] at g1
      omega

theorem ti_step {R : Rn} (O : R.Ok) {k : Nat} {t : Int} (t0 : 0 ≤ t) (t1 : t < R.c.t) (T : TI R k t ((R.g k).th t)) : TI R (k + 1) t ((R.g (k + 1)).th t) := by
  obtain ⟨_, _, ⟨s1, s2⟩, _, _, _, ⟨f1, f2⟩⟩ := cfgB_true O.c
  by_cases hp : (R.pk k).thread = t
  · rw [R.at k hp t0 t1]
    have G : ThOk (R.K t) k ((R.g k).th t) := (gat_ok O.c O.w O.m R.jobs R.ps k).th t t0 t1
    have S : SI (R.K t) (R.gh k) (R.g k).m ((R.g k).th t) := (pi_at O.c O.w O.m R.jobs R.ps k).th t t0 t1
    have att : ∀ q ∈ ((R.g k).th t).list, AttOk (R.K t) (R.gh k) ((R.g k).m 0) q := att_at O.c O.w O.m R.jobs R.ps k t t0 t1
    have outE : R.out k t = hOut (R.K t) ((R.g k).th t) := rfl
    have L := leff_next (K := R.K t) (by show 0 ≤ R.c.f; omega) G ⟨(accBy (R.g k).m (R.out k t)).seen, (R.pk k).draw, (k : Int) + 1⟩
    have attE : ∀ a ∈ ((R.g k).th t).list.map er, a.valid ≤ R.clk k ∧ a.stamp ≤ R.clk k := fun a ha => by
      obtain ⟨b, hb, e⟩ := er_mem ha
      have A := att b hb
      have c0 : 0 ≤ (R.g k).m 0 := by
        have := A.va
        rcases A.snd with x | x
        · exact Int.le_trans this x.2.1
        · have h1 := x.1
          have h2 : b.stamp ≤ (R.g k).m 0 := x.2.1
          omega
      rw [e]
      show b.valid ≤ (R.g k).m 0 ∧ b.stamp ≤ (R.g k).m 0
      rcases A.snd with x | x
      · exact ⟨x.2.1, by rw [x.1]; exact c0⟩
      · exact ⟨by have h1 := x.1; have h2 : b.stamp ≤ (R.g k).m 0 := x.2.1; omega, x.2.1⟩
    generalize hh : (R.g k).th t = h at *
    generalize hv : (⟨(accBy (R.g k).m (R.out k t)).seen, (R.pk k).draw, (k : Int) + 1⟩ : AnsD) = v at *
    have hnum : v.num = (k : Int) + 1 := by rw [← hv]
    have hseen : (hOut (R.K t) h).kind ≠ 0 → v.seen = (R.g k).m (hOut (R.K t) h).cell := fun h0 => by
      rw [← hv, outE]
      exact acc_seen h0
    generalize hNext (R.K t) h v = h' at *
    have kk : (((k : Int) + 1) - 1).toNat = k := by omega
    cases L with
    | note E O' J N P Z =>
      refine ⟨fun a ha => ?_, fun o => ?_, fun o => ?_, ?_, fun o => ?_, fun o a ha => ?_, by rw [N]; exact T.el, fun j j1 j2 => ?_, fun j hj => ?_, fun j hj => ?_, fun a ha j e g1 g2 => ?_⟩
      · rw [E] at ha; exact (T.all a ha).mono (by omega)
      · rw [O'] at o
        obtain ⟨l0, q, e, x⟩ := T.ne o
        exact ⟨l0, q, E.trans e, x.1, x.2.1, by rw [J]; exact x.2.2.1, x.2.2.2.1, P _ x.2.2.2.2⟩
      · rw [O'] at o; rw [E]; exact T.cl o
      · rw [E]; exact T.srt
      · rw [J]; exact T.jn (fun e => o (Z.1 e))
      · rw [E] at ha; rw [J]; exact T.ja (fun e => o (Z.1 e)) a ha
      · unfold endOf; rw [N, J]; exact (T.ed j j1 j2).imp id (fun x => ⟨fun e => x.1 (Z.2 e), x.2⟩)
      · unfold endOf at hj ⊢; rw [N] at hj ⊢; rw [E]; exact T.ee j hj
      · unfold endOf at hj ⊢; rw [N] at hj ⊢; exact T.eo j hj
      · rw [E] at ha; unfold endOf; rw [N]; exact T.fa a ha j e g1 g2
    | new e E O' J N P =>
      have o : Opn h = false := by simp [Opn, e]
      have ni : h.st ≠ .idle := fun f => by rw [e] at f; cases f
      have ni' : h'.st ≠ .idle := fun f => by simp [Opn, f] at O'
      obtain ⟨j1, j2⟩ := T.jn ni
      have hout : hOut (R.K t) h = ⟨1, 0, 0, 0⟩ := by unfold hOut; rw [e]
      have hs : v.seen = R.clk k := by
        have := hseen (by rw [hout]; simp)
        rw [hout] at this
        exact this
      have A : AttT R (k + 1) t ⟨(R.K t).me, (h.job : Int), v.num, 0, v.seen, 0, 0, []⟩ := by
        refine ⟨rfl, ⟨h.job, rfl, j1, j2⟩, ?_, ?_, ?_, ?_, ?_, Or.inl ⟨rfl, rfl⟩, fun f => absurd rfl f⟩
        · show 1 ≤ v.num; omega
        · show v.num ≤ ((k + 1 : Nat) : Int); omega
        · show (R.pk (v.num - 1).toNat).thread = t
          rw [hnum, kk]; exact hp
        · show R.out (v.num - 1).toNat t = _
          rw [hnum, kk, outE]; exact hout
        · show R.clk (v.num - 1).toNat ≤ v.seen
          rw [hnum, kk, hs]; exact Int.le_refl _
      have fates : ∀ a ∈ h.list.map er, a.fin ≠ 0 ∧ a.fin ≤ k ∧ a.fate ≠ 0 := fun a ha => by
        have c1 := T.cl o a ha
        rcases (T.all a ha).en with x | x
        · exact absurd x.1 c1
        · exact ⟨c1, x.2.1, by have := x.2.2.1.1; omega⟩
      refine ⟨fun a ha => ?_, fun _ => ⟨_, _, E, rfl, rfl, by rw [J], fun a ha => (fates a ha).1, P⟩, (fun o' => by rw [O'] at o'; cases o'), ?_, fun _ => by rw [J]; exact ⟨j1, j2⟩, fun _ a ha => ?_, by rw [N]; exact T.el, fun j i1 i2 => ?_, fun j hj => ?_, fun j hj => ?_, fun a ha j ej g1 g2 => ?_⟩
      · rw [E] at ha
        rcases List.mem_append.1 ha with ha | ha
        · exact (T.all a ha).mono (by omega)
        · rw [List.mem_singleton.1 ha]; exact A
      · rw [E, List.pairwise_append]
        refine ⟨T.srt, List.pairwise_singleton _ _, fun a ha b hb => ?_⟩
        rw [List.mem_singleton.1 hb]
        have c1 := fates a ha
        have c2 := T.ja ni a ha
        exact ⟨c1.1, by show a.fin < v.num; omega, c2.1, fun g => c2.2 g c1.2.2⟩
      · rw [E] at ha
        rw [J]
        rcases List.mem_append.1 ha with ha | ha
        · exact T.ja ni a ha
        · rw [List.mem_singleton.1 ha]
          exact ⟨Int.le_refl _, fun _ g => absurd rfl g⟩
      · unfold endOf; rw [N, J]; exact (T.ed j i1 i2).imp id (fun x => ⟨ni', x.2⟩)
      · unfold endOf at hj ⊢
        rw [N] at hj ⊢
        obtain ⟨a, ha, x⟩ := T.ee j hj
        exact ⟨a, by rw [E]; exact List.mem_append_left _ ha, x⟩
      · unfold endOf at hj ⊢; rw [N] at hj ⊢; exact T.eo j hj
      · rw [E] at ha
        unfold endOf
        rw [N]
        rcases List.mem_append.1 ha with ha | ha
        · exact T.fa a ha j ej g1 g2
        · rw [List.mem_singleton.1 ha] at g1
          exact absurd g1 (by show ¬ (1 : Int) ≤ 0; omega)
    | valid c e E O' J N P =>
      have o : Opn h = true := by
        rcases e with ⟨x, e, _⟩ | ⟨x, r, e⟩
        · simp [Opn, e]
        · simp [Opn, e]
      obtain ⟨l0, q, E0, q1, q2, q3, q4, q5⟩ := T.ne o
      have hcur : er (cur h.list) = q := by
        by_cases hl : h.list = []
        · rw [hl] at E0; simp at E0
        · obtain ⟨m0, z, hm⟩ := snoc_of hl
          rw [hm, cur_snoc]
          rw [hm, List.map_append] at E0
          have := List.append_inj_right' E0 rfl
          simpa using this
      have hval : q.valid ≤ c := by
        have e1 : (cur h.list).valid = q.valid := by rw [← hcur]; rfl
        rw [← e1]
        unfold SI at S
        rcases e with ⟨x, e, ec⟩ | ⟨x, r, e⟩
        · have hout : hOut (R.K t) h = ⟨1, 0, 0, 0⟩ := by unfold hOut; rw [e]
          have hs : v.seen = (R.g k).m 0 := by
            have := hseen (by rw [hout]; simp)
            rw [hout] at this
            exact this
          rw [e] at S
          rw [ec, hs]
          cases x with
          | rd i a w => rw [S.1.va]; exact S.1.ok.2.1
          | wr i a => rw [S.1.va]; exact S.1.ok.2.1
        · rw [e] at S
          cases x with
          | rd i a w => rw [S.1.1.va]; exact S.2.1
          | wr i a => rw [S.1.1.va]; exact S.2.1
      have E' : h'.list.map er = l0 ++ [{ q with valid := c }] := by rw [E, er_mod (f := fun t => { t with valid := c }) (fun _ => rfl), E0, modLast_snoc]
      have A := T.all q (by rw [E0]; simp)
      have hv' := A.vl
      have hen : q.fin = 0 ∧ q.fate = 0 := ⟨q1, q2⟩
      have sp0 : q.stamp = 0 := by
        unfold Ph at q5
        rcases e with ⟨x, e, _⟩ | ⟨x, r, e⟩
        · rw [e] at q5; exact q5
        · rw [e] at q5; exact q5
      exact ti_turn T E0 q1 q2 q3 q4 E' o O' J N ⟨A.thr, A.jb, A.s1, by have := A.s2; show q.start ≤ _; omega, A.pk, A.ac, Int.le_trans hv' hval, Or.inl hen, A.sp⟩ q1 q2 rfl rfl (by show Ph h' q.stamp; rw [sp0]; exact P)
    | stamp c e E O' J N P =>
      have o : Opn h = true := by simp [Opn, e]
      obtain ⟨l0, q, E0, q1, q2, q3, q4, q5⟩ := T.ne o
      have E' : h'.list.map er = l0 ++ [{ q with stamp := c + 1 }] := by rw [E, er_mod (f := fun t => { t with stamp := c + 1 }) (fun _ => rfl), E0, modLast_snoc]
      have A := T.all q (by rw [E0]; simp)
      exact ti_turn T E0 q1 q2 q3 q4 E' o O' J N ⟨A.thr, A.jb, A.s1, by have := A.s2; show q.start ≤ _; omega, A.pk, A.ac, A.vl, Or.inl ⟨q1, q2⟩, fun _ => Or.inl q2⟩ q1 q2 rfl rfl P
    | failed e E O' J N Z =>
      have o : Opn h = true := by simp [Opn, e]
      have ni : h.st ≠ .idle := fun f => by rw [e] at f; cases f
      obtain ⟨l0, q, E0, q1, q2, q3, q4, q5⟩ := T.ne o
      have hq : q ∈ h.list.map er := by rw [E0]; simp
      have E' : h'.list.map er = l0 ++ [{ q with fin := v.num, fate := 5 }] := by rw [E, er_mod (f := fun t => { t with fin := v.num, fate := 5 }) (fun _ => rfl), E0, modLast_snoc]
      have A := T.all q hq
      have hout : hOut (R.K t) h = ⟨2, hSta (R.K t) t, 0, 8 * h.rank⟩ := by unfold hOut; rw [e]; rfl
      have in0 : ∀ {a}, a ∈ l0 → a ∈ h.list.map er := fun ha => by rw [E0]; exact List.mem_append_left _ ha
      have sp0 : q.stamp = 0 := by unfold Ph at q5; rw [e] at q5; exact q5
      have A' : AttT R (k + 1) t { q with fin := v.num, fate := 5 } := by
        have b := attE q hq
        have s2' := A.s2
        refine ⟨A.thr, A.jb, A.s1, by show q.start ≤ ((k + 1 : Nat) : Int); omega, A.pk, A.ac, A.vl, Or.inr ⟨?_, ?_, ⟨by show (1 : Int) ≤ 5; omega, by show (5 : Int) ≤ 5; omega⟩, ?_, ?_, ?_, ?_, ?_⟩, fun f => absurd sp0 f⟩
        · show q.start < v.num; omega
        · show v.num ≤ ((k + 1 : Nat) : Int); omega
        · show (R.pk (v.num - 1).toNat).thread = t; rw [hnum, kk]; exact hp
        · show (R.out (v.num - 1).toNat t).kind = 2; rw [hnum, kk, outE, hout]
        · show (R.out (v.num - 1).toNat t).cell = _; rw [hnum, kk, outE, hout]
        · show q.valid ≤ R.clk (v.num - 1).toNat; rw [hnum, kk]; exact b.1
        · show q.stamp ≤ R.clk (v.num - 1).toNat; rw [hnum, kk]; exact b.2
      have hs := T.srt
      rw [E0] at hs
      refine ⟨fun a ha => ?_, (fun o' => by rw [O'] at o'; cases o'), fun _ a ha => ?_, ?_, fun _ => by rw [J]; exact T.jn ni, fun _ a ha => ?_, by rw [N]; exact T.el, fun j i1 i2 => ?_, fun j hj => ?_, fun j hj => ?_, fun a ha j ej g1 g2 => ?_⟩
      · rw [E'] at ha
        rcases List.mem_append.1 ha with ha | ha
        · exact (T.all a (in0 ha)).mono (by omega)
        · rw [List.mem_singleton.1 ha]; exact A'
      · rw [E'] at ha
        rcases List.mem_append.1 ha with ha | ha
        · exact q4 a ha
        · rw [List.mem_singleton.1 ha]; show v.num ≠ 0; omega
      · rw [E']; exact srt_turn hs rfl rfl
      · rw [E'] at ha
        rw [J]
        rcases List.mem_append.1 ha with ha | ha
        · exact T.ja ni a (in0 ha)
        · rw [List.mem_singleton.1 ha]
          exact ⟨by show q.job ≤ _; omega, fun f => absurd rfl f⟩
      · unfold endOf; rw [N, J]; exact (T.ed j i1 i2).imp id (fun x => ⟨Z, x.2⟩)
      · unfold endOf at hj ⊢
        rw [N] at hj ⊢
        obtain ⟨a, ha, x⟩ := T.ee j hj
        refine ⟨a, ?_, x⟩
        rw [E0] at ha
        rw [E']
        rcases List.mem_append.1 ha with ha | ha
        · exact List.mem_append_left _ ha
        · rw [List.mem_singleton.1 ha, q2] at x
          have := x.2.2.1
          omega
      · unfold endOf at hj ⊢; rw [N] at hj ⊢; exact T.eo j hj
      · rw [E'] at ha
        unfold endOf
        rw [N]
        rcases List.mem_append.1 ha with ha | ha
        · exact T.fa a (in0 ha) j ej g1 g2
        · rw [List.mem_singleton.1 ha] at g2
          exact absurd g2 (by show ¬ (5 : Int) ≤ 4; omega)
    | fin f e E =>
      have o : Opn h = true := by simp [Opn, e]
      have ni : h.st ≠ .idle := fun f => by rw [e] at f; cases f
      obtain ⟨j1, j2⟩ := T.jn ni
      obtain ⟨l0, q, E0, q1, q2, q3, q4, q5⟩ := T.ne o
      have hq : q ∈ h.list.map er := by rw [E0]; simp
      have A := T.all q hq
      have hf : (1 ≤ f ∧ f ≤ 4) ∧ (q.stamp = 0 ∨ f = 1) := by unfold Ph at q5; rw [e] at q5; exact q5
      have hout : hOut (R.K t) h = ⟨2, hSta (R.K t) t, 0, 0⟩ := by unfold hOut; rw [e]; rfl
      have in0 : ∀ {a}, a ∈ l0 → a ∈ h.list.map er := fun ha => by rw [E0]; exact List.mem_append_left _ ha
      have A' : AttT R (k + 1) t { q with fin := v.num, fate := f } := by
        have b := attE q hq
        have s2' := A.s2
        refine ⟨A.thr, A.jb, A.s1, by show q.start ≤ ((k + 1 : Nat) : Int); omega, A.pk, A.ac, A.vl, Or.inr ⟨?_, ?_, ⟨by show 1 ≤ f; omega, by show f ≤ 5; omega⟩, ?_, ?_, ?_, ?_, ?_⟩, fun g => Or.inr (hf.2.elim (fun z => absurd z g) id)⟩
        · show q.start < v.num; omega
        · show v.num ≤ ((k + 1 : Nat) : Int); omega
        · show (R.pk (v.num - 1).toNat).thread = t; rw [hnum, kk]; exact hp
        · show (R.out (v.num - 1).toNat t).kind = 2; rw [hnum, kk, outE, hout]
        · show (R.out (v.num - 1).toNat t).cell = _; rw [hnum, kk, outE, hout]
        · show q.valid ≤ R.clk (v.num - 1).toNat; rw [hnum, kk]; exact b.1
        · show q.stamp ≤ R.clk (v.num - 1).toNat; rw [hnum, kk]; exact b.2
      have hs := T.srt
      rw [E0] at hs
      have El : h'.list.map er = l0 ++ [{ q with fin := v.num, fate := f }] := by
        have e1 : h'.list = modLast h.list fun t => { t with fin := v.num, fate := f } := by
          rw [E]; unfold hTo; split <;> rfl
        rw [e1, er_mod (f := fun t => { t with fin := v.num, fate := f }) (fun _ => rfl), E0, modLast_snoc]
      have En : h'.ends = h.ends.set h.job ⟨f, regOf h.x 0, regOf h.x 1, regOf h.x 2, regOf h.x 3⟩ := by
        rw [E]; unfold hTo; split <;> rfl
      have endAt : endOf h' h.job = ⟨f, regOf h.x 0, regOf h.x 1, regOf h.x 2, regOf h.x 3⟩ := by
        unfold endOf
        rw [En]
        have : h.job < h.ends.length := by rw [T.el]; exact j1
        simp [List.getD, this]
      have endOff : ∀ j, j ≠ h.job → endOf h' j = endOf h j := fun j hj => by
        unfold endOf
        rw [En]
        simp only [List.getD]
        rw [List.getElem?_set_ne (fun e => hj e.symm)]
      have O' : Opn h' = false := by rw [E]; unfold hTo; split <;> rfl
      have kJ : (R.K t).jobs = R.jobs := rfl
      have kM : (R.K t).me = t := rfl
      have next := to_job (R.K t) (h.job + 1) { h.ended v.num f with ends := h.ends.set h.job ⟨f, regOf h.x 0, regOf h.x 1, regOf h.x 2, regOf h.x 3⟩ }
      rw [← E, kJ, kM] at next
      refine ⟨fun a ha => ?_, (fun o' => by rw [O'] at o'; cases o'), fun _ a ha => ?_, ?_, fun z => ?_, fun z a ha => ?_, by rw [En]; simp [T.el], fun j i1 i2 => ?_, fun j hj => ?_, fun j hj => ?_, fun a ha j ej g1 g2 => ?_⟩
      · rw [El] at ha
        rcases List.mem_append.1 ha with ha | ha
        · exact (T.all a (in0 ha)).mono (by omega)
        · rw [List.mem_singleton.1 ha]; exact A'
      · rw [El] at ha
        rcases List.mem_append.1 ha with ha | ha
        · exact q4 a ha
        · rw [List.mem_singleton.1 ha]; show v.num ≠ 0; omega
      · rw [El]; exact srt_turn hs rfl rfl
      · rcases next with ⟨k2, a1, a2, a3, a4, a5⟩ | ⟨a4, a5⟩
        · rw [a5]; exact ⟨a2, a3⟩
        · exact absurd (by rw [a5]) z
      · rcases next with ⟨k2, a1, a2, a3, a4, a5⟩ | ⟨a4, a5⟩
        · have hj' : h'.job = k2 := by rw [a5]
          rw [hj']
          rw [El] at ha
          have : a.job ≤ (h.job : Int) := by
            rcases List.mem_append.1 ha with ha | ha
            · exact (T.ja ni a (in0 ha)).1
            · rw [List.mem_singleton.1 ha]; show q.job ≤ _; omega
          exact ⟨by omega, fun _ _ => by omega⟩
        · exact absurd (by rw [a5]) z
      · by_cases hj : j = h.job
        · rw [hj, endAt]; exact Or.inl (by show f ≠ 0; omega)
        · rw [endOff j hj]
          rcases T.ed j i1 i2 with x | x
          · exact Or.inl x
          · rcases next with ⟨k2, a1, a2, a3, a4, a5⟩ | ⟨a4, a5⟩
            · refine Or.inr ⟨by rw [a5]; exact fun f => (by cases f), ?_⟩
              have hj' : h'.job = k2 := by rw [a5]
              rw [hj']
              by_cases g : k2 ≤ j
              · exact g
              · exact absurd i2 (a4 j (by omega) (by omega))
            · exact absurd i2 (a4 j (by omega) i1)
      · by_cases hjj : j = h.job
        · refine ⟨{ q with fin := v.num, fate := f }, by rw [El]; simp, by show q.job = _; rw [q3, hjj], by rw [hjj, endAt], hf.1.1, hf.1.2⟩
        · rw [endOff j hjj] at hj ⊢
          obtain ⟨a, ha, x⟩ := T.ee j hj
          refine ⟨a, ?_, x⟩
          rw [E0] at ha
          rw [El]
          rcases List.mem_append.1 ha with ha | ha
          · exact List.mem_append_left _ ha
          · rw [List.mem_singleton.1 ha, q2] at x
            have := x.2.2.1
            omega
      · by_cases hjj : j = h.job
        · rw [hjj, endAt] at hj
          have : f = 0 := hj
          omega
        · rw [endOff j hjj] at hj ⊢
          exact T.eo j hj
      · rw [El] at ha
        rcases List.mem_append.1 ha with ha | ha
        · have c1 := (T.ja ni a (in0 ha)).2 (by omega) (by omega)
          rw [endOff j (by omega)]
          exact T.fa a (in0 ha) j ej g1 g2
        · rw [List.mem_singleton.1 ha] at ej ⊢
          have : (h.job : Int) = (j : Int) := by rw [← q3]; exact ej
          have hjj : j = h.job := by omega
          rw [hjj, endAt]
  · rw [R.off k hp]
    exact T.mono (by omega)

theorem ti_at {R : Rn} (O : R.Ok) (t : Int) (t0 : 0 ≤ t) (t1 : t < R.c.t) : ∀ k : Nat, TI R k t ((R.g k).th t)
  | 0 => ti_start R t
  | k + 1 => ti_step O t0 t1 (ti_at O t t0 t1 k)

end Go.Proofs.YtejadojilncbjabGreat

namespace Go.Proofs.YtejadojilncbjabGreat
set_option linter.unusedVariables false

/-! The list of attempts, part 4: each stamp has its attempt, and each STORE into a status. -/

theorem Rn.okT {R : Rn} (O : R.Ok) (k : Nat) (t : Int) (t0 : 0 ≤ t) (t1 : t < R.c.t) : ThOk (R.K t) k ((R.g k).th t) := (gat_ok O.c O.w O.m R.jobs R.ps k).th t t0 t1
theorem Rn.okL {R : Rn} (O : R.Ok) (k : Nat) : LI R.c R.jobs (R.g k).m (R.g k).th := li_at O.c O.w O.m R.jobs R.ps k
def Rn.l (R : Rn) (k : Nat) (t : Int) : List AttD := ((R.g k).th t).list.map er

end Go.Proofs.YtejadojilncbjabGreat

namespace Go.Proofs.YtejadojilncbjabGreat
set_option linter.unusedVariables false

/-! One order of all attempts, part 7: the history, in the order of places. -/

def Rn.all (R : Rn) (k : Nat) : List AttD := (List.range R.c.t.toNat).flatMap fun t : Nat => ((R.g k).th (t : Int)).list
/-- The history behind all picks. -/
def Rn.hist (R : Rn) : List AttD := (List.range R.ps.length).flatMap fun i : Nat => (R.all R.ps.length).filter fun a => decide (a.start = (i : Int) + 1)

theorem AttT.of_er {R : Rn} {k : Nat} {t : Int} {a : AttD} (A : AttT R k t (er a)) : AttT R k t a := ⟨A.thr, A.jb, A.s1, A.s2, A.pk, A.ac, A.vl, A.en, A.sp⟩
theorem att_t {R : Rn} (O : R.Ok) (k : Nat) (t : Int) (t0 : 0 ≤ t) (t1 : t < R.c.t) {a : AttD} (ha : a ∈ ((R.g k).th t).list) : AttT R k t a :=
  ((ti_at O t t0 t1 k).all (er a) (List.mem_map.2 ⟨a, ha, rfl⟩)).of_er

theorem all_mem {R : Rn} {k : Nat} {a : AttD} : a ∈ R.all k ↔ ∃ t, 0 ≤ t ∧ t < R.c.t ∧ a ∈ ((R.g k).th t).list := by
  unfold Rn.all
  rw [List.mem_flatMap]
  constructor
  · rintro ⟨t, ht, ha⟩
    rw [List.mem_range] at ht
    exact ⟨(t : Int), by omega, by omega, ha⟩
  · rintro ⟨t, t0, t1, ha⟩
    refine ⟨t.toNat, by rw [List.mem_range]; omega, ?_⟩
    rw [show ((t.toNat : Nat) : Int) = t from by omega]
    exact ha

theorem hist_mem {R : Rn} (O : R.Ok) {a : AttD} : a ∈ R.hist ↔ ∃ t, 0 ≤ t ∧ t < R.c.t ∧ a ∈ ((R.g R.ps.length).th t).list := by
  unfold Rn.hist
  rw [List.mem_flatMap]
  constructor
  · rintro ⟨i, _, ha⟩
    exact all_mem.1 (List.mem_filter.1 ha).1
  · rintro ⟨t, t0, t1, ha⟩
    have A := att_t O _ t t0 t1 ha
    have h1 := A.s1
    have h2 := A.s2
    exact ⟨(a.start - 1).toNat, by rw [List.mem_range]; omega, List.mem_filter.2 ⟨all_mem.2 ⟨t, t0, t1, ha⟩, by simp only [decide_eq_true_eq]; omega⟩⟩

theorem bef_start {R : Rn} {k : Nat} {t : Int} {a b : AttD} (A : AttT R k t a) (B : Bef a b) : a.start < b.start := by
  rcases A.en with x | x
  · exact absurd x.1 B.1
  · have h1 := x.1
    have h2 := B.2.1
    omega

/-- In a thread's list each attempt begins behind the one ahead of it. -/
theorem list_srt {R : Rn} (O : R.Ok) (k : Nat) (t : Int) (t0 : 0 ≤ t) (t1 : t < R.c.t) : ((R.g k).th t).list.Pairwise fun a b => a.start < b.start := by
  have T := ti_at O t t0 t1 k
  have h := T.srt
  rw [List.pairwise_map] at h
  refine h.imp_of_mem fun {a b} ha hb x => ?_
  have A : AttT R k t (er a) := T.all _ (List.mem_map.2 ⟨a, ha, rfl⟩)
  exact (show (er a).start < (er b).start from bef_start A x)

theorem all_srt {R : Rn} (O : R.Ok) (k : Nat) : (R.all k).Pairwise fun a b => a.start ≠ b.start := by
  unfold Rn.all
  rw [List.pairwise_flatMap]
  constructor
  · intro t ht
    rw [List.mem_range] at ht
    exact (list_srt O k (t : Int) (by omega) (by omega)).imp (fun h => by omega)
  · have hl : ∀ n, n ≤ R.c.t.toNat → (List.range n).Pairwise fun t u : Nat => ∀ x ∈ ((R.g k).th (t : Int)).list, ∀ y ∈ ((R.g k).th (u : Int)).list, x.start ≠ y.start := by
      intro n
      induction n with
      | zero => intro _; exact List.Pairwise.nil
      | succ n ih =>
        intro hn
        rw [List.range_succ, List.pairwise_append]
        refine ⟨ih (by omega), List.pairwise_singleton _ _, fun t ht u hu x hx y hy e => ?_⟩
        rw [List.mem_range] at ht
        rw [List.mem_singleton] at hu
        have A := att_t O k (t : Int) (by omega) (by omega) hx
        have B := att_t O k (u : Int) (by omega) (by omega) hy
        have h1 := A.pk
        have h2 := B.pk
        rw [e, h2] at h1
        omega
    exact hl _ (Nat.le_refl _)

/-- The history is in the order of Starts. -/
theorem hist_srt {R : Rn} (O : R.Ok) : R.hist.Pairwise fun a b => a.start < b.start := by
  unfold Rn.hist
  rw [List.pairwise_flatMap]
  constructor
  · intro i hi
    have h := (all_srt O R.ps.length).filter (fun a => decide (a.start = (i : Int) + 1))
    refine h.imp_of_mem fun {a b} ha hb x => ?_
    have h1 := (List.mem_filter.1 ha).2
    have h2 := (List.mem_filter.1 hb).2
    simp only [decide_eq_true_eq] at h1 h2
    omega
  · refine List.Pairwise.imp (R := fun i j : Nat => i < j) (fun {i j} hij x hx y hy => ?_) List.pairwise_lt_range
    have h1 := (List.mem_filter.1 hx).2
    have h2 := (List.mem_filter.1 hy).2
    simp only [decide_eq_true_eq] at h1 h2
    omega

/-! Places. -/

def plA (a : AttD) : Int := if 0 < a.stamp then a.stamp else a.valid
def plB (a : AttD) : Int := if 0 < a.stamp then 0 else 1
/-- Has a the lesser place? -/
def Sooner (a b : AttD) : Prop := plA a < plA b ∨ (plA a = plA b ∧ plB a < plB b)
instance (a b : AttD) : Decidable (Sooner a b) := by unfold Sooner; infer_instance
end Go.Proofs.YtejadojilncbjabGreat

namespace Go.Proofs.YtejadojilncbjabGreat
set_option linter.unusedVariables false

/-! What was is not changed by what is picked later. -/

/-! What each job's result is. -/

/-- A thread's attempts of one job: one that did not fail is the last one. -/
theorem job_last {R : Rn} (O : R.Ok) (k : Nat) (t : Int) (t0 : 0 ≤ t) (t1 : t < R.c.t) {a b : AttD} (ha : a ∈ R.l k t) (hb : b ∈ R.l k t) (hj : a.job = b.job) (hs : a.start < b.start) : a.fate = 5 ∧ a.fin ≠ 0 ∧ a.fin < b.start := by
  have T := ti_at O t t0 t1 k
  have key : ∀ l : List AttD, l.Pairwise Bef → (∀ x ∈ l, AttT R k t x) → a ∈ l → b ∈ l → Bef a b := by
    intro l
    induction l with
    | nil => intro _ _ h; cases h
    | cons x r ih =>
      intro hp hall h1 h2
      have hx := List.pairwise_cons.1 hp
      rcases List.mem_cons.1 h1 with e1 | e1
      · rcases List.mem_cons.1 h2 with e2 | e2
        · rw [e1, e2] at hs; omega
        · rw [e1]; exact hx.1 b e2
      · rcases List.mem_cons.1 h2 with e2 | e2
        · have := bef_start (hall a (List.mem_cons_of_mem _ e1) |> fun _ => hall x List.mem_cons_self) (hx.1 a e1)
          rw [e2] at hs
          omega
        · exact ih hx.2 (fun y hy => hall y (List.mem_cons_of_mem _ hy)) e1 e2
  have B := key _ T.srt T.all ha hb
  refine ⟨?_, B.1, B.2.1⟩
  by_cases h : a.fate = 5
  · exact h
  · have := B.2.2.2 h
    omega

/-- The attempts of a thread, by their order. -/
theorem bef_of {R : Rn} (O : R.Ok) (k : Nat) (t : Int) (t0 : 0 ≤ t) (t1 : t < R.c.t) {a b : AttD} (ha : a ∈ R.l k t) (hb : b ∈ R.l k t) (hs : a.start < b.start) : Bef a b := by
  have T := ti_at O t t0 t1 k
  have key : ∀ l : List AttD, l.Pairwise Bef → (∀ x ∈ l, AttT R k t x) → a ∈ l → b ∈ l → Bef a b := by
    intro l
    induction l with
    | nil => intro _ _ h; cases h
    | cons x r ih =>
      intro hp hall h1 h2
      have hx := List.pairwise_cons.1 hp
      rcases List.mem_cons.1 h1 with e1 | e1
      · rcases List.mem_cons.1 h2 with e2 | e2
        · rw [e1, e2] at hs; omega
        · rw [e1]; exact hx.1 b e2
      · rcases List.mem_cons.1 h2 with e2 | e2
        · have := bef_start (hall x List.mem_cons_self) (hx.1 a e1)
          rw [e2] at hs
          omega
        · exact ih hx.2 (fun y hy => hall y (List.mem_cons_of_mem _ hy)) e1 e2
  exact key _ T.srt T.all ha hb

/-- Ahead of a job that is attempted all the thread's jobs are finished. -/
theorem job_ahead {R : Rn} (O : R.Ok) (k : Nat) (t : Int) (t0 : 0 ≤ t) (t1 : t < R.c.t) {a : AttD} (ha : a ∈ R.l k t) (j : Nat) (hj : (j : Int) < a.job) (ht : (R.jobs.getD j (0, [])).1 = t) (hl : j < R.jobs.length) : (endOf ((R.g k).th t) j).fate ≠ 0 := by
  have T := ti_at O t t0 t1 k
  rcases T.ed j hl ht with x | x
  · exact x
  · have := (T.ja x.1 a ha).1
    omega

end Go.Proofs.YtejadojilncbjabGreat
