import Derived.Test.YtejadojilncbjabGreatD13
namespace Go.Proofs.YtejadojilncbjabGreat
set_option linter.unusedVariables false
theorem er_mem {l : List AttD} {a : AttD} (h : a ∈ l.map er) : ∃ b ∈ l, a = er b := by
 obtain ⟨b, hb, e⟩ := List.mem_map.1 h
 exact ⟨b, hb, e.symm⟩
theorem TI.mono {R : Rn} {k k' : Nat} {t : Int} {h : Th} (T : TI R k t h) (hk : k ≤ k') : TI R k' t h :=
 ⟨fun a ha => (T.all a ha).mono hk, T.ne, T.cl, T.srt, T.jn, T.ja, T.el, T.ed, T.ee, T.eo, T.fa⟩
theorem srt_turn {l0 : List AttD} {q q' : AttD} (h : (l0 ++ [q]).Pairwise Bef) (e1 : q'.start = q.start) (e2 : q'.job = q.job) : (l0 ++ [q']).Pairwise Bef := by
 rw [List.pairwise_append] at h ⊢
 refine ⟨h.1, List.pairwise_singleton _ _, fun a ha b hb => ?_⟩
 rw [List.mem_singleton.1 hb]
 have := h.2.2 a ha q (List.mem_singleton.2 rfl)
 unfold Bef at this ⊢
 rw [e1, e2]
 exact this
theorem ti_turn {R : Rn} {k : Nat} {t : Int} {h h' : Th} {q' : AttD} {l0 : List AttD} {q : AttD} (T : TI R k t h) (E : h.list.map er = l0 ++ [q]) (hfin : q.fin = 0) (hfate : q.fate = 0) (hjob : q.job = (h.job : Int)) (hold : ∀ a ∈ l0, a.fin ≠ 0)
  (E' : h'.list.map er = l0 ++ [q']) (O : Opn h = true) (O' : Opn h' = true) (J : h'.job = h.job) (N : h'.ends = h.ends) (A : AttT R (k + 1) t q') (f1 : q'.fin = 0) (f2 : q'.fate = 0) (f3 : q'.job = q.job) (f4 : q'.start = q.start) (P : Ph h' q'.stamp) : TI R (k + 1) t h' := by
 have ni : h.st ≠ .idle := fun e => by simp [Opn, e] at O
 have ni' : h'.st ≠ .idle := fun e => by simp [Opn, e] at O'
 have in0 : ∀ {a}, a ∈ l0 → a ∈ h.list.map er := fun ha => by rw [E]; exact List.mem_append_left _ ha
 have hs := T.srt
 rw [E] at hs
 refine ⟨fun a ha => ?_, fun _ => ⟨l0, q', E', f1, f2, by rw [f3, hjob, J], hold, P⟩, (fun o => by rw [O'] at o; cases o), ?_, fun _ => by rw [J]; exact T.jn ni, fun _ a ha => ?_, by rw [N]; exact T.el, fun j j1 j2 => ?_, fun j hj => ?_, fun j hj => ?_, fun a ha j e g1 g2 => ?_⟩
 ·rw [E'] at ha
  rcases List.mem_append.1 ha with ha | ha
  ·exact (T.all a (in0 ha)).mono (by omega)
  ·rw [List.mem_singleton.1 ha]; exact A
 ·rw [E']; exact srt_turn hs f4 f3
 ·rw [E'] at ha
  rw [J]
  rcases List.mem_append.1 ha with ha | ha
  ·exact T.ja ni a (in0 ha)
  ·rw [List.mem_singleton.1 ha, f3, hjob]
   exact ⟨Int.le_refl _, fun _ g => absurd f2 g⟩
 ·unfold endOf
  rw [N, J]
  exact (T.ed j j1 j2).imp id (fun x => ⟨ni', x.2⟩)
 ·unfold endOf at hj ⊢
  rw [N] at hj ⊢
  obtain ⟨a, ha, x⟩ := T.ee j hj
  refine ⟨a, ?_, x⟩
  rw [E] at ha
  rw [E']
  rcases List.mem_append.1 ha with ha | ha
  ·exact List.mem_append_left _ ha
  ·rw [List.mem_singleton.1 ha, hfate] at x
   have := x.2.2.1
   omega
 ·unfold endOf at hj ⊢
  rw [N] at hj ⊢
  exact T.eo j hj
 ·rw [E'] at ha
  unfold endOf
  rw [N]
  rcases List.mem_append.1 ha with ha | ha
  ·exact T.fa a (in0 ha) j e g1 g2
  ·rw [List.mem_singleton.1 ha, f2] at g1
   omega
theorem ti_step {R : Rn} (O : R.Ok) {k : Nat} {t : Int} (t0 : 0 ≤ t) (t1 : t < R.c.t) (T : TI R k t ((R.g k).th t)) : TI R (k + 1) t ((R.g (k + 1)).th t) := by
 obtain ⟨_, _, ⟨s1, s2⟩, _, _, _, ⟨f1, f2⟩⟩ := cfgB_true O.c
 by_cases hp : (R.pk k).thread = t
 ·rw [R.at k hp t0 t1]
  have G : ThOk (R.K t) k ((R.g k).th t) := (gat_ok O.c O.w O.m R.jobs R.ps k).th t t0 t1
  have S : SI (R.K t) (R.gh k) (R.g k).m ((R.g k).th t) := (pi_at O.c O.w O.m R.jobs R.ps k).th t t0 t1
  have att : ∀ q ∈ ((R.g k).th t).list, AttOk (R.K t) (R.gh k) ((R.g k).m 0) q := att_at O.c O.w O.m R.jobs R.ps k t t0 t1
  have outE : R.out k t = hOut (R.K t) ((R.g k).th t) := rfl
  have L := leff_next (K := R.K t) (by show 0 ≤ R.c.f; omega) G ⟨(accBy (R.g k).m (R.out k t)).seen, (R.pk k).draw, (k : Int) + 1⟩
  have attE : ∀ a ∈ ((R.g k).th t).list.map er, a.valid ≤ R.clk k ∧ a.stamp ≤ R.clk k := fun a ha => by
   obtain ⟨b, hb, e⟩ := er_mem ha
   have A := att b hb
   have c0 : 0 ≤ (R.g k).m 0 := by
    have := A.va
    rcases A.snd with x | x
    ·exact Int.le_trans this x.2.1
    ·have h1 := x.1
     have h2 : b.stamp ≤ (R.g k).m 0 := x.2.1
     omega
   rw [e]
   show b.valid ≤ (R.g k).m 0 ∧ b.stamp ≤ (R.g k).m 0
   rcases A.snd with x | x
   ·exact ⟨x.2.1, by rw [x.1]; exact c0⟩
   ·exact ⟨by have h1 := x.1; have h2 : b.stamp ≤ (R.g k).m 0 := x.2.1; omega, x.2.1⟩
  generalize hh : (R.g k).th t = h at *
  generalize hv : (⟨(accBy (R.g k).m (R.out k t)).seen, (R.pk k).draw, (k : Int) + 1⟩ : AnsD) = v at *
  have hnum : v.num = (k : Int) + 1 := by rw [← hv]
  have hseen : (hOut (R.K t) h).kind ≠ 0 → v.seen = (R.g k).m (hOut (R.K t) h).cell := fun h0 => by
   rw [← hv, outE]
   exact acc_seen h0
  generalize hNext (R.K t) h v = h' at *
  have kk : (((k : Int) + 1) - 1).toNat = k := by omega
  cases L with
  | note E O' J N P Z =>
   refine ⟨fun a ha => ?_, fun o => ?_, fun o => ?_, ?_, fun o => ?_, fun o a ha => ?_, by rw [N]; exact T.el, fun j j1 j2 => ?_, fun j hj => ?_, fun j hj => ?_, fun a ha j e g1 g2 => ?_⟩
   ·rw [E] at ha; exact (T.all a ha).mono (by omega)
   ·rw [O'] at o
    obtain ⟨l0, q, e, x⟩ := T.ne o
    exact ⟨l0, q, E.trans e, x.1, x.2.1, by rw [J]; exact x.2.2.1, x.2.2.2.1, P _ x.2.2.2.2⟩
   ·rw [O'] at o; rw [E]; exact T.cl o
   ·rw [E]; exact T.srt
   ·rw [J]; exact T.jn (fun e => o (Z.1 e))
   ·rw [E] at ha; rw [J]; exact T.ja (fun e => o (Z.1 e)) a ha
   ·unfold endOf; rw [N, J]; exact (T.ed j j1 j2).imp id (fun x => ⟨fun e => x.1 (Z.2 e), x.2⟩)
   ·unfold endOf at hj ⊢; rw [N] at hj ⊢; rw [E]; exact T.ee j hj
   ·unfold endOf at hj ⊢; rw [N] at hj ⊢; exact T.eo j hj
   ·rw [E] at ha; unfold endOf; rw [N]; exact T.fa a ha j e g1 g2
  | new e E O' J N P =>
   have o : Opn h = false := by simp [Opn, e]
   have ni : h.st ≠ .idle := fun f => by rw [e] at f; cases f
   have ni' : h'.st ≠ .idle := fun f => by simp [Opn, f] at O'
   obtain ⟨j1, j2⟩ := T.jn ni
   have hout : hOut (R.K t) h = ⟨1, 0, 0, 0⟩ := by unfold hOut; rw [e]
   have hs : v.seen = R.clk k := by
    have := hseen (by rw [hout]; simp)
    rw [hout] at this
    exact this
   have A : AttT R (k + 1) t ⟨(R.K t).me, (h.job : Int), v.num, 0, v.seen, 0, 0, []⟩ := by
    refine ⟨rfl, ⟨h.job, rfl, j1, j2⟩, ?_, ?_, ?_, ?_, ?_, Or.inl ⟨rfl, rfl⟩, fun f => absurd rfl f⟩
    ·show 1 ≤ v.num; omega
    ·show v.num ≤ ((k + 1 : Nat) : Int); omega
    ·show (R.pk (v.num - 1).toNat).thread = t
     rw [hnum, kk]; exact hp
    ·show R.out (v.num - 1).toNat t = _
     rw [hnum, kk, outE]; exact hout
    ·show R.clk (v.num - 1).toNat ≤ v.seen
     rw [hnum, kk, hs]; exact Int.le_refl _
   have fates : ∀ a ∈ h.list.map er, a.fin ≠ 0 ∧ a.fin ≤ k ∧ a.fate ≠ 0 := fun a ha => by
    have c1 := T.cl o a ha
    rcases (T.all a ha).en with x | x
    ·exact absurd x.1 c1
    ·exact ⟨c1, x.2.1, by have := x.2.2.1.1; omega⟩
   refine ⟨fun a ha => ?_, fun _ => ⟨_, _, E, rfl, rfl, by rw [J], fun a ha => (fates a ha).1, P⟩, (fun o' => by rw [O'] at o'; cases o'), ?_, fun _ => by rw [J]; exact ⟨j1, j2⟩, fun _ a ha => ?_, by rw [N]; exact T.el, fun j i1 i2 => ?_, fun j hj => ?_, fun j hj => ?_, fun a ha j ej g1 g2 => ?_⟩
   ·rw [E] at ha
    rcases List.mem_append.1 ha with ha | ha
    ·exact (T.all a ha).mono (by omega)
    ·rw [List.mem_singleton.1 ha]; exact A
   ·rw [E, List.pairwise_append]
    refine ⟨T.srt, List.pairwise_singleton _ _, fun a ha b hb => ?_⟩
    rw [List.mem_singleton.1 hb]
    have c1 := fates a ha
    have c2 := T.ja ni a ha
    exact ⟨c1.1, by show a.fin < v.num; omega, c2.1, fun g => c2.2 g c1.2.2⟩
   ·rw [E] at ha
    rw [J]
    rcases List.mem_append.1 ha with ha | ha
    ·exact T.ja ni a ha
    ·rw [List.mem_singleton.1 ha]
     exact ⟨Int.le_refl _, fun _ g => absurd rfl g⟩
   ·unfold endOf; rw [N, J]; exact (T.ed j i1 i2).imp id (fun x => ⟨ni', x.2⟩)
   ·unfold endOf at hj ⊢
    rw [N] at hj ⊢
    obtain ⟨a, ha, x⟩ := T.ee j hj
    exact ⟨a, by rw [E]; exact List.mem_append_left _ ha, x⟩
   ·unfold endOf at hj ⊢; rw [N] at hj ⊢; exact T.eo j hj
   ·rw [E] at ha
    unfold endOf
    rw [N]
    rcases List.mem_append.1 ha with ha | ha
    ·exact T.fa a ha j ej g1 g2
    ·rw [List.mem_singleton.1 ha] at g1
     exact absurd g1 (by show ¬ (1 : Int) ≤ 0; omega)
  | valid c e E O' J N P =>
   have o : Opn h = true := by
    rcases e with ⟨x, e, _⟩ | ⟨x, r, e⟩
    ·simp [Opn, e]
    ·simp [Opn, e]
   obtain ⟨l0, q, E0, q1, q2, q3, q4, q5⟩ := T.ne o
   have hcur : er (cur h.list) = q := by
    by_cases hl : h.list = []
    ·rw [hl] at E0; simp at E0
    ·obtain ⟨m0, z, hm⟩ := snoc_of hl
     rw [hm, cur_snoc]
     rw [hm, List.map_append] at E0
     have := List.append_inj_right' E0 rfl
     simpa using this
   have hval : q.valid ≤ c := by
    have e1 : (cur h.list).valid = q.valid := by rw [← hcur]; rfl
    rw [← e1]
    unfold SI at S
    rcases e with ⟨x, e, ec⟩ | ⟨x, r, e⟩
    ·have hout : hOut (R.K t) h = ⟨1, 0, 0, 0⟩ := by unfold hOut; rw [e]
     have hs : v.seen = (R.g k).m 0 := by
      have := hseen (by rw [hout]; simp)
      rw [hout] at this
      exact this
     rw [e] at S
     rw [ec, hs]
     cases x with
     | rd i a w => rw [S.1.va]; exact S.1.ok.2.1
     | wr i a => rw [S.1.va]; exact S.1.ok.2.1
    ·rw [e] at S
     cases x with
     | rd i a w => rw [S.1.1.va]; exact S.2.1
     | wr i a => rw [S.1.1.va]; exact S.2.1
   have E' : h'.list.map er = l0 ++ [{ q with valid := c }] := by rw [E, er_mod (f := fun t => { t with valid := c }) (fun _ => rfl), E0, modLast_snoc]
   have A := T.all q (by rw [E0]; simp)
   have hv' := A.vl
   have hen : q.fin = 0 ∧ q.fate = 0 := ⟨q1, q2⟩
   have sp0 : q.stamp = 0 := by
    unfold Ph at q5
    rcases e with ⟨x, e, _⟩ | ⟨x, r, e⟩
    ·rw [e] at q5; exact q5
    ·rw [e] at q5; exact q5
   exact ti_turn T E0 q1 q2 q3 q4 E' o O' J N ⟨A.thr, A.jb, A.s1, by have := A.s2; show q.start ≤ _; omega, A.pk, A.ac, Int.le_trans hv' hval, Or.inl hen, A.sp⟩ q1 q2 rfl rfl (by show Ph h' q.stamp; rw [sp0]; exact P)
  | stamp c e E O' J N P =>
   have o : Opn h = true := by simp [Opn, e]
   obtain ⟨l0, q, E0, q1, q2, q3, q4, q5⟩ := T.ne o
   have E' : h'.list.map er = l0 ++ [{ q with stamp := c + 1 }] := by rw [E, er_mod (f := fun t => { t with stamp := c + 1 }) (fun _ => rfl), E0, modLast_snoc]
   have A := T.all q (by rw [E0]; simp)
   exact ti_turn T E0 q1 q2 q3 q4 E' o O' J N ⟨A.thr, A.jb, A.s1, by have := A.s2; show q.start ≤ _; omega, A.pk, A.ac, A.vl, Or.inl ⟨q1, q2⟩, fun _ => Or.inl q2⟩ q1 q2 rfl rfl P
  | failed e E O' J N Z =>
   have o : Opn h = true := by simp [Opn, e]
   have ni : h.st ≠ .idle := fun f => by rw [e] at f; cases f
   obtain ⟨l0, q, E0, q1, q2, q3, q4, q5⟩ := T.ne o
   have hq : q ∈ h.list.map er := by rw [E0]; simp
   have E' : h'.list.map er = l0 ++ [{ q with fin := v.num, fate := 5 }] := by rw [E, er_mod (f := fun t => { t with fin := v.num, fate := 5 }) (fun _ => rfl), E0, modLast_snoc]
   have A := T.all q hq
   have hout : hOut (R.K t) h = ⟨2, hSta (R.K t) t, 0, 8 * h.rank⟩ := by unfold hOut; rw [e]; rfl
   have in0 : ∀ {a}, a ∈ l0 → a ∈ h.list.map er := fun ha => by rw [E0]; exact List.mem_append_left _ ha
   have sp0 : q.stamp = 0 := by unfold Ph at q5; rw [e] at q5; exact q5
   have A' : AttT R (k + 1) t { q with fin := v.num, fate := 5 } := by
    have b := attE q hq
    have s2' := A.s2
    refine ⟨A.thr, A.jb, A.s1, by show q.start ≤ ((k + 1 : Nat) : Int); omega, A.pk, A.ac, A.vl, Or.inr ⟨?_, ?_, ⟨by show (1 : Int) ≤ 5; omega, by show (5 : Int) ≤ 5; omega⟩, ?_, ?_, ?_, ?_, ?_⟩, fun f => absurd sp0 f⟩
    ·show q.start < v.num; omega
    ·show v.num ≤ ((k + 1 : Nat) : Int); omega
    ·show (R.pk (v.num - 1).toNat).thread = t; rw [hnum, kk]; exact hp
    ·show (R.out (v.num - 1).toNat t).kind = 2; rw [hnum, kk, outE, hout]
    ·show (R.out (v.num - 1).toNat t).cell = _; rw [hnum, kk, outE, hout]
    ·show q.valid ≤ R.clk (v.num - 1).toNat; rw [hnum, kk]; exact b.1
    ·show q.stamp ≤ R.clk (v.num - 1).toNat; rw [hnum, kk]; exact b.2
   have hs := T.srt
   rw [E0] at hs
   refine ⟨fun a ha => ?_, (fun o' => by rw [O'] at o'; cases o'), fun _ a ha => ?_, ?_, fun _ => by rw [J]; exact T.jn ni, fun _ a ha => ?_, by rw [N]; exact T.el, fun j i1 i2 => ?_, fun j hj => ?_, fun j hj => ?_, fun a ha j ej g1 g2 => ?_⟩
   ·rw [E'] at ha
    rcases List.mem_append.1 ha with ha | ha
    ·exact (T.all a (in0 ha)).mono (by omega)
    ·rw [List.mem_singleton.1 ha]; exact A'
   ·rw [E'] at ha
    rcases List.mem_append.1 ha with ha | ha
    ·exact q4 a ha
    ·rw [List.mem_singleton.1 ha]; show v.num ≠ 0; omega
   ·rw [E']; exact srt_turn hs rfl rfl
   ·rw [E'] at ha
    rw [J]
    rcases List.mem_append.1 ha with ha | ha
    ·exact T.ja ni a (in0 ha)
    ·rw [List.mem_singleton.1 ha]
     exact ⟨by show q.job ≤ _; omega, fun f => absurd rfl f⟩
   ·unfold endOf; rw [N, J]; exact (T.ed j i1 i2).imp id (fun x => ⟨Z, x.2⟩)
   ·unfold endOf at hj ⊢
    rw [N] at hj ⊢
    obtain ⟨a, ha, x⟩ := T.ee j hj
    refine ⟨a, ?_, x⟩
    rw [E0] at ha
    rw [E']
    rcases List.mem_append.1 ha with ha | ha
    ·exact List.mem_append_left _ ha
    ·rw [List.mem_singleton.1 ha, q2] at x
     have := x.2.2.1
     omega
   ·unfold endOf at hj ⊢; rw [N] at hj ⊢; exact T.eo j hj
   ·rw [E'] at ha
    unfold endOf
    rw [N]
    rcases List.mem_append.1 ha with ha | ha
    ·exact T.fa a (in0 ha) j ej g1 g2
    ·rw [List.mem_singleton.1 ha] at g2
     exact absurd g2 (by show ¬ (5 : Int) ≤ 4; omega)
  | fin f e E =>
   have o : Opn h = true := by simp [Opn, e]
   have ni : h.st ≠ .idle := fun f => by rw [e] at f; cases f
   obtain ⟨j1, j2⟩ := T.jn ni
   obtain ⟨l0, q, E0, q1, q2, q3, q4, q5⟩ := T.ne o
   have hq : q ∈ h.list.map er := by rw [E0]; simp
   have A := T.all q hq
   have hf : (1 ≤ f ∧ f ≤ 4) ∧ (q.stamp = 0 ∨ f = 1) := by unfold Ph at q5; rw [e] at q5; exact q5
   have hout : hOut (R.K t) h = ⟨2, hSta (R.K t) t, 0, 0⟩ := by unfold hOut; rw [e]; rfl
   have in0 : ∀ {a}, a ∈ l0 → a ∈ h.list.map er := fun ha => by rw [E0]; exact List.mem_append_left _ ha
   have A' : AttT R (k + 1) t { q with fin := v.num, fate := f } := by
    have b := attE q hq
    have s2' := A.s2
    refine ⟨A.thr, A.jb, A.s1, by show q.start ≤ ((k + 1 : Nat) : Int); omega, A.pk, A.ac, A.vl, Or.inr ⟨?_, ?_, ⟨by show 1 ≤ f; omega, by show f ≤ 5; omega⟩, ?_, ?_, ?_, ?_, ?_⟩, fun g => Or.inr (hf.2.elim (fun z => absurd z g) id)⟩
    ·show q.start < v.num; omega
    ·show v.num ≤ ((k + 1 : Nat) : Int); omega
    ·show (R.pk (v.num - 1).toNat).thread = t; rw [hnum, kk]; exact hp
    ·show (R.out (v.num - 1).toNat t).kind = 2; rw [hnum, kk, outE, hout]
    ·show (R.out (v.num - 1).toNat t).cell = _; rw [hnum, kk, outE, hout]
    ·show q.valid ≤ R.clk (v.num - 1).toNat; rw [hnum, kk]; exact b.1
    ·show q.stamp ≤ R.clk (v.num - 1).toNat; rw [hnum, kk]; exact b.2
   have hs := T.srt
   rw [E0] at hs
   have El : h'.list.map er = l0 ++ [{ q with fin := v.num, fate := f }] := by
    have e1 : h'.list = modLast h.list fun t => { t with fin := v.num, fate := f } := by
     rw [E]; unfold hTo; split <;> rfl
    rw [e1, er_mod (f := fun t => { t with fin := v.num, fate := f }) (fun _ => rfl), E0, modLast_snoc]
   have En : h'.ends = h.ends.set h.job ⟨f, regOf h.x 0, regOf h.x 1, regOf h.x 2, regOf h.x 3⟩ := by
    rw [E]; unfold hTo; split <;> rfl
   have endAt : endOf h' h.job = ⟨f, regOf h.x 0, regOf h.x 1, regOf h.x 2, regOf h.x 3⟩ := by
    unfold endOf
    rw [En]
    have : h.job < h.ends.length := by rw [T.el]; exact j1
    simp [List.getD, this]
   have endOff : ∀ j, j ≠ h.job → endOf h' j = endOf h j := fun j hj => by
    unfold endOf
    rw [En]
    simp only [List.getD]
    rw [List.getElem?_set_ne (fun e => hj e.symm)]
   have O' : Opn h' = false := by rw [E]; unfold hTo; split <;> rfl
   have kJ : (R.K t).jobs = R.jobs := rfl
   have kM : (R.K t).me = t := rfl
   have next := to_job (R.K t) (h.job + 1) { h.ended v.num f with ends := h.ends.set h.job ⟨f, regOf h.x 0, regOf h.x 1, regOf h.x 2, regOf h.x 3⟩ }
   rw [← E, kJ, kM] at next
   refine ⟨fun a ha => ?_, (fun o' => by rw [O'] at o'; cases o'), fun _ a ha => ?_, ?_, fun z => ?_, fun z a ha => ?_, by rw [En]; simp [T.el], fun j i1 i2 => ?_, fun j hj => ?_, fun j hj => ?_, fun a ha j ej g1 g2 => ?_⟩
   ·rw [El] at ha
    rcases List.mem_append.1 ha with ha | ha
    ·exact (T.all a (in0 ha)).mono (by omega)
    ·rw [List.mem_singleton.1 ha]; exact A'
   ·rw [El] at ha
    rcases List.mem_append.1 ha with ha | ha
    ·exact q4 a ha
    ·rw [List.mem_singleton.1 ha]; show v.num ≠ 0; omega
   ·rw [El]; exact srt_turn hs rfl rfl
   ·rcases next with ⟨k2, a1, a2, a3, a4, a5⟩ | ⟨a4, a5⟩
    ·rw [a5]; exact ⟨a2, a3⟩
    ·exact absurd (by rw [a5]) z
   ·rcases next with ⟨k2, a1, a2, a3, a4, a5⟩ | ⟨a4, a5⟩
    ·have hj' : h'.job = k2 := by rw [a5]
     rw [hj']
     rw [El] at ha
     have : a.job ≤ (h.job : Int) := by
      rcases List.mem_append.1 ha with ha | ha
      ·exact (T.ja ni a (in0 ha)).1
      ·rw [List.mem_singleton.1 ha]; show q.job ≤ _; omega
     exact ⟨by omega, fun _ _ => by omega⟩
    ·exact absurd (by rw [a5]) z
   ·by_cases hj : j = h.job
    ·rw [hj, endAt]; exact Or.inl (by show f ≠ 0; omega)
    ·rw [endOff j hj]
     rcases T.ed j i1 i2 with x | x
     ·exact Or.inl x
     ·rcases next with ⟨k2, a1, a2, a3, a4, a5⟩ | ⟨a4, a5⟩
      ·refine Or.inr ⟨by rw [a5]; exact fun f => (by cases f), ?_⟩
       have hj' : h'.job = k2 := by rw [a5]
       rw [hj']
       by_cases g : k2 ≤ j
       ·exact g
       ·exact absurd i2 (a4 j (by omega) (by omega))
      ·exact absurd i2 (a4 j (by omega) i1)
   ·by_cases hjj : j = h.job
    ·refine ⟨{ q with fin := v.num, fate := f }, by rw [El]; simp, by show q.job = _; rw [q3, hjj], by rw [hjj, endAt], hf.1.1, hf.1.2⟩
    ·rw [endOff j hjj] at hj ⊢
     obtain ⟨a, ha, x⟩ := T.ee j hj
     refine ⟨a, ?_, x⟩
     rw [E0] at ha
     rw [El]
     rcases List.mem_append.1 ha with ha | ha
     ·exact List.mem_append_left _ ha
     ·rw [List.mem_singleton.1 ha, q2] at x
      have := x.2.2.1
      omega
   ·by_cases hjj : j = h.job
    ·rw [hjj, endAt] at hj
     have : f = 0 := hj
     omega
    ·rw [endOff j hjj] at hj ⊢
     exact T.eo j hj
   ·rw [El] at ha
    rcases List.mem_append.1 ha with ha | ha
    ·have c1 := (T.ja ni a (in0 ha)).2 (by omega) (by omega)
     rw [endOff j (by omega)]
     exact T.fa a (in0 ha) j ej g1 g2
    ·rw [List.mem_singleton.1 ha] at ej ⊢
     have : (h.job : Int) = (j : Int) := by rw [← q3]; exact ej
     have hjj : j = h.job := by omega
     rw [hjj, endAt]
 ·rw [R.off k hp]
  exact T.mono (by omega)
theorem ti_at {R : Rn} (O : R.Ok) (t : Int) (t0 : 0 ≤ t) (t1 : t < R.c.t) : ∀ k : Nat, TI R k t ((R.g k).th t)
 | 0 => ti_start R t
 | k + 1 => ti_step O t0 t1 (ti_at O t t0 t1 k)
theorem out_kind {K : Cx} {k : Int} {h : Th} (hc : cfgB K.c = true) (hm : 0 ≤ K.me ∧ K.me < K.c.t) (A : StepOk K k h) :
  (((hOut K h).kind = 2 ∧ 3 + 2 * K.c.s ≤ (hOut K h).cell ∧ (hOut K h).cell < 3 + 2 * K.c.s + K.c.t) ↔ ((∃ e, h.st = .fin e) ∨ h.st = .fStat)) ∧ (((hOut K h).kind = 2 ∧ (hOut K h).cell = 0) ↔ ∃ c, h.st = .cStamp c) := by
 obtain ⟨⟨t1, t2⟩, ⟨w1, w2⟩, ⟨s1, s2⟩, _⟩ := cfgB_true hc
 unfold StepOk at A
 have no : ∀ q : AskD, q.kind ≠ 2 → ∀ (P Q : Prop), ¬ P → ¬ Q → ((q.kind = 2 ∧ 3 + 2 * K.c.s ≤ q.cell ∧ q.cell < 3 + 2 * K.c.s + K.c.t) ↔ P) ∧ ((q.kind = 2 ∧ q.cell = 0) ↔ Q) := fun q hq P Q hP hQ => ⟨⟨fun x => absurd x.1 hq, fun x => absurd x hP⟩, ⟨fun x => absurd x.1 hq, fun x => absurd x hQ⟩⟩
 have out : ∀ q : AskD, q.cell ≠ 0 → ¬ (3 + 2 * K.c.s ≤ q.cell ∧ q.cell < 3 + 2 * K.c.s + K.c.t) → ∀ (P Q : Prop), ¬ P → ¬ Q → ((q.kind = 2 ∧ 3 + 2 * K.c.s ≤ q.cell ∧ q.cell < 3 + 2 * K.c.s + K.c.t) ↔ P) ∧ ((q.kind = 2 ∧ q.cell = 0) ↔ Q) := fun q hq hr P Q hP hQ => ⟨⟨fun x => absurd x.2 hr, fun x => absurd x hP⟩, ⟨fun x => absurd x.2 hq, fun x => absurd x hQ⟩⟩
 have own : ∀ s, 0 ≤ s → s < K.c.s → hOwn K s ≠ 0 ∧ ¬ (3 + 2 * K.c.s ≤ hOwn K s ∧ hOwn K s < 3 + 2 * K.c.s + K.c.t) := fun s a b => by unfold hOwn; omega
 have ver : ∀ s, 0 ≤ s → s < K.c.s → hVer s ≠ 0 ∧ ¬ (3 + 2 * K.c.s ≤ hVer s ∧ hVer s < 3 + 2 * K.c.s + K.c.t) := fun s a b => by unfold hVer; omega
 have sta : ∀ q : AskD, q.kind = 2 → q.cell = hSta K K.me → ∀ (P Q : Prop), P → ¬ Q → ((q.kind = 2 ∧ 3 + 2 * K.c.s ≤ q.cell ∧ q.cell < 3 + 2 * K.c.s + K.c.t) ↔ P) ∧ ((q.kind = 2 ∧ q.cell = 0) ↔ Q) := fun q h1 h2 P Q hP hQ => by
  unfold hSta at h2
  exact ⟨⟨fun _ => hP, fun _ => ⟨h1, by omega, by omega⟩⟩, ⟨fun x => absurd x.2 (by omega), fun x => absurd x hQ⟩⟩
 unfold hOut
 cases hst : h.st with
 | idle => exact no _ (by simp) _ _ (by simp) (by simp)
 | start => exact no _ (by simp) _ _ (by simp) (by simp)
 | rHeld i a => exact no _ (by simp) _ _ (by simp) (by simp)
 | rVer i a => exact no _ (by simp) _ _ (by simp) (by simp)
 | rWord i a one => exact no _ (by simp) _ _ (by simp) (by simp)
 | rAgain i a one w => exact no _ (by simp) _ _ (by simp) (by simp)
 | xClock x => exact no _ (by simp) _ _ (by simp) (by simp)
 | xVer x c r =>
  cases r with
  | nil => exact no _ (by simp) _ _ (by simp) (by simp)
  | cons q r => exact no _ (by simp) _ _ (by simp) (by simp)
 | gStat i a => exact no _ (by simp) _ _ (by simp) (by simp)
 | gOwn i a => exact no _ (by simp) _ _ (by simp) (by simp)
 | gTheir i a u => exact no _ (by simp) _ _ (by simp) (by simp)
 | gMark i a u q => exact no _ (by simp) _ _ (by simp) (by simp)
 | gVer i a => exact no _ (by simp) _ _ (by simp) (by simp)
 | tTake => exact no _ (by simp) _ _ (by simp) (by simp)
 | tShow => exact no _ (by simp) _ _ (by simp) (by simp)
 | cStat => exact no _ (by simp) _ _ (by simp) (by simp)
 | cGate => exact no _ (by simp) _ _ (by simp) (by simp)
 | cClock => exact no _ (by simp) _ _ (by simp) (by simp)
 | cVer c r =>
  cases r with
  | nil => exact no _ (by simp) _ _ (by simp) (by simp)
  | cons q r => exact no _ (by simp) _ _ (by simp) (by simp)
 | cShut c r =>
  rw [hst] at A
  cases r with
  | nil => exact absurd rfl A.2.1
  | cons q r =>
   have b := ver q (A.2.2 q List.mem_cons_self).1 (A.2.2 q List.mem_cons_self).2
   exact out _ b.1 b.2 _ _ (by simp) (by simp)
 | cStamp c => exact ⟨⟨fun x => absurd x.2.1 (by show ¬ 3 + 2 * K.c.s ≤ 0; omega), fun x => by simp at x⟩, ⟨fun _ => ⟨c, rfl⟩, fun _ => ⟨rfl, rfl⟩⟩⟩
 | cLeave c => exact out _ (by simp) (by show ¬ (3 + 2 * K.c.s ≤ 2 ∧ _); omega) _ _ (by simp) (by simp)
 | cWord c r =>
  rw [hst] at A
  cases r with
  | nil => exact absurd rfl A.2.1
  | cons q r =>
   have b := (A.2.2 q List.mem_cons_self).1
   exact out _ (by show hWrd K q.what ≠ 0; unfold hWrd; omega) (by show ¬ (_ ≤ hWrd K q.what ∧ hWrd K q.what < _); unfold hWrd; omega) _ _ (by simp) (by simp)
 | cOpen c r =>
  rw [hst] at A
  cases r with
  | nil => exact absurd rfl A.2.1
  | cons q r =>
   have b := ver q (A.2.2 q List.mem_cons_self).1 (A.2.2 q List.mem_cons_self).2
   exact out _ b.1 b.2 _ _ (by simp) (by simp)
 | cOwn c r =>
  rw [hst] at A
  cases r with
  | nil => exact absurd rfl A.2.1
  | cons q r =>
   have b := own q (A.2.2 q List.mem_cons_self).1 (A.2.2 q List.mem_cons_self).2
   exact out _ b.1 b.2 _ _ (by simp) (by simp)
 | free e r =>
  rw [hst] at A
  cases r with
  | nil => exact absurd rfl A.1
  | cons q r =>
   have b := own q (A.2 q List.mem_cons_self).1 (A.2 q List.mem_cons_self).2
   exact out _ b.1 b.2 _ _ (by simp) (by simp)
 | fin e => exact sta _ rfl rfl _ _ (Or.inl ⟨e, rfl⟩) (by simp)
 | fGate => exact out _ (by simp) (by show ¬ (3 + 2 * K.c.s ≤ 2 ∧ _); omega) _ _ (by simp) (by simp)
 | fOwn r =>
  rw [hst] at A
  cases r with
  | nil => exact absurd rfl A.1
  | cons q r =>
   have b := own q (A.2 q List.mem_cons_self).1 (A.2 q List.mem_cons_self).2
   exact out _ b.1 b.2 _ _ (by simp) (by simp)
 | fTake => exact no _ (by simp) _ _ (by simp) (by simp)
 | fStat => exact sta _ rfl rfl _ _ (Or.inr rfl) (by simp)
 | wait w => exact no _ (by simp) _ _ (by simp) (by simp)
 | rest n => exact no _ (by simp) _ _ (by simp) (by simp)
theorem clk_next {K : Cx} {k : Int} {h : Th} {m : Int → Int} (hc : cfgB K.c = true) (hm : 0 ≤ K.me ∧ K.me < K.c.t) (A : StepOk K k h) (hn : ∀ c, h.st ≠ .cStamp c) : mNext m (hOut K h) 0 = m 0 := by
 obtain ⟨⟨t1, t2⟩, ⟨w1, w2⟩, ⟨s1, s2⟩, _⟩ := cfgB_true hc
 by_cases hq : Quiet h
 ·exact (same3_quiet hc hm A hq).clk
 ·unfold Quiet at hq
  unfold StepOk at A
  unfold hOut
  cases hst : h.st with
  | cShut c r =>
   rw [hst] at A
   cases r with
   | nil => exact absurd rfl A.2.1
   | cons q r => exact mNext_off m _ (by have := (A.2.2 q List.mem_cons_self).1; show (0 : Int) ≠ hVer q; unfold hVer; omega)
  | cStamp c => exact absurd hst (hn c)
  | cWord c r =>
   rw [hst] at A
   cases r with
   | nil => exact absurd rfl A.2.1
   | cons q r => exact mNext_off m _ (by have := (A.2.2 q List.mem_cons_self).1; show (0 : Int) ≠ hWrd K q.what; unfold hWrd; omega)
  | cOpen c r =>
   rw [hst] at A
   cases r with
   | nil => exact absurd rfl A.2.1
   | cons q r => exact mNext_off m _ (by have := (A.2.2 q List.mem_cons_self).1; show (0 : Int) ≠ hVer q; unfold hVer; omega)
  | _ => rw [hst] at hq; exact absurd trivial hq
theorem Rn.okT {R : Rn} (O : R.Ok) (k : Nat) (t : Int) (t0 : 0 ≤ t) (t1 : t < R.c.t) : ThOk (R.K t) k ((R.g k).th t) := (gat_ok O.c O.w O.m R.jobs R.ps k).th t t0 t1
theorem Rn.okL {R : Rn} (O : R.Ok) (k : Nat) : LI R.c R.jobs (R.g k).m (R.g k).th := li_at O.c O.w O.m R.jobs R.ps k
def Rn.ends (R : Rn) : Nat → Nat
 | 0 => 0
 | k + 1 => Rn.ends R k + (if (0 ≤ (R.pk k).thread ∧ (R.pk k).thread < R.c.t) ∧ (R.out k (R.pk k).thread).kind = 2 ∧ 3 + 2 * R.c.s ≤ (R.out k (R.pk k).thread).cell ∧ (R.out k (R.pk k).thread).cell < 3 + 2 * R.c.s + R.c.t then 1 else 0)
def Rn.draws (R : Rn) : Nat → Nat
 | 0 => 0
 | k + 1 => Rn.draws R k + (if (0 ≤ (R.pk k).thread ∧ (R.pk k).thread < R.c.t) ∧ (R.out k (R.pk k).thread).kind = 2 ∧ (R.out k (R.pk k).thread).cell = 0 then 1 else 0)
theorem draws_at {R : Rn} (O : R.Ok) : ∀ k : Nat, (R.draws k : Int) = R.clk k
 | 0 => by
  obtain ⟨⟨t1, t2⟩, _, ⟨s1, s2⟩, _⟩ := cfgB_true O.c
  show (0 : Int) = startVal R.c R.mem 0
  unfold startVal wordBase
  rw [if_neg (by omega)]
 | k + 1 => by
  have ih := draws_at O k
  show ((Rn.draws R k + _ : Nat) : Int) = (R.g (k + 1)).m 0
  by_cases h : 0 ≤ (R.pk k).thread ∧ (R.pk k).thread < R.c.t
  ·have G := Rn.okT O k (R.pk k).thread h.1 h.2
   have hcK : cfgB (R.K (R.pk k).thread).c = true := O.c
   have B := out_kind (K := R.K (R.pk k).thread) hcK h G.step
   rw [R.mem_at k h]
   have outE : R.out k (R.pk k).thread = hOut (R.K (R.pk k).thread) ((R.g k).th (R.pk k).thread) := rfl
   by_cases hs : ∃ c, ((R.g k).th (R.pk k).thread).st = .cStamp c
   ·obtain ⟨c, hs⟩ := hs
    have hcl : (R.g k).m 0 = c := (Rn.okL O k).clk _ h.1 h.2 c (by simp [hClk, hs])
    have ho : R.out k (R.pk k).thread = ⟨2, 0, 0, c + 1⟩ := by rw [outE]; unfold hOut; rw [hs]
    rw [if_pos ⟨h, by rw [ho], by rw [ho]⟩, ho, mNext_store, upd_at]
    have : R.clk k = c := hcl
    omega
   ·have hn : ∀ c, ((R.g k).th (R.pk k).thread).st ≠ .cStamp c := fun c e => hs ⟨c, e⟩
    rw [if_neg (fun x => hs (B.2.1 x.2)), outE, clk_next hcK h G.step hn]
    have : R.clk k = (R.g k).m 0 := rfl
    omega
  ·rw [if_neg (fun x => h x.1), R.mem_off k h]
   have : R.clk k = (R.g k).m 0 := rfl
   omega
def Rn.l (R : Rn) (k : Nat) (t : Int) : List AttD := ((R.g k).th t).list.map er
def Cor (l l' : List AttD) : Prop := (∀ a ∈ l', a.stamp ≠ 0 → ∃ b ∈ l, b.start = a.start ∧ b.stamp = a.stamp) ∧ (∀ a ∈ l, a.stamp ≠ 0 → ∃ b ∈ l', b.start = a.start ∧ b.stamp = a.stamp)
theorem Cor.refl (l : List AttD) : Cor l l := ⟨fun a ha _ => ⟨a, ha, rfl, rfl⟩, fun a ha _ => ⟨a, ha, rfl, rfl⟩⟩
theorem cor_last {l0 : List AttD} {q q' : AttD} (e1 : q'.start = q.start) (e2 : q'.stamp = q.stamp) : Cor (l0 ++ [q]) (l0 ++ [q']) := by
 constructor
 ·intro a ha _
  rcases List.mem_append.1 ha with ha | ha
  ·exact ⟨a, List.mem_append_left _ ha, rfl, rfl⟩
  ·rw [List.mem_singleton.1 ha]; exact ⟨q, by simp, e1.symm, e2.symm⟩
 ·intro a ha _
  rcases List.mem_append.1 ha with ha | ha
  ·exact ⟨a, List.mem_append_left _ ha, rfl, rfl⟩
  ·rw [List.mem_singleton.1 ha]; exact ⟨q', by simp, e1, e2⟩
theorem stamps_le {R : Rn} (O : R.Ok) (k : Nat) (t : Int) (t0 : 0 ≤ t) (t1 : t < R.c.t) : ∀ a ∈ R.l k t, 0 ≤ a.stamp ∧ a.stamp ≤ R.clk k ∧ 0 ≤ a.valid ∧ a.valid ≤ R.clk k := fun a ha => by
 obtain ⟨b, hb, e⟩ := er_mem ha
 have A : AttOk (R.K t) (R.gh k) (R.clk k) b := att_at O.c O.w O.m R.jobs R.ps k t t0 t1 b hb
 rw [e]
 show 0 ≤ b.stamp ∧ b.stamp ≤ R.clk k ∧ 0 ≤ b.valid ∧ b.valid ≤ R.clk k
 have := A.va
 rcases A.snd with ⟨x, y, z⟩ | ⟨x, y, z⟩
 ·omega
 ·omega
theorem cor_step {R : Rn} (O : R.Ok) (k : Nat) (h : 0 ≤ (R.pk k).thread ∧ (R.pk k).thread < R.c.t) (hn : ∀ c, ((R.g k).th (R.pk k).thread).st ≠ .cStamp c) : Cor (R.l k (R.pk k).thread) (R.l (k + 1) (R.pk k).thread) := by
 obtain ⟨_, _, ⟨s1, s2⟩, _, _, _, ⟨f1, f2⟩⟩ := cfgB_true O.c
 have G := Rn.okT O k (R.pk k).thread h.1 h.2
 have T := ti_at O (R.pk k).thread h.1 h.2 k
 have L := leff_next (K := R.K (R.pk k).thread) (by show 0 ≤ R.c.f; omega) G ⟨(accBy (R.g k).m (R.out k (R.pk k).thread)).seen, (R.pk k).draw, (k : Int) + 1⟩
 unfold Rn.l
 rw [R.at k rfl h.1 h.2]
 generalize (R.g k).th (R.pk k).thread = y at *
 generalize (⟨(accBy (R.g k).m (R.out k (R.pk k).thread)).seen, (R.pk k).draw, (k : Int) + 1⟩ : AnsD) = v at *
 generalize hNext (R.K (R.pk k).thread) y v = y' at *
 cases L with
 | note E O' J N P Z => rw [E]; exact Cor.refl _
 | new e E O' J N P =>
  rw [E]
  constructor
  ·intro a ha hs
   rcases List.mem_append.1 ha with ha | ha
   ·exact ⟨a, ha, rfl, rfl⟩
   ·rw [List.mem_singleton.1 ha] at hs; exact absurd rfl hs
  ·intro a ha _
   exact ⟨a, List.mem_append_left _ ha, rfl, rfl⟩
 | valid c e E O' J N P =>
  obtain ⟨l0, q, E0, q1, _⟩ := T.ne (by rcases e with ⟨x, e, _⟩ | ⟨x, r, e⟩ <;> simp [Opn, e])
  rw [E, er_mod (f := fun t => { t with valid := c }) (fun _ => rfl), E0, modLast_snoc]
  exact cor_last rfl rfl
 | stamp c e E O' J N P => exact absurd e (hn c)
 | failed e E O' J N Z =>
  obtain ⟨l0, q, E0, q1, _⟩ := T.ne (by simp [Opn, e])
  rw [E, er_mod (f := fun t => { t with fin := v.num, fate := 5 }) (fun _ => rfl), E0, modLast_snoc]
  exact cor_last rfl rfl
 | fin f e E =>
  obtain ⟨l0, q, E0, q1, _⟩ := T.ne (by simp [Opn, e])
  have e1 : y'.list = modLast y.list fun t => { t with fin := v.num, fate := f } := by
   rw [E]; unfold hTo; split <;> rfl
  rw [e1, er_mod (f := fun t => { t with fin := v.num, fate := f }) (fun _ => rfl), E0, modLast_snoc]
  exact cor_last rfl rfl
structure StI (R : Rn) (k : Nat) : Prop where
 ex : ∀ v, 1 ≤ v → v ≤ R.clk k → ∃ t, 0 ≤ t ∧ t < R.c.t ∧ ∃ a ∈ R.l k t, a.stamp = v
 un : ∀ t t', 0 ≤ t → t < R.c.t → 0 ≤ t' → t' < R.c.t → ∀ a ∈ R.l k t, ∀ b ∈ R.l k t', a.stamp ≠ 0 → a.stamp = b.stamp → t = t' ∧ a.start = b.start
theorem sti_at {R : Rn} (O : R.Ok) : ∀ k : Nat, StI R k
 | 0 => by
  have e : ∀ t, R.l 0 t = [] := fun t => by
   show (hInit (R.K t)).list.map er = []
   unfold hInit hTo
   split <;> rfl
  have z : R.clk 0 = 0 := by rw [← draws_at O 0]; rfl
  refine ⟨fun v v1 v2 => by omega, fun t t' _ _ _ _ a ha => ?_⟩
  rw [e] at ha
  cases ha
 | k + 1 => by
  have I := sti_at O k
  by_cases h : 0 ≤ (R.pk k).thread ∧ (R.pk k).thread < R.c.t
  ·have off : ∀ t, t ≠ (R.pk k).thread → R.l (k + 1) t = R.l k t := fun t ht => by
    unfold Rn.l
    rw [R.off k (fun e => ht e.symm)]
   have G := Rn.okT O k (R.pk k).thread h.1 h.2
   have hcK : cfgB (R.K (R.pk k).thread).c = true := O.c
   have outE : R.out k (R.pk k).thread = hOut (R.K (R.pk k).thread) ((R.g k).th (R.pk k).thread) := rfl
   by_cases hs : ∃ c, ((R.g k).th (R.pk k).thread).st = .cStamp c
   ·obtain ⟨c, hs⟩ := hs
    have hcl : R.clk k = c := (Rn.okL O k).clk _ h.1 h.2 c (by simp [hClk, hs])
    have hcl' : R.clk (k + 1) = c + 1 := by
     show (R.g (k + 1)).m 0 = _
     rw [R.mem_at k h, outE]
     unfold hOut
     rw [hs]
     simp only
     rw [mNext_store, upd_at]
    have T := ti_at O (R.pk k).thread h.1 h.2 k
    obtain ⟨l0, q, E0, q1, q2, q3, q4, q5⟩ := T.ne (by simp [Opn, hs])
    have q0 : q.stamp = 0 := by unfold Ph at q5; rw [hs] at q5; exact q5
    have El : R.l k (R.pk k).thread = l0 ++ [q] := E0
    have El' : R.l (k + 1) (R.pk k).thread = l0 ++ [{ q with stamp := c + 1 }] := by
     unfold Rn.l
     rw [R.at k rfl h.1 h.2]
     unfold hNext
     rw [hs]
     simp only
     rw [er_mod (f := fun t => { t with stamp := c + 1 }) (fun _ => rfl), E0, modLast_snoc]
    -- an attempt that has a stamp now had it before, or is the new one
    have back : ∀ t, 0 ≤ t → t < R.c.t → ∀ a ∈ R.l (k + 1) t, a.stamp ≠ 0 → (a ∈ R.l k t ∧ a.stamp ≤ c) ∨ (t = (R.pk k).thread ∧ a = { q with stamp := c + 1 }) := fun t t0 t1 a ha hn => by
     by_cases ht : t = (R.pk k).thread
     ·rw [ht, El'] at ha
      rcases List.mem_append.1 ha with ha | ha
      ·have : a ∈ R.l k t := by rw [ht, El]; exact List.mem_append_left _ ha
       have := (stamps_le O k t t0 t1 a this).2.1
       exact Or.inl ⟨by assumption, by omega⟩
      ·exact Or.inr ⟨ht, List.mem_singleton.1 ha⟩
     ·rw [off t ht] at ha
      have := (stamps_le O k t t0 t1 a ha).2.1
      exact Or.inl ⟨ha, by omega⟩
    refine ⟨fun v v1 v2 => ?_, fun t t' t0 t1 u0 u1 a ha b hb hn hab => ?_⟩
    ·by_cases hv : v = c + 1
     ·exact ⟨_, h.1, h.2, { q with stamp := c + 1 }, by rw [El']; simp, hv.symm⟩
     ·obtain ⟨t, t0, t1, a, ha, e⟩ := I.ex v v1 (by omega)
      refine ⟨t, t0, t1, a, ?_, e⟩
      by_cases ht : t = (R.pk k).thread
      ·rw [ht, El']
       rw [ht, El] at ha
       rcases List.mem_append.1 ha with ha | ha
       ·exact List.mem_append_left _ ha
       ·rw [List.mem_singleton.1 ha] at e; omega
      ·rw [off t ht]; exact ha
    ·rcases back t t0 t1 a ha hn with ⟨x, x1⟩ | ⟨x, x1⟩
     ·rcases back t' u0 u1 b hb (by omega) with ⟨y, y1⟩ | ⟨y, y1⟩
      ·exact I.un t t' t0 t1 u0 u1 a x b y hn hab
      ·rw [y1] at hab
       have : a.stamp = c + 1 := hab
       omega
     ·rcases back t' u0 u1 b hb (by omega) with ⟨y, y1⟩ | ⟨y, y1⟩
      ·rw [x1] at hab
       have : c + 1 = b.stamp := hab
       omega
      ·exact ⟨x.trans y.symm, by rw [x1, y1]⟩
   ·have hn : ∀ c, ((R.g k).th (R.pk k).thread).st ≠ .cStamp c := fun c e => hs ⟨c, e⟩
    have hcl : R.clk (k + 1) = R.clk k := by
     show (R.g (k + 1)).m 0 = _
     rw [R.mem_at k h, outE, clk_next hcK h G.step hn]
     rfl
    have C : ∀ t, Cor (R.l k t) (R.l (k + 1) t) := fun t => by
     by_cases ht : t = (R.pk k).thread
     ·rw [ht]; exact cor_step O k h hn
     ·rw [off t ht]; exact Cor.refl _
    refine ⟨fun v v1 v2 => ?_, fun t t' t0 t1 u0 u1 a ha b hb hnn hab => ?_⟩
    ·rw [hcl] at v2
     obtain ⟨t, t0, t1, a, ha, e⟩ := I.ex v v1 v2
     obtain ⟨b, hb, _, e2⟩ := (C t).2 a ha (by omega)
     exact ⟨t, t0, t1, b, hb, by omega⟩
    ·obtain ⟨a', ha', x1, x2⟩ := (C t).1 a ha hnn
     obtain ⟨b', hb', y1, y2⟩ := (C t').1 b hb (by omega)
     have := I.un t t' t0 t1 u0 u1 a' ha' b' hb' (by omega) (by omega)
     exact ⟨this.1, by omega⟩
  ·have off : ∀ t, 0 ≤ t → t < R.c.t → R.l (k + 1) t = R.l k t := fun t t0 t1 => by
    unfold Rn.l
    rw [R.off k (fun e => h (by rw [e]; exact ⟨t0, t1⟩))]
   have hcl : R.clk (k + 1) = R.clk k := by
    show (R.g (k + 1)).m 0 = _
    rw [R.mem_off k h]
    rfl
   refine ⟨fun v v1 v2 => ?_, fun t t' t0 t1 u0 u1 a ha b hb hnn hab => ?_⟩
   ·rw [hcl] at v2
    obtain ⟨t, t0, t1, a, ha, e⟩ := I.ex v v1 v2
    exact ⟨t, t0, t1, a, by rw [off t t0 t1]; exact ha, e⟩
   ·rw [off t t0 t1] at ha
    rw [off t' u0 u1] at hb
    exact I.un t t' t0 t1 u0 u1 a ha b hb hnn hab
end Go.Proofs.YtejadojilncbjabGreat
